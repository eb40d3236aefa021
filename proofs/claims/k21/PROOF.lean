import PyProof.Rows.All
import KE.KIntText
import KE.KIsAll
import KE.KItem
import KE.KRevIter
import OpenK.KLine
import Wide.Once
import Wide.Tac
import Open.Line
import Wide.Line
import KE.KPathFold
import PyProof.Rows.RegCtxHas
import PyProof.Walk
import KE.KEqDict
import KE.KDictOf
import Lean
import PySem.Challenge.RW_seekhall_k21_whole_led_to_a_filling
set_option Elab.async false
set_option linter.all false
set_option compiler.extract_closed false
set_option maxRecDepth 100000
set_option maxHeartbeats 4000000
namespace Ob
variable {C p q r s t u v w x y z k l m : Prop} {A B D E F G H I J : Sort _}
theorem e1 {P : A → Prop} (h : ∃ a, P a) (f : ∀ a, P a → C) : C := h.elim f
theorem e2 {P : A → B → Prop} (h : ∃ a b, P a b) (f : ∀ a b, P a b → C) : C := h.elim fun a h => e1 h (f a)
theorem e3 {P : A → B → D → Prop} (h : ∃ a b d, P a b d) (f : ∀ a b d, P a b d → C) : C := h.elim fun a h => e2 h (f a)
theorem e4 {P : A → B → D → E → Prop} (h : ∃ a b d e, P a b d e) (f : ∀ a b d e, P a b d e → C) : C := h.elim fun a h => e3 h (f a)
theorem e5 {P : A → B → D → E → F → Prop} (h : ∃ a b d e f, P a b d e f) (f : ∀ a b d e f, P a b d e f → C) : C := h.elim fun a h => e4 h (f a)
theorem e6 {P : A → B → D → E → F → G → Prop} (h : ∃ a b d e f g, P a b d e f g) (f : ∀ a b d e f g, P a b d e f g → C) : C := h.elim fun a h => e5 h (f a)
theorem e7 {P : A → B → D → E → F → G → H → Prop} (h : ∃ a b d e f g h, P a b d e f g h) (f : ∀ a b d e f g h, P a b d e f g h → C) : C := h.elim fun a h => e6 h (f a)
theorem e8 {P : A → B → D → E → F → G → H → I → Prop} (h : ∃ a b d e f g h i, P a b d e f g h i) (f : ∀ a b d e f g h i, P a b d e f g h i → C) : C := h.elim fun a h => e7 h (f a)
theorem e9 {P : A → B → D → E → F → G → H → I → J → Prop} (h : ∃ a b d e f g h i j, P a b d e f g h i j) (f : ∀ a b d e f g h i j, P a b d e f g h i j → C) : C := h.elim fun a h => e8 h (f a)
theorem i2 {P : A → B → Prop} (a : A) (b : B) (o : P a b) : ∃ a b, P a b := ⟨a, b, o⟩
theorem i3 {P : A → B → D → Prop} (a : A) (b : B) (d : D) (o : P a b d) : ∃ a b d, P a b d := ⟨a, b, d, o⟩
theorem i4 {P : A → B → D → E → Prop} (a : A) (b : B) (d : D) (e : E) (o : P a b d e) : ∃ a b d e, P a b d e := ⟨a, b, d, e, o⟩
theorem i5 {P : A → B → D → E → F → Prop} (a : A) (b : B) (d : D) (e : E) (f : F) (o : P a b d e f) : ∃ a b d e f, P a b d e f := ⟨a, b, d, e, f, o⟩
theorem i6 {P : A → B → D → E → F → G → Prop} (a : A) (b : B) (d : D) (e : E) (f : F) (g : G) (o : P a b d e f g) : ∃ a b d e f g, P a b d e f g := ⟨a, b, d, e, f, g, o⟩
theorem i7 {P : A → B → D → E → F → G → H → Prop} (a : A) (b : B) (d : D) (e : E) (f : F) (g : G) (h : H) (o : P a b d e f g h) : ∃ a b d e f g h, P a b d e f g h := ⟨a, b, d, e, f, g, h, o⟩
theorem i8 {P : A → B → D → E → F → G → H → I → Prop} (a : A) (b : B) (d : D) (e : E) (f : F) (g : G) (h : H) (i : I) (o : P a b d e f g h i) : ∃ a b d e f g h i, P a b d e f g h i := ⟨a, b, d, e, f, g, h, i, o⟩
theorem i9 {P : A → B → D → E → F → G → H → I → J → Prop} (a : A) (b : B) (d : D) (e : E) (f : F) (g : G) (h : H) (i : I) (j : J) (o : P a b d e f g h i j) : ∃ a b d e f g h i j, P a b d e f g h i j := ⟨a, b, d, e, f, g, h, i, j, o⟩
theorem c2 (h : p ∧ q) (f : p → q → C) : C := f h.1 h.2
theorem c3 (h : p ∧ q ∧ r) (f : p → q → r → C) : C := c2 h.2 (f h.1)
theorem c4 (h : p ∧ q ∧ r ∧ s) (f : p → q → r → s → C) : C := c3 h.2 (f h.1)
theorem c5 (h : p ∧ q ∧ r ∧ s ∧ t) (f : p → q → r → s → t → C) : C := c4 h.2 (f h.1)
theorem c6 (h : p ∧ q ∧ r ∧ s ∧ t ∧ u) (f : p → q → r → s → t → u → C) : C := c5 h.2 (f h.1)
theorem c7 (h : p ∧ q ∧ r ∧ s ∧ t ∧ u ∧ v) (f : p → q → r → s → t → u → v → C) : C := c6 h.2 (f h.1)
theorem c8 (h : p ∧ q ∧ r ∧ s ∧ t ∧ u ∧ v ∧ w) (f : p → q → r → s → t → u → v → w → C) : C := c7 h.2 (f h.1)
theorem c9 (h : p ∧ q ∧ r ∧ s ∧ t ∧ u ∧ v ∧ w ∧ x) (f : p → q → r → s → t → u → v → w → x → C) : C := c8 h.2 (f h.1)
theorem c10 (h : p ∧ q ∧ r ∧ s ∧ t ∧ u ∧ v ∧ w ∧ x ∧ y) (f : p → q → r → s → t → u → v → w → x → y → C) : C := c9 h.2 (f h.1)
theorem c11 (h : p ∧ q ∧ r ∧ s ∧ t ∧ u ∧ v ∧ w ∧ x ∧ y ∧ z) (f : p → q → r → s → t → u → v → w → x → y → z → C) : C := c10 h.2 (f h.1)
theorem c12 (h : p ∧ q ∧ r ∧ s ∧ t ∧ u ∧ v ∧ w ∧ x ∧ y ∧ z ∧ k) (f : p → q → r → s → t → u → v → w → x → y → z → k → C) : C := c11 h.2 (f h.1)
theorem c13 (h : p ∧ q ∧ r ∧ s ∧ t ∧ u ∧ v ∧ w ∧ x ∧ y ∧ z ∧ k ∧ l) (f : p → q → r → s → t → u → v → w → x → y → z → k → l → C) : C := c12 h.2 (f h.1)
theorem c14 (h : p ∧ q ∧ r ∧ s ∧ t ∧ u ∧ v ∧ w ∧ x ∧ y ∧ z ∧ k ∧ l ∧ m) (f : p → q → r → s → t → u → v → w → x → y → z → k → l → m → C) : C := c13 h.2 (f h.1)
end Ob
open Lean Lean.Parser.Tactic in
local macro_rules
 | `(tactic| obtain $p:rcasesPatMed := $e:term) => do
  let pl : TSyntax ``rcasesPatLo := ⟨mkNode ``rcasesPatLo #[p, mkNullNode]⟩
  let plain ← `(tactic| rcases $e:term with $pl)
  let q := p.raw[0][0]
  let ps := q[1].getSepArgs
  let n := ps.size
  if p.raw[0].getNumArgs != 1 || q.getKind != ``rcasesPat.tuple || n < 2 || n > 20 then return plain
  let mut nm : Array Ident := #[]
  let mut fs : Array (TSyntax `tactic) := #[]
  let cl (b : Term) : MacroM Term := if e.raw.isIdent then `(clear% $(⟨e.raw⟩); $b) else pure b
  for x in ps do
    let v := x[0][0][0]
    if x[1].getNumArgs == 0 && x[0][0].getNumArgs == 1 && v.getKind == ``rcasesPat.one && v[0].getId != `rfl then nm := nm.push ⟨v[0]⟩
    else
      let y := mkIdent (.mkSimple s!"hX{nm.size}")
      nm := nm.push y
      fs := fs.push (← `(tactic| all_goals rcases $y:ident with $(⟨x⟩)))
  let mut alts : Array (TSyntax `tactic) := #[]
  for d in [0:n] do
    let m := n - 1 - d
    let k := n - m
    if m ≤ 9 && k ≤ 14 then
      let f := mkIdent (.mkStr `Ob s!"e{m}")
      let g := mkIdent (.mkStr `Ob s!"c{k}")
      let xs := nm.extract 0 m
      let ys := nm.extract m n
      let b ← cl (← if m == 0 then `(fun $ys* => ?_) else if k == 1 then `(fun $xs* $(ys[0]!) => ?_) else `(fun $xs* hW => $g hW (clear% hW; fun $ys* => ?_)))
      alts := alts.push (← if m == 0 then `(tactic| refine $g $e $b) else `(tactic| refine $f $e $b))
  `(tactic| first | (refine Classical.byContradiction fun hN => ?_; (first $[| $alts:tactic]*); ($[$fs:tactic];*); all_goals (refine hN ?_; clear hN)) | $plain:tactic)
 | `(tactic| rintro $[$rs:rintroPat]*) => do
  let mut ts : Array (TSyntax `tactic) := #[]
  for r in rs do
    let v := r.raw[0]
    if v.getKind == ``rcasesPat.one && v[0].getId != `rfl then ts := ts.push (← `(tactic| intro $(⟨v[0]⟩):ident))
    else if v.getKind == ``rcasesPat.tuple then
      let p : TSyntax ``rcasesPatMed := ⟨mkNode ``rcasesPatMed #[mkNullNode #[v]]⟩
      ts := ts.push (← `(tactic| (intro hY; obtain $p := hY)))
    else Macro.throwUnsupported
  `(tactic| ($[$ts:tactic];*))
 | `(tactic| refine $t:term) => do
  let xs : Array Term := t.raw[1].getSepArgs.map (⟨·⟩)
  let n := xs.size
  if t.raw.getKind != `Lean.Parser.Term.anonymousCtor || n < 3 then Macro.throwUnsupported
  let mut alts : Array (TSyntax `tactic) := #[]
  for d in [1:n] do
    let m := n - d
    if 2 ≤ m && m ≤ 9 then
      let r := xs.extract m n
      let r : Term ← if r.size == 1 then pure r[0]! else `(⟨$r,*⟩)
      let f := mkIdent (.mkStr `Ob s!"i{m}")
      alts := alts.push (← `(tactic| refine $f $(xs.extract 0 m)* $r))
  `(tactic| first $[| $alts:tactic]* | refine ($t))
local macro_rules | `(tactic| omega) => `(tactic| first | with_reducible assumption | decide +kernel | lia | omega +splitDisjunctions)
open Array renaming getElem?_eq_getElem->y8,getElem?_eq_none->v_,length_toList->zc
open Bool renaming and_eq_false_iff->LF,and_eq_true->l_,eq_iff_iff->o7,false_eq_true->i9,false_ne_true->i_
open Char renaming toNat->LP
open Classical renaming byContradiction->o9
open False renaming elim->F_
open ForInStep renaming yield->Ll
open Int renaming eq_ofNat_of_zero_le->u6,toNat_natCast->J_
open List renaming all_eq_true->C_,any_eq_true->v9,concat_eq_append->K6,eq_nil_or_concat->LI,filter_cons->w_,filter_map->LJ,find?_cons->K0,foldl_append->L6,forIn_cons->Lh,getElem?_append_left->t3,getElem?_append_right->u7,getElem?_eq_getElem->ki,getElem?_eq_none_iff->y7,getElem?_eq_some_iff->g_,getElem?_map->f_,getElem?_reverse->LA,getElem?_set_ne->LM,getElem?_toArray->G5,getElem_mem->K9,getElem_of_mem->wh,length->KM,length_append->q_,length_cons->t4,length_map->d_,length_pos_iff->K4,length_pos_of_mem->KY,length_take->KJ,length_take_le->K5,length_take_le'->p9,lookup->LX,lookup_cons->uj,lookup_nil->KL,map_append->r_,map_congr_left->nL,map_cons->j8,map_map->k6,mem_append->j9,mem_append_left->m9,mem_append_right->o_,mem_cons->i6,mem_cons_of_mem->i7,mem_cons_self->m6,mem_filter->G_,mem_map->hH,mem_of_getElem?->gt,mem_of_mem_drop->L1,mem_of_mem_take->y4,mem_range->LG,mem_singleton->fx,nodup_append->t9,nodup_cons->m7,nodup_nil->L7,not_mem_nil->k_,pairwise_map->y9,size_toArray->j7,take_add_one->j6,take_length->la,take_of_length_le->o6,take_sublist->x8,zipWith->LV
open List.Pairwise renaming imp_of_mem->Is
open Nat renaming le_add_right->KP,le_of_eq->Ln,le_of_lt->y3,le_of_succ_le->LS,le_refl->h_,le_trans->ja,lt_irrefl->n_,lt_of_le_of_lt->p_,lt_of_lt_of_le->g7,lt_succ_of_lt->Ld,lt_succ_self->D_,min_eq_left->LW,ne_of_gt->nH,ne_of_lt->k9,pow_le_pow_right->LR,zero_le->x5
open Ne renaming symm->p7
open Option renaming isSome_iff_exists->KZ,map_some->Lo
open Option.some renaming inj->ge
open PyProof.Rows renaming callWith_type1->k7,slot_tuple_getitem->u5,step_dedup->Lm
open PySem renaming IsPair->LC,NameKind->zb,OsState->Lu,PyData->Ma,Spec->wl,Str->Lg,Value->KI,ZipApart->KH,attributeBase->Lf,backTo->y_,behindInMarks->KS,binaryOp->A_,bootBuiltins->x_,builtinLookup_eq_fast->p8,cellsFrom->o8,codeAny->Le,codeAny_builtin->L5,codeAny_mono->L_,compareOp->s_,importedModules->L3,intItems->Lr,isSubtype_stop->LD,isSubtype_type->Lz,keywordEach->LZ,mainGlobals->md,mem_of_lookup->K_,pyNext->G2,rawInt->x4,sizeLine->g9,sliceBounds->LY,starEach->jc,swapsWith->L9,sysModules->HI,treeTable->LH,tupleKind->K3,tupleKind_room_in1->KQ,typeLookup->H_,typeLookup_type->x3,wpAny_Call_Name_kw->t5,wpAny_attempt->w9,wpAny_bind->a_,wpAny_callSpecial?_slot->k4,wpAny_call_entry->li,wpAny_field->m8,wpAny_getItem_str_slice->Lb,wpAny_holding->t7,wpAny_isInstance->G1,wpAny_mono->FV,wpAny_newObj_type->w4,wpAny_of_eq->Lq,wpAny_passesOwn->KR,wpAny_pure->e_,wpAny_pyIter_list->Ls,wpAny_pyIter_tuple->u_,wpAny_rule->LN,wpAny_seqItems->u8,wpAny_setField_rec->t6,wpAny_specialOf->y6,wpAny_truthy_bool->z_,wpAny_typeOf->Lx,wpAny_updateSeq->L4
open PySem.Around renaming under_plainId->LQ
open PySem.Builtin.List renaming listExtendWith->t_,listItems->Lp,listSameRef->K8
open PySem.Builtin.Slice renaming slicePlaces->K1
open PySem.Builtin.SmallTypes renaming nextOf->j_,ownedTupleIsFree->n9
open PySem.Builtin.Str renaming occurrences->Lc
open PySem.Builtin.Tuple renaming tupleExact->K7
open PySem.Calls renaming callWith_builtin->KO,evalArgs_plain->LO,spliced_cons->G3,spliced_nil->I_
open PySem.F renaming args_zip_next_1->w5,entry_zip_next->x6,plain_extend_loop->La,slot_NoneType_hash->KW,slot_dict_get->Ly,slot_list_append->pb,slot_tuple_iterator_next->KU,slot_zip_next->mu,type_list_append->p6
open PySem.Heap renaming ExtBut->L0,IsTuple->Mb,SameBut->Lv,get?_push_of_some->c_,get?_push_size->gr,get?_update_other->E_,get?_update_self->G4,lt_size->fi,size_push->n6
open PySem.NameKind renaming cell->w6,free->sn
open PySem.Obj renaming mapSeq->If
open PySem.PyData renaming canLayAll0->B_,eqv->KN,eqvAll->LU,int->Gt
open PySem.Str renaming ofString->b_
open PySem.Txt renaming slice->KG,slice_le->LB
open PySem.Value renaming bool->Lk,none->u9,ref->i8,type->FS
open PySem.W renaming Frag->fy,boot_heap->L8,callWith_K->LL,emptyDict->Li,keepIn->Lj,kia_one->Lt,mg_none_of->tj
open Sum renaming inl->i4,inr->g6
open Sum.inl renaming inj->K2
open True renaming intro->m_
variable {A:PySem.Around} {AN CS N cs loose names ps ws:List Lg} {C I J O S T a b d dx f fa fl ha he it l p r z:PySem.Addr} {E Q Qf xe:KI->PySem.Shared->Prop} {K:fy} {M:PySem.Model} {P prog:PySem.Program} {R:PySem.Result->PySem.Shared->Prop} {U av ms ns pool tl:List Int} {XP:(Lg->Option KI)->PySem.Heap->Prop} {YP:PySem.World->PySem.Heap->Prop} {apos cpos p2 pos pos' pos2:PySem.Pos} {as:List (PySem.Addr × Int × Int × Int)} {base h h':PySem.Heap} {body rest:List PySem.Stmt} {c name qual x:Lg} {cd cdv ct doc f0 f1 oc pm u vl vu:KI} {ch fp:List PySem.Addr} {cl closure:List (Lg × PySem.Addr)} {d':PySem.Drawn} {ds its us:List KI} {e e1 e2 elt iter oe tg value:PySem.Expr} {env:PySem.Env} {es ifs values:List PySem.Expr} {fd:PySem.FuncData} {func od:Option PySem.Addr} {g:Lg->Int} {g':Array PySem.GenState} {gap lo m v v':Int} {hi:Option Int} {i j k n n0 nt t' tk:Nat} {items ys:Array KI} {js:List Nat} {ks:List (Option Int)} {kw:List (Lg × KI)} {mA mb mg:Lg->Option KI} {o0:PySem.Obj} {osl sl:Array (Option KI)} {outer:List PySem.Env} {params:PySem.Arguments} {pins pins':List (PySem.Addr × PySem.Obj)} {q:Bool} {rh rm:Lg->List Int} {rows:List (List Int)} {s s' s₁:PySem.Shared} {sc scope:PySem.Scope} {st:PySem.Stmt} {ts:List (Int × Lg)} {use:Option (KI->PySem.Sem Unit)} {w:PySem.World} {α κ:Type}
open List (all_cons any_cons any_map append_assoc append_nil cons_append drop_zero forIn_nil idxOf?_cons length_drop length_nil length_zip map_drop map_id map_nil map_take map_zipWith mem_flatMap of_mem_zip range replicate zipWith_map)
open PySem.W (boot_o_0 boot_o_1 boot_o_10 boot_o_2 boot_o_4 boot_o_5 boot_o_6 boot_o_7 boot_o_8 boot_o_9 codeIn findIn fnOf handedIn hasDictIn instObj isFn kitOne kitx_dict kitx_list lookIn makesIn methodCall_KW methodObj mg_of nsIn plainGet plainGet_of plainOver specialIn takerIn)
open Nat (add_comm le_succ le_total lt_trans not_lt sub_self sub_zero toDigits)
open Option (getD_none getD_some isNone_some isSome_map isSome_some)
open Array (forIn_toList)
local macro_rules | `(()) => `(by omega)
local macro_rules | `(∅) => `(by decide)
local macro_rules | `(-$x:ident) => `(some (.ref $x))
local macro_rules | `($a >> $b) => `($a = some ($(Lean.mkIdent `L2.HO.tup) $b))
local macro_rules | `($a *> $b) => `($a = some ($(Lean.mkIdent `L2.HO.lst) $b))
local macro_rules | `($a <* $b) => `($a = some ($(Lean.mkIdent `L2.HO.dK) $b))
namespace Lw
open PySem PySem.W PySem.Calls PyProof.Rows
def top (i:Nat):Stmt:=PySem.Challenge.pw_seekhall_k21_whole_led_to_a_filling.main.body.getD i (.Pass ⟨0,0,0,0⟩)
noncomputable def jv:Program:={ PySem.Challenge.pw_seekhall_k21_whole_led_to_a_filling with main:={ PySem.Challenge.pw_seekhall_k21_whole_led_to_a_filling.main with body:=[1,3,4,5,6,7,8,9,10,11,12,13,14,16,18,20,22,24,25,26,28,30,31,33,34,36,37,38,39,41,42,43,44,45,46,47,48,49,50,51,52,53,54,55,56,57,58,59,60].map top } }
section
local macro_rules | `(tactic| o_head $H) => `(tactic| (have z := $H; assumption))
set_option maxHeartbeats 0 in
theorem Gx (h:PySem.Challenge.rw_seekhall_k21_whole_led_to_a_filling.row.Holds):PySem.Challenge.rw_seekhall_k21_whole_led_to_a_filling.row.Holds:=by
 k_head
end
def hAs:List Addr:=[2,3,15,17,18,20,21,22,24,25,27,28,29,32,33,34,37,38,39,41,42,44,45,46,49,50,51,53,54,56,57,58,60,61,63,64,65,67,68,70,71,72,75,76,77,79,80,82,83,84,85,87,88,90,91,99,101,102,104,105,106,108,109,111,112,113,115,116,118,119,120,122,123,125,126,127,128,129,130,131,134,141,143,144,146,147,148,150,151,153,154,155,158,159,160,163,164,165,166,167,170,177,179,180,182,183,184,186,187,189,190,191,194,195,196,199,200,201,203,204,206,207,208,210,211,213,214,215,216,217,220,227,229,230,232,233,234,236,237,239,240,241,243,244,246,247,248,250,251,253,254,255,258,259,260,263,264,265,266,267,270,273,274,275,277,278,280,281,282,289,291,292,294,295,296,298,299,301,302,303,305,306,308,309,310,312,313,315,316,317,319,320,322,323,324,326,327,329,330,331,333,334,336,337,338,339,340,343,350,352,353,355,356,357,359,360,362,363,364,367,368,369,372,373,374,376,377,379,380,381,383,384,386,387,388,389,390,393,395,396,398,399,400,407,409,410,412,413,414,416,417,419,420,421,423,424,426,427,428,430,431,433,434,435,436,437,440,442,443,445,446,447,454,456,457,459,460,461,463,464,466,467,468,471,472,473,476,477,478,480,481,483,484,485,487,488,490,491,492,493,494,497,499,500,502,503,504,506,507,509,510,511,513,514,516,517,518,520,521,523,524,525,528,529,530,532,533,535,536,537,540,541,542,544,545,547,548,549,552,553,554,557,558,559,562,563,564,566,567,569,570,571,574,575,576,579,580,581,584,585,586,588,589,591,592,593,596,597,598,600,601,603,604,605,608,609,610,612,613,615,616,617,619,620,622,623,624,627,628,629,631,632,634,635,636,639,640]
theorem hAe : ∀P,hAs=(Gx.heap_1 P).map (·.1):=λ_=>by kernel_rfl
noncomputable abbrev hK:Hook:=kHook Gx.heap_1 hAs hAe
noncomputable def hX (s:Shared):Bool:=xlAt jv List.nil s && recOk (RowW.records PySem.Challenge.rw_seekhall_k21_whole_led_to_a_filling.row.toRowW) s
theorem Jr {A B C D G:Type} {x y:A × B × C × D} {u v:G} (h1:x.1=y.1) (h2:(x.2.1,x.2.2.1)=(y.2.1,y.2.2.1)) (L:x.2.2.2=y.2.2.2) (F:u=v):(x,u)=(y,v):=by
 obtain⟨a,b,c,d⟩:=x;obtain⟨Z,b',Y,d'⟩:=y;cases h1;cases h2;cases L;cases F;rfl
def be (i j:Nat):Stmt:=match top i with | .ClassDef _ _ _ b _ _ _ _ _ _ _=>b.getD j (.Pass ⟨0,0,0,0⟩) | s=>s
def aI (a:String) (n:Nat):Value:=.str (b_ a) n
def Gz (ty:Value) (x:String) (s:Stmt) (g:Addr) (B c:Value):Obj:=match s with
 | .FunctionDef n a b _ _ _ sc _ _ _=>⟨ty,none,.func ⟨n,b_ x,a,.stmts b,sc,g,[],.none,.none,.none,B,none,c,.none,0⟩,#[]⟩
 | _=>default
def cH (x:String) (s:Stmt):Obj:=Gz .none x s 0 .none .none
def cI (x:String) (s:Stmt) (B:Value) (c:Addr):Obj:=Gz (.type "function") x s 3 B (.ref c)
def uJ (l:List Value):Obj:=⟨.type "tuple",none,.seq l.toArray 0,#[]⟩
def de (t:Value) (l:List Value) (a:Array (Option Value)):Obj:=⟨t,none,.fields l.toArray,a⟩
def cP (i:Nat):Obj:=match top i with
 | .FunctionDef n a b _ _ _ sc _ _ _=>⟨.none,none,.func ⟨n,n,a,.stmts b,sc,0,[],.none,.none,.none,.none,none,.none,.none,0⟩,#[]⟩
 | _=>default
def cO (i:Nat) (B:Value) (c:Addr):Obj:=match top i with
 | .FunctionDef n a b _ _ _ sc _ _ _=>⟨.type "function",none,.func ⟨n,n,a,.stmts b,sc,3,[],.none,.none,.none,B,none,.ref c,.none,0⟩,#[]⟩
 | _=>default
def bI (P:Params) (k:String) (n:Nat) (v:Value):DictEntry:=⟨PyData.keyHash P (b_ k),aI k n,v⟩
def aA (P:Params) (k:String) (n:Nat) (a:Addr):DictEntry:=bI P k n (.ref a)
def bf:Obj:=de .none [] #[]
def aH:Obj:=uJ []
def rN (n:Nat):Value:=.int n 0
def IT (l:List (Nat × Nat)):Obj:=de .none (l.flatMap λx=>[rN x.1,rN 0,.ref x.2]) #[]
def Hn (x q:String) (t l n f a:Nat) (b:Bool) (r:List Value) (u:Nat):Obj:=de (.type "code") ([aI x t,aI q (t+1),aI "/claim/cut.py" (t+2),rN l,rN n,rN 0,rN 0,rN f,.ref a,.bool b,rN 181,.ref (a+1),.none]++r++[rN u,rN l,aI "/claim/cut.py" (u+1)]) #[]
def dN (x q:String) (t l n a u:Nat):Obj:=Hn x q t l n 3 a true [.ref (a+2),.ref (a+3),.ref (a+4)] u
def fJ (x q:String) (t l n a:Nat):Obj:=Hn x q t l n 3 a true [.none,.none,.ref (a+2)] (t+3)
def sy (x:String) (t l a:Nat):Obj:=Hn x x t l 0 0 a false [.none,.none,.none] (t+3)
def gB (x:String) (t l n a u:Nat):Obj:=dN x x t l n a u
def IH:Nat->List String->List Value
 | _,[]=>[]
 | n,x :: r=>aI x n :: IH (n+1) r
def bG (n:Nat) (l:List String):Obj:=uJ (IH n l)
def EL:Bool->List Obj->List Obj
 | _,[]=>[]
 | true,x :: r=>x :: EL false r
 | false,_ :: r=>EL true r
def Ct:Nat->List Obj->BT
 | 0,_=>.nil
 | _+1,[]=>.nil
 | n+1,x :: r=>.node x (Ct n (EL true r)) (Ct n (EL false r))
def iY (t:Value) (l:List DictEntry) (n:Nat) (a:Array (Option Value)):Obj:=⟨t,none,.dict l.toArray n,a⟩
noncomputable def CO (P:Params):BT:=Ct 5 [(boot_o_0 P),(boot_o_1 P),(boot_o_2 P),(PySem.W.boot_o_3 P),(boot_o_4 P),(boot_o_5 P),(boot_o_6 P),(boot_o_7 P),(boot_o_8 P),(boot_o_9 P),(boot_o_10 P),aH,bf,(sy "<module>" 182 1 11),⟨(.type "frame"),none,.plain,#[some (.ref 13),some (.ref 3),some (.ref 3),none,some (aI "__main__" 164),none,some (.ref 0)]⟩]
noncomputable def Jt (P:Params):List Obj:=[(boot_o_0 P),(boot_o_1 P),(boot_o_2 P)]
noncomputable def JL (P:Params):List Obj:=[(boot_o_4 P),(boot_o_5 P),(boot_o_6 P),(boot_o_7 P),(boot_o_8 P),(boot_o_9 P),(boot_o_10 P),aH]
noncomputable def Ju (P:Params):List Obj:=[(sy "<module>" 182 1 11),⟨(.type "frame"),none,.plain,#[some (.ref 13),some (.ref 3),some (.ref 3),none,some (aI "__main__" 164),none,some (.ref 0)]⟩,aH,bf,(bG 192 ["things"]),aH,(cP 1),(gB "are_unlike" 189 2 1 15 193),(cO 1 (aI "seekhall.forms" 187) 20),aH,bf,(bG 201 ["number","low","high"]),aH,(cP 3),(gB "is_between" 198 5 3 22 204),(cO 3 (aI "seekhall.keeping" 196) 27),aH,bf,(cP 4),(fJ "sum_of" "sum_of" 207 7 2 29),(cO 4 (aI "seekhall.keeping" 196) 32),aH,bf,(cP 5),(fJ "values_at" "values_at" 213 9 2 34),(cO 5 (aI "seekhall.keeping" 196) 37),aH,bf,(bG 222 ["wish","filling"]),aH,(cP 6),(gB "unlike_kept" 219 11 2 39 224),(cO 6 (aI "seekhall.keeping" 196) 44),aH,bf,(cP 7),(fJ "many_kept" "many_kept" 227 13 2 46),(cO 7 (aI "seekhall.keeping" 196) 49),aH,bf,(bG 236 ["wish","filling"]),aH,(cP 8),(gB "sum_kept" 233 16 2 51 238),(cO 8 (aI "seekhall.keeping" 196) 56),aH,bf,(bG 244 ["wish","filling"]),aH,(cP 9),(gB "table_kept" 241 18 2 58 246),(cO 9 (aI "seekhall.keeping" 196) 63),aH,bf,(bG 252 ["wish","filling","leads","step","state","value"]),aH,(cP 10),(gB "way_kept" 249 20 2 65 258),(cO 10 (aI "seekhall.keeping" 196) 70),aH,bf,(cP 11),(fJ "behind_kept" "behind_kept" 261 30 2 72),(cO 11 (aI "seekhall.keeping" 196) 75),aH,bf,(bG 270 ["wish","filling"]),aH,(cP 12),(gB "same_kept" 267 33 2 77 272),(cO 12 (aI "seekhall.keeping" 196) 82),(iY (.type "dict") [aA P "unlike" 275 45,aA P "many" 276 50,aA P "sum" 277 57,aA P "table" 278 64,aA P "way" 279 71,aA P "behind" 280 76,aA P "same" 281 83] 7 #[]),aH,bf,(bG 293 ["wish","filling"]),aH,(cP 14),(gB "wish_kept" 290 36 2 85 295),(cO 14 (aI "seekhall.keeping" 196) 90),aH,(de (.type "builtin_function_or_method") [(.builtin "type.__prepare__"),(.type "type")] #[]),(iY (.type "dict") [bI P "__module__" 307 (aI "seekhall.wishes" 298),bI P "__qualname__" 309 (aI "Wish" 308),bI P "__firstlineno__" 311 (.int 39 310),aA P "__init__" 319 105,aA P "kept" 327 112,aA P "may_keep" 335 119,aA P "may_break" 343 126,aA P "__static_attributes__" 345 127] 8 #[]),aH,(de .none [(.int 41 0),(.int 4 0),(.ref 104),(.int 44 0),(.int 4 0),(.ref 111),(.int 47 0),(.int 4 0),(.ref 118),(.int 50 0),(.int 4 0),(.ref 125)] #[]),(sy "Wish" 302 39 95),⟨(.type "frame"),none,.plain,#[some (.ref 97),some (.ref 3),some (.ref 94),none,some (aI "seekhall.wishes" 298),none,some (.ref 0)]⟩,aH,bf,(bG 315 ["self","wish"]),aH,(cH "Wish.__init__" (be 16 0)),(dN "__init__" "Wish.__init__" 312 41 2 99 317),(cI "Wish.__init__" (be 16 0) (aI "seekhall.wishes" 298) 104),aH,bf,(bG 323 ["self","filling"]),aH,(cH "Wish.kept" (be 16 1)),(dN "kept" "Wish.kept" 320 44 2 106 325),(cI "Wish.kept" (be 16 1) (aI "seekhall.wishes" 298) 111),aH,bf,(bG 331 ["self","rooms"]),aH,(cH "Wish.may_keep" (be 16 2)),(dN "may_keep" "Wish.may_keep" 328 47 2 113 333),(cI "Wish.may_keep" (be 16 2) (aI "seekhall.wishes" 298) 118),aH,bf,(bG 339 ["self","rooms"]),aH,(cH "Wish.may_break" (be 16 3)),(dN "may_break" "Wish.may_break" 336 50 2 120 341),(cI "Wish.may_break" (be 16 3) (aI "seekhall.wishes" 298) 125),(bG 344 ["wish"]),(iY (.type "dict") [bI P "__module__" 307 (aI "seekhall.wishes" 298),bI P "__firstlineno__" 311 (.int 39 310),aA P "__init__" 319 105,aA P "kept" 327 112,aA P "may_keep" 335 119,aA P "may_break" 343 126,aA P "__static_attributes__" 345 127,aA P "__dict__" 347 130,aA P "__weakref__" 349 131,bI P "__doc__" 350 .none] 4 #[])]
noncomputable def Jm (P:Params):List Obj:=[(de (.type "getset_descriptor") [(aI "__dict__" 346),(.ref 129),(.builtin "function.__dict__"),(.builtin "function.__dict__#set")] #[]),(de (.type "getset_descriptor") [(aI "__weakref__" 348),(.ref 129),(.builtin "ExceptionGroup.__weakref__"),.none] #[]),(de (.type "super") [(.ref 129),(.ref 129),(.ref 129)] #[]),(de (.type "builtin_function_or_method") [(.builtin "object.__init_subclass__"),(.ref 129)] #[]),(uJ [(.ref 129)]),(de (.type "builtin_function_or_method") [(.builtin "type.__prepare__"),(.type "type")] #[]),(iY (.type "dict") [bI P "__module__" 362 (aI "seekhall.behinds" 353),bI P "__qualname__" 364 (aI "Behind" 363),bI P "__firstlineno__" 366 (.int 53 365),aA P "__init__" 374 147,aA P "kept" 382 154,aA P "may_keep" 388 159,aA P "may_break" 394 164,aA P "__static_attributes__" 397 165] 8 #[]),aH,(de .none [(.int 55 0),(.int 4 0),(.ref 146),(.int 60 0),(.int 4 0),(.ref 153),(.int 63 0),(.int 4 0),(.ref 158),(.int 72 0),(.int 4 0),(.ref 163)] #[]),(sy "Behind" 357 53 137),⟨(.type "frame"),none,.plain,#[some (.ref 139),some (.ref 3),some (.ref 136),none,some (aI "seekhall.behinds" 353),none,some (.ref 0)]⟩,aH,bf,(bG 370 ["self","wish"]),aH,(cH "Behind.__init__" (be 18 0)),(dN "__init__" "Behind.__init__" 367 55 2 141 372),(cI "Behind.__init__" (be 18 0) (aI "seekhall.behinds" 353) 146),aH,bf,(bG 378 ["self","filling"]),aH,(cH "Behind.kept" (be 18 1)),(dN "kept" "Behind.kept" 375 60 2 148 380),(cI "Behind.kept" (be 18 1) (aI "seekhall.behinds" 353) 153),aH,bf,(cH "Behind.may_keep" (be 18 2)),(fJ "may_keep" "Behind.may_keep" 383 63 2 155),(cI "Behind.may_keep" (be 18 2) (aI "seekhall.behinds" 353) 158),aH,bf,(cH "Behind.may_break" (be 18 3)),(fJ "may_break" "Behind.may_break" 389 72 2 160),(cI "Behind.may_break" (be 18 3) (aI "seekhall.behinds" 353) 163),(bG 395 ["cells","gap"]),(iY (.type "dict") [bI P "__module__" 362 (aI "seekhall.behinds" 353),bI P "__firstlineno__" 366 (.int 53 365),aA P "__init__" 374 147,aA P "kept" 382 154,aA P "may_keep" 388 159,aA P "may_break" 394 164,aA P "__static_attributes__" 397 165,bI P "__doc__" 398 .none] 2 #[]),⟨(.type "type"),none,.cls ⟨b_ "Behind",[(.ref 129)],[(.ref 167),(.ref 129),(.type "object")],166,b_ "Behind",.true,[],[],.false,none,.false⟩,#[some (.ref 134),none,some (aI "Behind" 355),some (aI "Behind" 363),some (.builtin "object.__new__"),some (.bool .true)]⟩,(de (.type "super") [(.ref 167),(.ref 167),(.ref 167)] #[]),(de (.type "builtin_function_or_method") [(.builtin "object.__init_subclass__"),(.ref 167)] #[]),(uJ [(.ref 129)]),(de (.type "builtin_function_or_method") [(.builtin "type.__prepare__"),(.type "type")] #[]),(iY (.type "dict") [bI P "__module__" 410 (aI "seekhall.manies" 401),bI P "__qualname__" 412 (aI "Many" 411),bI P "__firstlineno__" 414 (.int 76 413),aA P "__init__" 422 183,aA P "kept" 430 190,aA P "fewest" 436 195,aA P "most" 442 200,aA P "may_keep" 450 207,aA P "may_break" 458 214,aA P "__static_attributes__" 463 215] 10 #[]),aH,(de .none [(.int 78 0),(.int 4 0),(.ref 182),(.int 85 0),(.int 4 0),(.ref 189),(.int 88 0),(.int 4 0),(.ref 194),(.int 91 0),(.int 4 0),(.ref 199),(.int 94 0),(.int 4 0),(.ref 206),(.int 97 0),(.int 4 0),(.ref 213)] #[]),(sy "Many" 405 76 173),⟨(.type "frame"),none,.plain,#[some (.ref 175),some (.ref 3),some (.ref 172),none,some (aI "seekhall.manies" 401),none,some (.ref 0)]⟩,aH,bf,(bG 418 ["self","wish"]),aH,(cH "Many.__init__" (be 20 0)),(dN "__init__" "Many.__init__" 415 78 2 177 420),(cI "Many.__init__" (be 20 0) (aI "seekhall.manies" 401) 182),aH,bf,(bG 426 ["self","filling"]),aH,(cH "Many.kept" (be 20 1)),(dN "kept" "Many.kept" 423 85 2 184 428),(cI "Many.kept" (be 20 1) (aI "seekhall.manies" 401) 189),aH,bf,(cH "Many.fewest" (be 20 2)),(fJ "fewest" "Many.fewest" 431 88 2 191),(cI "Many.fewest" (be 20 2) (aI "seekhall.manies" 401) 194),aH,bf,(cH "Many.most" (be 20 3)),(fJ "most" "Many.most" 437 91 2 196),(cI "Many.most" (be 20 3) (aI "seekhall.manies" 401) 199),aH,bf,(bG 446 ["self","rooms"]),aH,(cH "Many.may_keep" (be 20 4)),(dN "may_keep" "Many.may_keep" 443 94 2 201 448),(cI "Many.may_keep" (be 20 4) (aI "seekhall.manies" 401) 206),aH,bf,(bG 454 ["self","rooms"]),aH,(cH "Many.may_break" (be 20 5)),(dN "may_break" "Many.may_break" 451 97 2 208 456),(cI "Many.may_break" (be 20 5) (aI "seekhall.manies" 401) 213),(bG 459 ["among","cells","high","low"]),(iY (.type "dict") [bI P "__module__" 410 (aI "seekhall.manies" 401),bI P "__firstlineno__" 414 (.int 76 413),aA P "__init__" 422 183,aA P "kept" 430 190,aA P "fewest" 436 195,aA P "most" 442 200,aA P "may_keep" 450 207,aA P "may_break" 458 214,aA P "__static_attributes__" 463 215,bI P "__doc__" 464 .none] 2 #[]),⟨(.type "type"),none,.cls ⟨b_ "Many",[(.ref 129)],[(.ref 217),(.ref 129),(.type "object")],216,b_ "Many",.true,[],[],.false,none,.false⟩,#[some (.ref 170),none,some (aI "Many" 403),some (aI "Many" 411),some (.builtin "object.__new__"),some (.bool .true)]⟩,(de (.type "super") [(.ref 217),(.ref 217),(.ref 217)] #[]),(de (.type "builtin_function_or_method") [(.builtin "object.__init_subclass__"),(.ref 217)] #[]),(uJ [(.ref 129)]),(de (.type "builtin_function_or_method") [(.builtin "type.__prepare__"),(.type "type")] #[]),(iY (.type "dict") [bI P "__module__" 476 (aI "seekhall.steps" 467),bI P "__qualname__" 478 (aI "Way" 477),bI P "__firstlineno__" 480 (.int 100 479),aA P "__init__" 489 233,aA P "kept" 497 240,aA P "states_behind" 509 247,aA P "last_states" 519 254,aA P "may_keep" 525 259,aA P "may_break" 531 264,aA P "__static_attributes__" 535 265] 10 #[]),aH,(de .none [(.int 102 0),(.int 4 0),(.ref 232),(.int 110 0),(.int 4 0),(.ref 239),(.int 113 0),(.int 4 0),(.ref 246),(.int 120 0),(.int 4 0),(.ref 253),(.int 126 0),(.int 4 0),(.ref 258),(.int 129 0),(.int 4 0),(.ref 263)] #[]),(sy "Way" 471 100 223),⟨(.type "frame"),none,.plain,#[some (.ref 225),some (.ref 3),some (.ref 222),none,some (aI "seekhall.steps" 467),none,some (.ref 0)]⟩,aH,bf,(bG 484 ["self","wish","step"]),aH,(cH "Way.__init__" (be 22 0)),(dN "__init__" "Way.__init__" 481 102 2 227 487),(cI "Way.__init__" (be 22 0) (aI "seekhall.steps" 467) 232),aH,bf,(bG 493 ["self","filling"]),aH,(cH "Way.kept" (be 22 1)),(dN "kept" "Way.kept" 490 110 2 234 495),(cI "Way.kept" (be 22 1) (aI "seekhall.steps" 467) 239),aH,bf,(bG 501 ["self","states","room","behind","state","value"]),aH,(cH "Way.states_behind" (be 22 2)),(dN "states_behind" "Way.states_behind" 498 113 3 241 507),(cI "Way.states_behind" (be 22 2) (aI "seekhall.steps" 467) 246),aH,bf,(bG 513 ["self","rooms","states","cell"]),aH,(cH "Way.last_states" (be 22 3)),(dN "last_states" "Way.last_states" 510 120 2 248 517),(cI "Way.last_states" (be 22 3) (aI "seekhall.steps" 467) 253),aH,bf,(cH "Way.may_keep" (be 22 4)),(fJ "may_keep" "Way.may_keep" 520 126 2 255),(cI "Way.may_keep" (be 22 4) (aI "seekhall.steps" 467) 258),aH,bf,(cH "Way.may_break" (be 22 5)),(fJ "may_break" "Way.may_break" 526 129 2 260),(cI "Way.may_break" (be 22 5) (aI "seekhall.steps" 467) 263),(bG 532 ["cells","ends","leads"]),(iY (.type "dict") [bI P "__module__" 476 (aI "seekhall.steps" 467),bI P "__firstlineno__" 480 (.int 100 479),aA P "__init__" 489 233,aA P "kept" 497 240,aA P "states_behind" 509 247,aA P "last_states" 519 254,aA P "may_keep" 525 259,aA P "may_break" 531 264,aA P "__static_attributes__" 535 265,bI P "__doc__" 536 .none] 2 #[]),⟨(.type "type"),none,.cls ⟨b_ "Way",[(.ref 129)],[(.ref 267),(.ref 129),(.type "object")],266,b_ "Way",.true,[],[],.false,none,.false⟩,#[some (.ref 220),none,some (aI "Way" 469),some (aI "Way" 477),some (.builtin "object.__new__"),some (.bool .true)]⟩,(de (.type "super") [(.ref 267),(.ref 267),(.ref 267)] #[]),(de (.type "builtin_function_or_method") [(.builtin "object.__init_subclass__"),(.ref 267)] #[]),aH,bf,(cP 24),(fJ "parts_of" "parts_of" 541 132 2 270),(cO 24 (aI "seekhall.sums" 539) 273),aH,bf,(bG 550 ["terms","rooms","spans","term","parts"]),aH,(cP 25),(gB "spans_of" 547 134 2 275 555),(cO 25 (aI "seekhall.sums" 539) 280)]
noncomputable def Ka (P:Params):List Obj:=[(uJ [(.ref 129)]),(de (.type "builtin_function_or_method") [(.builtin "type.__prepare__"),(.type "type")] #[]),(iY (.type "dict") [bI P "__module__" 565 (aI "seekhall.sums" 539),bI P "__qualname__" 567 (aI "Sum" 566),bI P "__firstlineno__" 569 (.int 140 568),aA P "__init__" 577 295,aA P "kept" 585 302,aA P "may_end_well" 596 309,aA P "sums_with" 609 316,aA P "sums_kept" 621 323,aA P "may_keep" 629 330,aA P "may_break" 638 337,aA P "__static_attributes__" 642 338] 11 #[]),aH,(de .none [(.int 142 0),(.int 4 0),(.ref 294),(.int 148 0),(.int 4 0),(.ref 301),(.int 151 0),(.int 4 0),(.ref 308),(.int 156 0),(.int 4 0),(.ref 315),(.int 164 0),(.int 4 0),(.ref 322),(.int 171 0),(.int 4 0),(.ref 329),(.int 174 0),(.int 4 0),(.ref 336)] #[]),(sy "Sum" 560 140 285),⟨(.type "frame"),none,.plain,#[some (.ref 287),some (.ref 3),some (.ref 284),none,some (aI "seekhall.sums" 539),none,some (.ref 0)]⟩,aH,bf,(bG 573 ["self","wish"]),aH,(cH "Sum.__init__" (be 26 0)),(dN "__init__" "Sum.__init__" 570 142 2 289 575),(cI "Sum.__init__" (be 26 0) (aI "seekhall.sums" 539) 294),aH,bf,(bG 581 ["self","filling"]),aH,(cH "Sum.kept" (be 26 1)),(dN "kept" "Sum.kept" 578 148 2 296 583),(cI "Sum.kept" (be 26 1) (aI "seekhall.sums" 539) 301),aH,bf,(bG 589 ["self","reached","behind","may_rise_to_low","may_fall_to_high"]),aH,(cH "Sum.may_end_well" (be 26 2)),(dN "may_end_well" "Sum.may_end_well" 586 151 3 303 594),(cI "Sum.may_end_well" (be 26 2) (aI "seekhall.sums" 539) 308),aH,bf,(bG 600 ["self","reached","parts","behind","further","part","earlier"]),aH,(cH "Sum.sums_with" (be 26 3)),(dN "sums_with" "Sum.sums_with" 597 156 4 310 607),(cI "Sum.sums_with" (be 26 3) (aI "seekhall.sums" 539) 315),aH,bf,(bG 613 ["self","rooms","spans","reached","number","term"]),aH,(cH "Sum.sums_kept" (be 26 4)),(dN "sums_kept" "Sum.sums_kept" 610 164 2 317 619),(cI "Sum.sums_kept" (be 26 4) (aI "seekhall.sums" 539) 322),aH,bf,(bG 625 ["self","rooms"]),aH,(cH "Sum.may_keep" (be 26 5)),(dN "may_keep" "Sum.may_keep" 622 171 2 324 627),(cI "Sum.may_keep" (be 26 5) (aI "seekhall.sums" 539) 329),aH,bf,(bG 633 ["self","rooms","span"]),aH,(cH "Sum.may_break" (be 26 6)),(dN "may_break" "Sum.may_break" 630 174 2 331 636),(cI "Sum.may_break" (be 26 6) (aI "seekhall.sums" 539) 336),(bG 639 ["high","low","terms"]),(iY (.type "dict") [bI P "__module__" 565 (aI "seekhall.sums" 539),bI P "__firstlineno__" 569 (.int 140 568),aA P "__init__" 577 295,aA P "kept" 585 302,aA P "may_end_well" 596 309,aA P "sums_with" 609 316,aA P "sums_kept" 621 323,aA P "may_keep" 629 330,aA P "may_break" 638 337,aA P "__static_attributes__" 642 338,bI P "__doc__" 643 .none] 2 #[]),⟨(.type "type"),none,.cls ⟨b_ "Sum",[(.ref 129)],[(.ref 340),(.ref 129),(.type "object")],339,b_ "Sum",.true,[],[],.false,none,.false⟩,#[some (.ref 282),none,some (aI "Sum" 558),some (aI "Sum" 566),some (.builtin "object.__new__"),some (.bool .true)]⟩,(de (.type "super") [(.ref 340),(.ref 340),(.ref 340)] #[]),(de (.type "builtin_function_or_method") [(.builtin "object.__init_subclass__"),(.ref 340)] #[]),(uJ [(.ref 129)]),(de (.type "builtin_function_or_method") [(.builtin "type.__prepare__"),(.type "type")] #[]),(iY (.type "dict") [bI P "__module__" 655 (aI "seekhall.tables" 646),bI P "__qualname__" 657 (aI "Table" 656),bI P "__firstlineno__" 659 (.int 178 658),aA P "__init__" 667 356,aA P "kept" 675 363,aA P "has_room" 681 368,aA P "rows_in" 687 373,aA P "may_keep" 695 380,aA P "may_break" 705 387,aA P "__static_attributes__" 708 388] 10 #[]),aH,(de .none [(.int 180 0),(.int 4 0),(.ref 355),(.int 185 0),(.int 4 0),(.ref 362),(.int 188 0),(.int 4 0),(.ref 367),(.int 191 0),(.int 4 0),(.ref 372),(.int 194 0),(.int 4 0),(.ref 379),(.int 197 0),(.int 4 0),(.ref 386)] #[]),(sy "Table" 650 178 346),⟨(.type "frame"),none,.plain,#[some (.ref 348),some (.ref 3),some (.ref 345),none,some (aI "seekhall.tables" 646),none,some (.ref 0)]⟩,aH,bf,(bG 663 ["self","wish"]),aH,(cH "Table.__init__" (be 28 0)),(dN "__init__" "Table.__init__" 660 180 2 350 665),(cI "Table.__init__" (be 28 0) (aI "seekhall.tables" 646) 355),aH,bf,(bG 671 ["self","filling"]),aH,(cH "Table.kept" (be 28 1)),(dN "kept" "Table.kept" 668 185 2 357 673),(cI "Table.kept" (be 28 1) (aI "seekhall.tables" 646) 362),aH,bf,(cH "Table.has_room" (be 28 2)),(fJ "has_room" "Table.has_room" 676 188 3 364),(cI "Table.has_room" (be 28 2) (aI "seekhall.tables" 646) 367),aH,bf,(cH "Table.rows_in" (be 28 3)),(fJ "rows_in" "Table.rows_in" 682 191 2 369),(cI "Table.rows_in" (be 28 3) (aI "seekhall.tables" 646) 372),aH,bf,(bG 691 ["self","rooms"]),aH,(cH "Table.may_keep" (be 28 4)),(dN "may_keep" "Table.may_keep" 688 194 2 374 693),(cI "Table.may_keep" (be 28 4) (aI "seekhall.tables" 646) 379),aH,bf,(bG 699 ["self","rooms","fillings","cell"]),aH,(cH "Table.may_break" (be 28 5)),(dN "may_break" "Table.may_break" 696 197 2 381 703),(cI "Table.may_break" (be 28 5) (aI "seekhall.tables" 646) 386),(bG 706 ["cells","rows"]),(iY (.type "dict") [bI P "__module__" 655 (aI "seekhall.tables" 646),bI P "__firstlineno__" 659 (.int 178 658),aA P "__init__" 667 356,aA P "kept" 675 363,aA P "has_room" 681 368,aA P "rows_in" 687 373,aA P "may_keep" 695 380,aA P "may_break" 705 387,aA P "__static_attributes__" 708 388,bI P "__doc__" 709 .none] 2 #[]),⟨(.type "type"),none,.cls ⟨b_ "Table",[(.ref 129)],[(.ref 390),(.ref 129),(.type "object")],389,b_ "Table",.true,[],[],.false,none,.false⟩,#[some (.ref 343),none,some (aI "Table" 648),some (aI "Table" 656),some (.builtin "object.__new__"),some (.bool .true)]⟩,(de (.type "super") [(.ref 390),(.ref 390),(.ref 390)] #[]),(de (.type "builtin_function_or_method") [(.builtin "object.__init_subclass__"),(.ref 390)] #[]),aH,bf,(bG 717 ["cell","rooms","holders","tried","value"]),aH,(cP 30),(gB "finds_value" 714 203 4 393 722),(cO 30 (aI "seekhall.unlikes" 712) 398),(uJ [(.ref 129)]),(de (.type "builtin_function_or_method") [(.builtin "type.__prepare__"),(.type "type")] #[]),(iY (.type "dict") [bI P "__module__" 732 (aI "seekhall.unlikes" 712),bI P "__qualname__" 734 (aI "Unlike" 733),bI P "__firstlineno__" 736 (.int 211 735),aA P "__init__" 744 413,aA P "kept" 752 420,aA P "may_keep" 762 427,aA P "may_break" 773 434,aA P "__static_attributes__" 775 435] 8 #[]),aH,(de .none [(.int 213 0),(.int 4 0),(.ref 412),(.int 217 0),(.int 4 0),(.ref 419),(.int 220 0),(.int 4 0),(.ref 426),(.int 227 0),(.int 4 0),(.ref 433)] #[]),(sy "Unlike" 727 211 403),⟨(.type "frame"),none,.plain,#[some (.ref 405),some (.ref 3),some (.ref 402),none,some (aI "seekhall.unlikes" 712),none,some (.ref 0)]⟩,aH,bf,(bG 740 ["self","wish"]),aH,(cH "Unlike.__init__" (be 31 0)),(dN "__init__" "Unlike.__init__" 737 213 2 407 742),(cI "Unlike.__init__" (be 31 0) (aI "seekhall.unlikes" 712) 412),aH,bf,(bG 748 ["self","filling"]),aH,(cH "Unlike.kept" (be 31 1)),(dN "kept" "Unlike.kept" 745 217 2 414 750),(cI "Unlike.kept" (be 31 1) (aI "seekhall.unlikes" 712) 419),aH,bf,(bG 756 ["self","rooms","holders","cell"]),aH,(cH "Unlike.may_keep" (be 31 2)),(dN "may_keep" "Unlike.may_keep" 753 220 2 421 760),(cI "Unlike.may_keep" (be 31 2) (aI "seekhall.unlikes" 712) 426),aH,bf,(bG 766 ["self","rooms","seen","cell","value"]),aH,(cH "Unlike.may_break" (be 31 3)),(dN "may_break" "Unlike.may_break" 763 227 2 428 771),(cI "Unlike.may_break" (be 31 3) (aI "seekhall.unlikes" 712) 433),(bG 774 ["cells"]),(iY (.type "dict") [bI P "__module__" 732 (aI "seekhall.unlikes" 712),bI P "__firstlineno__" 736 (.int 211 735),aA P "__init__" 744 413,aA P "kept" 752 420,aA P "may_keep" 762 427,aA P "may_break" 773 434,aA P "__static_attributes__" 775 435,bI P "__doc__" 776 .none] 2 #[]),⟨(.type "type"),none,.cls ⟨b_ "Unlike",[(.ref 129)],[(.ref 437),(.ref 129),(.type "object")],436,b_ "Unlike",.true,[],[],.false,none,.false⟩,#[some (.ref 400),none,some (aI "Unlike" 725),some (aI "Unlike" 733),some (.builtin "object.__new__"),some (.bool .true)]⟩,(de (.type "super") [(.ref 437),(.ref 437),(.ref 437)] #[]),(de (.type "builtin_function_or_method") [(.builtin "object.__init_subclass__"),(.ref 437)] #[]),aH,bf,(bG 784 ["wish"]),aH,(cP 33),(gB "plain_wish_of" 781 236 1 440 785),(cO 33 (aI "seekhall.sames" 779) 445),(uJ [(.ref 129)]),(de (.type "builtin_function_or_method") [(.builtin "type.__prepare__"),(.type "type")] #[]),(iY (.type "dict") [bI P "__module__" 795 (aI "seekhall.sames" 779),bI P "__qualname__" 797 (aI "Same" 796),bI P "__firstlineno__" 799 (.int 248 798),aA P "__init__" 807 460,aA P "kept" 815 467,aA P "may_be_among" 821 472,aA P "may_be_none_of_them" 827 477,aA P "may_keep" 835 484,aA P "may_break" 843 491,aA P "__static_attributes__" 847 492] 10 #[]),aH,(de .none [(.int 250 0),(.int 4 0),(.ref 459),(.int 256 0),(.int 4 0),(.ref 466),(.int 259 0),(.int 4 0),(.ref 471),(.int 262 0),(.int 4 0),(.ref 476),(.int 265 0),(.int 4 0),(.ref 483),(.int 268 0),(.int 4 0),(.ref 490)] #[]),(sy "Same" 790 248 450),⟨(.type "frame"),none,.plain,#[some (.ref 452),some (.ref 3),some (.ref 449),none,some (aI "seekhall.sames" 779),none,some (.ref 0)]⟩,aH,bf,(bG 803 ["self","wish"]),aH,(cH "Same.__init__" (be 34 0)),(dN "__init__" "Same.__init__" 800 250 2 454 805),(cI "Same.__init__" (be 34 0) (aI "seekhall.sames" 779) 459),aH,bf,(bG 811 ["self","filling"]),aH,(cH "Same.kept" (be 34 1)),(dN "kept" "Same.kept" 808 256 2 461 813),(cI "Same.kept" (be 34 1) (aI "seekhall.sames" 779) 466),aH,bf,(cH "Same.may_be_among" (be 34 2)),(fJ "may_be_among" "Same.may_be_among" 816 259 2 468),(cI "Same.may_be_among" (be 34 2) (aI "seekhall.sames" 779) 471),aH,bf,(cH "Same.may_be_none_of_them" (be 34 3)),(fJ "may_be_none_of_them" "Same.may_be_none_of_them" 822 262 2 473),(cI "Same.may_be_none_of_them" (be 34 3) (aI "seekhall.sames" 779) 476),aH,bf,(bG 831 ["self","rooms"]),aH,(cH "Same.may_keep" (be 34 4)),(dN "may_keep" "Same.may_keep" 828 265 2 478 833),(cI "Same.may_keep" (be 34 4) (aI "seekhall.sames" 779) 483),aH,bf,(bG 839 ["self","rooms"]),aH,(cH "Same.may_break" (be 34 5)),(dN "may_break" "Same.may_break" 836 268 2 485 841),(cI "Same.may_break" (be 34 5) (aI "seekhall.sames" 779) 490),(bG 844 ["among","cell","inner"]),(iY (.type "dict") [bI P "__module__" 795 (aI "seekhall.sames" 779),bI P "__firstlineno__" 799 (.int 248 798),aA P "__init__" 807 460,aA P "kept" 815 467,aA P "may_be_among" 821 472,aA P "may_be_none_of_them" 827 477,aA P "may_keep" 835 484,aA P "may_break" 843 491,aA P "__static_attributes__" 847 492,bI P "__doc__" 848 .none] 2 #[]),⟨(.type "type"),none,.cls ⟨b_ "Same",[(.ref 129)],[(.ref 494),(.ref 129),(.type "object")],493,b_ "Same",.true,[],[],.false,none,.false⟩,#[some (.ref 447),none,some (aI "Same" 788),some (aI "Same" 796),some (.builtin "object.__new__"),some (.bool .true)]⟩,(de (.type "super") [(.ref 494),(.ref 494),(.ref 494)] #[]),(de (.type "builtin_function_or_method") [(.builtin "object.__init_subclass__"),(.ref 494)] #[]),aH,bf,(bG 856 ["wish"]),aH,(cP 36),(gB "wish_of" 853 271 1 497 857),(cO 36 (aI "seekhall.sorts" 851) 502),aH,bf,(bG 863 ["wish","filling"]),aH,(cP 37),(gB "is_kept" 860 275 2 504 865),(cO 37 (aI "seekhall.sorts" 851) 509),aH,bf,(bG 871 ["wish","rooms"]),aH,(cP 38),(gB "may_be_kept" 868 277 2 511 873),(cO 38 (aI "seekhall.sorts" 851) 516),aH,bf,(bG 879 ["wish","rooms"]),aH,(cP 39),(gB "may_be_broken" 876 279 2 518 881),(cO 39 (aI "seekhall.sorts" 851) 523),aH,bf,(cP 41),(fJ "_law_deal" "_law_deal" 886 282 2 525),(cO 41 (aI "law_seekhall_k21_whole_led_to_a_filling" 884) 528),aH,bf,(bG 895 ["_law_deal_here","_law_many","_law_number","_law_one","_law_other"]),aH,(cP 42),(gB "_law_draw" 892 288 2 530 900),(cO 42 (aI "law_seekhall_k21_whole_led_to_a_filling" 884) 535),aH,bf,(cP 43),(fJ "_law_names" "_law_names" 903 299 2 537),(cO 43 (aI "law_seekhall_k21_whole_led_to_a_filling" 884) 540),aH,bf,(bG 912 ["_law_deal_here","_law_things","_law_least","_law_left","_law_found","_law_k"]),aH,(cP 44),(gB "_law_some" 909 311 3 542 918),(cO 44 (aI "law_seekhall_k21_whole_led_to_a_filling" 884) 547),aH,bf,(cP 45),(fJ "_law_kept" "_law_kept" 921 317 2 549),(cO 45 (aI "law_seekhall_k21_whole_led_to_a_filling" 884) 552),aH,bf,(cP 46),(fJ "_law_values" "_law_values" 927 339 1 554),(cO 46 (aI "law_seekhall_k21_whole_led_to_a_filling" 884) 557),aH,bf,(cP 47),(fJ "_law_rooms" "_law_rooms" 933 347 4 559),(cO 47 (aI "law_seekhall_k21_whole_led_to_a_filling" 884) 562),aH,bf,(bG 942 ["_law_deal_here","_law_rooms_here","_law_filling_here","_law_name","_law_room"]),aH,(cP 48),(gB "_law_filling" 939 354 2 564 947),(cO 48 (aI "law_seekhall_k21_whole_led_to_a_filling" 884) 569),aH,bf,(cP 49),(fJ "_law_sum" "_law_sum" 950 359 4 571),(cO 49 (aI "law_seekhall_k21_whole_led_to_a_filling" 884) 574),aH,bf,(cP 50),(fJ "_law_table" "_law_table" 956 369 4 576),(cO 50 (aI "law_seekhall_k21_whole_led_to_a_filling" 884) 579),aH,bf,(cP 51),(fJ "_law_way" "_law_way" 962 380 3 581),(cO 51 (aI "law_seekhall_k21_whole_led_to_a_filling" 884) 584),aH,bf,(bG 971 ["_law_deal_here","_law_names_here","_law_rooms_here","_law_pool","_law_sort","_law_some_here","_law_low","_law_inner"]),aH,(cP 52),(gB "_law_wish" 968 390 5 586 979),(cO 52 (aI "law_seekhall_k21_whole_led_to_a_filling" 884) 591),aH,bf,(cP 53),(fJ "_law_cells" "_law_cells" 982 407 1 593),(cO 53 (aI "law_seekhall_k21_whole_led_to_a_filling" 884) 596),aH,bf,(bG 991 ["_law_wish_here","_law_rooms_here","_law_way_here"]),aH,(cP 54),(gB "_law_may" 988 413 3 598 994),(cO 54 (aI "law_seekhall_k21_whole_led_to_a_filling" 884) 603),aH,bf,(cP 55),(fJ "_law_by_rows" "_law_by_rows" 997 417 3 605),(cO 55 (aI "law_seekhall_k21_whole_led_to_a_filling" 884) 608),aH,bf,(bG 1006 ["_law_wish_here","_law_rooms_here","_law_way_here","_law_here","_law_name","_law_good","_law_value"]),aH,(cP 56),(gB "_law_led" 1003 428 3 610 1013),(cO 56 (aI "law_seekhall_k21_whole_led_to_a_filling" 884) 615),aH,bf,(bG 1019 ["_law_rooms_here","_law_filling_here","_law_name","_law_room"]),aH,(cP 57),(gB "_law_only" 1016 440 1 617 1023),(cO 57 (aI "law_seekhall_k21_whole_led_to_a_filling" 884) 622),aH,bf,(cP 58),(fJ "_law_right" "_law_right" 1026 445 4 624),(cO 58 (aI "law_seekhall_k21_whole_led_to_a_filling" 884) 627),aH,bf,(bG 1035 ["_law_wish_here","_law_rooms_here","_law_name","_law_at","_law_way_here","_law_one","_law_other"]),aH,(cP 59),(gB "_law_parted" 1032 452 5 629 1042),(cO 59 (aI "law_seekhall_k21_whole_led_to_a_filling" 884) 634),aH,bf,(cP 60),(fJ "law" "law" 1045 458 1 636),(cO 60 (aI "law_seekhall_k21_whole_led_to_a_filling" 884) 639)]
noncomputable def Kb (P:Params):List Obj:=Jt P++(iY (.type "dict") [bI P "__name__" 165 (aI "seekhall.sums" 539),bI P "__doc__" 166 .none,bI P "__package__" 167 .none,bI P "__loader__" 168 (.builtin "__main__.__loader__#opaque"),bI P "__spec__" 169 .none,aA P "__annotations__" 170 6,aA P "__builtins__" 171 4,bI P "__file__" 173 (aI "/claim/cut.py" 172),bI P "__cached__" 174 .none,aA P "are_unlike" 195 21,aA P "is_between" 206 28,aA P "sum_of" 212 33,aA P "values_at" 218 38,aA P "unlike_kept" 226 45,aA P "many_kept" 232 50,aA P "sum_kept" 240 57,aA P "table_kept" 248 64,aA P "way_kept" 260 71,aA P "behind_kept" 266 76,aA P "same_kept" 274 83,aA P "KEEPERS" 289 84,aA P "wish_kept" 297 91,aA P "Wish" 352 129,aA P "Behind" 400 167,aA P "Many" 466 217,aA P "Way" 538 267,aA P "parts_of" 546 274,aA P "spans_of" 557 281] 28 #[]) ::(JL P++(IT [(2,20),(5,27),(7,32),(9,37),(11,44),(13,49),(16,56),(18,63),(20,70),(30,75),(33,82),(36,90),(39,97),(53,139),(76,175),(100,225),(132,273),(134,280)]) ::(Ju P++⟨(.type "type"),none,.cls ⟨b_ "Wish",[(.type "object")],[(.ref 129),(.type "object")],128,b_ "Wish",.true,[],[(.ref 167),(.ref 217),(.ref 267)],.false,none,.false⟩,#[none,none,some (aI "Wish" 300),some (aI "Wish" 308),some (.builtin "object.__new__"),some (.bool .true)]⟩ :: Jm P))
noncomputable def JU (P:Params):List Obj:=Jt P++(iY (.type "dict") [bI P "__name__" 165 (aI "law_seekhall_k21_whole_led_to_a_filling" 884),bI P "__doc__" 166 .none,bI P "__package__" 167 .none,bI P "__loader__" 168 (.builtin "__main__.__loader__#opaque"),bI P "__spec__" 169 .none,aA P "__annotations__" 170 6,aA P "__builtins__" 171 4,bI P "__file__" 173 (aI "/claim/cut.py" 172),bI P "__cached__" 174 .none,aA P "are_unlike" 195 21,aA P "is_between" 206 28,aA P "sum_of" 212 33,aA P "values_at" 218 38,aA P "unlike_kept" 226 45,aA P "many_kept" 232 50,aA P "sum_kept" 240 57,aA P "table_kept" 248 64,aA P "way_kept" 260 71,aA P "behind_kept" 266 76,aA P "same_kept" 274 83,aA P "KEEPERS" 289 84,aA P "wish_kept" 297 91,aA P "Wish" 352 129,aA P "Behind" 400 167,aA P "Many" 466 217,aA P "Way" 538 267,aA P "parts_of" 546 274,aA P "spans_of" 557 281,aA P "Sum" 645 340,aA P "Table" 711 390,aA P "finds_value" 724 399,aA P "Unlike" 778 437,aA P "plain_wish_of" 787 446,aA P "Same" 850 494,aA P "wish_of" 859 503,aA P "is_kept" 867 510,aA P "may_be_kept" 875 517,aA P "may_be_broken" 883 524,aA P "_law_deal" 891 529,aA P "_law_draw" 902 536,aA P "_law_names" 908 541,aA P "_law_some" 920 548,aA P "_law_kept" 926 553,aA P "_law_values" 932 558,aA P "_law_rooms" 938 563,aA P "_law_filling" 949 570,aA P "_law_sum" 955 575,aA P "_law_table" 961 580,aA P "_law_way" 967 585,aA P "_law_wish" 981 592,aA P "_law_cells" 987 597,aA P "_law_may" 996 604,aA P "_law_by_rows" 1002 609,aA P "_law_led" 1015 616,aA P "_law_only" 1025 623,aA P "_law_right" 1031 628,aA P "_law_parted" 1044 635,aA P "law" 1050 640] 58 #[]) ::(JL P++(IT [(2,20),(5,27),(7,32),(9,37),(11,44),(13,49),(16,56),(18,63),(20,70),(30,75),(33,82),(36,90),(39,97),(53,139),(76,175),(100,225),(132,273),(134,280),(140,287),(178,348),(203,398),(211,405),(236,445),(248,452),(271,502),(275,509),(277,516),(279,523),(282,528),(288,535),(299,540),(311,547),(317,552),(339,557),(347,562),(354,569),(359,574),(369,579),(380,584),(390,591),(407,596),(413,603),(417,608),(428,615),(440,622),(445,627),(452,634),(458,639)]) ::(Ju P++⟨(.type "type"),none,.cls ⟨b_ "Wish",[(.type "object")],[(.ref 129),(.type "object")],128,b_ "Wish",.true,[],[(.ref 167),(.ref 217),(.ref 267),(.ref 340),(.ref 390),(.ref 437),(.ref 494)],.false,none,.false⟩,#[none,none,some (aI "Wish" 300),some (aI "Wish" 308),some (.builtin "object.__new__"),some (.bool .true)]⟩ ::(Jm P++Ka P)))
noncomputable def Ip (P:Params):BT:=Ct 12 (Kb P)
noncomputable def JO (P:Params):BT:=Ct 12 (JU P)
def sV:Env:={ scope:=PySem.Challenge.pw_seekhall_k21_whole_led_to_a_filling.main.scope,locals:=mainNs,globals:=mainNs,cells:=[],code:=.ref 13,frame:=some 14 }
def yP:List Stmt:=behindTheImports PySem.Challenge.pw_seekhall_k21_whole_led_to_a_filling
abbrev ph:Code:=.body yP sV
def Dt:Life:=⟨[],[],[],0,[],[],false,#[],[],0,false,false,false,0,[2000,10,10],false,0,true,[],[],0,false⟩
abbrev zzB:List Frame:=[topFrame ⟨0,0,0,0⟩]
noncomputable abbrev zzS (T:Params->BT) (n k:Nat) (w:World) (B:Lu):SharedT:=⟨T w.params,n,Dt,#[],⟨0,0,0,0⟩,k,B⟩
theorem IZ (w:World) (B:Lu):topGo LH PySem.Challenge.pw_seekhall_k21_whole_led_to_a_filling w 11 (some (.ref 6)) 12 ⟨L8 w.params,#[],boot_drawn,boot_toks,B⟩ (topStub PySem.Challenge.pw_seekhall_k21_whole_led_to_a_filling)=some ((zzS CO 15 187 w B).abs,⟨denote LH ph,ph,⟨0,0,0,0⟩,zzB⟩):=by kernel_rfl
theorem JP (w:World) (B:Lu):segRun LH PySem.Challenge.pw_seekhall_k21_whole_led_to_a_filling w 11 (some (.ref 6)) 1 1 (zzS CO 15 187 w B).abs (blockOf yP sV ph ⟨0,0,0,0⟩ zzB)=some (.next,(zzS CO 15 187 w B).abs,ph,⟨0,0,0,0⟩):=by kernel_rfl
def JD (b:Bool):Prop:=∀(B:World) (F:Lu),let w:=B.withFollow "special-get-raises" b;segRunT LH PySem.Challenge.pw_seekhall_k21_whole_led_to_a_filling w 11 (some (.ref 6)) 1 2051 (zzS CO 15 187 w F) (piecesOf (yP.take 26) sV ph ⟨0,0,0,0⟩ zzB)=some (.next,zzS Ip 282 558 w F,ph,⟨134,0,139,32⟩)
theorem JR:JD false:=by intro w B w;kernel_rfl
theorem IP:JD true:=by intro w B w;kernel_rfl
theorem Kv (w:World) (B:Lu):segRunT LH PySem.Challenge.pw_seekhall_k21_whole_led_to_a_filling w 11 (some (.ref 6)) 1 2405 (zzS Ip 282 558 w B) (piecesOf (yP.drop 26) sV ph ⟨134,0,139,32⟩ zzB)=some (.next,zzS JO 641 1051 w B,ph,⟨458,0,486,138⟩):=by kernel_rfl
noncomputable def pv (P:Params):Heap:=⟨⟨JU P⟩,Dt⟩
theorem IL (w:World) (B:Lu):topRun LH PySem.Challenge.pw_seekhall_k21_whole_led_to_a_filling w 11 (some (.ref 6)) 2 (zzS JO 641 1051 w B).abs ⟨doneF .next,ph,⟨458,0,486,138⟩,zzB⟩=some ⟨pv w.params,#[],⟨0,0,0,0⟩,1051,B⟩:=by kernel_rfl
theorem IG (w:World) (B:Lu):topRun LH PySem.Challenge.pw_seekhall_k21_whole_led_to_a_filling w 11 (some (.ref 6)) (12+(1+(2051+(2405+2)))) ⟨L8 w.params,#[],boot_drawn,boot_toks,B⟩ (topStub PySem.Challenge.pw_seekhall_k21_whole_led_to_a_filling)=some ⟨pv w.params,#[],⟨0,0,0,0⟩,1051,B⟩ :=
 go_top (IZ w B) (piece_block (JP w B) (show topRun LH PySem.Challenge.pw_seekhall_k21_whole_led_to_a_filling w 11 (some (.ref 6)) _ _ (restOf (yP.take 26++(yP.drop 26++[])) sV ph ⟨0,0,0,0⟩ zzB)=_ from
  piece_app (segRun_of (byRow2 "special-get-raises" (P:=λw=>segRunT LH PySem.Challenge.pw_seekhall_k21_whole_led_to_a_filling w 11 (some (.ref 6)) 1 2051 (zzS CO 15 187 w B) (piecesOf (yP.take 26) sV ph ⟨0,0,0,0⟩ zzB)=some (.next,zzS Ip 282 558 w B,ph,⟨134,0,139,32⟩)) (λw=>JR w B) (λw=>IP w B) w)) (piece_app (segRun_of (Kv w B)) (IL w B))))
theorem IE (w:World) (B:Lu):(staticsOk (L3 PySem.Challenge.pw_seekhall_k21_whole_led_to_a_filling.main.body) (L8 w.params) (pv w.params) && namesBound PySem.Challenge.pw_seekhall_k21_whole_led_to_a_filling (pv w.params) && gensDone ⟨pv w.params,#[],⟨0,0,0,0⟩,1051,B⟩ && laidKept (L8 w.params) (pv w.params))=true:=by kernel_rfl
theorem IW (w:World) (B:Lu):(openSeen jv [b_ "KEEPERS"] (L3 PySem.Challenge.pw_seekhall_k21_whole_led_to_a_filling.main.body) hX true ⟨pv w.params,#[],⟨0,0,0,0⟩,1051,B⟩).1=(openGood jv [b_ "KEEPERS"]).1:=by kernel_rfl
theorem Jy (w:World) (B:Lu):((openSeen jv [b_ "KEEPERS"] (L3 PySem.Challenge.pw_seekhall_k21_whole_led_to_a_filling.main.body) hX true ⟨pv w.params,#[],⟨0,0,0,0⟩,1051,B⟩).2.1,(openSeen jv [b_ "KEEPERS"] (L3 PySem.Challenge.pw_seekhall_k21_whole_led_to_a_filling.main.body) hX true ⟨pv w.params,#[],⟨0,0,0,0⟩,1051,B⟩).2.2.1)=((openGood jv [b_ "KEEPERS"]).2.1,(openGood jv [b_ "KEEPERS"]).2.2.1):=by kernel_rfl
theorem JF (w:World) (B:Lu):(openSeen jv [b_ "KEEPERS"] (L3 PySem.Challenge.pw_seekhall_k21_whole_led_to_a_filling.main.body) hX true ⟨pv w.params,#[],⟨0,0,0,0⟩,1051,B⟩).2.2.2=(openGood jv [b_ "KEEPERS"]).2.2.2:=by kernel_rfl
theorem Jw (w:World) (B:Lu):Hook.obs hK ⟨pv w.params,#[],⟨0,0,0,0⟩,1051,B⟩=Hook.val hK w:=by kernel_rfl
theorem Ko:opening PySem.Challenge.pw_seekhall_k21_whole_led_to_a_filling=plainProg PySem.Challenge.pw_seekhall_k21_whole_led_to_a_filling.main.scope.names:=by kernel_rfl
theorem KD (s:Shared):fenceModules? PySem.Challenge.pw_seekhall_k21_whole_led_to_a_filling s=some s:=by kernel_rfl
theorem Ks (w:World):((L8 w.params).isNs md && (#[]:Array GenState).size == 0,(L8 w.params).objs.size,(L8 w.params).nsMap md "__annotations__")=(true,11,some (.ref 6)):=by kernel_rfl
theorem hl:LeftO PySem.Challenge.pw_seekhall_k21_whole_led_to_a_filling jv [b_ "KEEPERS"] hX (Hook.obs hK) (Hook.val hK) 12200 :=
 LeftO.of_pieces (H₀:=L8) (H₁:=pv) (boot_open Ko rfl KD) Ks IG (by decide+kernel) (λw=>funext λos=>looks_pair (IE w os) (Jr (IW w os) (Jy w os) (JF w os) (Jw w os)))
theorem wsd:PySem.W.OpenLaw.wellSaid PySem.Challenge.rw_seekhall_k21_whole_led_to_a_filling=true:=by kernel_rfl
end Lw
namespace L2
open PySem PySem.Spec PyProof.Rows
abbrev Key:=Sum Int Str
def tz:Key->Value->Bool
 | .inl k,v=>Value.isInt k v
 | .inr x,v=>Value.isStrOf x v
def Kr (w:World):Key->Int
 | .inl k=>hashInt k
 | .inr x=>hashStr w x
theorem bU : ∀{k:Key} {v:Value},tz k v=true->(∃i t,k=i4 i/\v=Value.int i t)\/(∃x t,k=g6 x/\v=Value.str x t)
 | .inl i,v,h=>by
  obtain⟨t,e⟩:=Value.isInt_shape (k:=i) (v:=v) h;exact .inl ⟨i,t,rfl,e⟩
 | .inr x,v,h=>by
  obtain⟨t,e⟩:=Value.isStrOf_shape (x:=x) (v:=v) h;exact .inr ⟨x,t,rfl,e⟩
theorem A7 (i:Int) (t:Tok):tz (.inl i) (.int i t)=true:=by simp[tz,Value.isInt]
theorem Aw (x:Str) (t:Tok):tz (.inr x) (.str x t)=true:=by simp[tz,Value.isStrOf]
theorem He (a b:Int):decide ((i4 a:Key)=i4 b)=(a == b):=by
 by_cases e:a=b
 .subst e;simp
 .have h : ¬ (i4 a:Key)=i4 b:=λq=>e (K2 q)
  rw[decide_eq_false h];exact(beq_eq_false_iff_ne.mpr e).symm
theorem Ig (a b:Str):decide ((g6 a:Key)=g6 b)=decide (a=b):=by
 by_cases e:a=b
 .subst e;simp
 .have h : ¬ (g6 a:Key)=g6 b:=λq=>e (Sum.inr.inj q)
  rw[decide_eq_false h,decide_eq_false e]
theorem Hj (a:Int) (b:Str):decide ((i4 a:Key)=g6 b)=false:=decide_eq_false (λq=>nomatch q)
theorem Iw (a:Str) (b:Int):decide ((g6 a:Key)=i4 b)=false:=decide_eq_false (λq=>nomatch q)
def ba (prog:Program) (w:World):PySem.KeyKind prog w Key where
 is:=tz
 hash:=Kr w
 inj := λv a b ha F=>by
  rcases bU ha with⟨i,t,rfl,rfl⟩ | ⟨x,t,rfl,rfl⟩
  .rcases bU F with⟨j,u,rfl,e⟩ | ⟨y,u,rfl,e⟩
   .injection e with e1 _;rw[e1]
   .exact nomatch e
  .rcases bU F with⟨j,u,rfl,e⟩ | ⟨y,u,rfl,e⟩
   .exact nomatch e
   .injection e with e1 _;rw[e1]
 byValue:=λk v h=>by
  rcases bU h with⟨i,t,rfl,rfl⟩ | ⟨x,t,rfl,rfl⟩ <;> rfl
 pyHash:=λB h=>by
  rcases bU B with⟨i,t,rfl,rfl⟩ | ⟨x,t,rfl,rfl⟩
  .exact wpAny_pyHash_int h
  .exact wpAny_pyHash_str h
 eqBool:=λhu B h=>by
  rcases bU hu with⟨i,t,rfl,rfl⟩ | ⟨x,t,rfl,rfl⟩
  .rcases bU B with⟨j,u,rfl,rfl⟩ | ⟨y,u,rfl,rfl⟩
   .rw[He] at h;exact wpAny_eqBool_int h
   .rw[Hj] at h;exact SeqAt.EqAt.int_str i t y u _ _ _ _ h
  .rcases bU B with⟨j,u,rfl,rfl⟩ | ⟨y,u,rfl,rfl⟩
   .rw[Iw] at h;exact SeqAt.EqAt.str_int x t j u _ _ _ _ h
   .rw[Ig] at h;exact wpAny_eqBool_str h
 «strs» := λk x t v h=>by
  rcases bU h with⟨i,u,rfl,e⟩ | ⟨y,u,rfl,e⟩
  .exact nomatch e
  .injection e with e1 _
   subst e1
   cases v <;> rfl
theorem xv (prog:Program) (w:World) (i:Int) (t:Tok):(ba prog w).is (.inl i) (.int i t)=true:=A7 i t
theorem wJ (prog:Program) (w:World) (x:Str) (t:Tok):(ba prog w).is (.inr x) (.str x t)=true:=Aw x t
inductive V where
 | non | bl (b:Bool) | int (i:Int) | str (x:Str) | byt (b:Array UInt8) | flt (b:UInt64) | ref (a:Addr) | ty (n:String)
 deriving DecidableEq
def bq:V->Value->Prop
 | .non,u=>u=u9
 | .bl b,u=>u=Lk b
 | .int i,u=>∃t,u=Value.int i t
 | .str x,u=>∃t,u=Value.str x t
 | .byt b,u=>∃t,u=Value.bytes b t
 | .flt b,u=>∃t,u=Value.float b t
 | .ref a,u=>u=i8 a
 | .ty n,u=>u=FS n
abbrev bo:List V->List Value->Prop:=Paired bq
theorem bo.length {xs:List V} {us:List Value} (r:bo xs us):xs.length=us.length:=Paired.length r
theorem bo.get : ∀{xs:List V} {us:List Value} {i:Nat} {x:V},bo xs us->xs[i]? = some x->∃u,us[i]? = some u/\bq x u
 | _,_,_,_,.nil,e=>by simp at e
 | _,_,0,_,.cons r _,e=>by simp at e;subst e;exact⟨_,rfl,r⟩
 | _,_,i+1,x,.cons _ t,e=>by
  obtain⟨u,h1,h2⟩:=bo.get (i:=i) (x:=x) t (by simpa using e)
  exact⟨u,by simpa using h1,h2⟩
theorem bo.append : ∀{xs ys:List V} {us ws:List Value},bo xs us->bo ys ws->bo (xs++ys) (us++ws)
 | _,_,_,_,.nil,s=>s
 | _,_,_,_,.cons r t,s=>.cons r (bo.append t s)
theorem bo.take : ∀{xs:List V} {us:List Value} (n:Nat),bo xs us->bo (xs.take n) (us.take n)
 | _,_,0,_=>.nil
 | _,_,_+1,.nil=>.nil
 | _,_,n+1,.cons r t=>.cons r (bo.take n t)
theorem bo.drop : ∀{xs:List V} {us:List Value} (n:Nat),bo xs us->bo (xs.drop n) (us.drop n)
 | _,_,0,r=>r
 | _,_,_+1,.nil=>.nil
 | _,_,n+1,.cons _ t=>bo.drop n t
def jp:Option V->Option Value->Prop
 | some v,some u=>bq v u
 | none,none=>True
 | _,_=>False
def KV {κ:Type}:List (κ × V)->List (κ × Value)->Prop:=Paired λ(p:κ × V) (q:κ × Value)=>p.1=q.1/\bq p.2 q.2
def kV:Key->V
 | .inl i=>.int i
 | .inr x=>.str x
inductive HO where
 | lst (xs:List V)
 | tup (xs:List V)
 | dK (kvs:List (Key × V)) | dT (kvs:List (List Key × V))
 | set (S:Int->Bool) (n:Nat)
 | ins (C dx:Addr) (fs:List (Str × V))
 | own (x:Addr)
 | xd (fs:List (Str × V))
 | met (f x:Addr)
 | rng (lo hi:Int)
 | frz (o:Obj) (u:HO)
 | tbl (ps:Array Value)
 | tab (q:Str)
 | ext (φ:Heap->Prop)
abbrev Hp:=Addr->Option HO
def upd (H:Hp) (a:Addr) (o:HO):Hp:=λb=>if b=a then some o else H b
theorem ae {H:Hp} {o:HO}:upd H a o a=some o:=by unfold upd;rw[if_pos rfl]
theorem ai {H:Hp} {o:HO} (h:b≠a):upd H a o b=H b:=by unfold upd;rw[if_neg h]
theorem my {H:Hp} {o u:HO}:upd (upd H a o) a u=upd H a u:=by
 funext b;unfold upd;split <;> rfl
theorem aZ {H:Hp} {o u:HO} (h:H a=some o) (h':H b=some u) (d:o≠u):a≠b:=by
 intro e;subst e;rw[h] at h';exact d (ge h')
theorem au {H:Hp} {o:HO} (h:H a=some o) (h':H b=none):a≠b:=by
 intro e;subst e;rw[h] at h';cases h'
section
variable (P:Program) (w:World)
def I0 (o:Obj) (q:Str):Prop:=∃vs t,o.data = .fields vs/\vs[1]? = some (.str q t)
def bB (H:Hp) (h:Heap) (a:Addr):HO->Prop
 | .lst xs=>xs.length<=g9/\∃(its:List Value) (n:Nat),bo xs its/\h.get? a=some { cls:=.type "list",data:=.seq its.toArray n }
 | .tup xs=>xs.length<=g9/\∃its:List Value,bo xs its/\IsTup h a its.toArray
 | .dK kvs=>kvs.length<=g9/\(a == HI)=false/\∃vs,KV kvs vs/\h.DictOf (ba P w) a vs
 | .dT kvs=>kvs.length<=g9/\(a == HI)=false/\∃xs:List (List Key × Addr × Value),
   Paired (λ(p:List Key × V) (q:List Key × Addr × Value)=>p.1=q.1/\H q.2.1>>(p.1.map kV)/\bq p.2 q.2.2) kvs xs /\
   ∃o es ep,h.get? a=some o/\o.ExactDict/\o.data = .dict es ep/\es.toList=xs.map (entryOfKey (K3 (ba P w)))/\(xs.map (·.1)).Nodup
 | .set S n=>h.SetOf (intKind P w) a S n
 | .ins C dx fs=>H dx=some (.own a)/\fs.length<=1000/\dx≠a/\h.get? a=some (instObj C dx) /\
   ∃mA,h.Ns1 dx mA/\(∀f,jp (fs.lookup f) (mA f))/\PySem.Within mA (fs.map (·.1))
 | .own _=>∃o,h.get? a=some o
 | .xd fs=>∃mA,h.Ns1 a mA/\∀f,jp (fs.lookup f) (mA f)
 | .rng lo hi=>∃t u v,h.get? a=some { cls:=.type "range",data:=.fields #[.int lo t,.int hi u,.int 1 v] }
 | .frz o u=>h.get? a=some o/\bB H h a u
 | .tbl ps=>h.get? a=some { cls:=.none,data:=.fields ps }
 | .tab q=>∃ps:Array Value,h.get? a=some { cls:=.none,data:=.fields ps }/\TriplesOk ps.toList/\∀pos F,codeAmong pos ps.toList=some F->∃c oc,F=i8 c/\c≠a/\H c=some (.frz oc (.own a))/\I0 oc q
 | .met f x=>h.get? a=some (methodObj (.ref f) (.ref x))
 | .ext B=>B h/\(∃o,h.get? a=some o)/\∀h1 h2:Heap,B h1->(∀o,h1.get? a=some o->h2.get? a=some o)->B h2
def HOk (H:Hp) (h:Heap):Prop:=∀a o,H a=some o->bB P w H h a o
end
section
variable {H H':Hp} {o:HO}
theorem bB.lt (x:bB P w H h a o):a < h.objs.size:=by
 cases o with
 | lst xs=>obtain⟨_,_,_,_,e⟩:=x;exact fi e
 | tup xs=>obtain⟨_,_,_,p⟩:=x;exact p.lt
 | dK kvs=>obtain⟨_,_,_,_,o,_,_,e,_⟩:=x;exact fi e
 | dT kvs=>obtain⟨_,_,_,_,o,_,_,e,_⟩:=x;exact fi e
 | set S n=>obtain⟨o,_,_,_,e,_⟩:=x;exact fi e
 | ins C dx fs=>obtain⟨_,_,_,e,_⟩:=x;exact fi e
 | own y=>obtain⟨_,e⟩:=x;exact fi e
 | xd fs=>obtain⟨_,⟨_,_,_,e,_⟩,_⟩:=x;exact fi e
 | rng lo hi=>obtain⟨_,_,_,e⟩:=x;exact fi e
 | frz ob u=>obtain⟨e,_⟩:=x;exact fi e
 | tbl ps=>exact fi (show h.get? a=some _ from x)
 | tab q=>obtain⟨_,e,_⟩:=x;exact fi e
 | met f y=>exact fi (show h.get? a=some _ from x)
 | ext B=>obtain⟨_,⟨_,e⟩,_⟩:=x;exact fi e
theorem Paired.mapP {α Y:Type} {F G:α->Y->Prop} : ∀{B:List α} {L:List Y},Paired F B L->(∀a b,F a b->G a b)->Paired G B L
 | _,_,.nil,_=>.nil
 | _,_,.cons r t,f=>.cons (f _ _ r) (Paired.mapP t f)
theorem bB.stay (x:bB P w H h a o) (k : ∀b u,(b=a\/H b=some (.own a))->h.get? b=some u->h'.get? b=some u)
  (ho : ∀b,H b=some (.own a)->H' b=some (.own a)) (ht : ∀b xs,H b>>xs->H' b>>xs) (B : ∀b o y,H b=some (.frz o (.own y))->H' b=some (.frz o (.own y)):=by exact λ_ _ _ q=>q):bB P w H' h' a o:=by
 induction o with
 | lst xs=>obtain⟨z,its,n,r,e⟩:=x;exact⟨z,its,n,r,k _ _ (.inl rfl) e⟩
 | tup xs=>obtain⟨z,its,r,ob,e,c⟩:=x;exact⟨z,its,r,ob,k _ _ (.inl rfl) e,c⟩
 | dK kvs=>obtain⟨z,y,vs,r,ob,es,ep,e,c⟩:=x;exact⟨z,y,vs,r,ob,es,ep,k _ _ (.inl rfl) e,c⟩
 | dT kvs =>
  obtain⟨z,y,xs,r,ob,es,ep,e,c⟩:=x;exact⟨z,y,xs,Paired.mapP r λp q z=>⟨z.1,ht _ _ z.2.1,z.2.2⟩,ob,es,ep,k _ _ (.inl rfl) e,c⟩
 | set S n=>obtain⟨ob,es,ep,t,e,c⟩:=x;exact⟨ob,es,ep,t,k _ _ (.inl rfl) e,c⟩
 | ins C dx fs =>
  obtain⟨d,z,ne,e,mA,⟨od,es,ep,e2,c⟩,r⟩:=x;exact⟨ho _ d,z,ne,k _ _ (.inl rfl) e,mA,⟨od,es,ep,k _ _ (.inr d) e2,c⟩,r⟩
 | own y=>obtain⟨ob,e⟩:=x;exact⟨ob,k _ _ (.inl rfl) e⟩
 | xd fs=>obtain⟨mA,⟨od,es,ep,e,c⟩,r⟩:=x;exact⟨mA,⟨od,es,ep,k _ _ (.inl rfl) e,c⟩,r⟩
 | rng lo hi=>obtain⟨t,u,v,e⟩:=x;exact⟨t,u,v,k _ _ (.inl rfl) e⟩
 | frz ob u Z=>obtain⟨e,q⟩:=x;exact⟨k _ _ (.inl rfl) e,Z q⟩
 | tbl ps =>
  have e:h.get? a=some { cls:=.none,data:=.fields ps }:=x
  show h'.get? a=some { cls:=.none,data:=.fields ps }
  exact k a _ (.inl rfl) e
 | tab q =>
  obtain⟨ps,e,t,Y⟩:=x;refine⟨ps,k _ _ (.inl rfl) e,t,λpos L z=>?_⟩
  obtain⟨c,oc,ec,ne,hw,F⟩:=Y pos L z;exact⟨c,oc,ec,ne,B _ _ _ hw,F⟩
 | met f y =>
  have e:h.get? a=some (methodObj (.ref f) (.ref y)):=x
  show h'.get? a=some (methodObj (.ref f) (.ref y))
  exact k a _ (.inl rfl) e
 | ext φ=>obtain⟨p,⟨o,e⟩,st⟩:=x;exact⟨st _ _ p λo q=>k _ _ (.inl rfl) q,⟨o,k _ _ (.inl rfl) e⟩,st⟩
theorem HOk.lt (x:HOk P w H h) (e:H a=some o):a < h.objs.size:=(x a o e).lt
theorem HOk.fresh (x:HOk P w H h) (e:h.objs.size<=a):H a=none:=by
 cases q:H a with
 | none=>rfl
 | some u=>exact absurd (g7 (x.lt q) e) (n_ _)
theorem HOk.kept (x:HOk P w H h) (k : ∀b u,h.get? b=some u->h'.get? b=some u):HOk P w H h':=λa o e =>
 (x a o e).stay (λb u _ q=>k b u q) (λ_ q=>q) λ_ _ q=>q
theorem HOk.laid (x:HOk P w H h) (k : ∀b u,h.get? b=some u->h'.get? b=some u) (hp:h.objs.size<=a) (new:bB P w (upd H a o) h' a o):HOk P w (upd H a o) h':=λb u e=>by
 have B:=x.fresh hp
 by_cases F:b=a
 .subst F;rw[ae] at e;cases e;exact new
 .rw[ai F] at e
  exact(x b u e).stay (λc v _ q=>k c v q) (λc q=>by rw[ai (au q B)];exact q) (λc xs q=>by rw[ai (au q B)];exact q) λc _ _ q=>by rw[ai (au q B)];exact q
end
def Rd (H:Hp) (a:Addr) (u:HO):Prop:=H a=some u\/∃o,H a=some (.frz o u)
theorem Rd.ok {H:Hp} {u:HO} (r:Rd H a u) (x:HOk P w H h):bB P w H h a u:=by
 rcases r with r | ⟨o,r⟩
 .exact x a u r
 .obtain⟨_,q⟩:=x a _ r
  exact q
def Mut:Option HO->Prop
 | some (.lst _)=>True
 | some (.dK _)=>True
 | some (.dT _)=>True
 | some (.set _ _)=>True
 | some (.ins _ _ _)=>True
 | some (.ext _)=>True
 | some (.tab _)=>True
 | _=>False
section
variable {H:Hp} {x e:Addr} {o':HO}
theorem HOk.write (ok:HOk P w H h) (L:Mut (H x)) (he:e=x\/H e=some (.own x)) (k : ∀b u,b≠e->h.get? b=some u->h'.get? b=some u) (aa : ∃u,h'.get? e=some u)
  (new:bB P w (upd H x o') h' x o'):HOk P w (upd H x o') h':=λb u q=>by
 have F : ∀c y,H c=some (.own y)->c≠x:=λc y r z=>by subst z;rw[r] at L;exact L
 have Y : ∀c xs,H c>>xs->c≠x:=λc xs r z=>by subst z;rw[r] at L;exact L
 by_cases Z:b=x
 .subst Z;rw[ae] at q;cases q;exact new
 .rw[ai Z] at q
  by_cases B:b=e
  .have q':H b=some (.own x):=by
    rcases he with z | z
    .exact absurd (B.trans z) Z
    .rw[B];exact z
   rw[q] at q';cases q';obtain⟨v,hv⟩:=aa;exact⟨v,by rw[B];exact hv⟩
  .refine(ok b u q).stay (λc v hc r=>k c v ?_ r) (λc r=>by rw[ai (F c b r)];exact r) (λc xs r=>by rw[ai (Y c xs r)];exact r) λc _ _ r=>by rw[ai (λz=>by subst z;rw[r] at L;exact L)];exact r
   rcases hc with rfl | hc
   .exact B
   .rintro rfl
    rcases he with z | z
    .exact F c b hc z
    .rw[hc] at z;cases z;exact Z rfl
end
structure Un (fs ex:List Addr) (H H':Hp) (h h':Heap):Prop where
 keep : ∀b o,h.get? b=some o->H b=none->b∉fs->b∉ex->h'.get? b=some o
 slot : ∀b o,h.get? b=some o->H b=none->b∈fs->b∉ex->∃sl,h'.get? b=some { o with slots:=sl }
 free : ∀b o,h.get? b=some o->H b=none->b∉ex->H' b=none
 there : ∀b o,h.get? b=some o->b∉ex->∃o',h'.get? b=some o'
 tups : ∀b xs,H b>>xs->H' b>>xs
 frzs : ∀b o u,H b=some (.frz o u)->H' b=some (.frz o u)
 tbls : ∀b ps,H b=some (.tbl ps)->∃more,H' b=some (.tbl (ps++more))
section
variable {fs fs' ex ex':List Addr} {H H1 H2:Hp} {h1 h2:Heap} {x e:Addr} {o:HO}
theorem Un.any (u:Un fs ex H H1 h h1) {b:Addr} {ob:Obj} (q:h.get? b=some ob) (n:H b=none) (F:b∉ex) : ∃sl,h1.get? b=some { ob with slots:=sl }:=by
 by_cases B:b∈fs
 .exact u.slot b ob q n B F
 .exact⟨ob.slots,u.keep b ob q n B F⟩
theorem Un.kept (k : ∀b u,h.get? b=some u->h'.get? b=some u):Un fs ex H H h h' :=
 ⟨λb ob q _ _ _=>k b ob q,λb ob q _ _ _=>⟨ob.slots,k b ob q⟩,λ_ _ _ n _=>n,λb ob q _=>⟨ob,k b ob q⟩,λ_ _ q=>q,λ_ _ _ q=>q,λ_ ps q=>⟨#[],by rw[q];simp⟩⟩
theorem Un.refl:Un fs ex H H h h:=Un.kept λ_ _ q=>q
theorem Un.laid (k : ∀b u,h.get? b=some u->h'.get? b=some u) (hp:h.objs.size<=a) (B:H a=none):Un fs ex H (upd H a o) h h' where
 keep:=λb u q _ _ _=>k b u q
 slot:=λb u q _ _ _=>⟨u.slots,k b u q⟩
 free:=λb u q n _=>by rw[ai (k9 (g7 (fi q) hp))];exact n
 there:=λb u q _=>⟨u,k b u q⟩
 tups:=λb xs q=>by rw[ai (au q B)];exact q
 frzs:=λb u xs q=>by rw[ai (au q B)];exact q
 tbls:=λb ps q=>⟨#[],by rw[ai (au q B),q];simp⟩
theorem Un.write (F:Mut (H x)) (he:e=x\/H e=some (.own x)) (k : ∀b u,b≠e->h.get? b=some u->h'.get? b=some u) (Y : ∃u,h'.get? e=some u):Un fs ex H (upd H x o) h h':=by
 have hx : ∀b,H b=none->b≠x:=λb n z=>by subst z;rw[n] at F;exact F
 have Z : ∀b,H b=none->b≠e:=λb n z=>by
  subst z;rcases he with r | r
  .exact hx b n r
  .rw[n] at r;cases r
 have L : ∀b u,H b=some u->¬ Mut (some u)->b≠x:=λb u q nm z=>by subst z;rw[q] at F;exact nm F
 refine⟨λb u q n _ _=>k b u (Z b n) q,λb u q n _ _=>⟨u.slots,k b u (Z b n) q⟩,λb u q n _=>by rw[ai (hx b n)];exact n,λb u q _=>?_,
  λb xs q=>by rw[ai (L b _ q λz=>z)];exact q,λb u xs q=>by rw[ai (L b _ q λz=>z)];exact q,λb ps q=>⟨#[],by rw[ai (L b _ q λz=>z),q];simp⟩⟩
 by_cases B:b=e
 .subst B;exact Y
 .exact⟨u,k b u B q⟩
end
def trk (h:Heap) (H:Hp):List Addr:=(range h.objs.size).filter λa=>(H a).isSome
def vn (h:Heap) (H:Hp):Heap:=PySem.W.hideAll h (trk h H)
theorem Bf (h:Heap) (H:Hp):(vn h H).objs.size=h.objs.size:=PySem.W.hideAll_size _ _
theorem Dw {H:Hp} {o:Obj} (e:h.get? b=some o) (n:H b=none):(vn h H).get? b=some o :=
 PySem.W.hideAll_get _ e λB=>by
  have q:(H b).isSome=true:=(G_.mp B).2
  rw[n] at q;simp at q
theorem DZ {H:Hp} {o:Obj} (e:(vn h H).get? b=some o):h.get? b=some o/\H b=none:=by
 have B:h.get? b=some o:=PySem.W.of_hideAll (trk h H) e
 refine⟨B,?_⟩
 cases q:H b with
 | none=>rfl
 | some x =>
  have F:b∈trk h H:=G_.mpr ⟨LG.mpr (fi B),by simp[q]⟩
  have z:(vn h H).get? b=none:=PySem.W.hideAll_none (trk h H) F
  rw[z] at e;cases e
structure Mod (K:fy) (mg:Str->Option Value) (base:Heap):Prop where
 kin:K.In base
 glob:base.Ns md mg
 blt : ∃mb,base.Ns builtinsNs mb/\∀x:Str,x ≠ "__name__" -> mb x=x_ x
 nolimit:base.NoLimit
structure Cx where
 prog:Program
 w:World
 K:fy
 mg:Str->Option Value
 base:Heap
 A:Around
 N:List Str
 s₀:Shared
 H₀:Hp
 env:Env
 outer:List Env
 stack:List Env
 ex:List Addr
 fn:Str->Bool
 calm:Bool
 pn:List (Addr × Obj)
 xe:Value->Shared->Prop
def frs (l:List Env):List Addr:=l.filterMap (·.frame)
abbrev Cx.fs (X:Cx):List Addr:=frs X.outer
def Vis (sc:Scope) (x:Str):Prop:=sc.names.lookup x=some .local\/sc.names.lookup x=some .cell\/sc.names.lookup x=some .free
def Loc (sc:Scope) (x:Str):Prop:=sc.names.lookup x=some .local\/sc.names.lookup x=some .cell
def Kw (env:Env) (h:Heap) (m:Str->Option Value) (x:Str) (u:Value):Prop :=
 (env.kindOf x=some .local/\m x=some u)\/((env.kindOf x=some .cell\/env.kindOf x=some .free)/\∃c,env.cells.lookup x=some c/\h.IsCell c (some u))
structure Cx.Ok (X:Cx):Prop where
 mod:Mod X.K X.mg X.base
 kind:X.env.scope.kind = .function
 glob:X.env.globals=md
 blt:X.env.builtins=builtinsNs
 above:X.s₀.heap.objs.size<=X.env.locals
 inj : ∀x y c,X.env.cells.lookup x=some c->X.env.cells.lookup y=some c->x=y
 has : ∀x,(X.env.kindOf x=some .cell\/X.env.kindOf x=some .free)->∃c,X.env.cells.lookup x=some c
 cab : ∀x c,X.fn x=true->X.env.cells.lookup x=some c->X.s₀.heap.objs.size<=c
 hd:X.calm=true->X.A.handled=none
 frames:X.A.frames=some X.stack
 stk:X.stack=X.outer\/(X.stack=X.env :: X.outer/\X.env.frame=some X.env.locals)
 exf : ∀b∈X.ex,b≠X.env.locals/\∀x c,X.env.cells.lookup x=some c->c≠b
 bs : ∀b o,X.base.get? b=some o->X.s₀.heap.get? b=some o/\X.H₀ b=none
 bsz:X.base.objs.size<=X.s₀.heap.objs.size
 noex : ∀b o,X.base.get? b=some o->b∉X.ex
 exfs : ∀b∈X.ex,b∉X.fs
 funs:X.s₀.heap.FunFrames X.base X.outer
 frf : ∀b∈X.fs,X.H₀ b=none
structure Inv (X:Cx) (pins:List (Addr × Obj)) (σ:List (Option V)) (H:Hp) (s:Shared):Prop where
 ok:X.Ok
 os:s.os=X.s₀.os
 bare:AllBare s.gens
 base:Un X.fs X.ex X.H₀ H X.s₀.heap s.heap
 loc : ∃m,s.heap.Ns X.env.locals m/\∀(i:Nat) (x:Str) (v:V),X.N[i]? = some x->σ[i]? = some (some v)->Vis X.env.scope x->∃u,bq v u/\Kw X.env s.heap m x u
 cell : ∀x c,X.env.cells.lookup x=some c->∃v,s.heap.IsCell c v
 free:H X.env.locals=none
 freeC : ∀x c,X.env.cells.lookup x=some c->H c=none
 pin : ∀p∈X.pn++pins,s.heap.get? p.1=some p.2/\H p.1=none/\p.1≠X.env.locals/\p.1∉X.fs/\∀v,p.2.data≠.cell v
 hok:HOk X.prog X.w H s.heap
 len:σ.length=X.N.length
section
variable {X:Cx} {σ:List (Option V)} {H H':Hp}
theorem Cx.Ok.nofr (ok:X.Ok) {b:Addr} {o:Obj} (e:X.base.get? b=some o):b∉X.fs:=λB=>by
 have:=(ok.funs.mem B).1
 rw[e] at this;cases this
theorem Inv.bs (I:Inv X pins σ H s) : ∀b o,X.base.get? b=some o->s.heap.get? b=some o/\H b=none:=λb o e =>
 ⟨I.base.keep b o (I.ok.bs b o e).1 (I.ok.bs b o e).2 (I.ok.nofr e) (I.ok.noex b o e),I.base.free b o (I.ok.bs b o e).1 (I.ok.bs b o e).2 (I.ok.noex b o e)⟩
theorem Inv.bk (I:Inv X pins σ H s) : ∀b o,X.base.get? b=some o->s.heap.get? b=some o:=λb o e=>(I.bs b o e).1
theorem Inv.mod (I:Inv X pins σ H s):Mod X.K X.mg X.base:=I.ok.mod
theorem Inv.kIn (I:Inv X pins σ H s):X.K.In s.heap:=I.ok.mod.kin.keeps I.bk
theorem Inv.lt (I:Inv X pins σ H s):X.env.locals < s.heap.objs.size:=let ⟨_,hn,_⟩:=I.loc;hn.lt
theorem Inv.sz (I:Inv X pins σ H s):X.s₀.heap.objs.size<=s.heap.objs.size:=ja I.ok.above (y3 I.lt)
theorem Inv.nofs (I:Inv X pins σ H s) {a:Addr} (h:s.heap.objs.size<=a):a∉X.fs:=λB=>by
 obtain⟨_,o,F,_⟩:=I.ok.funs.mem B;exact absurd (g7 (fi F) (ja I.sz h)) (n_ _)
theorem Inv.cne (I:Inv X pins σ H s) : ∀x c,X.env.cells.lookup x=some c->c≠X.env.locals:=λx c e z=>by
 obtain⟨v,o,Y,L⟩:=I.cell x c e;obtain⟨m,⟨o',es,ep,B,F,_⟩,_⟩:=I.loc;rw[z,B] at Y;cases Y;rw[F] at L;cases L
theorem Inv.funs (I:Inv X pins σ H s):s.heap.FunFrames X.base X.outer:=by
 have all : ∀(l:List Env),(∀b∈frs l,b∈X.fs)->X.s₀.heap.FunFrames X.base l->s.heap.FunFrames X.base l:=by
  intro l
  induction l with
  | nil=>intro _ _;trivial
  | cons env r ih =>
   intro Z hl;obtain⟨hk,⟨L,o,F,hn,ho,hd⟩,hr⟩:=hl;have Y:L∈X.fs:=Z L (by unfold frs;rw[List.filterMap_cons,F];exact m6)
   obtain⟨sl,e⟩:=I.base.slot L o ho (I.ok.frf L Y) Y λz=>I.ok.exfs L z Y
   exact⟨hk,⟨L,_,F,hn,e,hd⟩,ih (λb B=>Z b (by unfold frs;rw[List.filterMap_cons,F];exact i7 _ B)) hr⟩
 exact all X.outer (λ_ B=>B) I.ok.funs
theorem Inv.stack (I:Inv X pins σ H s):s.heap.FunFrames X.base X.stack:=by
 rcases I.ok.stk with e | ⟨e,hf⟩
 .rw[e];exact I.funs
 .rw[e]
  obtain⟨m,B,_⟩:=I.loc;refine .cons (by rw[I.ok.kind];decide) hf B ?_ I.funs
  exact Heap.get?_none_of_le (ja I.ok.bsz I.ok.above)
theorem Inv.stkSub (I:Inv X pins σ H s) : ∀b∈frs X.stack,b∈X.env.locals :: X.fs:=λb B=>by
 rcases I.ok.stk with e | ⟨e,hf⟩
 .rw[e] at B;exact i7 _ B
 .rw[e] at B
  unfold frs at B;rw[List.filterMap_cons,hf] at B;exact B
theorem Inv.stkFree (I:Inv X pins σ H s) : ∀b∈frs X.stack,H b=none:=λb B=>by
 rcases i6.mp (I.stkSub b B) with e | B
 .rw[e];exact I.free
 .obtain⟨_,o,ho,_⟩:=I.ok.funs.mem B
  exact I.base.free b o ho (I.ok.frf b B) λz=>I.ok.exfs b z B
theorem Inv.step (I:Inv X pins σ H s)
  (Y : ∀b∈ch,(b∈X.ex\/X.s₀.heap.objs.size<=b)/\b≠X.env.locals/\(∀x c,X.env.cells.lookup x=some c->c≠b)/\∀p∈X.pn++pins,p.1≠b)
  (keep : ∀b o,b≠X.env.locals->b∉X.fs->b∉ch->s.heap.get? b=some o->H b=none->h'.get? b=some o)
  (slot : ∀b o,b≠X.env.locals->b∈X.fs->b∉ch->s.heap.get? b=some o->H b=none->∃sl,h'.get? b=some { o with slots:=sl }) (free : ∀b o,b∉ch->s.heap.get? b=some o->H b=none->H' b=none)
  (there : ∀b o,b∉ch->s.heap.get? b=some o->∃o',h'.get? b=some o')
  (tups : ∀b xs,H b>>xs->H' b>>xs) (frzs : ∀b o u,H b=some (.frz o u)->H' b=some (.frz o u)) (tbls : ∀b ps,H b=some (.tbl ps)->∃ab,H' b=some (.tbl (ps++ab)))
  (ns : ∀m,s.heap.Ns X.env.locals m->h'.Ns X.env.locals m) (ac:HOk X.prog X.w H' h') (hg:AllBare g') :
  Inv X pins σ H' { s with heap:=h',gens:=g',drawn:=d',toks:=t' }:=by
 have aa : ∀b o,X.s₀.heap.get? b=some o->b≠X.env.locals:=λb o e=>k9 (g7 (fi e) I.ok.above)
 have Z : ∀b o,X.s₀.heap.get? b=some o->b∉X.ex->b∉ch:=λb o e B hb=>by
  rcases (Y b hb).1 with z | z
  .exact B z
  .exact absurd (g7 (fi e) z) (n_ _)
 have L : ∀x c,X.env.cells.lookup x=some c->∀v,s.heap.IsCell c v->h'.IsCell c v:=λx c e v ⟨o,ho,hd⟩=>by
  have F:c∉ch:=λz=>(Y c z).2.2.1 x c e rfl
  by_cases hc:c∈X.fs
  .obtain⟨sl,q⟩:=slot c o (I.cne x c e) hc F ho (I.freeC x c e)
   exact⟨_,q,hd⟩
  .exact⟨o,keep c o (I.cne x c e) hc F ho (I.freeC x c e),hd⟩
 refine⟨I.ok,I.os,hg,⟨λb o e n hb B=>?_,λb o e n hb B=>?_,λb o e n B=>?_,λb o e B=>?_,λb xs e=>tups b xs (I.base.tups b xs e),λb o xs e=>frzs b o xs (I.base.frzs b o xs e),λb ps e=>?_⟩,?_,λx c e=>?_,?_,λx c e=>?_,λp hp=>?_,ac,I.len⟩
 .exact keep b o (aa b o e) hb (Z b o e B) (I.base.keep b o e n hb B) (I.base.free b o e n B)
 .obtain⟨sl,e1⟩:=I.base.slot b o e n hb B
  obtain⟨ad,e2⟩:=slot b _ (aa b o e) hb (Z b o e B) e1 (I.base.free b o e n B);exact⟨ad,e2⟩
 .obtain⟨o',e1⟩:=I.base.there b o e B
  exact free b o' (Z b o e B) e1 (I.base.free b o e n B)
 .obtain⟨o',e1⟩:=I.base.there b o e B
  exact there b o' (Z b o e B) e1
 .obtain⟨m1,e1⟩:=I.base.tbls b ps e
  obtain⟨m2,e2⟩:=tbls b _ e1;exact⟨m1++m2,by rw[e2,Array.append_assoc]⟩
 .obtain⟨m,hn,hl⟩:=I.loc
  refine⟨m,ns m hn,λi x v e1 e2 e3=>?_⟩
  obtain⟨u,r,l⟩:=hl i x v e1 e2 e3;refine⟨u,r,?_⟩
  rcases l with l | ⟨k,c,e,z⟩
  .exact .inl l
  .exact .inr ⟨k,c,e,L x c e _ z⟩
 .obtain⟨v,z⟩:=I.cell x c e
  exact⟨v,L x c e v z⟩
 .obtain⟨m,⟨o,_,_,ho,_⟩,_⟩:=I.loc
  exact free _ o (λz=>(Y _ z).2.1 rfl) ho I.free
 .obtain⟨v,o,ho,hd⟩:=I.cell x c e
  exact free c o (λz=>(Y c z).2.2.1 x c e rfl) ho (I.freeC x c e)
 .obtain⟨e,n,ne,nf,d⟩:=I.pin p hp
  have F:p.1∉ch:=λz=>(Y p.1 z).2.2.2 p hp rfl
  exact⟨keep p.1 p.2 ne nf F e n,free p.1 p.2 F e n,ne,nf,d⟩
theorem Inv.un (I:Inv X pins σ H s) (u:Un X.fs [] H H' s.heap h') (Y:HOk X.prog X.w H' h'):Inv X pins σ H' { s with heap:=h',toks:=t' }:=by
 obtain⟨m,⟨o,es,ep,ho,r⟩,_⟩:=id I.loc;obtain⟨sl,hL⟩:=u.any ho I.free (by simp)
 exact I.step (g':=s.gens) (d':=s.drawn) (ch:=[]) (λ_ z=>nomatch z) (λb o _ L _ e n=>u.keep b o e n L (by simp)) (λb o _ L _ e n=>u.slot b o e n L (by simp)) (λb o _ e n=>u.free b o e n (by simp)) (λb o _ e=>u.there b o e (by simp)) u.tups u.frzs u.tbls (λm' hm=>by
  obtain⟨o',Z,F,B,r'⟩:=hm;rw[ho] at B;cases B;exact⟨_,Z,F,hL,r'⟩) Y I.bare
theorem Inv.call (I:Inv X pins σ H s) (u:Un (frs X.stack) ch H H' s.heap h') (Z:HOk X.prog X.w H' h') (hg:AllBare g')
  (L : ∀b∈ch,(b∈X.ex\/X.s₀.heap.objs.size<=b)/\b≠X.env.locals/\(∀x c,X.env.cells.lookup x=some c->c≠b)/\∀p∈X.pn++pins,p.1≠b) :
  Inv X pins σ H' { s with heap:=h',gens:=g',drawn:=d',toks:=t' }:=by
 obtain⟨m,⟨o,es,ep,ho,r⟩,_⟩:=id I.loc;obtain⟨sl,hL⟩:=u.any ho I.free λz=>(L _ z).2.1 rfl
 exact I.step (ch:=ch) L (λb o hL hb B e n=>u.keep b o e n (λz=>(i6.mp (I.stkSub b z)).elim hL hb) B) (λb o _ _ B e n=>u.any e n B) (λb o B e n=>u.free b o e n B) (λb o B e=>u.there b o e B) u.tups u.frzs u.tbls (λm' hm=>by
  obtain⟨o',aa,Y,F,r'⟩:=hm;rw[ho] at F;cases F;exact⟨_,aa,Y,hL,r'⟩) Z hg
theorem Inv.turned (I:Inv X pins σ H s) (k : ∀b o,b≠it->s.heap.get? b=some o->h'.get? b=some o) (hn:H it=none) (L:it≠X.env.locals)
  (h1:it∈X.ex\/X.s₀.heap.objs.size<=it) (h2 : ∀x c,X.env.cells.lookup x=some c->c≠it) (h3 : ∀p∈X.pn++pins,p.1≠it):Inv X pins σ H { s with heap:=h',toks:=t' }:=by
 have F : ∀b u,H b=some u->b≠it:=λb u e z=>by rw[z,hn] at e;cases e
 refine I.step (g':=s.gens) (d':=s.drawn) (ch:=[it]) (λb Z=>?_) (λb o _ _ B e _=>k b o (λz=>B (by simp[z])) e) (λb o _ _ B e _=>⟨o.slots,k b o (λz=>B (by simp[z])) e⟩) (λ_ _ _ _ n=>n)
  (λb o B e=>⟨o,k b o (λz=>B (by simp[z])) e⟩) (λ_ _ e=>e) (λ_ _ _ e=>e) (λb ps e=>⟨#[],by rw[e];simp⟩) (λm Y=>?_) (λb u e=>?_) I.bare
 .have e:b=it:=by simpa using Z
  subst e;exact⟨h1,L,h2,h3⟩
 .obtain⟨o,es,ep,ho,r⟩:=Y
  exact⟨o,es,ep,k _ o (p7 L) ho,r⟩
 .refine(I.hok b u e).stay (λc v B q=>k c v ?_ q) (λ_ q=>q) λ_ _ q=>q
  rcases B with z | z
  .rw[z];exact F b u e
  .exact F c _ z
theorem Inv.tok (I:Inv X pins σ H s) (t:Nat):Inv X pins σ H { s with toks:=t }:=I.un (h':=s.heap) (t':=t) Un.refl I.hok
theorem Inv.kept {t':Nat} (I:Inv X pins σ H s) (k : ∀b u,s.heap.get? b=some u->h'.get? b=some u):Inv X pins σ H { s with heap:=h',toks:=t' }:=I.un (Un.kept k) (I.hok.kept k)
theorem Inv.laid {a:Addr} {o:HO} {t':Nat} (I:Inv X pins σ H s) (k : ∀b u,s.heap.get? b=some u->h'.get? b=some u) (hp:s.heap.objs.size<=a) (new:bB X.prog X.w (upd H a o) h' a o) :
  Inv X pins σ (upd H a o) { s with heap:=h',toks:=t' }:=I.un (Un.laid k hp (I.hok.fresh hp)) (I.hok.laid k hp new)
theorem Inv.write {x e:Addr} {o:HO} {t':Nat} (I:Inv X pins σ H s) (F:Mut (H x)) (he:e=x\/H e=some (.own x)) (k : ∀b u,b≠e->s.heap.get? b=some u->h'.get? b=some u) (B : ∃u,h'.get? e=some u)
  (new:bB X.prog X.w (upd H x o) h' x o):Inv X pins σ (upd H x o) { s with heap:=h',toks:=t' }:=I.un (Un.write F he k B) (I.hok.write F he k B new)
theorem Inv.weak {σ':List (Option V)} (I:Inv X pins σ H s) (hl:σ'.length=σ.length) (w : ∀(i:Nat) v,σ'[i]? = some (some v)->σ[i]? = some (some v)):Inv X pins σ' H s :=
 ⟨I.ok,I.os,I.bare,I.base,let ⟨m,hn,hl'⟩:=I.loc;⟨m,hn,λi x v e1 e2 B=>hl' i x v e1 (w i v e2) B⟩,I.cell,I.free,I.freeC,I.pin,I.hok,hl.trans I.len⟩
theorem Inv.pins_of (I:Inv X pins σ H s) (h : ∀p∈pins',s.heap.get? p.1=some p.2/\H p.1=none/\p.1≠X.env.locals/\p.1∉X.fs/\∀v,p.2.data≠.cell v):Inv X pins' σ H s :=
 ⟨I.ok,I.os,I.bare,I.base,I.loc,I.cell,I.free,I.freeC,λp hp=>(j9.mp hp).elim (λz=>I.pin p (m9 _ z)) (h p),I.hok,I.len⟩
theorem wF (B:N.Nodup) {i j:Nat} {x:Str} (a:N[i]? = some x) (b:N[j]? = some x):i=j:=by
 obtain⟨h1,e1⟩:=g_.mp a;obtain⟨h2,e2⟩:=g_.mp b;exact(List.getElem_inj B).mp (e1.trans e2.symm)
theorem tw {v:V} {Q:Unit->Shared->Prop} (I:Inv X pins σ H s) (hN:X.N.Nodup) (hi:X.N[i]? = some x) (Y:Loc X.env.scope x) (r:bq v u)
  (h : ∀s',Inv X pins (σ.set i (some v)) H s'->(∃a,Lv a s.heap s'.heap/\(a=X.env.locals\/X.env.cells.lookup x=some a))->Q Unit.unit s') (hf:X.fn x=true\/X.env.scope.names.lookup x=some .local:=by first | exact .inl rfl | exact .inr rfl | assumption):wpAny M A (storeName X.env x u) Q E s:=by
 obtain⟨m,hn,hl⟩:=id I.loc;have af:(X.env.scope.kind == .class || (X.env.scope.kind == .module && X.env.locals != X.env.globals))=false:=by rw[I.ok.kind];rfl
 have aa:i < σ.length:=by rw[I.len];exact(g_.mp hi).1
 have cne:=I.cne;have F : ∀{a:Addr} {h':Heap},(∃o,s.heap.get? a=some o/\H a=none)->Lv a s.heap h'->HOk X.prog X.w H h':=λ{a h'} ha B b ob e=>by
  obtain⟨_,_,Z⟩:=ha;refine(I.hok b ob e).stay (λc w' L q=>(B.2 c ?_).trans q) (λ_ q=>q) λ_ _ q=>q
  rintro rfl
  rcases L with rfl | L
  .rw[Z] at e;cases e
  .rw[Z] at L;cases L
 rcases Y with hk | hk
 .refine wpAny_storeName_local hk hn (λh' ah B=>?_) af
  obtain⟨oL,_,_,ag,_⟩:=id hn;refine h _ ⟨I.ok,I.os,I.bare,⟨λb o e n hb Y=>?_,λb o e n hb Y=>?_,I.base.free,λb o e Y=>?_,I.base.tups,I.base.frzs,I.base.tbls⟩,⟨_,ah,λj y v' e1 e2 e3=>?_⟩,λy c e=>?_,I.free,I.freeC,λp hp=>?_,F ⟨oL,ag,I.free⟩ B,by simpa using I.len⟩ ⟨_,B,.inl rfl⟩
  .exact(B.2 b (k9 (g7 (fi e) I.ok.above))).trans (I.base.keep b o e n hb Y)
  .obtain⟨sl,e1⟩:=I.base.slot b o e n hb Y
   exact⟨sl,(B.2 b (k9 (g7 (fi e) I.ok.above))).trans e1⟩
  .obtain⟨o',e1⟩:=I.base.there b o e Y
   exact⟨o',(B.2 b (k9 (g7 (fi e) I.ok.above))).trans e1⟩
  .by_cases hj:j=i
   .subst hj
    rw[hi] at e1;cases e1;rw[List.getElem?_set_self aa] at e2;cases e2;exact⟨u,r,.inl ⟨hk,by simp⟩⟩
   .rw[LM (p7 hj)] at e2
    obtain⟨u',r',q⟩:=hl j y v' e1 e2 e3;refine⟨u',r',?_⟩
    rcases q with⟨k,e⟩ | ⟨k,c,e,z⟩
    .refine .inl ⟨k,?_⟩
     have:y≠x:=λe=>hj (wF hN e1 (e ▸ hi))
     simp[this,e]
    .exact .inr ⟨k,c,e,z.sameBut B (cne y c e)⟩
  .obtain⟨w',z⟩:=I.cell y c e
   exact⟨w',z.sameBut B (cne y c e)⟩
  .obtain⟨e,n,ne,nf,d⟩:=I.pin p hp
   exact⟨(B.2 p.1 ne).trans e,n,ne,nf,d⟩
 .have hfn:X.fn x=true:=by
   rcases hf with z | z
   .exact z
   .rw[z] at hk;cases hk
  obtain⟨c,L⟩:=I.ok.has x (.inl hk);obtain⟨w',z⟩:=I.cell x c L;refine wpAny_storeName_cell I.ok.kind hk L z (λh' ac B=>?_)
  obtain⟨oc,ab,ad⟩:=id z;refine h { s with heap:=h' } ⟨I.ok,I.os,I.bare,⟨λb o e n hb Y=>?_,λb o e n hb Y=>?_,I.base.free,λb o e Y=>?_,I.base.tups,I.base.frzs,I.base.tbls⟩,⟨m,hn.sameBut B (p7 (cne x c L)),λj y v' e1 e2 e3=>?_⟩,λy c' e=>?_,I.free,I.freeC,λp hp=>?_,F ⟨oc,ab,I.freeC x c L⟩ B,by simpa using I.len⟩ ⟨c,B,.inr L⟩
  .exact(B.2 b (k9 (g7 (fi e) (I.ok.cab x c hfn L)))).trans (I.base.keep b o e n hb Y)
  .obtain⟨sl,e1⟩:=I.base.slot b o e n hb Y
   exact⟨sl,(B.2 b (k9 (g7 (fi e) (I.ok.cab x c hfn L)))).trans e1⟩
  .obtain⟨o',e1⟩:=I.base.there b o e Y
   exact⟨o',(B.2 b (k9 (g7 (fi e) (I.ok.cab x c hfn L)))).trans e1⟩
  .by_cases hj:j=i
   .subst hj
    rw[hi] at e1;cases e1;rw[List.getElem?_set_self aa] at e2;cases e2;exact⟨u,r,.inr ⟨.inl hk,c,L,ac⟩⟩
   .rw[LM (p7 hj)] at e2
    obtain⟨u',r',q⟩:=hl j y v' e1 e2 e3;refine⟨u',r',?_⟩
    rcases q with q | ⟨k,c',e,z'⟩
    .exact .inl q
    .refine .inr ⟨k,c',e,z'.sameBut B ?_⟩
     rintro rfl
     exact hj (wF hN e1 (I.ok.inj _ _ _ e L ▸ hi))
  .by_cases hcc:c'=c
   .subst hcc;exact⟨_,ac⟩
   .obtain⟨w2,z2⟩:=I.cell y c' e
    exact⟨w2,z2.sameBut B hcc⟩
  .obtain⟨e,n,ne,nf,d⟩:=I.pin p hp
   refine⟨(B.2 p.1 ?_).trans e,n,ne,nf,d⟩
   intro q;rw[q,ab] at e;have q':oc=p.2:=ge e
   exact d w' (by rw[<- q'];exact ad)
theorem rg {v:V} {Q:Unit->Shared->Prop} (I:Inv X pins σ H s) (Y:X.N.Nodup) (hi:X.N[i]? = some x) (F:Loc X.env.scope x) (r:bq v u)
  (h : ∀s',Inv X pins (σ.set i (some v)) H s'->Q Unit.unit s') (B:X.fn x=true\/X.env.scope.names.lookup x=some .local:=by first | exact .inl rfl | exact .inr rfl | assumption):wpAny M A (storeName X.env x u) Q E s :=
 tw I Y hi F r (λs' L _=>h s' L) B
theorem Inv.call' (I:Inv X pins σ H s) (Y:s'.os=s.os) (u:Un (frs X.stack) ch H H' s.heap s'.heap) (F:HOk X.prog X.w H' s'.heap) (L:AllBare s'.gens)
  (B : ∀b∈ch,(b∈X.ex\/X.s₀.heap.objs.size<=b)/\b≠X.env.locals/\(∀x c,X.env.cells.lookup x=some c->c≠b)/\∀p∈X.pn++pins,p.1≠b):Inv X pins σ H' s':=by
 obtain⟨h',g',d',t',o'⟩:=s';have e:o'=s.os:=Y
 subst e;exact I.call (g':=g') (t':=t') (d':=d') u F L B
end
abbrev XK:=Value->Option Addr->Hp->Prop
abbrev St:=List (Option V)
abbrev VK:=V->Hp->Prop
abbrev TE:=St->Hp->VK->Prop
abbrev TT:=St->Hp->(Bool->Hp->Prop)->Prop
abbrev TA:=St->Hp->(List V->Hp->Prop)->Prop
structure pk where
 nx:St->Hp->Prop
 rt:VK
 bk:St->Hp->Prop:=λ_ _=>False
 ct:St->Hp->Prop:=λ_ _=>False
abbrev TS:=pk->St->Hp->Prop
def EP (X:Cx) (pins:List (Addr × Obj)) (σ:St) (Q:VK) (u:Value) (s':Shared):Prop:=∃v H',Inv X pins σ H' s'/\bq v u/\Q v H'
def TP (X:Cx) (pins:List (Addr × Obj)) (σ:St) (Q:Bool->Hp->Prop) (b:Bool) (s':Shared):Prop:=∃H',Inv X pins σ H' s'/\Q b H'
def AP (X:Cx) (pins:List (Addr × Obj)) (σ:St) (Q:List V->Hp->Prop) (us:List Value) (s':Shared):Prop:=∃vs H',Inv X pins σ H' s'/\bo vs us/\Q vs H'
def SP (X:Cx) (pins:List (Addr × Obj)) (D:pk) (f:Flow) (s':Shared):Prop :=
 match f with
 | .next=>∃ σ' H',Inv X pins σ' H' s'/\D.nx σ' H'
 | .brk=>∃ σ' H',Inv X pins σ' H' s'/\D.bk σ' H'
 | .cont=>∃ σ' H',Inv X pins σ' H' s'/\D.ct σ' H'
 | .ret u=>∃v σ' H',Inv X pins σ' H' s'/\bq v u/\D.rt v H'
namespace Irr
set_option allowUnsafeReducibility true in
@[scoped irreducible] def _root_.L2.PE (X:Cx) (e:Expr) (t:TE):Prop :=
 ∀(pins:List (Addr × Obj)) (s:Shared) (σ:St) (H:Hp) (Q:VK),Inv X pins σ H s->t σ H Q->wpAny (model X.prog X.w) X.A (eval e X.env) (EP X pins σ Q) X.xe s
end Irr
namespace Irr
set_option allowUnsafeReducibility true in
@[scoped irreducible] def _root_.L2.PT (X:Cx) (e:Expr) (t:TT):Prop :=
 ∀(pins:List (Addr × Obj)) (s:Shared) (σ:St) (H:Hp) (Q:Bool->Hp->Prop),Inv X pins σ H s->t σ H Q->wpAny (model X.prog X.w) X.A (isTrue e X.env (eval e X.env)) (TP X pins σ Q) X.xe s
end Irr
namespace Irr
set_option allowUnsafeReducibility true in
@[scoped irreducible] def _root_.L2.PW (X:Cx) (e:Expr) (t:TT):Prop :=
 ∀(B:Sem Value) (pins:List (Addr × Obj)) (s:Shared) (σ:St) (H:Hp) (Q:Bool->Hp->Prop),Inv X pins σ H s->t σ H Q->wpAny (model X.prog X.w) X.A (isTrue e X.env B) (TP X pins σ Q) X.xe s
end Irr
theorem PW.pt {X:Cx} {t:TT} (h:PW X e t):PT X e t:=h _
namespace Irr
set_option allowUnsafeReducibility true in
@[scoped irreducible] def _root_.L2.PA (X:Cx) (es:List Expr) (t:TA):Prop :=
 ∀(pos:Pos) (pins:List (Addr × Obj)) (s:Shared) (σ:St) (H:Hp) (Q:List V->Hp->Prop),Inv X pins σ H s->t σ H Q->wpAny (model X.prog X.w) X.A (spliced (y_ pos (jc es X.env))) (AP X pins σ Q) X.xe s
end Irr
namespace Irr
set_option allowUnsafeReducibility true in
@[scoped irreducible] def _root_.L2.PS (X:Cx) (st:Stmt) (t:TS):Prop :=
 ∀(pins:List (Addr × Obj)) (s:Shared) (σ:St) (H:Hp) (D:pk),Inv X pins σ H s->t D σ H->wpAny (model X.prog X.w) X.A (exec st X.env) (SP X pins D) X.xe s
end Irr
namespace Irr
set_option allowUnsafeReducibility true in
@[scoped irreducible] def _root_.L2.PSs (X:Cx) (st:List Stmt) (t:TS):Prop :=
 ∀(pins:List (Addr × Obj)) (s:Shared) (σ:St) (H:Hp) (D:pk),Inv X pins σ H s->t D σ H->wpAny (model X.prog X.w) X.A (execs st X.env) (SP X pins D) X.xe s
end Irr
theorem thn {t:Sem α} {Q B:α->Shared->Prop} (h:wpAny M A t Q E s) (F : ∀a s,Q a s->B a s):wpAny M A t B E s:=FV h F λ_ _ x=>x
section
variable {X:Cx}
def E4 (i:Nat):TE:=λσ H Q=>∃v,σ[i]? = some (some v)/\Q v H
def tC (v:V):TE:=λ_ H Q=>Q v H
theorem Ir (hN:X.N[i]? = some x) (hv:Vis X.env.scope x) (Y:(x ==("__debug__" : Str))=false:=by decide) (L:(x ==("__classdict__" : Str))=false:=by decide):PE X (.Name x pos) (E4 i):=by
 intro pins s σ H Q I h;obtain⟨v,e,h⟩:=h;obtain⟨m,hn,hl⟩:=I.loc;obtain⟨u,r,l⟩:=hl i x v hN e hv;have B:EP X pins σ Q u s:=⟨v,H,I,r,h⟩
 rcases l with⟨F,Z⟩ | ⟨F,c,hc,hcell⟩
 .exact wpAny_Name (wpAny_loadName_local I.ok.kind F hn Z B) Y
 .rcases F with F | F
  .exact wpAny_Name (wpAny_loadName_cell I.ok.kind F hc hcell B) Y
  .exact wpAny_Name (wpAny_loadName_free I.ok.kind F hc hcell B L) Y
theorem ah {i j pos}:PE X (.Constant (.int i) j pos) (tC (.int i)):=λ_ _ _ H _ I h=>wpAny_Constant_int ⟨.int i,H,I.tok _,⟨_,rfl⟩,h⟩
theorem dm {b j pos}:PE X (.Constant (.bool b) j pos) (tC (.bl b)):=λ_ _ _ H _ I h=>Constant_bool ⟨.bl b,H,I,rfl,h⟩
theorem Ce {j pos}:PE X (.Constant .none j pos) (tC .non):=λ_ _ _ H _ I h=>Constant_none ⟨.non,H,I,rfl,h⟩
theorem aS {x j pos}:PE X (.Constant (.str x) j pos) (tC (.str x)):=λ_ _ _ H _ I h=>Calls.Constant_str ⟨.str x,H,I.tok _,⟨_,rfl⟩,h⟩
def Gl (X:Cx) (x:Str):Prop:=X.env.kindOf x=some .globalImplicit
theorem lY {σ:St} {H:Hp} (I:Inv X pins σ H s) (L:Gl X x) (F:X.mg x=some u) (h:Q u s)
  (B:(x ==("__debug__" : Str))=false:=by decide):wpAny (model X.prog X.w) X.A (eval (.Name x pos) X.env) Q E s :=
 Calls.Name_function_global I.ok.kind L (Calls.loadGlobal_global (by rw[I.ok.glob];exact I.mod.glob.keeps I.bk) F h) B
theorem eJ {σ:St} {H:Hp} (I:Inv X pins σ H s) (Y:Gl X x) (L:X.mg x=none) (Z:x_ x=some u) (h:Q u s)
  (F:x ≠ "__name__" := by decide) (B:(x ==("__debug__" : Str))=false:=by decide):wpAny (model X.prog X.w) X.A (eval (.Name x pos) X.env) Q E s:=by
 obtain⟨mb,h1,h2⟩:=I.mod.blt;exact Calls.Name_function_global I.ok.kind Y (Calls.loadGlobal_builtin (by rw[I.ok.glob];exact I.mod.glob.keeps I.bk) L (by rw[I.ok.blt];exact h1.keeps I.bk) ((h2 x F).trans Z) h) B
theorem EG {v:V} (L:Gl X x) (F:X.mg x=some u) (r:bq v u) (B:(x ==("__debug__" : Str))=false:=by decide):PE X (.Name x pos) (tC v) :=
 λ_ _ _ H _ I h=>lY I L F ⟨v,H,I,r,h⟩ B
theorem Ef {v:V} (Y:Gl X x) (L:X.mg x=none) (Z:x_ x=some u) (r:bq v u) (F:x ≠ "__name__" := by decide) (B:(x ==("__debug__" : Str))=false:=by decide):PE X (.Name x pos) (tC v) :=
 λ_ _ _ H _ I h=>eJ I Y L Z ⟨v,H,I,r,h⟩ F B
variable {a b:Expr} {ta tb:TE}
def PC (X:Cx) (F:CmpOp) (a b:Expr) (t:TE):Prop :=
 ∀ (pins:List (Addr × Obj)) (s:Shared) (σ:St) (H:Hp) (Q:VK),Inv X pins σ H s->t σ H Q ->
  wpAny (model X.prog X.w) X.A (eval a X.env) (λv s₁=>wpAny (model X.prog X.w) X.A (eval b X.env) (λu B=>wpAny (model X.prog X.w) X.A (s_ F v u) (EP X pins σ Q) X.xe B) X.xe s₁) X.xe s
theorem vP (b:Expr) {B:CmpOp} (h:B≠.In) (h2:B≠.NotIn):KS B b=false:=by
 have e1:(B == CmpOp.In)=false:=by cases B <;> first | rfl | exact absurd rfl h
 have e2:(B == CmpOp.NotIn)=false:=by cases B <;> first | rfl | exact absurd rfl h2
 cases b <;> simp[KS,e1,e2]
def yx (ta:TE):TE:=λσ H Q=>ta σ H λx H1=>Q (.bl (decide (x = .non))) H1
theorem bq.none_iff {x:V} {v:Value} (r:bq x v):(v == u9)=decide (x = .non):=by
 cases x with
 | non=>cases r;rfl
 | bl _=>cases r;rfl
 | int _=>obtain⟨t,rfl⟩:=r;rfl
 | str _=>obtain⟨t,rfl⟩:=r;rfl
 | byt _=>obtain⟨t,rfl⟩:=r;rfl
 | flt _=>obtain⟨t,rfl⟩:=r;rfl
 | ref _=>cases r;rfl
 | ty _=>cases r;rfl
theorem nj {j pos'} (ha:PE X a ta):PC X .Is a (.Constant .none j pos') (yx ta):=by
 intro pins s σ H Q I h;refine thn (ha pins s σ H _ I h) λv Z B=>?_
 obtain⟨x,H1,L,F,Y⟩:=B;exact Constant_none (is_none_gen ⟨.bl _,H1,L,by rw[F.none_iff];rfl,Y⟩)
def tB (t:TE):TT:=λσ H Q=>t σ H λx H1=>∃c,x = .bl c/\Q c H1
theorem nZ {B:CmpOp} {t:TE} (h:PC X B a b t) (h1:KS B b=false:=by first | exact vP _ ∅ ∅ | rfl):PE X (.Compare a [B] [b] pos) t:=λpins s σ H Q I F=>wpAny_Compare1 (h pins s σ H Q I F) h1
theorem oB {F:CmpOp} {t:TE} (h:PC X F a b t) (h1:KS F b=false:=by first | exact vP _ ∅ ∅ | rfl):PT X (.Compare a [F] [b] pos) (tB t):=by
 intro pins s σ H Q I Z;refine wpAny_isTrue_Compare1 (thn (h pins s σ H _ I Z) λv s1 h1=>thn h1 λu s2 h2=>thn h2 λc s3 B=>?_) h1
 obtain⟨x,H1,I1,L,Y⟩:=B;obtain⟨d,rfl,q⟩:=Y;cases L;exact z_ ⟨H1,I1,q⟩
theorem fo {t:TE} (h:PE X e t) (he : ∀B,isTrue e X.env B=(do let v <- B;standAt e.pos;holding [v] (truthy v)):=by intro _;rfl):PT X e (tB t):=by
 intro pins s σ H Q I Z;refine isTrue_plain (thn (h pins s σ H _ I Z) λv s1 F=>?_) (he _)
 obtain⟨x,H1,I1,L,Y⟩:=F;obtain⟨d,rfl,q⟩:=Y;cases L;exact z_ ⟨H1,I1,q⟩
variable {tA tB':TT} {rest:List Expr}
def Hq (t u:TT):TT:=λσ H Q=>t σ H λc H1=>if c=true then u σ H1 Q else Q false H1
def tOr (t u:TT):TT:=λσ H Q=>t σ H λc H1=>if c=true then Q true H1 else u σ H1 Q
def GR (t:TT):TT:=λσ H Q=>t σ H λc H1=>Q (!c) H1
theorem vo (ha:PT X a tA):PW X (.BoolOp .And [a] pos) tA:=by
 intro F pins s σ H Q I h;refine isTrue_and (thn (ha pins s σ H Q I h) λc B e=>?_)
 cases c with
 | true=>exact isTrue_and_nil e
 | false=>exact e
theorem qg (ha:PT X a tA):PW X (.BoolOp .Or [a] pos) tA:=by
 intro F pins s σ H Q I h;refine isTrue_or (thn (ha pins s σ H Q I h) λc B e=>?_)
 cases c with
 | false=>exact isTrue_or_nil e
 | true=>exact e
theorem uV (ha:PT X a tA) (hb:PW X (.BoolOp .And (b :: rest) pos) tB'):PW X (.BoolOp .And (a :: b :: rest) pos) (Hq tA tB'):=by
 intro Z pins s σ H Q I h;refine isTrue_and (thn (ha pins s σ H _ I h) λc Y B=>?_)
 obtain⟨H1,F,L⟩:=B;cases c with
 | true=>exact hb Z pins Y σ H1 Q F L
 | false=>exact⟨H1,F,L⟩
theorem rB (ha:PT X a tA) (hb:PW X (.BoolOp .Or (b :: rest) pos) tB'):PW X (.BoolOp .Or (a :: b :: rest) pos) (tOr tA tB'):=by
 intro Z pins s σ H Q I h;refine isTrue_or (thn (ha pins s σ H _ I h) λc Y B=>?_)
 obtain⟨H1,F,L⟩:=B;cases c with
 | true=>exact⟨H1,F,L⟩
 | false=>exact hb Z pins Y σ H1 Q F L
theorem vf (ha:PT X a tA):PT X (.UnaryOp .Not a pos) (GR tA):=by
 intro pins s σ H Q I h;exact isTrue_not (ha pins s σ H (λc H1=>Q (!c) H1) I h)
def Cv (ta tb:TE):TE:=λσ H Q=>ta σ H λx H1=>∃c,x = .bl c/\if c=true then tb σ H1 Q else Q (.bl false) H1
def Iq (ta tb:TE):TE:=λσ H Q=>ta σ H λx H1=>∃c,x = .bl c/\if c=true then Q (.bl true) H1 else tb σ H1 Q
def BW (ta:TE):TE:=λσ H Q=>ta σ H λx H1=>∃c,x = .bl c/\Q (.bl (!c)) H1
theorem cL {op} {t:TE} (h:PE X a t):PE X (.BoolOp op [a] pos) t:=λpins s σ H Q I B=>BoolOp_one (h pins s σ H Q I B)
theorem jq (ha:PE X a ta) (Y:PE X (.BoolOp .And (b :: rest) pos) tb):PE X (.BoolOp .And (a :: b :: rest) pos) (Cv ta tb):=by
 intro pins s σ H Q I h;refine BoolOp_and (thn (ha pins s σ H _ I h) λv s1 B=>?_)
 obtain⟨x,H1,L,Z,F⟩:=B;obtain⟨c,rfl,F⟩:=F;cases Z;refine z_ ?_
 cases c with
 | true=>exact Y pins s1 σ H1 Q L F
 | false=>exact⟨.bl false,H1,L,rfl,F⟩
theorem jF (ha:PE X a ta) (Y:PE X (.BoolOp .Or (b :: rest) pos) tb):PE X (.BoolOp .Or (a :: b :: rest) pos) (Iq ta tb):=by
 intro pins s σ H Q I h;refine BoolOp_or (thn (ha pins s σ H _ I h) λv s1 B=>?_)
 obtain⟨x,H1,L,Z,F⟩:=B;obtain⟨c,rfl,F⟩:=F;cases Z;refine z_ ?_
 cases c with
 | false=>exact Y pins s1 σ H1 Q L F
 | true=>exact⟨.bl true,H1,L,rfl,F⟩
theorem BZ (ha:PE X a ta):PE X (.UnaryOp .Not a pos) (BW ta):=by
 intro pins s σ H Q I h;refine UnaryOp_ (thn (ha pins s σ H _ I h) λv Z B=>?_)
 obtain⟨x,H1,Y,L,F⟩:=B;obtain⟨c,rfl,F⟩:=F;cases L;exact not_of (z_ ⟨.bl (!c),H1,Y,rfl,F⟩)
end
def SqL (K:fy) (H:Hp) (a:Addr) (xs:List V):Prop :=
 Rd H a (.lst xs) \/
  ∃(o:Obj) (its:Array Value) (n:Nat),K.lookup a=some o/\o.cls = .type "list" /\ o.dict=none/\o.data = .seq its n/\its.size<=g9/\bo xs its.toList
def SqT (K:fy) (H:Hp) (a:Addr) (xs:List V):Prop :=
 Rd H a (.tup xs) \/
  ∃(o:Obj) (its:Array Value) (n:Nat),K.lookup a=some o/\o.cls = .type "tuple" /\ o.data = .seq its n/\its.size<=g9/\bo xs its.toList
def Kc:Value->Option V
 | .none=>some .non
 | .bool b=>some (.bl b)
 | .int i _=>some (.int i)
 | .str x _=>some (.str x)
 | .bytes b _=>some (.byt b)
 | .float b _=>some (.flt b)
 | .ref a=>some (.ref a)
 | .type n=>some (.ty n)
 | _=>none
theorem bq.abs {x:V} (r:bq x u):Kc u=some x:=by
 cases x with
 | non=>cases r;rfl
 | bl _=>cases r;rfl
 | int _=>obtain⟨t,rfl⟩:=r;rfl
 | str _=>obtain⟨t,rfl⟩:=r;rfl
 | byt _=>obtain⟨t,rfl⟩:=r;rfl
 | flt _=>obtain⟨t,rfl⟩:=r;rfl
 | ref _=>cases r;rfl
 | ty _=>cases r;rfl
theorem bq.inj {x y:V} {u:Value} (r:bq x u) (q:bq y u):x=y:=ge (r.abs.symm.trans q.abs)
theorem bo.inj : ∀{xs ys:List V} {us:List Value},bo xs us->bo ys us->xs=ys
 | _,_,_,.nil,.nil=>rfl
 | _,_,_,.cons r t,.cons r' t'=>by rw[r.inj r',bo.inj t t']
section
variable {X:Cx} {σ:St} {H:Hp} {xs ys:List V}
theorem SqL.of (h:H a*>xs):SqL K H a xs:=.inl (.inl h)
theorem SqT.of (h:H a>>xs):SqT K H a xs:=.inl (.inl h)
theorem Inv.list (I:Inv X pins σ H s) (h:SqL X.K H a xs) : ∃its:List Value,bo xs its/\PlainL s.heap a its.toArray/\xs.length<=g9:=by
 rcases h with h | ⟨o,its,n,hk,hc,hd,hs,hz,r⟩
 .obtain⟨z,its,n,r,e⟩:=h.ok I.hok
  exact⟨its,r,⟨_,n,e,rfl,rfl,rfl⟩,z⟩
 .refine⟨its.toList,r,⟨o,n,I.kIn a o hk,hc,hd,by simpa using hs⟩,?_⟩
  have e:=r.length;simp only[zc] at e;omega
theorem Inv.tuple (I:Inv X pins σ H s) (h:SqT X.K H a xs) : ∃its:List Value,bo xs its/\IsTup s.heap a its.toArray/\xs.length<=g9:=by
 rcases h with h | ⟨o,its,n,hk,hc,hs,hz,r⟩
 .obtain⟨z,its,r,p⟩:=h.ok I.hok
  exact⟨its,r,p,z⟩
 .refine⟨its.toList,r,⟨o,I.kIn a o hk,hc,n,by simpa using hs⟩,?_⟩
  have e:=r.length;simp only[zc] at e;omega
theorem Inv.list_inj (I:Inv X pins σ H s) (h:SqL X.K H a xs) (h':SqL X.K H a ys):xs=ys:=by
 obtain⟨its,r,⟨o,n,e,_,_,d⟩,_⟩:=I.list h;obtain⟨its',r',⟨o',F,B,_,_,d'⟩,_⟩:=I.list h';rw[e] at B;cases B;rw[d] at d'
 injection d' with d1 _
 have:its=its':=by simpa using congrArg Array.toList d1
 subst this;exact r.inj r'
theorem Inv.tuple_inj (I:Inv X pins σ H s) (h:SqT X.K H a xs) (h':SqT X.K H a ys):xs=ys:=by
 obtain⟨its,r,⟨o,e,_,n,d⟩,_⟩:=I.tuple h;obtain⟨its',r',⟨o',B,_,F,d'⟩,_⟩:=I.tuple h';rw[e] at B;cases B;rw[d] at d'
 injection d' with d1 _
 have:its=its':=by simpa using congrArg Array.toList d1
 subst this;exact r.inj r'
end
abbrev Cx.wish (X:Cx) (E:Value->Shared->Prop):Cx:={ X with xe:=E }
abbrev Cx.nox (X:Cx):Cx:=X.wish λ_ _=>False
theorem Cx.Ok.wish {X:Cx} (ok:X.Ok) (E:Value->Shared->Prop):(X.wish E).Ok :=
 ⟨ok.mod,ok.kind,ok.glob,ok.blt,ok.above,ok.inj,ok.has,ok.cab,ok.hd,ok.frames,ok.stk,ok.exf,ok.bs,ok.bsz,ok.noex,ok.exfs,ok.funs,ok.frf⟩
theorem Cx.Ok.unwish {X:Cx} (ok:(X.wish E).Ok):X.Ok :=
 ⟨ok.mod,ok.kind,ok.glob,ok.blt,ok.above,ok.inj,ok.has,ok.cab,ok.hd,ok.frames,ok.stk,ok.exf,ok.bs,ok.bsz,ok.noex,ok.exfs,ok.funs,ok.frf⟩
section
variable {X:Cx} {σ:St} {H:Hp}
theorem Inv.wish (I:Inv X pins σ H s) (E:Value->Shared->Prop):Inv (X.wish E) pins σ H s:=⟨I.ok.wish E,I.os,I.bare,I.base,I.loc,I.cell,I.free,I.freeC,I.pin,I.hok,I.len⟩
theorem Inv.unwish (I:Inv (X.wish E) pins σ H s):Inv X pins σ H s:=⟨I.ok.unwish,I.os,I.bare,I.base,I.loc,I.cell,I.free,I.freeC,I.pin,I.hok,I.len⟩
theorem SP.unwish {D:pk} {f:Flow} {s':Shared} (h:SP (X.wish E) pins D f s'):SP X pins D f s':=by
 cases f with
 | next=>obtain⟨σ',H',I,q⟩:=h;exact⟨σ',H',I.unwish,q⟩
 | brk=>obtain⟨σ',H',I,q⟩:=h;exact⟨σ',H',I.unwish,q⟩
 | cont=>obtain⟨σ',H',I,q⟩:=h;exact⟨σ',H',I.unwish,q⟩
 | ret u=>obtain⟨v,σ',H',I,r,q⟩:=h;exact⟨v,σ',H',I.unwish,r,q⟩
theorem PSs.nox {st:List Stmt} {t:TS} (h:PSs X.nox st t):PSs X st t:=λpins s σ H D I B =>
 FV (h pins s σ H D (I.wish _) B) (λ_ _ q=>q.unwish) λ_ _ z=>F_ z
end
section
variable {X:Cx} {t u:TS} {te:TE}
def jM:TS:=λD σ H=>D.nx σ H
def gI (t u:TS):TS:=λD σ H=>t { D with nx:=u D } σ H
theorem aL:PSs X [] jM:=λ_ _ σ H _ I h=>wpAny_execs_nil ⟨σ,H,I,h⟩
theorem ag (h1:PS X st t) (h2:PSs X rest u):PSs X (st :: rest) (gI t u):=by
 intro pins s σ H D I h;refine wpAny_execs_cons (thn (h1 pins s σ H { D with nx:=u D } I h) λf F q=>?_)
 cases f with
 | next =>
  obtain⟨σ',H',B,q⟩:=q;exact h2 pins F σ' H' D B q
 | ret v=>exact q
 | brk=>exact q
 | cont=>exact q
theorem aj (h1:PS X st t):PSs X [st] t:=by
 intro pins s σ H D I h;refine wpAny_execs_cons (thn (h1 pins s σ H D I h) λf B q=>?_)
 cases f with
 | next=>exact wpAny_execs_nil q
 | ret v=>exact q
 | brk=>exact q
 | cont=>exact q
theorem Inv.quiet {σ:St} {H:Hp} (I:Inv X pins σ H s):interactive X.env=false:=by simp[interactive,I.ok.kind]
def Bq (te:TE):TS:=λD σ H=>te σ H λ_ H1=>D.nx σ H1
theorem ci (he:PE X e te) (F:L9 e none pos.line X.env=pure false:=by rfl):PS X (.Expr e pos) (Bq te):=by
 intro pins s σ H D I h;exact wpAny_Expr_any (thn (he pins s σ H _ I h) λv s1 B=>by obtain⟨x,H1,L,Z,Y⟩:=B;exact(⟨σ,H1,L,Y⟩)) I.quiet F
def Hz (te:TE):TS:=λD σ H=>te σ H D.rt
theorem aw (he:PE X e te):PS X (.Return (some e) pos) (Hz te):=by
 intro pins s σ H D I h;exact wpAny_Return_some (thn (he pins s σ H _ I h) λv Z B=>by obtain⟨x,H1,L,F,Y⟩:=B;exact(⟨x,σ,H1,L,F,Y⟩))
def qH (c:TT) (t u:TS):TS:=λD σ H=>c σ H λb H1=>if b=true then t D σ H1 else u D σ H1
theorem bg {c:Expr} {a b:List Stmt} {tc:TT} (hc:PT X c tc) (ha:PSs X a t) (Z:PSs X b u):PS X (.If c a b pos) (qH tc t u):=by
 intro pins s σ H D I h;refine wpAny_If (thn (hc pins s σ H _ I h) λd Y B=>?_)
 obtain⟨H1,L,F⟩:=B;cases d with
 | true=>exact ha pins Y σ H1 D L F
 | false=>exact Z pins Y σ H1 D L F
def yq:TS:=λ_ _ _=>False
theorem dX:PS X st yq:=λ_ _ _ _ _ _ h=>h.elim
end
abbrev TG:=V->St->Hp->(St->Hp->Prop)->Prop
abbrev TGs:=List V->St->Hp->(St->Hp->Prop)->Prop
def PG (X:Cx) (B:Expr) (t:TG):Prop :=
 ∀ (pins:List (Addr × Obj)) (s:Shared) (σ:St) (H:Hp) (v:V) (u:Value) (Q:St->Hp->Prop),Inv X pins σ H s->bq v u->t v σ H Q ->
  wpAny (model X.prog X.w) X.A (assign B X.env u) (λ_ s'=>∃ σ' H',Inv X pins σ' H' s'/\Q σ' H') X.xe s
def PGs (X:Cx) (ts:List Expr) (t:TGs):Prop :=
 ∀ (pins:List (Addr × Obj)) (s:Shared) (σ:St) (H:Hp) (vs:List V) (us:List Value) (Q:St->Hp->Prop),Inv X pins σ H s->bo vs us->t vs σ H Q ->
  wpAny (model X.prog X.w) X.A (assignInOrder ((assignEach ts X.env).map (·.2)) us) (λ_ s'=>∃ σ' H',Inv X pins σ' H' s'/\Q σ' H') X.xe s
abbrev TIp:=V->V->Hp->VK->Prop
def PIp (X:Cx) (B:Operator) (t:TIp):Prop :=
 ∀ (pins:List (Addr × Obj)) (s:Shared) (σ:St) (H:Hp) (x y:V) (v u:Value) (Q:VK),Inv X pins σ H s->bq x v->bq y u->t x y H Q ->
  wpAny (model X.prog X.w) X.A (inplaceOp B v u) (EP X pins σ Q) X.xe s
section
variable {X:Cx}
def eR (i:Nat):TG:=λv σ H Q=>Q (σ.set i (some v)) H
theorem ay (i:Nat) {x:Str} (L:X.N.Nodup:=by first | assumption | exact of_decide_eq_true (by kernel_rfl)) (hi:X.N[i]? = some x:=by exact rfl) (Y:Loc X.env.scope x:=by first | exact Or.inl rfl | exact Or.inr rfl) (F:X.fn x=true\/X.env.scope.names.lookup x=some .local:=by first | exact .inl rfl | exact .inr rfl | assumption):PG X (.Name x pos) (eR i):=by
 intro pins s σ H v u Q I r h;exact wpAny_assign_Name (rg I L hi Y r (λs' B=>⟨_,H,B,h⟩) F)
def Bk:TGs:=λvs σ H Q=>vs=[]/\Q σ H
def rc (t:TG) (u:TGs):TGs:=λvs σ H Q=>∃v r,vs=v :: r/\t v σ H λσ' H'=>u r σ' H' Q
theorem dO:PGs X [] Bk:=by
 intro pins s σ H vs us Q I r h;obtain⟨e,h⟩:=h;subst e;cases r;exact assignInOrder_nil ⟨σ,H,I,h⟩
theorem bj {t:TG} {u:TGs} (h1:PG X e t) (h2:PGs X es u)
  (L:(assignEach (e :: es) X.env).map (·.2)=assign e X.env ::(assignEach es X.env).map (·.2):=by rfl):PGs X (e :: es) (rc t u):=by
 intro pins s σ H vs us Q I r h;obtain⟨v,vr,e1,h⟩:=h;subst e1;cases r with
 | cons r rr =>
  rw[L];refine assignInOrder_cons (thn (h1 pins s σ H _ _ _ I r h) λ_ s1 B=>?_)
  obtain⟨F,H1,Z,Y⟩:=B;exact h2 pins s1 F H1 _ _ Q Z rr Y
def KC (K:fy) (n:Nat) (t:TGs):TG:=λv σ H Q=>∃a xs,v = .ref a/\SqT K H a xs/\xs.length=n/\t xs σ H Q
theorem Hm {t:TGs} (hc:X.calm=true) (h:PGs X es t)
  (hn:(assignEach es X.env).length=n:=by rfl) (F:(assignEach es X.env).findIdx? (·.1)=none:=by rfl):PG X (.Tuple es k pos) (KC X.K n t):=by
 intro pins s σ H v u Q I r B;obtain⟨a,xs,e1,Z,hl,B⟩:=B;subst e1;cases r;obtain⟨its,L,ht,hz⟩:=I.tuple Z;refine assign_Tuple_tuple (I.ok.hd hc) ht (by simp[hn,<- hl,L.length]) F λh' Y=>?_
 have I1:Inv X pins σ H { s with heap:=h' }:=I.kept (t':=s.toks) λb o e=>Y b o (k9 (fi e)) e
 exact h pins _ σ H xs _ Q I1 (by simpa using L) B
def BH (te:TE) (g:TG):TS:=λD σ H=>te σ H λx H1=>g x σ H1 D.nx
theorem aC (i:Nat) {x:Str} {e:Expr} {te:TE} {pos':Pos} (he:PE X e te) (hN:X.N.Nodup:=by assumption) (hi:X.N[i]? = some x:=by exact rfl) (L:Loc X.env.scope x:=by first | exact Or.inl rfl | exact Or.inr rfl) (Z:L9 e (some (.Name x pos')) pos.line X.env=pure false:=by rfl) (Y:X.fn x=true\/X.env.scope.names.lookup x=some .local:=by first | exact .inl rfl | exact .inr rfl | assumption) :
  PS X (.Assign [.Name x pos'] e pos) (BH te (eR i)):=by
 intro pins s σ H D I h;refine wpAny_Assign_Name (thn (he pins s σ H _ I h) λv s1 B=>?_) Z
 obtain⟨y,H1,I1,r1,q1⟩:=B;exact rg I1 hN hi L r1 (λs2 F=>⟨_,H1,F,q1⟩) Y
def HV (i:Nat) (te:TE) (B:TIp):TS:=λD σ H=>∃x,σ[i]? = some (some x)/\te σ H λy H1=>B x y H1 λz H2=>D.nx (σ.set i (some z)) H2
theorem Ib (i:Nat) {x:Str} {e:Expr} {te:TE} {op:Operator} {ti:TIp} {pos':Pos} (he:PE X e te) (ho:PIp X op ti) (hN:X.N.Nodup:=by assumption) (hi:X.N[i]? = some x:=by exact rfl) (hx:Loc X.env.scope x:=by first | exact Or.inl rfl | exact Or.inr rfl) (hf:X.fn x=true\/X.env.scope.names.lookup x=some .local:=by first | exact .inl rfl | exact .inr rfl | assumption) :
  PS X (.AugAssign (.Name x pos') op e pos) (HV i te ti):=by
 intro pins s σ H D I h;obtain⟨v,e1,h⟩:=h;obtain⟨m,hn,hl⟩:=I.loc;have aa:Vis X.env.scope x:=by rcases hx with k | k;exact .inl k;exact .inr (.inl k)
 obtain⟨u,r,l⟩:=hl i x v hi e1 aa;refine wpAny_AugAssign_Name ?_
 have go:wpAny (model X.prog X.w) X.A (eval e X.env) (λw Z=>wpAny (model X.prog X.w) X.A (inplaceOp op u w) (λr Y=>wpAny (model X.prog X.w) X.A (storeName X.env x r) (λ_=>SP X pins D .next) X.xe Y) X.xe Z) X.xe s:=by
  refine thn (he pins s σ H _ I h) λw s1 F=>?_
  obtain⟨y,H1,I1,r1,q1⟩:=F;refine thn (ho pins s1 σ H1 v y u w _ I1 r r1 q1) λz s2 B=>?_
  obtain⟨zv,H2,I2,r2,q2⟩:=B;exact rg I2 hN hi hx r2 (λs3 I3=>⟨_,H2,I3,q2⟩) hf
 rcases l with⟨L,hm⟩ | ⟨L,c,hc,hcell⟩
 .exact wpAny_loadName_local I.ok.kind L hn hm go
 .rcases L with L | L
  .exact wpAny_loadName_cell I.ok.kind L hc hcell go
  .rcases hx with k | k
   .have:X.env.scope.names.lookup x=some .free:=L
    rw[k] at this;cases this
   .have:X.env.scope.names.lookup x=some .free:=L
    rw[k] at this;cases this
end
section
variable {X:Cx}
def yl (c:TT) (tb:TS):TS:=λD σ H=>∃W:Nat->St->Hp->Prop,(∃m,W m σ H)/\∀m σ H,W m σ H ->
 c σ H λb H1=>if b=true then ∃N:St->Hp->Prop,(∀ σ' H',N σ' H'->∃B,B < m/\W B σ' H')/\tb { D with nx:=N,ct:=N,bk:=D.nx } σ H1 else D.nx σ H1
theorem vV {c:Expr} {tc:TT} {tb:TS} (hp:PassesOwn (model X.prog X.w) X.A X.env X.xe) (hc:PT X c tc) (hb:PSs X body tb):PS X (.While c body [] pos) (yl tc tb):=by
 intro pins s σ H D I h;obtain⟨W,⟨m0,w0⟩,Y⟩:=h;refine wpAny_While (codeAny_whileLoop (λn s'=>∃ σ' H',Inv X pins σ' H' s'/\W n σ' H') ?_ m0 ⟨σ,H,I,w0⟩)
 rintro n s1 ⟨F,H1,I1,w1⟩
 refine KR hp (thn (hc pins s1 F H1 _ I1 (Y n F H1 w1)) λb s2 L=>?_)
 obtain⟨H2,I2,q2⟩:=L;cases b with
 | true =>
  obtain⟨N,hN,q2⟩:=q2;rw[if_pos rfl];refine KR hp (thn (hb pins s2 F H2 _ I2 q2) λf s3 q3=>?_)
  cases f with
  | next =>
   obtain⟨B,Z,I3,n3⟩:=q3;obtain⟨m',hm,w3⟩:=hN B Z n3;exact⟨m',hm,B,Z,I3,w3⟩
  | cont =>
   obtain⟨B,Z,I3,n3⟩:=q3;obtain⟨m',hm,w3⟩:=hN B Z n3;exact⟨m',hm,B,Z,I3,w3⟩
  | brk=>exact q3
  | ret v=>exact q3
 | false =>
  rw[if_neg i_];exact wpAny_execs_nil ⟨F,H2,I2,q2⟩
end
structure It where
 go:Nat->Hp->Prop
 yld:Nat->Hp->V->Hp->Prop
 stop:Nat->Hp->Prop
def ri (X:Cx) (pins:List (Addr × Obj)) (H:Hp) (b:Addr):Prop :=
 H b=none/\b≠X.env.locals/\b∉X.fs/\(b∈X.ex\/X.s₀.heap.objs.size<=b)/\(∀x c,X.env.cells.lookup x=some c->c≠b)/\∀p∈X.pn++pins,p.1≠b
theorem Inv.fpOk {X:Cx} {σ:St} {H H':Hp} (I:Inv X pins σ H s) (B:s.heap.objs.size<=b) (F:H' b=none):ri X pins H' b:=by
 refine⟨F,nH (g7 I.lt B),I.nofs B,.inr (ja I.sz B),λx c e z=>?_,λp hp z=>?_⟩
 .obtain⟨v,q⟩:=I.cell x c e
  exact absurd (g7 q.lt (by rw[z];exact B)) (n_ _)
 .exact absurd (g7 (fi (I.pin p hp).1) (by rw[z];exact B)) (n_ _)
structure mQ (P:Program) (w:World) (K:fy) (tg:Expr) (J:It) (fp:List Addr) (it:Addr) (tn:Nat->Heap->Prop):Prop where
 mem:it∈fp
 obj : ∀i h,tn i h->∀b∈fp,∃o,h.get? b=some o/\∀v,o.data≠.cell v
 keep : ∀i h h',tn i h->(∀b∈fp,∀o,h.get? b=some o->h'.get? b=some o)->tn i h'
 item : ∀(X:Cx),X.prog=P->X.w=w->X.K=K->X.calm=true->∀(i:Nat) (pins:List (Addr × Obj)) (s:Shared) (σ:St) (H:Hp) (E:Value->Shared->Prop),Inv X pins σ H s->(∀b∈fp,ri X pins H b)->tn i s.heap->J.go i H ->
  wpAny (model P w) X.A (G2 (.ref it)) (λr s1=>∃u,r=some u /\
   wpAny (model P w) X.A (letOwnedTupleGo tg (.ref it) u) (λ_ s2=>∃x H',Inv X pins σ H' s2/\bq x u/\J.yld i H x H'/\tn (i+1) s2.heap/\∀b∈fp,H' b=none) E s1) E s
 done : ∀(X:Cx),X.prog=P->X.w=w->X.K=K->X.calm=true->∀(i:Nat) (pins:List (Addr × Obj)) (s:Shared) (σ:St) (H:Hp) (E:Value->Shared->Prop),Inv X pins σ H s->(∀b∈fp,ri X pins H b)->tn i s.heap->J.stop i H ->
  wpAny (model P w) X.A (G2 (.ref it)) (λr s1=>r=none/\Inv X pins σ H s1) E s
 self : ∀(A:Around) (i:Nat) (s:Shared) (Q:Value->Shared->Prop) (E:Value->Shared->Prop),tn i s.heap->Q (.ref it) s->wpAny (model P w) A (pyIter (.ref it)) Q E s
abbrev TI:=St->Hp->(It->Hp->Prop)->Prop
def PIE (X:Cx) (pins:List (Addr × Obj)) (σ:St) (tg:Expr) (R:It->Hp->Prop) (B:Value) (F:Shared):Prop :=
 ∃(it:Addr) (fp:List Addr) (L:Nat->Heap->Prop) (J:It) (H':Hp),B = .ref it/\Inv X pins σ H' F/\mQ X.prog X.w X.K tg J fp it L/\L 0 F.heap/\(∀b∈fp,ri X pins H' b)/\R J H'
def PI (X:Cx) (tg iter:Expr) (wi:TI):Prop :=
 ∀ (pins:List (Addr × Obj)) (s:Shared) (σ:St) (H:Hp) (R:It->Hp->Prop),Inv X pins σ H s->wi σ H R ->
  wpAny (model X.prog X.w) X.A (eval iter X.env) (λv B=>wpAny (model X.prog X.w) X.A (pyIter v) (PIE X pins σ tg R) X.xe B) X.xe s
theorem oM {o:Obj} {n:String} {vs:Array Value} {Q:Unit->Shared->Prop} (Z:s.heap.get? it=some o) (L:o.cls = .type n) (F:o.data = .fields vs)
    (Y:["enumerate","zip","dict_itemiterator","dict_reverseitemiterator","odict_iterator","itertools.zip_longest","itertools.pairwise"].contains n=false) (B:Q Unit.unit s):wpAny M A (letOwnedTupleGo tg (.ref it) u) Q E s:=by
  unfold letOwnedTupleGo;cases tg <;> first
    | exact e_ B
    | (cases u <;> first
        | exact e_ B
        | (refine a_ (wpAny_load Z ?_)
           rw[L,F]
           show wpAny M A (if (["enumerate","zip","dict_itemiterator","dict_reverseitemiterator","odict_iterator","itertools.zip_longest","itertools.pairwise"].contains n && vs[0]? == some (x4 _))=true then _ else _) Q E s
           rw[if_neg (by intro h;rw[Y,Bool.false_and] at h;cases h)]
           exact e_ B))
def Itl (K:fy) (a:Addr):It :=
 ⟨λi H=>∃xs x,SqL K H a xs/\xs[i]? = some x,λi H x H'=>H'=H/\∀xs,SqL K H a xs->xs[i]? = some x,λi H=>∃xs,SqL K H a xs/\xs.length<=i⟩
def Itt (K:fy) (a:Addr):It :=
 ⟨λi H=>∃xs x,SqT K H a xs/\xs[i]? = some x,λi H x H'=>H'=H/\∀xs,SqT K H a xs->xs[i]? = some x,λi H=>∃xs,SqT K H a xs/\xs.length<=i⟩
def Itr (lo:Int) (n:Nat):It:=⟨λi _=>i < n,λi H x H'=>H'=H/\x = .int (lo+i),λi _=>n<=i⟩
theorem Ar (a it:Addr):mQ P w K tg (Itl K a) [it] it (λi h=>h.IsListIter it a i) where
 mem:=by simp
 obj:=λi h st b B=>by
  have e:b=it:=by simpa using B
  subst e;obtain⟨o,e,c,d⟩:=st;exact⟨o,e,λv z=>by rw[d] at z;cases z⟩
 keep:=λi h h' st k=>st.at λo e=>k it (by simp) o e
 item:=by
  intro X hP hw hK hc i pins s σ H E I Y st hg;subst hP hw hK;obtain⟨xs,x,L,hx⟩:=hg;obtain⟨its,rv,p,hz⟩:=I.list L;obtain⟨u,hu,ru⟩:=rv.get hx;obtain⟨f0,f1,f2,Z,f4,f5⟩:=Y it (by simp)
  refine wpAny_pyNext_list_item st p.isList (x:=u) (by simpa using hu) λh' F sb=>?_
  have I1:Inv X pins σ H { s with heap:=h' }:=I.turned (t':=s.toks) (λb o B e=>(sb.2 b B).trans e) f0 f1 Z f4 f5
  obtain⟨o,e,c,d⟩:=id F;exact⟨u,rfl,oM (s:={ s with heap:=h' }) e c d ∅ ⟨x,H,I1,ru,⟨rfl,λys hy=>by rw[I.list_inj hy L];exact hx⟩,F,λb B=>(Y b B).1⟩⟩
 done:=by
  intro X hP hw hK hc i pins s σ H E I Y st hg;subst hP hw hK;obtain⟨xs,L,hx⟩:=hg;obtain⟨its,rv,p,hz⟩:=I.list L;obtain⟨f0,f1,f2,Z,f4,f5⟩:=Y it (by simp)
  have hl:=rv.length;exact wpAny_pyNext_list_end (I.ok.hd hc) st p.isList (by simp;omega) λh' eb=>⟨rfl,I.turned (t':=s.toks) (λb o B e=>eb b o B e) f0 f1 Z f4 f5⟩
 self:=λ_ _ _ _ _ st h=>wpAny_pyIter_listiter st h
theorem yh (a it:Addr):mQ P w K tg (Itt K a) [it] it (λi h=>h.IsTupleIter it a i) where
 mem:=by simp
 obj:=λi h st b B=>by
  have e:b=it:=by simpa using B
  subst e;obtain⟨o,e,c,d⟩:=st;exact⟨o,e,λv z=>by rw[d] at z;cases z⟩
 keep:=λi h h' st k=>st.at λo e=>k it (by simp) o e
 item:=by
  intro X hP hw hK hc i pins s σ H E I Y st hg;subst hP hw hK;obtain⟨xs,x,L,hx⟩:=hg;obtain⟨its,rv,p,hz⟩:=I.tuple L;obtain⟨u,hu,ru⟩:=rv.get hx;obtain⟨f0,f1,f2,Z,f4,f5⟩:=Y it (by simp)
  refine wpAny_pyNext_tuple_item st (show s.heap.IsTuple a its.toArray from p) (x:=u) (by simpa using hu) λh' F sb=>?_
  have I1:Inv X pins σ H { s with heap:=h' }:=I.turned (t':=s.toks) (λb o B e=>(sb.2 b B).trans e) f0 f1 Z f4 f5
  obtain⟨o,e,c,d⟩:=id F;exact⟨u,rfl,oM (s:={ s with heap:=h' }) e c d ∅ ⟨x,H,I1,ru,⟨rfl,λys hy=>by rw[I.tuple_inj hy L];exact hx⟩,F,λb B=>(Y b B).1⟩⟩
 done:=by
  intro X hP hw hK hc i pins s σ H E I Y st hg;subst hP hw hK;obtain⟨xs,L,hx⟩:=hg;obtain⟨its,rv,p,hz⟩:=I.tuple L;obtain⟨f0,f1,f2,Z,f4,f5⟩:=Y it (by simp)
  have hl:=rv.length;exact wpAny_pyNext_tuple_end (I.ok.hd hc) st (show s.heap.IsTuple a its.toArray from p) (by simp;omega) λh' eb=>⟨rfl,I.turned (t':=s.toks) (λb o B e=>eb b o B e) f0 f1 Z f4 f5⟩
 self:=λ_ _ _ _ _ st h=>wpAny_pyIter_tupleiter st h
theorem xE (it:Addr) (lo:Int) (n:Nat):mQ P w K tg (Itr lo n) [it] it (λi h=>IsRangeIter h it (lo+(i:Nat) * 1) ((n:Int) - (i:Nat)) 1) where
 mem:=by simp
 obj := λi h st b B=>by
  have e:b=it:=by simpa using B
  subst e;exact⟨_,st,λv z=>by
   have z':Data.fields _=Data.cell v:=z
   cases z'⟩
 keep:=λi h h' st k=>k it (by simp) _ st
 item:=by
  intro X hP hw hK hc i pins s σ H E I L st Z;subst hP hw hK;obtain⟨f0,f1,f2,Y,f4,f5⟩:=L it (by simp)
  have W:=Walks.range (prog:=X.prog) (w:=X.w) (I.ok.hd hc) it lo 1 n;refine W.item i s _ _ Z st λv h' tk hv F kk=>?_
  obtain⟨t,rfl⟩:=hv;have I1:Inv X pins σ H { s with heap:=h',toks:=tk }:=I.turned (λb o B e=>kk b o (by simpa using B) e) f0 f1 Y f4 f5
  refine⟨_,rfl,oM (s:={ s with heap:=h',toks:=tk }) (n := "range_iterator") F rfl rfl ∅ ⟨.int (lo+i),H,I1,⟨t,?_⟩,⟨rfl,rfl⟩,F,λb B=>(L b B).1⟩⟩
  rw[Int.mul_one]
 done:=by
  intro X hP hw hK hc i pins s σ H E I L st Z;subst hP hw hK;obtain⟨f0,f1,f2,Y,f4,f5⟩:=L it (by simp)
  exact wpAny_pyNext_range_end (I.ok.hd hc) st (by have:n<=i:=Z;omega) λh' eb=>⟨rfl,I.turned (t':=s.toks) (λb o B e=>eb b o B e) f0 f1 Y f4 f5⟩
 self:=λ_ _ _ _ _ st h=>wpAny_pyIter_rangeiter st h
section
variable {X:Cx}
theorem we {σ:St} {H:Hp} {R:It->Hp->Prop} {hi:Int} {t u v:Tok} (I:Inv X pins σ H s) (h1 : -(2 ^ 62)<=lo) (h2:lo < 2 ^ 62) (Y : -(2 ^ 62)<=hi) (L:hi < 2 ^ 62)
  (q:R (Itr lo (hi - lo).toNat) H):wpAny (model X.prog X.w) X.A (pyIter (.ref s.heap.objs.size)) (PIE X pins σ tg R) E { s with heap:=s.heap.push { cls:=.type "range",data:=.fields #[.int lo t,.int hi u,.int 1 v] },toks:=tk }:=by
 refine wpAny_pyIter_range (IsRange.new ..) (small_one h1 h2 Y L) ?_
 have B:Inv X pins σ H { s with heap:=s.heap.push { cls:=.type "range",data:=.fields #[.int lo t,.int hi u,.int 1 v] },toks:=tk }:=I.kept λb o e=>c_ _ e
 refine⟨(s.heap.push { cls:=.type "range",data:=.fields #[.int lo t,.int hi u,.int 1 v] }).objs.size,[(s.heap.push { cls:=.type "range",data:=.fields #[.int lo t,.int hi u,.int 1 v] }).objs.size],_,_,H,rfl,
  B.kept (t':=tk) λb o e=>c_ _ e,xE _ lo (hi - lo).toNat,?_,λb F=>?_,q⟩
 .have e1:lo+((0:Nat):Int) * 1=lo:=by simp
  have e2:(((hi - lo).toNat:Nat):Int) - ((0:Nat):Int)=Builtin.Range.rangeSize lo hi 1:=by rw[rangeSize_one];split <;> omega
  show IsRangeIter _ _ (lo+((0:Nat):Int) * 1) ((((hi - lo).toNat:Nat):Int) - ((0:Nat):Int)) 1
  rw[e1,e2];exact gr _ rfl
 .have e:b=(s.heap.push { cls:=.type "range",data:=.fields #[.int lo t,.int hi u,.int 1 v] }).objs.size:=by simpa using F
  subst e;exact B.fpOk (h_ _) (B.hok.fresh (h_ _))
def DU (ta:TA):TI:=λσ H R=>ta σ H λvs H1=>∃j:Int,vs=[.int j]/\-(2 ^ 62)<=j/\j < 2 ^ 62/\R (Itr 0 j.toNat) H1
def Cq (ta:TA):TI:=λσ H R=>ta σ H λvs H1=>∃i j:Int,vs=[.int i,.int j]/\(-(2 ^ 62)<=i/\i < 2 ^ 62/\-(2 ^ 62)<=j/\j < 2 ^ 62)/\R (Itr i (j - i).toNat) H1
theorem fG {a:Expr} {ta:TA} {p:Pos} (Y:Gl X "range") (L:X.mg "range" = none) (ha:PA X [a] ta) (hs:jc [a] X.env=[(false,eval a X.env)]:=by rfl):PI X tg (.Call (.Name "range" p) [a] [] pos) (DU ta):=by
 intro pins s σ H R I h;refine Call_ (eJ I Y L boot_range (k7 (thn (ha pos pins s σ H _ I h) λus s1 B=>?_) hs rfl))
 obtain⟨vs,H1,I1,r1,F⟩:=B;obtain⟨j,e,F,Z,q⟩:=F;subst e;cases r1 with
 | cons r rr =>
  cases rr;obtain⟨t,rfl⟩:=r;exact call_range_1 (we I1 () () F Z (by simpa using q))
theorem At {a b:Expr} {ta:TA} {p:Pos} (Z:Gl X "range") (Y:X.mg "range" = none) (ha:PA X [a,b] ta) (hs:jc [a,b] X.env=[(false,eval a X.env),(false,eval b X.env)]:=by rfl) (B:jc [b] X.env=[(false,eval b X.env)]:=by rfl) :
  PI X tg (.Call (.Name "range" p) [a,b] [] pos) (Cq ta):=by
 intro pins s σ H R I h;refine Call_ (eJ I Z Y boot_range (k7 (thn (ha pos pins s σ H _ I h) λus s1 ⟨vs,H1,I1,r1,F⟩=>?_) (by rw[hs,B]) (by rw[B];rfl)))
 obtain⟨i,j,e,⟨F,q2,q3,q4⟩,q⟩:=F;subst e;cases r1 with
 | cons r L =>
  cases L with
  | cons r' L =>
   cases L;obtain⟨t,rfl⟩:=r;obtain⟨t',rfl⟩:=r';exact call_range_2 (we I1 F q2 q3 q4 q)
def IV (wi:TI) (g:TG) (tb:TS):TS:=λD σ H=>wi σ H λJ H1=>∃W:Nat->Nat->St->Hp->Prop,(∃m,W 0 m σ H1)/\∀i m σ H,W i m σ H ->
 (J.stop i H/\D.nx σ H)\/(J.go i H/\∃N:St->Hp->Prop,(∀ σ' H',N σ' H'->∃F,F < m/\W (i+1) F σ' H')/\∀x H',J.yld i H x H'->g x σ H' λB H2=>tb { D with nx:=N,ct:=N,bk:=D.nx } B H2)
def qu (fp:List Addr) (h:Heap):List (Addr × Obj):=fp.filterMap λb=>(h.get? b).map λo=>(b,o)
theorem ld {o:Obj} (B:b∈fp) (e:h.get? b=some o):(b,o)∈qu fp h:=List.mem_filterMap.mpr ⟨b,B,by rw[e];rfl⟩
theorem Ax {p:Addr × Obj} (hp:p∈qu fp h):p.1∈fp/\h.get? p.1=some p.2:=by
 obtain⟨b,B,e⟩:=List.mem_filterMap.mp hp;cases q:h.get? b with
 | none=>rw[q] at e;cases e
 | some o =>
  rw[q] at e;have F:(b,o)=p:=ge e
  subst F;exact⟨B,q⟩
theorem Inv.pinned {σ:St} {H:Hp} (I:Inv X pins σ H s) (Y : ∀b∈fp,ri X pins H b) (Z : ∀b∈fp,∃o,s.heap.get? b=some o/\∀v,o.data≠.cell v):Inv X (pins++qu fp s.heap) σ H s :=
 I.pins_of λp hp=>(j9.mp hp).elim (λz=>I.pin p (o_ _ z)) λz=>by
  obtain⟨B,e⟩:=Ax z;obtain⟨f0,f1,L,_⟩:=Y p.1 B;obtain⟨o,F,d⟩:=Z p.1 B;rw[e] at F;cases F;exact⟨e,f0,f1,L,d⟩
theorem Inv.unpinned {pl:List (Addr × Obj)} {σ:St} {H:Hp} (I:Inv X (pins++pl) σ H s):Inv X pins σ H s:=I.pins_of λp hp=>I.pin p (o_ _ (m9 _ hp))
theorem bx {wi:TI} {g:TG} {tb:TS} (hi:PI X tg iter wi) (hg:PG X tg g) (F:PSs X body tb) (hp:PassesOwn (model X.prog X.w) X.A X.env X.xe:=by exact PassesOwn.never) (hc:X.calm=true:=by exact rfl)
  (hs : ∀x,foldedSetIterable iter X.env x=pure x:=by intro _;rfl):PS X (.For tg iter body [] pos) (IV wi g tb):=by
 intro pins s σ H D I h;refine wpAny_For (thn (hi pins s σ H _ I h) λv s1 h1=>thn h1 λaq s2 h2=>?_) hs
 obtain⟨it,fp,tn,J,H2,e,I2,T,ao,f2,W,⟨m0,w0⟩,ag⟩:=h2;subst e;have Z : ∀{H':Hp},(∀b∈fp,H' b=none)->∀b∈fp,ri X pins H' b:=λhn b F=>⟨hn b F,(f2 b F).2⟩
 refine codeAny_forLoop_any (λn s'=>∃i σ' H',Inv X pins σ' H' s'/\tn i s'.heap/\(∀b∈fp,H' b=none)/\W i n σ' H') ?_ m0 ⟨0,σ,H2,I2,ao,λb F=>(f2 b F).1,w0⟩
 rintro n s3 ⟨i,L,H3,I3,ai,aj,w3⟩
 rcases ag i n L H3 w3 with⟨ah,qn⟩ | ⟨go,N,hN,step⟩
 .refine KR hp (thn (T.done X rfl rfl rfl hc i pins s3 L H3 X.xe I3 (Z aj) ai ah) λr s4 aa=>?_)
  obtain⟨hr,I4⟩:=aa;subst hr;exact wpAny_execs_nil ⟨L,H3,I4,qn⟩
 .refine KR hp (thn (T.item X rfl rfl rfl hc i pins s3 L H3 X.xe I3 (Z aj) ai go) λr s4 ab=>?_)
  obtain⟨u,hr,h4⟩:=ab;subst hr;refine KR hp (thn h4 λ_ s5 ac=>?_)
  obtain⟨x,H5,I5,r5,y5,af,an⟩:=ac;have ak:=I5.pinned (Z an) (T.obj _ _ af);refine KR hp (thn (hg _ s5 L H5 x u _ ak r5 (step x H5 y5)) λ_ s6 ad=>?_)
  obtain⟨am,H6,I6,q6⟩:=ad;refine KR hp (thn (F _ s6 am H6 _ I6 q6) λf s7 q7=>?_)
  have Y : ∀{B:St} {H7:Hp},Inv X (pins++qu fp s5.heap) B H7 s7->N B H7->∃m,m < n/\∃i σ' H',Inv X pins σ' H' s7/\tn i s7.heap/\(∀b∈fp,H' b=none)/\W i m σ' H':=λ{B H7} I7 n7=>by
   obtain⟨m',hm,w7⟩:=hN B H7 n7;refine⟨m',hm,i+1,B,H7,I7.unpinned,T.keep _ _ _ af λb F o e=>(I7.pin (b,o) (o_ _ (o_ _ (ld F e)))).1,λb F=>?_,w7⟩
   obtain⟨o,e,d⟩:=T.obj _ _ af b F;exact(I7.pin (b,o) (o_ _ (o_ _ (ld F e)))).2.1
  cases f with
  | next=>obtain⟨B,H7,I7,n7⟩:=q7;exact Y I7 n7
  | cont=>obtain⟨B,H7,I7,n7⟩:=q7;exact Y I7 n7
  | brk=>obtain⟨B,H7,I7,q7⟩:=q7;exact⟨B,H7,I7.unpinned,q7⟩
  | ret v=>obtain⟨x7,B,H7,I7,r7,q7⟩:=q7;exact⟨x7,B,H7,I7.unpinned,r7,q7⟩
end
abbrev R2:=V->V->Hp->VK->Prop
def OpR (X:Cx) (f:Value->Value->Sem Value) (r:R2):Prop :=
 ∀ (pins:List (Addr × Obj)) (s:Shared) (σ:St) (H:Hp) (x y:V) (v u:Value) (Q:VK),Inv X pins σ H s->bq x v->bq y u->r x y H Q ->
  wpAny (model X.prog X.w) X.A (f v u) (EP X pins σ Q) X.xe s
def UnR (X:Cx) (f:Value->Sem Value) (r:V->Hp->VK->Prop):Prop :=
 ∀ (pins:List (Addr × Obj)) (s:Shared) (σ:St) (H:Hp) (x:V) (v:Value) (Q:VK),Inv X pins σ H s->bq x v->r x H Q ->
  wpAny (model X.prog X.w) X.A (f v) (EP X pins σ Q) X.xe s
def bY (X:Cx) (f:Value) (r:List V->Hp->VK->Prop):Prop :=
 ∀ (pins:List (Addr × Obj)) (s:Shared) (σ:St) (H:Hp) (xs:List V) (us:List Value) (Q:VK),Inv X pins σ H s->bo xs us->r xs H Q ->
  wpAny (model X.prog X.w) X.A (call f us) (EP X pins σ Q) X.xe s
def tOp (r:R2) (ta tb:TE):TE:=λσ H Q=>ta σ H λx H1=>tb σ H1 λy H2=>r x y H2 Q
def tUn (r:V->Hp->VK->Prop) (ta:TE):TE:=λσ H Q=>ta σ H λx H1=>r x H1 Q
def rI (C:Int->Int->Prop) (g:Int->Int->V):R2:=λx y H Q=>∃i j,x = .int i/\y = .int j/\C i j/\Q (g i j) H
def rI0 (g:Int->Int->V):R2:=λx y H Q=>∃i j,x = .int i/\y = .int j/\Q (g i j) H
def rU (g:Int->V):V->Hp->VK->Prop:=λx H Q=>∃i,x = .int i/\Q (g i) H
section
variable {X:Cx} {a b c:Expr} {ta tb tc:TE}
theorem Hr (ha:PE X a ta) (hb:PE X b tb) {pins:List (Addr × Obj)} {s:Shared} {σ:St} {H:Hp} {R:V->V->Hp->Prop} (I:Inv X pins σ H s)
  (h:ta σ H λx H1=>tb σ H1 λy H2=>R x y H2) {Q:Value->Shared->Prop} {f:Value->Value->Sem Value}
  (hf : ∀v u Y x y H2,Inv X pins σ H2 Y->bq x v->bq y u->R x y H2->wpAny (model X.prog X.w) X.A (f v u) Q X.xe Y) :
  wpAny (model X.prog X.w) X.A (eval a X.env) (λv s₁=>wpAny (model X.prog X.w) X.A (eval b X.env) (λu L=>wpAny (model X.prog X.w) X.A (f v u) Q X.xe L) X.xe s₁) X.xe s:=by
 refine thn (ha pins s σ H _ I h) λv s1 B=>?_
 obtain⟨x,H1,I1,r1,q1⟩:=B;refine thn (hb pins s1 σ H1 _ I1 q1) λu Y F=>?_
 obtain⟨y,H2,Z,r2,q2⟩:=F;exact hf v u Y x y H2 Z r1 r2 q2
theorem aM {B:Operator} {r:R2} (ho:OpR X (A_ B) r) (ha:PE X a ta) (L:PE X b tb):PE X (.BinOp a B b pos) (tOp r ta tb):=by
 intro pins s σ H Q I h;exact wpAny_BinOp (Hr ha L I h λv u s2 x y H2 F Z Y q=>ho pins s2 σ H2 x y v u Q F Z Y q)
theorem rE {F:UnaryOp} {r:V->Hp->VK->Prop} (Y:UnR X (unaryOp F) r) (ha:PE X a ta):PE X (.UnaryOp F a pos) (tUn r ta):=by
 intro pins s σ H Q I h;exact UnaryOp_ (thn (ha pins s σ H _ I h) λv s1 B=>by obtain⟨x,H1,I1,L,Z⟩:=B;exact(Y pins s1 σ H1 x v Q I1 L Z))
theorem opI {f:Value->Value->Sem Value} {C:Int->Int->Prop} {g:Int->Int->Int}
  (B : ∀(i j:Int) (t u:Tok) (s:Shared) (Q:Value->Shared->Prop) (E:Value->Shared->Prop),C i j->Q (.int (g i j) s.toks) { s with toks:=s.toks+1 }->wpAny (model X.prog X.w) X.A (f (.int i t) (.int j u)) Q E s) :
  OpR X f (rI C λi j=>.int (g i j)):=by
 intro pins s σ H x y v u Q I Y L h;obtain⟨i,j,rfl,rfl,F,q⟩:=h;obtain⟨t,rfl⟩:=Y;obtain⟨t',rfl⟩:=L;exact B i j t t' s _ _ F ⟨.int (g i j),H,I.tok _,⟨_,rfl⟩,q⟩
theorem Ji {f:Value->Value->Sem Value} {g:Int->Int->Int}
  (B : ∀(i j:Int) (t u:Tok) (s:Shared) (Q:Value->Shared->Prop) (E:Value->Shared->Prop),Q (.int (g i j) s.toks) { s with toks:=s.toks+1 }->wpAny (model X.prog X.w) X.A (f (.int i t) (.int j u)) Q E s) :
  OpR X f (rI0 λi j=>.int (g i j)):=by
 intro pins s σ H x y v u Q I L F h;obtain⟨i,j,rfl,rfl,q⟩:=h;obtain⟨t,rfl⟩:=L;obtain⟨t',rfl⟩:=F;exact B i j t t' s _ _ ⟨.int (g i j),H,I.tok _,⟨_,rfl⟩,q⟩
theorem ED {f:Value->Value->Sem Value} {g:Int->Int->Bool}
  (B : ∀(i j:Int) (t u:Tok) (s:Shared) (Q:Value->Shared->Prop) (E:Value->Shared->Prop),Q (.bool (g i j)) s->wpAny (model X.prog X.w) X.A (f (.int i t) (.int j u)) Q E s) :
  OpR X f (rI0 λi j=>.bl (g i j)):=by
 intro pins s σ H x y v u Q I L F h;obtain⟨i,j,rfl,rfl,q⟩:=h;obtain⟨t,rfl⟩:=L;obtain⟨t',rfl⟩:=F;exact B i j t t' s _ _ ⟨.bl (g i j),H,I,rfl,q⟩
def Jl (i j:Int):Prop:=0<=j/\j<=1000000/\i.natAbs < 2 ^ 64
def Du (i j:Int):Prop:=(-(2 ^ 64) < i/\i < 2 ^ 64)\/(-(2 ^ 64) < j/\j < 2 ^ 64)
theorem Du.ok {i j:Int} (h:Du i j):IntMulOk i j:=by
 rcases h with⟨h1,h2⟩ | ⟨h1,h2⟩
 .exact .of_left (intBits_le_64 h1 h2)
 .exact .of_right (intBits_le_64 h1 h2)
theorem bp:OpR X (A_ .Add) (rI0 λi j=>.int (i+j)):=Ji λ_ _ _ _ _ _ _ q=>add_int q
theorem fV:OpR X (A_ .Sub) (rI0 λi j=>.int (i - j)):=Ji λ_ _ _ _ _ _ _ q=>sub_int q
theorem dR:OpR X (A_ .Mult) (rI Du λi j=>.int (i * j)):=opI λ_ _ _ _ _ _ _ B q=>mul_int q B.ok
theorem gA:OpR X (A_ .Mod) (rI (λ_ j=>0 < j) λi j=>.int (i % j)):=opI λi j _ _ _ _ _ B q=>by
 have h1:(0:Int) < j:=B
 exact mod_int' () (by rw[Int.fmod_eq_emod_of_nonneg i ()];exact q)
theorem Ck:OpR X (A_ .Pow) (rI Jl λi j=>.int (i ^ j.toNat)):=opI λ_ _ _ _ _ _ _ B q=>pow_int_small B.1 B.2.1 B.2.2 q
theorem HS:OpR X (A_ .LShift) (rI Jl λi j=>.int (i * 2 ^ j.toNat)):=opI λ_ _ _ _ _ _ _ B q=>lshift_int_small B.1 B.2.1 B.2.2 q
theorem unI {f:Value->Sem Value} {g:Int->Int}
  (B : ∀(i:Int) (t:Tok) (s:Shared) (Q:Value->Shared->Prop) (E:Value->Shared->Prop),Q (.int (g i) s.toks) { s with toks:=s.toks+1 }->wpAny (model X.prog X.w) X.A (f (.int i t)) Q E s) :
  UnR X f (rU λi=>.int (g i)):=by
 intro pins s σ H x v Q I F h;obtain⟨i,rfl,q⟩:=h;obtain⟨t,rfl⟩:=F;exact B i t s _ _ ⟨.int (g i),H,I.tok _,⟨_,rfl⟩,q⟩
theorem lm:UnR X (unaryOp .USub) (rU λi=>.int (Neg.neg i)):=unI λ_ _ _ _ _ q=>neg_int q
end
def wn:V->V->Bool
 | .non,.non=>true | .non,.int _=>true | .int _,.non=>true | .non,.bl _=>true | .bl _,.non=>true | .non,.str _=>true | .str _,.non=>true
 | .int _,.int _=>true | .bl _,.bl _=>true | .str _,.str _=>true | .byt _,.byt _=>true
 | .int _,.str _=>true | .str _,.int _=>true | .bl _,.str _=>true | .str _,.bl _=>true
 | _,_=>false
def rEq:R2:=λx y H Q=>wn x y=true/\Q (.bl (decide (x=y))) H
def rNe:R2:=λx y H Q=>wn x y=true/\Q (.bl (!decide (x=y))) H
theorem zO {i j:Int}:decide (V.int i=V.int j)=(i == j):=by
 rw[o7];simp
theorem Bm {i j:Bool}:decide (V.bl i=V.bl j)=(i == j):=by
 rw[o7];simp
theorem Aa {i j:Str}:decide (V.str i=V.str j)=(i == j):=by
 rw[o7];simp
theorem zC {i j:Array UInt8}:decide (V.byt i=V.byt j)=(i.toList == j.toList):=by
 rw[o7];cases i;cases j;simp
section
variable {X:Cx} {a b c:Expr} {ta tb tc:TE}
theorem bN {σ:St} {H:Hp} {Q:VK} {k B:Bool} (I:Inv X pins σ H s) (q:Q (.bl k) H) (e:k=B):EP X pins σ Q (.bool B) s:=by
 subst e;exact⟨.bl k,H,I,rfl,q⟩
theorem bz:OpR X (s_ .Eq) rEq:=by
 intro pins s σ H x y v u Q I L B h;obtain⟨F,q⟩:=h;cases x with
 | non =>
  cases L;cases y with
  | non=>cases B;exact PySem.EqNone.eq_none_none (bN I q (by simp))
  | bl j=>cases B;exact PySem.EqNone.eq_none_bool (bN I q (by simp))
  | int j=>obtain⟨t',rfl⟩:=B;exact PySem.EqNone.eq_none_int (bN I q (by simp))
  | str j=>obtain⟨t',rfl⟩:=B;exact PySem.EqNone.eq_none_str (bN I q (by simp))
  | _=>exact absurd (show false=true from F) i_
 | bl i =>
  cases L;cases y with
  | non=>cases B;exact PySem.EqNone.eq_bool_none (bN I q (by simp))
  | bl j=>cases B;exact eq_bool (bN I q Bm)
  | str j=>obtain⟨t',rfl⟩:=B;exact PySem.EqMixed.eq_bool_str (bN I q (by simp))
  | _=>exact absurd (show false=true from F) i_
 | int i =>
  obtain⟨t,rfl⟩:=L;cases y with
  | non=>cases B;exact PySem.EqNone.eq_int_none (bN I q (by simp))
  | int j=>obtain⟨t',rfl⟩:=B;exact eq_int (bN I q zO)
  | str j=>obtain⟨t',rfl⟩:=B;exact PySem.EqMixed.eq_int_str (bN I q (by simp))
  | _=>exact absurd (show false=true from F) i_
 | str i =>
  obtain⟨t,rfl⟩:=L;cases y with
  | non=>cases B;exact PySem.EqNone.eq_str_none (bN I q (by simp))
  | bl j=>cases B;exact PySem.EqMixed.eq_str_bool (bN I q (by simp))
  | int j=>obtain⟨t',rfl⟩:=B;exact PySem.EqMixed.eq_str_int (bN I q (by simp))
  | str j=>obtain⟨t',rfl⟩:=B;exact eq_str (bN I q Aa)
  | _=>exact absurd (show false=true from F) i_
 | byt i =>
  obtain⟨t,rfl⟩:=L;cases y with
  | byt j=>obtain⟨t',rfl⟩:=B;exact PySem.W.eq_bytes (bN I q zC)
  | _=>exact absurd (show false=true from F) i_
 | _=>cases y <;> exact absurd (show false=true from F) i_
theorem vI:OpR X (s_ .NotEq) rNe:=by
 intro pins s σ H x y v u Q I L B h;obtain⟨F,q⟩:=h;cases x with
 | non =>
  cases L;cases y with
  | non=>cases B;exact PySem.EqNone.ne_none_none (bN I q (by simp))
  | bl j=>cases B;exact PySem.EqNone.ne_none_bool (bN I q (by simp))
  | int j=>obtain⟨t',rfl⟩:=B;exact PySem.EqNone.ne_none_int (bN I q (by simp))
  | str j=>obtain⟨t',rfl⟩:=B;exact PySem.EqNone.ne_none_str (bN I q (by simp))
  | _=>exact absurd (show false=true from F) i_
 | bl i =>
  cases L;cases y with
  | non=>cases B;exact PySem.EqNone.ne_bool_none (bN I q (by simp))
  | bl j=>cases B;exact ne_bool (bN I q (congrArg not Bm))
  | str j=>obtain⟨t',rfl⟩:=B;exact PySem.EqMixed.ne_bool_str (bN I q (by simp))
  | _=>exact absurd (show false=true from F) i_
 | int i =>
  obtain⟨t,rfl⟩:=L;cases y with
  | non=>cases B;exact PySem.EqNone.ne_int_none (bN I q (by simp))
  | int j=>obtain⟨t',rfl⟩:=B;exact ne_int (bN I q (congrArg not zO))
  | str j=>obtain⟨t',rfl⟩:=B;exact PySem.EqMixed.ne_int_str (bN I q (by simp))
  | _=>exact absurd (show false=true from F) i_
 | str i =>
  obtain⟨t,rfl⟩:=L;cases y with
  | non=>cases B;exact PySem.EqNone.ne_str_none (bN I q (by simp))
  | bl j=>cases B;exact PySem.EqMixed.ne_str_bool (bN I q (by simp))
  | int j=>obtain⟨t',rfl⟩:=B;exact PySem.EqMixed.ne_str_int (bN I q (by simp))
  | str j=>obtain⟨t',rfl⟩:=B;exact ne_str (bN I q (congrArg not Aa))
  | _=>exact absurd (show false=true from F) i_
 | byt i =>
  obtain⟨t,rfl⟩:=L;cases y with
  | byt j=>obtain⟨t',rfl⟩:=B;exact PySem.W.ne_bytes (bN I q (congrArg not zC))
  | _=>exact absurd (show false=true from F) i_
 | _=>cases y <;> exact absurd (show false=true from F) i_
theorem wQ:OpR X (s_ .Lt) (rI0 λi j=>.bl (decide (i < j))):=ED λ_ _ _ _ _ _ _ q=>lt_int q
theorem jU:OpR X (s_ .LtE) (rI0 λi j=>.bl (decide (i<=j))):=ED λ_ _ _ _ _ _ _ q=>le_int q
theorem qZ:OpR X (s_ .Gt) (rI0 λi j=>.bl (decide (j < i))):=ED λ_ _ _ _ _ _ _ q=>gt_int q
theorem Je:OpR X (s_ .GtE) (rI0 λi j=>.bl (decide (j<=i))):=ED λ_ _ _ _ _ _ _ q=>ge_int q
theorem nomark (b:Expr) {B:CmpOp} (h:B≠.In:=by decide) (h2:B≠.NotIn:=by decide):KS B b=false:=by
 have e1:(B == CmpOp.In)=false:=by cases B <;> first | rfl | exact absurd rfl h
 have e2:(B == CmpOp.NotIn)=false:=by cases B <;> first | rfl | exact absurd rfl h2
 cases b <;> simp[KS,e1,e2]
theorem aQ {B:CmpOp} {r:R2} (ho:OpR X (s_ B) r) (ha:PE X a ta) (Y:PE X b tb) (L:KS B b=false:=by first | exact nomark _ | with_unfolding_all rfl):PE X (.Compare a [B] [b] pos) (tOp r ta tb):=by
 intro pins s σ H Q I h;exact wpAny_Compare1 (Hr ha Y I h λv u s2 x y H2 F rx Z q=>ho pins s2 σ H2 x y v u Q F rx Z q) L
def hU (t:TE):TT:=λσ H Q=>t σ H λx H'=>∃k,x = .bl k/\Q k H'
theorem aJ {B:CmpOp} {r:R2} (Y:OpR X (s_ B) r) (ha:PE X a ta) (L:PE X b tb) (F:KS B b=false:=by first | exact nomark _ | with_unfolding_all rfl):PT X (.Compare a [B] [b] pos) (hU (tOp r ta tb)):=by
 intro pins s σ H Q I h;refine wpAny_isTrue_Compare1 (thn (ha pins s σ H _ I h) λv s1 ⟨x,H1,I1,r1,q1⟩=>thn (L pins s1 σ H1 _ I1 q1) λu Z ⟨y,H2,I2,r2,q2⟩ =>
  thn (Y pins Z σ H2 x y v u _ I2 r1 r2 q2) λc s3 ⟨z,H3,I3,r3,k,e,q3⟩=>?_) F
 subst e;cases r3;exact z_ ⟨H3,I3,q3⟩
def yH (r r':R2) (ta tb tc:TE):TE:=λσ H Q=>ta σ H λx H1=>tb σ H1 λy H2=>r x y H2 λz B=>∃k,z = .bl k /\
 (if k=true then tc σ B λF L=>r' y F L Q else Q (.bl false) B)
theorem DI {L B:CmpOp} {r r':R2} (ho:OpR X (s_ L) r) (F:OpR X (s_ B) r') (ha:PE X a ta) (hb:PE X b tb) (hc:PE X c tc)
  (hm:lastMarks [L,B] [b,c]=false:=by with_unfolding_all rfl):PE X (.Compare a [L,B] [b,c] pos) (yH r r' ta tb tc):=by
 intro pins s σ H Q I h;refine Compare_chain (thn (ha pins s σ H _ I h) λv s1 ⟨x,H1,I1,r1,q1⟩=>chain_link (thn (hb pins s1 σ H1 _ I1 q1) λu s2 ⟨y,H2,I2,r2,q2⟩ =>
  thn (ho pins s2 σ H2 x y v u _ I2 r1 r2 q2) λd s3 ⟨z,H3,I3,r3,k,e,q3⟩=>?_)) hm
 subst e;cases r3;refine z_ ?_
 cases k with
 | false=>exact ite_ff ⟨.bl false,H3,I3,rfl,q3⟩
 | true=>exact ite_tt (chain_last (thn (hc pins s3 σ H3 _ I3 q3) λZ s4 Y=>by obtain⟨z',H4,I4,r4,q4⟩:=Y;exact(F pins s4 σ H4 y z' u Z Q I4 r2 r4 q4)))
theorem nB:(g9:Nat) < 2 ^ 63:=by rw[sizeLine_eq];decide
theorem yS:OpR X (A_ .Add) (λx y H Q=>∃i j,x = .str i/\y = .str j/\i.length+j.length<=g9/\Q (.str (i++j)) H):=by
 intro pins s σ H x y v u Q I L F h;obtain⟨i,j,rfl,rfl,B,q⟩:=h;obtain⟨t,rfl⟩:=L;obtain⟨t',rfl⟩:=F;exact add_str (λt' tk=>⟨.str (i++j),H,I.tok _,⟨_,rfl⟩,q⟩) B
theorem cV {x:V} (r:bo [x] us) : ∃u,us=[u]/\bq x u:=by
 cases r with
 | cons B F=>cases F;exact⟨_,rfl,B⟩
theorem tX {x y:V} (r:bo [x,y] us) : ∃u B,us=[u,B]/\bq x u/\bq y B:=by
 cases r with
 | cons F Z =>
  cases Z with
  | cons L Y=>cases Y;exact⟨_,_,rfl,F,L⟩
theorem tm (F:X.calm=true):bY X (.builtin "max") (λxs H Q=>∃i j,xs=[.int i,.int j]/\Q (.int (if j > i then j else i)) H):=by
 intro pins s σ H xs us Q I r h;obtain⟨i,j,rfl,q⟩:=h;obtain⟨u,L,rfl,⟨t,rfl⟩,⟨t',rfl⟩⟩:=tX r;refine max_two_ints (I.ok.hd F) λh' tk k=>⟨_,H,I.kept k,?_,q⟩
 by_cases B:j > i
 .rw[if_pos B,if_pos B];exact⟨_,rfl⟩
 .rw[if_neg B,if_neg B];exact⟨_,rfl⟩
theorem Ak (F:X.calm=true):bY X (.builtin "min") (λxs H Q=>∃i j,xs=[.int i,.int j]/\Q (.int (if j < i then j else i)) H):=by
 intro pins s σ H xs us Q I r h;obtain⟨i,j,rfl,q⟩:=h;obtain⟨u,L,rfl,⟨t,rfl⟩,⟨t',rfl⟩⟩:=tX r;refine min_two_ints (I.ok.hd F) λh' tk k=>⟨_,H,I.kept k,?_,q⟩
 by_cases B:j < i
 .rw[if_pos B,if_pos B];exact⟨_,rfl⟩
 .rw[if_neg B,if_neg B];exact⟨_,rfl⟩
theorem nQ:bY X (.type "int") (λxs H Q=>(∃i,xs=[.int i]/\Q (.int i) H)\/∃k,xs=[.bl k]/\Q (.int (if k then 1 else 0)) H):=by
 intro pins s σ H xs us Q I r h;rcases h with⟨i,rfl,q⟩ | ⟨k,rfl,q⟩
 .obtain⟨u,rfl,t,rfl⟩:=cV r
  exact call_int_int ⟨.int i,H,I,⟨_,rfl⟩,q⟩
 .obtain⟨u,rfl,r1⟩:=cV r
  cases r1;exact call_int_bool ⟨.int (if k then 1 else 0),H,I.tok _,⟨_,rfl⟩,q⟩
theorem vd:bY X (.type "str") (λxs H Q=>∃i,xs=[.int i]/\i.natAbs.log2 < 1920/\Q (.str (toString i)) H):=by
 intro pins s σ H xs us Q I r h;obtain⟨i,rfl,B,q⟩:=h;obtain⟨u,rfl,t,rfl⟩:=cV r;exact PySem.P.str_of_int B ⟨.str _,H,I.tok _,⟨_,rfl⟩,q⟩
end
structure xP (h:Heap) (x dx C:Addr) (mA:Str->Option Value):Prop where
 obj:h.get? x=some (instObj C dx)
 ns:h.Ns1 dx mA
 ne:dx≠x
theorem Bj (n:h.Ns1 dx mA) : ∃od,h.get? dx=some od/\∀name,lookIn name od=some (mA name):=by
 obtain⟨o,es,ep,ho,Y,Z,_,F⟩:=n;refine⟨o,ho,λname=>?_⟩
 have e:=F name;unfold nsFind findBy at e;rw[<- Array.find?_toList] at e;unfold lookIn;rw[Y];dsimp only
 split
 .rename_i y q
  rw[q] at e;exact congrArg some e
 .rename_i q
  rw[q] at e;have a:es.toList.any (·.refKey)=false:=by
   rw[List.any_eq_false];intro y L;obtain⟨z,t,B⟩:=Z y (Array.mem_toList_iff.mp L);simp[DictEntry.refKey,B]
  have a' : ¬ es.toList.any (·.refKey)=true:=by rw[a];exact i_
  rw[if_neg a'];exact congrArg some e
theorem xP.look {x:Addr} (I:xP h x dx C mA) : ∃od,PySem.W.InstAt h x (instObj C dx) C (some od)/\∀name,lookIn name od=some (mA name) :=
 let ⟨od,ho,hl⟩:=Bj I.ns
 ⟨od,⟨I.obj,rfl,rfl,ho⟩,hl⟩
section
variable {x:Addr} {v:Value}
theorem DY {B:Bool} (X:K.In s.heap) (I:xP s.heap x dx C mA) (L:plainGet K C name=true) (Z:hasDictIn K C=true)
  (ha:findIn K (.ref C) name=some none) (Y:mA name=some v) (F:handedIn v=true) (h:Q v { s with toks:=s.toks+1 }) :
  wpAny (model prog w) A (getAttr (.ref x) name B) Q E s:=by
 obtain⟨od,J,hl⟩:=I.look;exact PySem.W.get_value X J (plainGet_of L).1 (PySem.W.findObj_own Z ha rfl (by rw[hl,Y])) F h
theorem Cu {pl:Sem Bool} {Q:Value × List Value->Shared->Prop} (X:K.In s.heap) (I:xP s.heap x dx C mA) (B:plainGet K C name=true)
  (F:findIn K (.ref C) name=some (-f)) (L:isFn K (.ref f)=true) (Y:mA name=none) (h:Q (.ref f,[.ref x]) s) :
  wpAny (model prog w) A (getMethod (.ref x) name pl) Q E s:=by
 obtain⟨od,J,hl⟩:=I.look;exact PySem.W.method_fn X J (plainGet_of B).1 (plainGet_of B).2 F (beq_iff_eq.mp L) (by show(lookIn name od).map (·.isSome)=some false;rw[hl,Y];rfl) h
theorem Et {ns:List Str} {Q:Unit->Shared->Prop} (X:K.In s.heap) (I:xP s.heap x dx C mA)
  (hs:findIn K (.ref C) "__setattr__" = some (some (.builtin "object.__setattr__"))) (hp:plainOver K C=true) (ht:takerIn K C name=some none) (hh:hasDictIn K C=true)
  (hw:PySem.Within mA ns) (hsz:ns.length<=g9)
  (h : ∀h',xP h' x dx C (λy=>if y=name then some v else mA y)->Lv dx s.heap h'->Q Unit.unit { s with heap:=h',toks:=s.toks+2 }) :
  wpAny (model prog w) A (setAttr (.ref x) name v) Q E s:=by
 obtain⟨od,J,hl⟩:=I.look;refine PySem.W.set_plain X J hs (PySem.W.osa_open (s:={ s with toks:=s.toks+1 }) (r:=none) X J hp ht λb=>?_)
 obtain⟨cd,hc,Z⟩:=PySem.W.any_some hh;have hx:s.heap.get? x=some ⟨.ref C,some dx,.plain,#[]⟩:=I.obj
 refine a_ (e_ (a_ (a_ (wpAny_loadPart hx (a_ (PySem.W.Looks.here (s:={ s with toks:=s.toks+1 }) (PySem.W.looks_clsIn X hc) ?_))))))
 rw[Z];refine e_ (a:=some dx) (a_ (e_ (a_ ?_)))
 refine wpAny_nsSet1 (s:={ s with toks:=s.toks+1 }) I.ns λh' F B=>?_
 obtain⟨oD,ac,ab,aa,Y,L⟩:=F.count (PySem.Within.cons name v hw);refine a_ (wpAny_lookBehind aa (by rw[Y];exact pastItsLine_dict (ja L (by rw[t4];omega))) ?_)
 exact e_ (h _ ⟨(B.2 _ (p7 I.ne)).trans I.obj,F,I.ne⟩ B)
theorem CG {vs:List Value} (X:K.In s.heap) (F:makesIn K C=true)
  (hi:findIn K (.ref C) "__init__" = some (-f)) (L:PySem.W.typeIn K (.ref f)=some (.type "function"))
  (h:Le (model prog w) (A.under (.builtin "type.__call__" ⟨.ref C :: vs,kw⟩)) (.call (.ref f) ⟨.ref (s.heap.objs.size+1) :: vs,kw⟩) (PySem.W.InitBack (s.heap.objs.size+1) R)
   { s with heap:=(s.heap.push Li).push (instObj C s.heap.objs.size) }) :
  Le (model prog w) A (.call (.ref C) ⟨vs,kw⟩) R s:=by
 obtain⟨Z,g,d,t,Y⟩:=s;exact PySem.W.make_core (PySem.W.makes_of X F) (PySem.W.looks_findIn X hi) (λB=>PySem.W.bind_fn X B L) (.inl rfl) h
end
def cy (f:Str) (v:V):List (Str × V)->List (Str × V)
 | []=>[(f,v)]
 | (g,x) :: r=>if g=f then(g,v) :: r else(g,x) :: cy f v r
theorem bA (f g:Str) (v:V) : ∀fs:List (Str × V),(cy f v fs).lookup g=if g=f then some v else fs.lookup g
 | []=>by
  show LX g [(f,v)]=_
  by_cases h:g=f
  .have hb:(g == f)=true:=beq_iff_eq.mpr h
   simp only[LX,hb,if_pos h]
  .have hb:(g == f)=false:=beq_eq_false_iff_ne.mpr h
   simp only[LX,hb,if_neg h]
 | (k, x) :: r=>by
  have F:=bA f g v r;rw[show cy f v ((k,x) :: r)=(if k=f then(k,v) :: r else(k,x) :: cy f v r) from rfl]
  by_cases B:k=f
  .rw[if_pos B]
   by_cases h:g=k
   .have hb:(g == k)=true:=beq_iff_eq.mpr h
    simp only[LX,hb,if_pos (h.trans B)]
   .have hb:(g == k)=false:=beq_eq_false_iff_ne.mpr h
    simp only[LX,hb,if_neg (λe:g=f=>h (e.trans B.symm))]
  .rw[if_neg B]
   by_cases h:g=k
   .have hb:(g == k)=true:=beq_iff_eq.mpr h
    simp only[LX,hb,if_neg (λe:g=f=>B (h.symm.trans e))]
   .have hb:(g == k)=false:=beq_eq_false_iff_ne.mpr h
    simp only[LX,hb];exact F
theorem nF (f:Str) (v:V) : ∀fs:List (Str × V),f∈(cy f v fs).map (·.1)/\∀g,g∈fs.map (·.1)->g∈(cy f v fs).map (·.1)
 | []=>⟨by simp[cy],λg h=>by simp at h⟩
 | (k, x) :: r=>by
  obtain⟨L,F⟩:=nF f v r;rw[show cy f v ((k,x) :: r)=(if k=f then(k,v) :: r else(k,x) :: cy f v r) from rfl]
  by_cases B:k=f
  .rw[if_pos B]
   subst B;exact⟨by simp,λg h=>by simpa using h⟩
  .rw[if_neg B]
   refine⟨?_,λg h=>?_⟩
   .rw[j8]
    exact i7 _ L
   .rw[j8] at h ⊢
    rcases i6.mp h with e | e
    .exact i6.mpr (.inl e)
    .exact i7 _ (F g e)
theorem oK (f:Str) (v:V) : ∀fs:List (Str × V),(cy f v fs).length<=fs.length+1
 | []=>by simp[cy]
 | (k,x) :: r=>by
  have F:=oK f v r;rw[show cy f v ((k,x) :: r)=(if k=f then(k,v) :: r else(k,x) :: cy f v r) from rfl]
  by_cases B:k=f
  .rw[if_pos B,t4,t4];omega
  .rw[if_neg B,t4,t4];omega
theorem jp.some_of {v:V} {o:Option Value} (r:jp (some v) o) : ∃u,o=some u/\bq v u:=by
 cases o with
 | none=>exact(show False from r).elim
 | some u=>exact⟨u,rfl,r⟩
theorem jp.none_of {o:Option Value} (r:jp none o):o=none:=by
 cases o with
 | none=>rfl
 | some u=>exact(show False from r).elim
theorem A9 {v:V} (r:bq v u):handedIn u=true:=by
 cases v with
 | non=>cases (show u=u9 from r);rfl
 | bl b=>cases (show u=Lk b from r);rfl
 | int i=>obtain⟨t,e⟩:=(show ∃t,u=Value.int i t from r);cases e;rfl
 | str x=>obtain⟨t,e⟩:=(show ∃t,u=Value.str x t from r);cases e;rfl
 | byt b=>obtain⟨t,e⟩:=(show ∃t,u=Value.bytes b t from r);cases e;rfl
 | flt b=>obtain⟨t,e⟩:=(show ∃t,u=Value.float b t from r);cases e;rfl
 | ref a=>cases (show u=i8 a from r);rfl
 | ty n=>cases (show u=FS n from r);rfl
section
variable {H H':Hp} {fs fs':List (Str × V)}
theorem pP (B:HOk P w H h) (e:H a=some (.ins C dx fs)) : ∃mA,xP h a dx C mA/\(∀f,jp (fs.lookup f) (mA f))/\PySem.Within mA (fs.map (·.1))/\fs.length<=1000/\H dx=some (.own a):=by
 obtain⟨d,z,ne,ob,mA,n,r,q⟩:=(show bB P w H h a (.ins C dx fs) from B a _ e)
 exact⟨mA,⟨ob,n,ne⟩,r,q,z,d⟩
end
structure Cls (K:fy) (C:Addr):Prop where
 pg:plainGet K C Str.empty=true
 hd:hasDictIn K C=true
 po:plainOver K C=true
 sa:findIn K (.ref C) "__setattr__" = some (some (.builtin "object.__setattr__"))
theorem Cls.get (c:Cls K C) (f:Str):plainGet K C f=true:=c.pg
def aP (K:fy) (C:Addr) (f:Str):Prop:=findIn K (.ref C) f=some none
theorem aP.taker {f:Str} (n:aP K C f):takerIn K C f=some none:=by
 unfold takerIn;rw[show findIn K (.ref C) f=some none from n]
 rfl
structure aD (K:fy) (C:Addr) (m:Str) (f:Addr):Prop where
 at_:findIn K (.ref C) m=some (-f)
 fn:isFn K (.ref f)=true
 kp:Lj K (.ref f)=true
section
variable {X:Cx} {σ:St} {H:Hp} {fs:List (Str × V)} {f:Str} {v:V}
theorem xI {b:Bool} (I:Inv X pins σ H s) (e:H a=some (.ins C dx fs)) (c:Cls X.K C) (n:aP X.K C f) (l:fs.lookup f=some v)
  (h : ∀u s',Inv X pins σ H s'->bq v u->Q u s'):wpAny (model X.prog X.w) A (getAttr (.ref a) f b) Q E s:=by
 obtain⟨mA,O,r,_,_,_⟩:=pP I.hok e;obtain⟨u,hu,B⟩:=jp.some_of (v:=v) (o:=mA f) (by rw[<- l];exact r f)
 exact DY I.kIn O (c.get f) c.hd n hu (A9 B) (h u _ (I.tok _) B)
theorem pW {m:Str} {g:Addr} {pl:Sem Bool} {Q:Value × List Value->Shared->Prop} (I:Inv X pins σ H s) (e:H a=some (.ins C dx fs)) (c:Cls X.K C) (k:aD X.K C m g) (l:fs.lookup m=none)
  (h:Q (.ref g,[.ref a]) s):wpAny (model X.prog X.w) A (getMethod (.ref a) m pl) Q E s:=by
 obtain⟨mA,O,r,_,_,_⟩:=pP I.hok e;have B:mA m=none:=jp.none_of (by rw[<- l];exact r m)
 exact Cu I.kIn O (c.get m) k.at_ k.fn B h
theorem yE {y:V} {Q:Unit->Shared->Prop} (I:Inv X pins σ H s) (e:H a=some (.ins C dx fs)) (c:Cls X.K C) (n:aP X.K C f) (hl:fs.length < 1000) (ry:bq y u)
  (h : ∀s',Inv X pins σ (upd H a (.ins C dx (cy f y fs))) s'->Q Unit.unit s'):wpAny (model X.prog X.w) A (setAttr (.ref a) f u) Q E s:=by
 obtain⟨mA,O,r,wi,_,F⟩:=pP I.hok e;have L:(fs.map (·.1)).length<=g9:=by rw[d_,sizeLine_eq];omega
 refine Et I.kIn O c.sa c.po n.taker c.hd wi L λh' B sb=>h _ ?_
 have hd : ∃o,h'.get? dx=some o:=let ⟨o,_,_,e',_⟩:=B.ns;⟨o,e'⟩
 refine I.write (x:=a) (e:=dx) (by rw[e];exact m_) (.inr F) (λb q Y z=>(sb.2 b Y).trans z) hd ?_
 refine⟨by rw[ai O.ne];exact F,?_,O.ne,B.obj,_,B.ns,λg=>?_,λg Z=>?_⟩
 .have:=oK f y fs;omega
 .show jp ((cy f y fs).lookup g) (if g=f then some u else mA g)
  rw[bA]
  by_cases q:g=f
  .rw[if_pos q,if_pos q];exact ry
  .rw[if_neg q,if_neg q];exact r g
 .by_cases q:g=f
  .rw[q];exact(nF f y fs).1
  .refine(nF f y fs).2 g (wi g λz=>Z ?_)
   show(if g=f then some u else mA g)=none
   rw[if_neg q];exact z
theorem Inv.made (I:Inv X pins σ H s):Inv X pins σ (upd (upd H s.heap.objs.size (.own (s.heap.objs.size+1))) (s.heap.objs.size+1) (.ins C s.heap.objs.size []))
  { s with heap:=(s.heap.push Li).push (instObj C s.heap.objs.size) }:=by
 have e1:(s.heap.push Li).get? s.heap.objs.size=some Li:=gr s.heap rfl
 have e2:((s.heap.push Li).push (instObj C s.heap.objs.size)).get? (s.heap.objs.size+1)=some (instObj C s.heap.objs.size):=by
  have:=gr (s.heap.push Li) (o:=instObj C s.heap.objs.size) rfl
  rwa [n6] at this
 have F:(s.heap.push Li).Ns s.heap.objs.size (λ_=>none):=⟨Li,#[],_,e1,rfl,(λe he=>absurd he (by simp)),λ_=>rfl⟩
 have B:=I.laid (a:=s.heap.objs.size) (o:=.own (s.heap.objs.size+1)) (h':=s.heap.push Li) (t':=s.toks) (λb u q=>c_ _ q) (h_ _) ⟨_,e1⟩
 refine B.laid (a:=s.heap.objs.size+1) (o:=.ins C s.heap.objs.size []) (t':=s.toks) (λb u q=>c_ _ q) (Ln (n6 _ _)) ?_
 have ne:s.heap.objs.size≠s.heap.objs.size+1:=k9 (D_ _)
 refine⟨by rw[ai ne,ae],x5 _,ne,e2,λ_=>none,(Heap.Ns1.of_empty F).at λo q=>c_ _ q,λ_=>m_,λy L=>absurd rfl L⟩
theorem F9 {f:Str} (B:Lf e f env (eval e env)=eval e env)
  (h:wpAny (model prog w) A (eval e env) (λo s₁=>wpAny (model prog w) A (getAttr o f true) Q E s₁) E s):wpAny (model prog w) A (eval (.Attribute e f pos) env) Q E s :=
 Attribute_any_ h (by rw[arm_eval_Attribute,B])
end
section
variable {X:Cx} {σ:St} {H:Hp} {c:Value} {b:Bool}
inductive oy (K:fy) (H:Hp):V->Value->Prop where
 | non:oy K H .non (.type "NoneType")
 | bl (x:Bool):oy K H (.bl x) (.type "bool")
 | int (i:Int):oy K H (.int i) (.type "int")
 | str (x:Str):oy K H (.str x) (.type "str")
 | flt (x:UInt64):oy K H (.flt x) (.type "float")
 | lst {a:Addr} {xs:List V} (e:H a*>xs):oy K H (.ref a) (.type "list")
 | frz {a:Addr} {o:Obj} {xs:List V} (e:H a=some (.frz o (.lst xs))):oy K H (.ref a) (.type "list")
 | tup {a:Addr} {xs:List V} (e:H a>>xs):oy K H (.ref a) (.type "tuple")
 | dK {a:Addr} {kvs:List (Key × V)} (e:H a<*kvs):oy K H (.ref a) (.type "dict")
 | dT {a:Addr} {kvs:List (List Key × V)} (e:H a=some (.dT kvs)):oy K H (.ref a) (.type "dict")
 | ins {a C dx:Addr} {fs:List (Str × V)} (e:H a=some (.ins C dx fs)) (cl:Cls K C) (ha:findIn K (.ref C) "__class__" = some (some (.builtin "object.__class__")))
   (hn:specialIn K (.builtin "object.__class__") "__get__" = some (some (.builtin "getset_descriptor.__get__"))) (htk:PySem.W.takesIn K (.builtin "object.__class__")=some true)
   (hm:PySem.W.mroIn K C (.type "object")=some true):oy K H (.ref a) (.ref C)
theorem Ba {x:V} {t:Value} (I:Inv X pins σ H s) (B:bq x u) (ty:oy X.K H x t) (e:kitOne X.K t c=some b) (h : ∀tk,Q (.bool b) { s with toks:=tk }) :
  wpAny (model X.prog X.w) A (call (.builtin "isinstance") [u,c]) Q E s:=by
 cases ty with
 | non=>cases (show u=u9 from B);exact Lt PySem.W.kitx_none I.kIn m_ e (λz=>nomatch z) h
 | bl y=>cases (show u=Lk y from B);exact Lt PySem.W.kitx_bool I.kIn m_ e (λz=>nomatch z) h
 | int i=>obtain⟨t,q⟩:=(show ∃t,u=Value.int i t from B);cases q;exact Lt PySem.W.kitx_int I.kIn m_ e (λz=>nomatch z) h
 | str y=>obtain⟨t,q⟩:=(show ∃t,u=Value.str y t from B);cases q;exact Lt PySem.W.kitx_str I.kIn m_ e (λz=>nomatch z) h
 | flt y=>obtain⟨t,q⟩:=(show ∃t,u=Value.float y t from B);cases q;exact Lt PySem.W.kitx_float I.kIn m_ e (λz=>nomatch z) h
 | @lst a xs ea =>
  cases (show u=i8 a from B)
  obtain⟨_,_,n,_,h1⟩:=(show bB X.prog X.w H s.heap a (.lst xs) from I.hok a _ ea)
  exact Lt kitx_list I.kIn ⟨_,h1,rfl⟩ e (λz=>nomatch z) h
 | @frz a ob xs ea =>
  cases (show u=i8 a from B)
  obtain⟨_,_,_,n,_,h1⟩:=(show bB X.prog X.w H s.heap a (.frz ob (.lst xs)) from I.hok a _ ea)
  exact Lt kitx_list I.kIn ⟨_,h1,rfl⟩ e (λz=>nomatch z) h
 | @tup a xs ea =>
  cases (show u=i8 a from B)
  obtain⟨_,_,_,p⟩:=(show bB X.prog X.w H s.heap a (.tup xs) from I.hok a _ ea)
  obtain⟨o,h1,h2,_⟩:=p;exact Lt PySem.W.kitx_tuple I.kIn ⟨o,h1,h2⟩ e (λz=>nomatch z) h
 | @dK a kvs ea =>
  cases (show u=i8 a from B)
  obtain⟨_,_,vs,_,p⟩:=(show bB X.prog X.w H s.heap a (.dK kvs) from I.hok a _ ea)
  obtain⟨o,es,ep,h1,h2,_⟩:=p;exact Lt kitx_dict I.kIn ⟨o,h1,h2.1⟩ e (λz=>nomatch z) h
 | @dT a kvs ea =>
  cases (show u=i8 a from B)
  obtain⟨_,_,xs,_,o,es,ep,h1,h2,_⟩:=(show bB X.prog X.w H s.heap a (.dT kvs) from I.hok a _ ea)
  exact Lt kitx_dict I.kIn ⟨o,h1,h2.1⟩ e (λz=>nomatch z) h
 | @ins a C dx fs ea cl ha hn htk hm =>
  cases (show u=i8 a from B)
  obtain⟨mA,O,_⟩:=pP I.hok ea;obtain⟨od,J,_⟩:=O.look;exact Lt (PySem.W.kitx_own (cl.get _) cl.hd ha hn htk hm) I.kIn J e (λz=>nomatch z) h
end
structure cU (k:Nat) (A:Around):Prop where
 hd:A.handled=none
 dp:A.depth+3 * k+5 < recursionLimit
 un:A.units+16 * k+200 < cLine
theorem cU.mono (r:cU k A) (h:j<=k):cU j A:=⟨r.hd,by have:=r.dp;omega,by have:=r.un;omega⟩
theorem cU.deeper {k:Nat} {A:Around} (r:cU (k+1) A) (env:Env):cU k (A.deeper env) :=
 ⟨r.hd,by have:=r.dp;show A.depth+1+3 * k+5 < _;omega,by have:=r.un;show A.units+3+16 * k+200 < _;omega⟩
theorem yI:(A.under (.builtin "type.__call__" ⟨.ref C :: us,kw⟩)).depth=A.depth+1:=by
 first | rfl | simp[Around.under,Code.weight,Code.isCreation,Code.isGuard,Code.isCaller,Code.frames,Code.isFrame,guardIds]
theorem yJ:(A.under (.builtin "type.__call__" ⟨.ref C :: us,kw⟩)).units=A.units+1:=by
 first | rfl | simp[Around.under,Code.cUnits,Code.frames,Code.isFrame]
theorem cU.make (r:cU (k+1) A) (C:Addr) (us:List Value) (kw:List (Str × Value)):cU k (A.under (.builtin "type.__call__" ⟨.ref C :: us,kw⟩)) :=
 ⟨r.hd,by have:=r.dp;rw[yI];omega,by have:=r.un;rw[yJ];omega⟩
theorem cU.depth {k:Nat} {A:Around} (r:cU k A):A.depth < recursionLimit:=by have:=r.dp;omega
theorem cU.units {k:Nat} {A:Around} (r:cU k A):A.units+64 < cLine:=by have:=r.un;omega
def yk:TA:=λ_ H Q=>Q [] H
def kQ (ta:TE) (B:TA):TA:=λσ H Q=>ta σ H λx H1=>B σ H1 λxs H2=>Q (x :: xs) H2
section
variable {X:Cx} {te:TE} {t:TA}
theorem af:PA X [] yk:=λ_ _ _ _ H Q I h=>I_ ⟨[],H,I,.nil,h⟩
theorem ac (ha:PE X e te) (Y:PA X es t) (hs:jc (e :: es) X.env=(false,eval e X.env) :: jc es X.env:=by rfl):PA X (e :: es) (kQ te t):=by
 intro pos pins s σ H Q I h;rw[hs]
 show wpAny _ _ (spliced ((false,eval e X.env) :: y_ pos (jc es X.env))) _ _ s
 refine G3 (thn (ha pins s σ H _ I h) λu s1 B=>?_)
 obtain⟨x,H1,I1,r1,q1⟩:=B;exact thn (Y pos pins s1 σ H1 _ I1 q1) λus s2 F=>by obtain⟨xs,H2,L,r2,Z⟩:=F;exact(⟨x :: xs,H2,L,.cons r1 r2,Z⟩)
def EB (t:TA):TE:=λσ H Q=>t σ H λxs H1=>xs.length<=g9/\∀p,H1 p=none->Q (.ref p) (upd H1 p (.tup xs))
def Em (t:TA):TE:=λσ H Q=>t σ H λxs H1=>xs.length<=g9/\∀p,H1 p=none->Q (.ref p) (upd H1 p (.lst xs))
theorem cp {x1} (h:PA X es t):PE X (.Tuple es x1 pos) (EB t):=by
 intro pins s σ H Q I F;refine wpAny_Tuple_spliced (thn (h pos pins s σ H _ I F) λus B ⟨xs,H1,I1,r,z,q⟩=>⟨by rw[<- r.length];exact z,?_⟩)
 have L:H1 B.heap.objs.size=none:=I1.hok.fresh (h_ _)
 refine⟨.ref B.heap.objs.size,upd H1 B.heap.objs.size (.tup xs),I1.laid (t':=B.toks) (λb u e=>c_ _ e) (h_ _) ?_,rfl,q _ L⟩
 exact⟨z,us,r,⟨_,gr _ rfl,rfl,_,rfl⟩⟩
theorem cG (h:PA X es t):PE X (.List es pos) (Em t):=by
 intro pins s σ H Q I F;refine wpAny_List_spliced (thn (h pos pins s σ H _ I F) λus B ⟨xs,H1,I1,r,z,q⟩=>⟨by rw[<- r.length];exact z,?_⟩)
 have L:H1 B.heap.objs.size=none:=I1.hok.fresh (h_ _)
 refine⟨.ref B.heap.objs.size,upd H1 B.heap.objs.size (.lst xs),I1.laid (t':=B.toks) (λb u e=>c_ _ e) (h_ _) ?_,rfl,q _ L⟩
 exact⟨z,us,0,r,gr _ rfl⟩
end
abbrev Sp:=List V->Hp->VK->XK->Prop
abbrev CXT:=List Env->Hp->Shared->XK->Value->Shared->Prop
structure yi (P:Program) (w:World) (K:fy) (mg:Str->Option Value) (base:Heap) (A:Around) (outer:List Env) (s:Shared) (H:Hp):Prop where
 frames:A.frames=some outer
 mod:Mod K mg base
 bs : ∀b o,base.get? b=some o->s.heap.get? b=some o/\H b=none
 bsz:base.objs.size<=s.heap.objs.size
 funs:s.heap.FunFrames base outer
 frf : ∀b∈frs outer,H b=none
 hok:HOk P w H s.heap
 bare:AllBare s.gens
def CE (outer:List Env) (P:Program) (w:World) (H:Hp) (s:Shared) (Q:VK) (u:Value) (s':Shared):Prop :=
 ∃v H',s'.os=s.os/\AllBare s'.gens/\Un (frs outer) [] H H' s.heap s'.heap/\HOk P w H' s'.heap/\bq v u/\Q v H'
def CR (CX:CXT) (outer:List Env) (P:Program) (w:World) (H:Hp) (s:Shared) (Q:VK) (E:XK) (r:Result) (s':Shared):Prop :=
 match r with
 | .ok (.ret u)=>CE outer P w H s Q u s'
 | .ok _=>False
 | .error e=>CX outer H s E e s'
structure jk (P:Program) (w:World) (K:fy) (mg:Str->Option Value) (base:Heap) (CX:CXT) (k:Nat) (f:Addr) (fd:FuncData) (ps:List Str) (sp:Sp):Prop where
 len : ∀vs H Q E,sp vs H Q E->vs.length=ps.length
 run : ∀(A:Around) (outer:List Env) (s:Shared) (H:Hp) (args:Args) (us:List Value) (vs:List V) (Q:VK) (E:XK),cU k A->yi P w K mg base A outer s H->BindsTo s fd args (ps.zip us)->bo vs us->sp vs H Q E ->
  Le (model P w) A (.call (.ref f) args) (CR CX outer P w H s Q E) s
theorem jk.mono {P:Program} {w:World} {K:fy} {mg:Str->Option Value} {base:Heap} {CX:CXT} {j k:Nat} {f:Addr} {fd:FuncData} {ps:List Str} {sp:Sp} (F:jk P w K mg base CX j f fd ps sp) (h:j<=k) :
  jk P w K mg base CX k f fd ps sp:=⟨F.len,λA outer s H args us vs Q E B=>F.run A outer s H args us vs Q E (B.mono h)⟩
theorem jk.imp {CX:CXT} {sp sp':Sp} (F:jk P w K mg base CX k f fd ps sp)
  (h : ∀vs H Q E,sp' vs H Q E->sp vs H Q E):jk P w K mg base CX k f fd ps sp' :=
 ⟨λvs H Q E q=>F.len vs H Q E (h _ _ _ _ q),λA outer s H args us vs Q E L he B Y Z=>F.run A outer s H args us vs Q E L he B Y (h _ _ _ _ Z)⟩
theorem yi.make {H:Hp} (e:yi P w K mg base A outer s H) (C:Addr) (us:List Value) (kw:List (Str × Value)) :
  yi P w K mg base (A.under (.builtin "type.__call__" ⟨.ref C :: us,kw⟩)) outer s H:=⟨by first | exact e.frames | (simpa [Around.under,Code.envs,Code.isFrame,pushEnvs] using e.frames),e.mod,e.bs,e.bsz,e.funs,e.frf,e.hok,e.bare⟩
section
variable {X:Cx} {σ:St} {H:Hp}
theorem Inv.env0 (I:Inv X pins σ H s):yi X.prog X.w X.K X.mg X.base X.A X.stack s H :=
 ⟨I.ok.frames,I.ok.mod,I.bs,ja I.ok.bsz I.sz,I.stack,I.stkFree,I.hok,I.bare⟩
theorem Inv.after {Q:VK} (I:Inv X pins σ H s) (h:CE X.stack X.prog X.w H s Q u s'):EP X pins σ Q u s':=by
 obtain⟨v,H',os,B,un,L,r,q⟩:=h;obtain⟨Y,g,d,t,F⟩:=s';obtain rfl:F=s.os:=os
 exact⟨v,H',I.call (h':=Y) (g':=g) (d':=d) (t':=t) (ch:=[]) un L B (λb z=>absurd z (by simp)),r,q⟩
end
def tI (sp:Sp) (dvs:List V) (E:XK) (t:TA):TE:=λσ H Q=>t σ H λvs H1=>sp (vs++dvs) H1 Q E
def jX (K:fy) (fd:FuncData) (ps:List Str) (ds:List Value):Prop :=
 ∀(s:Shared) (us:List Value),K.In s.heap->(us++ds).length=ps.length->BindsTo s fd ⟨us,[]⟩ (ps.zip (us++ds))
theorem jX.all (h : ∀us:List Value,us.length=ps.length->bindArgs fd ⟨us,[]⟩=pure (ps.zip us)):jX K fd ps []:=λs us _ hl=>by
 rw[append_nil] at hl ⊢;exact .of_eq (h us hl)
def uY (CX:CXT) (X:Cx) (E:XK):Prop:=∀(pins:List (Addr × Obj)) (σ:St) (H:Hp) (s:Shared) (e:Value) (s':Shared),Inv X pins σ H s->CX X.stack H s E e s'->X.xe e s'
section
variable {X:Cx} {CX:CXT} {sp:Sp} {dvs:List V} {E:XK} {m:Str} {p:Pos} {o:Expr} {ta:TE} {t:TA}
theorem lz {σ:St} {H:Hp} {Q:VK} {vs:List V} (F:jk X.prog X.w X.K X.mg X.base CX k f fd ps sp) (hr:cU k X.A) (Y:jX X.K fd ps ds) (hd:bo dvs ds) (Z:uY CX X E)
  (I:Inv X pins σ H s) (r:bo vs us) (h:sp (vs++dvs) H Q E):wpAny (model X.prog X.w) X.A (call (.ref f) us) (EP X pins σ Q) X.xe s:=by
 have L:bo (vs++dvs) (us++ds):=r.append hd
 have hl:(us++ds).length=ps.length:=by rw[<- L.length];exact F.len _ _ _ _ h
 refine wpAny_call (L_ (F.run X.A X.stack s H ⟨us,[]⟩ (us++ds) (vs++dvs) Q E hr I.env0 (Y s us I.kIn hl) L h) λr s' B=>?_)
 cases r with
 | error e=>exact Z pins σ H s e s' I B
 | ok fl =>
  cases fl with
  | ret u=>exact I.after B
  | next=>exact F_ B
  | brk=>exact F_ B
  | cont=>exact F_ B
theorem EQ (F:jk X.prog X.w X.K X.mg X.base CX k f fd ps sp) (hr:cU k X.A) (hg:Gl X x) (Y:X.mg x=-f) (hk:Lj X.K (.ref f)=true) (Z:jX X.K fd ps ds) (hd:bo dvs ds) (hx:uY CX X E)
  (ha:PA X (e :: es) t) (L:(x ==("__debug__" : Str))=false:=by decide) (he:jc (e :: es) X.env=(false,eval e X.env) :: jc es X.env:=by rfl) (B:(y_ pos (jc es X.env)).any (·.1)=false:=by rfl) :
  PE X (.Call (.Name x p) (e :: es) [] pos) (tI sp dvs E t):=by
 intro pins s σ H Q I h;refine t5 (lY I hg Y ?_ L)
 refine LL (h₀:=X.base) I.ok.mod.kin hk (thn (ha pos pins s σ H _ I h) λus s1 ⟨vs,H1,I1,r,q⟩=>⟨I1.kIn,?_⟩) he B
 exact lz F hr Z hd hx I1 r q
structure Mk (K:fy) (C f:Addr):Prop where
 makes:makesIn K C=true
 init:findIn K (.ref C) "__init__" = some (-f)
 fn:isFn K (.ref f)=true
 kp:Lj K (.ref C)=true
theorem C5 {σ:St} {H:Hp} {Q:VK} {vs:List V} (M:Mk X.K C f) (F:jk X.prog X.w X.K X.mg X.base CX k f fd ps sp) (hr:cU (k+1) X.A) (hb:jX X.K fd ps ds) (hd:bo dvs ds)
  (hx:uY CX X E) (I:Inv X pins σ H s) (r:bo vs us)
  (h : ∀x dx,H x=none->H dx=none->dx≠x->sp (.ref x ::(vs++dvs)) (upd (upd H dx (.own x)) x (.ins C dx [])) (λv H2=>v = .non/\Q (.ref x) H2) E) :
  wpAny (model X.prog X.w) X.A (call (.ref C) us) (EP X pins σ Q) X.xe s:=by
 have Y:=h (s.heap.objs.size+1) s.heap.objs.size (I.hok.fresh (le_succ _)) (I.hok.fresh (h_ _)) (k9 (D_ _));have L:=Inv.made (C:=C) I;have Z:bo (V.ref (s.heap.objs.size+1) ::(vs++dvs)) (i8 (s.heap.objs.size+1) ::(us++ds)):=.cons rfl (r.append hd)
 have hl:(i8 (s.heap.objs.size+1) :: us++ds).length=ps.length:=by
  have e:=Z.length;rw[F.len _ _ _ _ Y] at e;exact e.symm
 refine wpAny_call (CG (f:=f) I.kIn M.makes M.init (beq_iff_eq.mp M.fn) (L_ (F.run _ X.stack _ _ ⟨i8 (s.heap.objs.size+1) :: us,[]⟩ (i8 (s.heap.objs.size+1) ::(us++ds)) _ _ E (hr.make C us [])
  (L.env0.make C us []) (hb _ (i8 (s.heap.objs.size+1) :: us) L.kIn hl) Z Y) λr s' B=>?_))
 cases r with
 | error e=>exact hx pins σ _ _ e s' L B
 | ok fl =>
  cases fl with
  | ret u =>
   obtain⟨v,H',I3,rv,ev,q3⟩:=L.after B;subst ev;exact⟨rv,⟨V.ref (s.heap.objs.size+1),H',I3,rfl,q3⟩⟩
  | next=>exact F_ B
  | brk=>exact F_ B
  | cont=>exact F_ B
end
structure ax (N P:List Str) (sc:Scope):Prop where
 kind:sc.kind = .function
 co:sc.isCoroutine=false
 gen:sc.isGenerator=false
 nd:N.Nodup
 pre:N.take P.length=P
 par : ∀x∈P,sc.names.lookup x=some .local\/sc.names.lookup x=some .cell
 nofree : ∀y∈sc.names,y.2≠.free
theorem sZ {B:Str->Option zb} {x:Str} : ∀{binds:List (Str × Value)} {m:Str->Option Value},(∀v,(x,v)∉binds)->bindL B binds m x=m x
 | [],_,_=>rfl
 | (n,v) :: r,m,h=>by
  unfold bindL;rw[sZ λw F=>h w (i7 _ F)]
  split
  .have:x≠n:=by rintro rfl;exact h v m6
   simp[this]
  .rfl
theorem tE {B:Str->Option zb} {x:Str} : ∀{binds:List (Str × Value)} {m:Str->Option Value},(∀v,(x,v)∉binds)->bindC B binds m x=m x
 | [],_,_=>rfl
 | (n,v) :: r,m,h=>by
  unfold bindC;rw[tE λw F=>h w (i7 _ F)]
  split
  .rfl
  .have:x≠n:=by rintro rfl;exact h v m6
   simp[this]
theorem tV {B:Str->Option zb} {x:Str} {v:Value} : ∀{P:List Str} {vs:List Value} {i:Nat} {m:Str->Option Value},P.Nodup->P[i]? = some x->vs[i]? = some v->B x=some .local ->
  bindL B (P.zip vs) m x=some v
 | [],_,_,_,_,h,_,_=>by simp at h
 | _ :: _,[],_,_,_,_,h,_=>by simp at h
 | p :: P,w :: vs,0,m,nd,h1,h2,hk=>by
  simp at h1 h2;subst h1;subst h2
  show bindL B ((p,w) :: P.zip vs) m p=_
  unfold bindL;rw[sZ λv F=>(m7.mp nd).1 (of_mem_zip F).1,if_pos hk]
  simp
 | p :: P,w :: vs,i+1,m,nd,h1,h2,hk=>by
  show bindL B ((p,w) :: P.zip vs) m x=_
  unfold bindL;exact tV (i:=i) (m7.mp nd).2 (by simpa using h1) (by simpa using h2) hk
theorem tS {B:Str->Option zb} {x:Str} {v:Value} : ∀{P:List Str} {vs:List Value} {i:Nat} {m:Str->Option Value},P.Nodup->P[i]? = some x->vs[i]? = some v->B x≠some .local ->
  bindC B (P.zip vs) m x=some v
 | [],_,_,_,_,h,_,_=>by simp at h
 | _ :: _,[],_,_,_,_,h,_=>by simp at h
 | p :: P,w :: vs,0,m,nd,h1,h2,hk=>by
  simp at h1 h2;subst h1;subst h2
  show bindC B ((p,w) :: P.zip vs) m p=_
  unfold bindC;rw[tE λv F=>(m7.mp nd).1 (of_mem_zip F).1,if_neg hk]
  simp
 | p :: P,w :: vs,i+1,m,nd,h1,h2,hk=>by
  show bindC B ((p,w) :: P.zip vs) m x=_
  unfold bindC;exact tS (i:=i) (m7.mp nd).2 (by simpa using h1) (by simpa using h2) hk
def ju (N:List Str) (vs:List V):St:=vs.map some++replicate (N.length - vs.length) none
def uL (CX:CXT) (P:Program) (w:World) (K:fy) (mg:Str->Option Value) (base:Heap) (N:List Str) (qual:Str) (scope:Scope) (f:Addr) (cd:Value) (A:Around) (outer:List Env) (s:Shared) (H:Hp) (E:XK):Cx where
 prog:=P
 w:=w
 K:=K
 mg:=mg
 base:=base
 A:=A.deeper (envOfC qual scope s.heap.objs.size f cd)
 N:=N
 s₀:=s
 H₀:=H
 env:=envOfC qual scope s.heap.objs.size f cd
 outer:=outer
 stack:=envOfC qual scope s.heap.objs.size f cd :: outer
 ex:=[]
 calm:=true
 fn:=λ_=>true
 pn:=[]
 xe:=λe s'=>wpAny (model P w) (A.deeper (envOfC qual scope s.heap.objs.size f cd)) (leaving (envOfC qual scope s.heap.objs.size f cd) e) (λ_ B=>CX outer H s E e B) (λF B=>CX outer H s E F B) s'
theorem wH (h:sc.names.lookup x=some .cell) : ∃c,(o8 n sc.names []).lookup x=some c:=by
 have q:=PySem.W.cellsFrom_some sc.names n [] (.inl h);exact KZ.mp q
theorem A5 {CX:CXT} {s1:Shared} {H:Hp} {E:XK} {vs:List V}
  (S:ax N ps scope) (hd:A.handled=none) (B:yi P w K mg base A outer s H) (hl:vs.length=ps.length) (r:bo vs us)
  (x:InCallC s s.heap.objs.size (bindL (envOfC qual scope s.heap.objs.size f cd).kindOf (ps.zip us) λ_=>none) (o8 (s.heap.objs.size+1) scope.names []) (bindC (envOfC qual scope s.heap.objs.size f cd).kindOf (ps.zip us) λ_=>none) s1) :
  Inv (uL CX P w K mg base N qual scope f cd A outer s H E) [] (ju N vs) H s1:=by
 have aa:ps.length<=N.length:=by have:=congrArg KM S.pre;rw[KJ] at this;omega
 obtain⟨h1,tk,rfl,Z⟩:=x.done;have L : ∀b:Addr,b∉(uL CX P w K mg base N qual scope f cd A outer s H E).ex:=λb z=>absurd (show b∈([]:List Addr) from z) (by simp)
 refine⟨⟨B.mod,S.kind,rfl,rfl,h_ _,λy z c h1 h2=>?_,λy F=>?_,λy c _ h=>?_,λ_=>hd,Around.frames_deeper B.frames,.inr ⟨rfl,rfl⟩,λb z=>absurd z (L b),B.bs,B.bsz,λb _ _=>L b,λb z=>absurd z (L b),B.funs,B.frf⟩,
  rfl,B.bare,Un.kept Z,⟨_,x.toInCall.ns,λi y v h1 h2 h3=>?_⟩,λy c h=>⟨_,x.cell y c h⟩,B.hok.fresh (h_ _),λy c h=>?_,λp hp=>absurd (show p∈([]:List (Addr × Obj)) from hp) (by simp),B.hok.kept Z,?_⟩
 .exact name_of_addr x.apart (K_ h1) (K_ h2)
 .have F:scope.names.lookup y=some .cell\/scope.names.lookup y=some .free:=F
  rcases F with F | F
  .exact wH F
  .exact absurd rfl (S.nofree _ (K_ F))
 .exact y3 (x.above y c (K_ h))
 .have hi:i < vs.length:=by
   unfold ju at h2
   by_cases hi:i < vs.length
   .exact hi
   .rw[u7 (by simpa using hi)] at h2
    rw[List.getElem?_replicate] at h2
    split at h2 <;> cases h2
  have ha:vs[i]? = some v:=by
   unfold ju at h2;rw[t3 (by simpa using hi),f_] at h2
   cases e:vs[i]? with
   | none=>rw[e] at h2;cases h2
   | some a=>rw[e] at h2;cases h2;rfl
  obtain⟨u,hu,rv⟩:=r.get ha;have hp:ps[i]? = some y:=by
   rw[<- S.pre,List.getElem?_take_of_lt ()];exact h1
  have Y:ps.Nodup:=by rw[<- S.pre];exact S.nd.sublist (x8 _ _)
  refine⟨u,rv,?_⟩
  rcases S.par y (gt hp) with k | k
  .exact .inl ⟨k,tV Y hp hu k⟩
  .obtain⟨c,e⟩:=wH (n:=s.heap.objs.size+1) k
   refine .inr ⟨.inl k,c,e,?_⟩
   have q:=x.cell y c e;rw[tS Y hp hu (by show scope.names.lookup y≠_;rw[k];decide)] at q
   exact q
 .exact B.hok.fresh (y3 (x.above y c (K_ h)))
 .unfold ju
  show _=N.length
  rw[q_,d_,List.length_replicate];omega
theorem Jp {CX:CXT} {dV kV:Value} {an:Option Addr}
   {sp:Sp} (lk:K.lookup f=some ⟨oc,od,.func (fnOf name qual params body scope dV kV doc pm an cdv ct),osl⟩) (ab:codeIn K cdv qual=true) (S:ax N ps scope)
  (len : ∀vs H Q E,sp vs H Q E->vs.length=ps.length)
  (F : ∀(A:Around) (outer:List Env) (s:Shared) (H:Hp) (vs:List V) (Q:VK) (E:XK),cU k (A.deeper (envOfC qual scope s.heap.objs.size f cdv))->sp vs H Q E ->
   ∃t,PSs (uL CX P w K mg base N qual scope f cdv A outer s H E) body t/\t { nx:=λ_ H'=>Q .non H',rt:=Q } (ju N vs) H) :
  jk P w K mg base CX (k+1) f (fnOf name qual params body scope dV kV doc pm an cdv ct) ps sp:=by
 refine⟨len,λA outer s H args us vs Q E hr Y hb r aa=>?_⟩
 have hl:=len _ _ _ _ aa;have KX:K.In s.heap:=Y.mod.kin.keeps λb o e=>(Y.bs b o e).1
 have ac:s.heap.NoLimit:=Y.mod.nolimit.keeps λb o e=>(Y.bs b o e).1
 have B : ∀y∈ps.zip us,scope.names.lookup y.1=some .local\/(scope.names.lookup y.1=some .cell/\((o8 (s.heap.objs.size+1) scope.names []).lookup y.1).isSome=true):=λ⟨n,v⟩ hy=>by
  rcases S.par n (of_mem_zip hy).1 with q | q
  .exact .inl q
  .exact .inr ⟨q,PySem.W.cellsFrom_some _ _ _ (.inl q)⟩
 refine codeAny_call_function hr.depth (KX _ _ lk) rfl S.co S.gen rfl (PySem.W.codeRec_of KX ab) (hb _ _ _ _ ?_)
 refine wpAny_newFunctionEnv_cells S.kind B λenv he s1 x=>?_
 subst he;refine⟨ac.keeps x.toInCall.keep,codeAny_func ?_⟩
 obtain⟨t,ht,hq⟩:=F A outer s H vs Q E (hr.deeper _) aa;have I:Inv (uL CX P w K mg base N qual scope f cdv A outer s H E) [] (ju N vs) H s1:=A5 S hr.hd Y hl r x
 refine FV (ht [] s1 (ju N vs) H _ I hq) (λfl s' L=>?_) λe s' L=>L
 have Z : ∀{σ':St} {H':Hp} {v:V} {u:Value},Inv (uL CX P w K mg base N qual scope f cdv A outer s H E) [] σ' H' s'->bq v u->Q v H'->CE outer P w H s Q u s' :=
  λ{σ' H' v u} J rv q=>⟨v,H',J.os,J.bare,J.base,J.hok,rv,q⟩
 cases fl with
 | ret u =>
  obtain⟨v,σ',H',J,rv,q⟩:=L;exact Z J rv q
 | next =>
  obtain⟨σ',H',J,q⟩:=L;exact Z (v:=V.non) (u:=u9) J rfl q
 | brk =>
  obtain⟨_,_,_,q⟩:=L;exact F_ q
 | cont =>
  obtain⟨_,_,_,q⟩:=L;exact F_ q
section
variable {X:Cx} {p:Pos} {t:TA} {id T:String} {r:List V->Hp->VK->Prop}
def tCB (r:List V->Hp->VK->Prop) (t:TA):TE:=λσ H Q=>t σ H λvs H1=>r vs H1 Q
theorem aE (hc:bY X (.builtin id) r) (Y:X.mg x=none) (ha:PA X (e :: es) t) (Z:Gl X x:=by exact rfl) (hv:x_ x=some (.builtin id):=by decide+kernel) (hn:x ≠ "__name__" := by decide) (F:(x ==("__debug__" : Str))=false:=by decide)
  (he:jc (e :: es) X.env=(false,eval e X.env) :: jc es X.env:=by rfl) (B:(y_ pos (jc es X.env)).any (·.1)=false:=by rfl):PE X (.Call (.Name x p) (e :: es) [] pos) (tCB r t):=by
 intro pins s σ H Q I h;refine t5 (eJ I Z Y hv ?_ hn F)
 exact PyProof.Rows.callWith_builtin1 (thn (ha pos pins s σ H _ I h) λus s1 L=>by obtain⟨vs,H1,I1,r1,q1⟩:=L;exact(hc pins s1 σ H1 vs us Q I1 r1 q1)) he B
theorem aW (hc:bY X (.type T) r) (Y:X.mg x=none) (ha:PA X (e :: es) t) (Z:Gl X x:=by exact rfl) (hv:x_ x=some (.type T):=by decide+kernel) (hn:x ≠ "__name__" := by decide) (F:(x ==("__debug__" : Str))=false:=by decide)
  (he:jc (e :: es) X.env=(false,eval e X.env) :: jc es X.env:=by rfl) (B:(y_ pos (jc es X.env)).any (·.1)=false:=by rfl):PE X (.Call (.Name x p) (e :: es) [] pos) (tCB r t):=by
 intro pins s σ H Q I h;refine t5 (eJ I Z Y hv ?_ hn F)
 exact k7 (thn (ha pos pins s σ H _ I h) λus s1 L=>by obtain⟨vs,H1,I1,r1,q1⟩:=L;exact(hc pins s1 σ H1 vs us Q I1 r1 q1)) he B
end
end L2
variable {CX:L2.CXT} {Cs:List (PySem.Addr × L2.Sp)} {D:L2.pk} {H H' H1 H2:L2.Hp} {X:L2.Cx} {dvs vs xs zs:List L2.V} {fs':List (Lg × L2.V)} {kf kh kvs:List (L2.Key × L2.V)} {o o' u0:L2.HO} {r':L2.V->Option Int->Option Int->L2.Hp->L2.VK->Prop} {sp sp':L2.Sp} {ta td te to tv ty:L2.TE} {tb:L2.TS} {tc:L2.TT} {trs:List (L2.TE × L2.TE)} {vb:List (L2.Key × KI)} {wi:L2.TI} {y:L2.V} {σ σ0:L2.St} {σ':List (Option L2.V)}
namespace HT
open PySem PyProof.Rows
theorem cat_tup {t:Addr} {vs ws:List Value} (ht:IsTup s.heap t vs.toArray) (hb:IsTup s.heap b ws.toArray) (hv:vs≠[])
  (h1:ws=[]->Q (.ref t) s) (h2:ws≠[]->Q (.ref s.heap.objs.size) { s with heap:=s.heap.push { cls:=.type "tuple",data:=.seq (vs++ws).toArray } })
  (hsz:vs.length+ws.length<=g9):wpAny (model prog w) A (A_ .Add (.ref t) (.ref b)) Q E s:=by
 obtain⟨⟨cls,dd,data,sl⟩,ho,hc,n,hd⟩:=id ht;obtain⟨⟨ac,Y,ab,aa⟩,B,Z,n2,L⟩:=id hb;simp only at hc hd Z L;subst hc hd Z L;have e:vs.toArray++ws.toArray=(vs++ws).toArray:=by simp
 by_cases hw:ws=[]
 .exact concat_meets ⟨_,ho,rfl⟩ ⟨_,B,rfl⟩ noFill_tuple_add seq_tuple_add PySem.F.slot_tuple_add PySem.F.entry_tuple_add (PySem.F.args_tuple_add_2 _ _)
   (tuple_addW1 t b vs.toArray ws.toArray n n2 dd Y sl aa (by simpa using hv) (by simp[hw])) ⟨ho,B,h1 hw⟩
 .refine concat_meets ⟨_,ho,rfl⟩ ⟨_,B,rfl⟩ noFill_tuple_add seq_tuple_add PySem.F.slot_tuple_add PySem.F.entry_tuple_add (PySem.F.args_tuple_add_2 _ _)
   (tuple_addW2 t b vs.toArray ws.toArray n n2 dd Y sl aa (by simpa using hv) (by simpa using hw) (by rw[j7,j7];exact hsz)) ⟨ho,B,?_⟩
  rw[e];exact h2 hw
def sIx (n d:Nat):Option Int->Nat
 | none=>d
 | some v=>if v < 0 then(v+(n:Int)).toNat else min v.toNat n
theorem sIx_none (n d:Nat):sIx n d none=d:=rfl
theorem sIx_nat (n d k:Nat):sIx n d (some (k:Int))=min k n:=by
 show(if (k:Int) < 0 then((k:Int)+(n:Int)).toNat else min (k:Int).toNat n)=min k n
 rw[if_neg (),J_]
theorem sIx_le (n d:Nat) (F:d<=n) (o:Option Int):sIx n d o<=n:=by
 cases o with
 | none=>exact F
 | some v =>
  show(if v < 0 then(v+(n:Int)).toNat else min v.toNat n)<=n
  by_cases B:v < 0
  .rw[if_pos B];omega
  .rw[if_neg B];exact Nat.min_le_right _ _
theorem zA (v:Int) (n d:Nat):(if v < 0 then max (v+(n:Int)) 0 else min v (n:Int))=((sIx n d (some v):Nat):Int):=by
 show(if v < 0 then max (v+(n:Int)) 0 else min v (n:Int))=(((if v < 0 then(v+(n:Int)).toNat else min v.toNat n):Nat):Int)
 by_cases B:v < 0
 .simp only[if_pos B];omega
 .simp only[if_neg B];omega
theorem xz (lo hi:Option Int) (n:Nat):Builtin.Slice.sliceAdjust lo hi 1 (n:Int)=(((sIx n 0 lo:Nat):Int),((sIx n n hi:Nat):Int)):=by
 have h1 : ¬ ((1:Int) < 0):=()
 unfold Builtin.Slice.sliceAdjust;simp only[h1,if_false];refine Prod.ext ?_ ?_
 .cases lo with
  | none=>rfl
  | some v=>exact zA v n 0
 .cases hi with
  | none=>rfl
  | some v=>exact zA v n n
theorem yO (i j:Nat):K1 (i:Int) (j:Int) 1=j - i:=by
 unfold K1;have h1:(1:Int) > 0:=()
 simp only[h1,if_true,Int.ediv_one]
 split <;> omega
theorem qI {v:Value} {o:Option Int} {Q:Option Int->Shared->Prop} (p:IsPart v o) (h:Q o s):wpAny (model prog w) A (Builtin.Slice.slicePartIndex v) Q E s:=by
 cases p with
 | none=>exact slicePart_none h
 | int i t=>exact slicePart_int h
theorem iF {sl:Addr} {lo:Option Int} {Q:Int × Int × Nat->Shared->Prop} (L:s.heap.IsSliceOf sl vl vu .none) (pl:IsPart vl lo) (Z:IsPart vu hi)
  (h:Q (((sIx n 0 lo:Nat):Int),1,sIx n n hi - sIx n 0 lo) s):wpAny (model prog w) A (Builtin.Slice.sliceApplied (.ref sl) (pure (n:Int))) Q E s:=by
 obtain⟨os,F,Y,B⟩:=id L;unfold Builtin.Slice.sliceApplied Builtin.Slice.sliceFields;refine a_ (a_ (m8 F B (x:=vl) rfl (a_ (m8 F B (x:=vu) rfl (a_ (m8 F B (x:=.none) rfl (e_ ?_)))))))
 refine a_ (slicePart_none ?_)
 show wpAny _ _ (if ((1:Int) == 0)=true then _ else _) _ _ s
 rw[if_neg ∅]
 refine a_ (qI pl (a_ (qI Z (a_ (e_ ?_)))))
 show wpAny _ _ (match Builtin.Slice.sliceAdjust lo hi 1 (n:Int) with | (lo,hi)=>pure (lo,(1:Int),K1 lo hi 1)) _ _ s
 rw[xz lo hi n]
 show wpAny _ _ (pure (((sIx n 0 lo:Nat):Int),(1:Int),K1 ((sIx n 0 lo:Nat):Int) ((sIx n n hi:Nat):Int) 1)) _ _ s
 rw[yO];exact e_ h
theorem Cj (xs:Array Value) (i k:Nat):((range k).filterMap λ(m:Nat)=>xs[((i:Int)+(m:Int) * 1).toNat]?).toArray=((xs.toList.drop i).take k).toArray:=by
 have e:(λ(m:Nat)=>xs[((i:Int)+(m:Int) * 1).toNat]?)=λm=>xs[i+m]? := by
  funext m
  have:((i:Int)+(m:Int) * 1).toNat=i+m:=()
  rw[this]
 rw[e];have:=pick_run xs i k
 rw[List.filterMap_map] at this;have e2:((λx=>xs[x]?) ∘ λx=>i+x)=λm=>xs[i+m]? := rfl
 rw[e2] at this;rw[this]
theorem getItem_tuple_cut {t sl:Addr} {lo:Option Int} (F:IsTup s.heap t items) (hs:s.heap.IsSliceOf sl vl vu .none) (pl:IsPart vl lo) (pu:IsPart vu hi)
  (hw : ¬ (sIx items.size 0 lo=0/\sIx items.size items.size hi=items.size))
  (h:Q (.ref s.heap.objs.size) { s with heap:=s.heap.push { cls:=.type "tuple",data:=.seq ((items.toList.drop (sIx items.size 0 lo)).take (sIx items.size items.size hi - sIx items.size 0 lo)).toArray } })
  (hsz:items.size<=g9):wpAny (model prog w) A (getItem (.ref t) (.ref sl)) Q E s:=by
 have B:sizeOk (.seq ((items.toList.drop (sIx items.size 0 lo)).take (sIx items.size items.size hi - sIx items.size 0 lo)).toArray):=by
  show((items.toList.drop (sIx items.size 0 lo)).take (sIx items.size items.size hi - sIx items.size 0 lo)).toArray.size<=g9
  rw[j7,KJ,length_drop,zc];omega
 have hj:sIx items.size items.size hi<=items.size:=sIx_le _ _ (h_ _) hi
 obtain⟨os,aa,L,ab⟩:=id hs;have Z:s.TypeIs (.ref sl) "slice" :=⟨os,aa,L⟩
 unfold getItem
 try with_reducible refine t7 ?_
 first | refine a_ (e_ ?_) | skip
 refine a_ (wpAny_sequenceKey F.typeIs ∅ ?_)
 refine a_ (k4 (name:=b_ "__getitem__") F.typeIs u5
  (li u5 F.typeIs entry_tuple_getitem ?_ (args_tuple_getitem _ _)))
 show wpAny _ _ (Builtin.Tuple.tupleItemsOf (.ref t) >>= _) _ _ s
 refine a_ (tupleItemsOf_ F ?_)
 refine a_ (Lx Z ?_)
 rw[if_pos ∅]
 refine a_ (iF hs pl pu ?_)
 have Y : ¬ ((((sIx items.size 0 lo:Nat):Int) == 0 && (1:Int) == 1 && (sIx items.size items.size hi - sIx items.size 0 lo) == items.size)=true):=by
  intro q;rw[l_,l_] at q;have q1:((sIx items.size 0 lo:Nat):Int)=0:=eq_of_beq q.1.1
  have q2:sIx items.size items.size hi - sIx items.size 0 lo=items.size:=eq_of_beq q.2
  exact hw ⟨(),()⟩
 show wpAny _ _ (if (((sIx items.size 0 lo:Nat):Int) == 0 && (1:Int) == 1 && (sIx items.size items.size hi - sIx items.size 0 lo) == items.size)=true then _ else _) _ _ s
 rw[if_neg Y,Cj]
 first
  | exact a_ (m:=K7 _) (w4 (e_ ⟨_,rfl,e_ h⟩) B)
  | exact a_ (m:=K7 _) (w4 (a_ (e_ (e_ ⟨_,rfl,e_ h⟩))) B)
  | exact a_ (a_ (m:=K7 _) (w4 (e_ (e_ ⟨_,rfl,e_ h⟩)) B))
  | exact a_ (a_ (m:=K7 _) (w4 (e_ ⟨_,rfl,e_ h⟩) B))
end HT
namespace L2
open PySem PySem.Spec PyProof.Rows
abbrev TO:=St->Hp->(Option Int->Hp->Prop)->Prop
def PO (X:Cx) (e:Option Expr) (t:TO):Prop :=
 ∀ (pins:List (Addr × Obj)) (s:Shared) (σ:St) (H:Hp) (Q:Option Int->Hp->Prop),Inv X pins σ H s->t σ H Q ->
  wpAny (model X.prog X.w) X.A (evalPart e X.env) (λu s'=>∃o H',Inv X pins σ H' s'/\IsPart u o/\Q o H') X.xe s
def mq:TO:=λ_ H Q=>Q none H
def wc (t:TE):TO:=λσ H Q=>t σ H λx H1=>∃i,x = .int i/\Q (some i) H1
theorem fE : ∀{us:List Value},bo (ns.map V.int) us->IntsAre us ns:=by
 induction ns with
 | nil=>intro us r;rw[map_nil] at r;cases r;exact .nil
 | cons n ns L =>
  intro us r;rw[j8] at r;cases r with
  | cons B F =>
   obtain⟨t,e⟩:=B;subst e;exact .cons n t (L F)
section
variable {lo hi:Option Expr} {tl th:TO}
theorem cA:PO X none mq:=by
 intro pins s σ H Q I h;rw[evalPart_none];exact e_ ⟨none,H,I,.none,h⟩
theorem bW (h:PE X e te):PO X (some e) (wc te):=by
 intro pins s σ H Q I Y;rw[evalPart_some];refine thn (h pins s σ H _ I Y) λu s1 B=>?_
 obtain⟨x,H1,Z,F,L⟩:=B;obtain⟨i,rfl,q⟩:=L;obtain⟨t,rfl⟩:=F;exact⟨some i,H1,Z,.int i t,q⟩
def SlR (X:Cx) (r:V->Option Int->Option Int->Hp->VK->Prop):Prop :=
 ∀ (pins:List (Addr × Obj)) (s:Shared) (σ:St) (H:Hp) (x:V) (v vl vu:Value) (lo hi:Option Int) (sl:Addr) (Q:VK),Inv X pins σ H s->bq x v->s.heap.IsSliceOf sl vl vu .none->IsPart vl lo->IsPart vu hi->r x lo hi H Q ->
  ∃T id,H_ (.type T) "__getitem__" = pure (some (.builtin id))/\s.TypeIs v T/\wpAny (model X.prog X.w) X.A (getItem v (.ref sl)) (EP X pins σ Q) X.xe s
def tSl (r:V->Option Int->Option Int->Hp->VK->Prop) (te:TE) (tl th:TO):TE:=λσ H Q=>te σ H λx H1=>tl σ H1 λl H2=>th σ H2 λu B=>r x l u B Q
theorem bL {r:V->Option Int->Option Int->Hp->VK->Prop} (hr:SlR X r) (he:PE X e te) (hl:PO X lo tl) (hu:PO X hi th):PE X (.Subscript e (.Slice lo hi none p2) pos) (tSl r te tl th):=by
 intro pins s σ H Q I h;refine Subscript_ (thn (he pins s σ H _ I h) λv s1 F=>?_)
 obtain⟨x,H1,I1,r1,q1⟩:=F;refine wpAny_Slice (thn (hl pins s1 σ H1 _ I1 q1) λvl s2 ⟨l,H2,I2,pl,q2⟩=>thn (hu pins s2 σ H2 _ I2 q2) λvu B L=>?_)
 obtain⟨u,Y,I3,pu,q3⟩:=L;rw[evalPart_none];refine e_ ?_
 have I4:Inv X pins σ Y { B with heap:=B.heap.push { cls:=.type "slice",data:=.fields #[vl,vu,.none] } }:=I3.kept (t':=B.toks) λb ob q=>c_ _ q
 obtain⟨T,id,hT,ht,Z⟩:=hr pins { B with heap:=B.heap.push { cls:=.type "slice",data:=.fields #[vl,vu,.none] } } σ Y x v vl vu l u B.heap.objs.size Q I4 r1 (Heap.IsSliceOf.new ..) pl pu q3
 show wpAny (model X.prog X.w) X.A (subscriptTail e (.Slice lo hi none p2) v (.ref B.heap.objs.size)) (EP X pins σ Q) X.xe { B with heap:=B.heap.push { cls:=.type "slice",data:=.fields #[vl,vu,.none] } }
 exact tail_any (ops:=[.ref B.heap.objs.size,v]) ht hT Z (by with_unfolding_all rfl)
def fQ (xs:List V) (lo hi:Option Int):List V:=(xs.drop (HT.sIx xs.length 0 lo)).take (HT.sIx xs.length xs.length hi - HT.sIx xs.length 0 lo)
theorem oG (xs:List V) (lo hi:Option Int):(fQ xs lo hi).length<=xs.length:=by
 unfold fQ;rw[KJ,length_drop];omega
def J6 (K:fy):V->Option Int->Option Int->Hp->VK->Prop:=λx lo hi H Q=>∃a xs,x = .ref a/\SqT K H a xs /\
 ¬ (HT.sIx xs.length 0 lo=0/\HT.sIx xs.length xs.length hi=xs.length)/\∀p,H p=none->Q (.ref p) (upd H p (.tup (fQ xs lo hi)))
theorem Hb:SlR X (J6 X.K):=by
 intro pins s σ H x v vl vu lo hi sl Q I rx Z pl pu h;obtain⟨a,xs,rfl,Y,hw,q⟩:=h;cases rx;obtain⟨its,r,L,F⟩:=I.tuple Y;have B:its.toArray.size=xs.length:=by rw[j7];exact r.length.symm
 refine⟨"tuple",_,u5.lookup,L.typeIs,?_⟩
 refine HT.getItem_tuple_cut L Z pl pu (by rw[B];exact hw) ?_ (by rw[B];exact F)
 rw[B];refine⟨.ref s.heap.objs.size,_,I.laid (t':=s.toks) (o:=.tup (fQ xs lo hi)) (λb ob q=>c_ _ q) (h_ _) ?_,rfl,q _ (I.hok.fresh (h_ _))⟩
 exact⟨ja (oG xs lo hi) F,_,(r.drop (HT.sIx xs.length 0 lo)).take (HT.sIx xs.length xs.length hi - HT.sIx xs.length 0 lo),IsTup.new _ _⟩
def IN (K:fy):R2:=λx y H Q=>∃a b xs ys,x = .ref a/\y = .ref b/\SqT K H a xs/\SqT K H b ys/\xs≠[]/\xs.length+ys.length<=g9 /\
 (ys=[]->Q (.ref a) H)/\(ys≠[]->∀p,H p=none->Q (.ref p) (upd H p (.tup (xs++ys))))
theorem bo.nil_iff (r:bo xs us):us=[]↔xs=[]:=by
 cases r with
 | nil=>simp
 | cons _ _=>simp
theorem Ew:OpR X (A_ .Add) (IN X.K):=by
 intro pins s σ H x y v u Q I rx ry h;obtain⟨a,b,xs,ys,rfl,rfl,ha,Z,hx,Y,q1,q2⟩:=h;cases rx;cases ry;obtain⟨its,F,p1,_⟩:=I.tuple ha;obtain⟨L,B,p2,_⟩:=I.tuple Z;refine HT.cat_tup p1 p2 (λz=>hx (F.nil_iff.mp z)) (λz=>⟨.ref a,H,I,rfl,q1 (B.nil_iff.mp z)⟩) (λz=>?_) (by rw[<- F.length,<- B.length];exact Y)
 refine⟨.ref s.heap.objs.size,_,I.laid (t':=s.toks) (o:=.tup (xs++ys)) (λb ob q=>c_ _ q) (h_ _) ?_,rfl,q2 (λw=>z (B.nil_iff.mpr w)) _ (I.hok.fresh (h_ _))⟩
 exact⟨by rw[q_];exact Y,_,F.append B,IsTup.new _ _⟩
end
def ixN (n:Nat) (i:Int):Option Nat:=if 0<=i then(if i < n then some i.toNat else none) else if -(n:Int)<=i then some (i+n).toNat else none
def atI {α:Type} (xs:List α) (i:Int):Option α:=(ixN xs.length i).bind λj=>xs[j]?
theorem Gg {i:Int} (h:ixN n i=some j):seqIndex? i n=some j/\j < n/\-(n:Int)<=i/\i < n:=by
 unfold ixN at h
 by_cases B:0<=i
 .rw[if_pos B] at h
  by_cases h1:i < n
  .rw[if_pos h1] at h
   have e:i.toNat=j:=ge h
   exact⟨by rw[seqIndex_of B h1,e],(),(),h1⟩
  .rw[if_neg h1] at h;cases h
 .rw[if_neg B] at h
  by_cases h1 : -(n:Int)<=i
  .rw[if_pos h1] at h
   have e:(i+n).toNat=j:=ge h
   exact⟨by rw[seqIndex_neg () h1,e],(),h1,()⟩
  .rw[if_neg h1] at h;cases h
theorem ud {xs:List α} {i:Int} {v:α} (h:atI xs i=some v) : ∃j,seqIndex? i xs.length=some j/\xs[j]? = some v/\j < xs.length/\-(xs.length:Int)<=i/\i < xs.length:=by
 unfold atI at h;cases e:ixN xs.length i with
 | none=>rw[e] at h;cases h
 | some j =>
  rw[e] at h;obtain⟨h1,h2,B,F⟩:=Gg e;exact⟨j,h1,h,h2,B,F⟩
theorem bc {xs:List α} {v:α} (h:xs[j]? = some v):atI xs (j:Int)=some v:=by
 have B:j < xs.length:=(g_.mp h).1
 have e:ixN xs.length (j:Int)=some j:=by
  unfold ixN;rw[if_pos (),if_pos ()];simp
 unfold atI;rw[e];exact h
theorem qB (xs:List α) (v:α):atI (xs++[v]) (-1)=some v:=by
 have hl:(xs++[v]).length=xs.length+1:=by simp
 have e:ixN (xs++[v]).length (-1)=some xs.length:=by
  unfold ixN;rw[hl,if_neg ∅,if_pos ()]
  congr 1
  omega
 unfold atI;rw[e]
 show(xs++[v])[xs.length]? = some v
 simp
def zd (b:Expr):Prop:=∀o i,subscripted b false o i=operate [o,i] (getItem o i)
def IxR (X:Cx) (r:R2):Prop :=
 ∀ (value B:Expr) (pins:List (Addr × Obj)) (s:Shared) (σ:St) (H:Hp) (x y:V) (v u:Value) (Q:VK),Inv X pins σ H s->bq x v->bq y u->r x y H Q ->
  subscripted B false v u=operate [v,u] (getItem v u)->wpAny (model X.prog X.w) X.A (subscriptTail value B v u) (EP X pins σ Q) X.xe s
def MtR (X:Cx) (id:String) (r:V->List V->Hp->VK->Prop):Prop :=
 ∀ (pins:List (Addr × Obj)) (s:Shared) (σ:St) (H:Hp) (x:V) (xs:List V) (v:Value) (us:List Value) (Q:VK),Inv X pins σ H s->bq x v->bo xs us->r x xs H Q ->
  wpAny (model X.prog X.w) X.A (call (.builtin id) (v :: us)) (EP X pins σ Q) X.xe s
section
variable {a b:Expr} {tb:TE}
theorem az {r:R2} (L:IxR X r) (ha:PE X a ta) (F:PE X b tb) (Z:zd b:=by exact λ_ _=>rfl):PE X (.Subscript a b pos) (tOp r ta tb):=by
 intro pins s σ H Q I h;exact Subscript_ (Hr ha F I h λv u s2 x y H2 B rx Y q=>L a b pins s2 σ H2 x y v u Q B rx Y q (Z _ _))
def Kz (K:fy):R2:=λx y H Q=>∃p xs i v,x = .ref p/\y = .int i/\SqL K H p xs/\atI xs i=some v/\Q v H
def Ky (K:fy):R2:=λx y H Q=>∃p xs i v,x = .ref p/\y = .int i/\SqT K H p xs/\atI xs i=some v/\Q v H
def Kj:R2:=λx y H Q=>∃z i c,x = .str z/\y = .int i/\z.length<=g9/\atI z.cps.toList i=some c/\Q (.str ⟨#[c]⟩) H
theorem FY:IxR X (Kz X.K):=by
 intro value L pins s σ H x y v u Q I rx ry h Z;obtain⟨p,xs,i,z,rfl,rfl,hq,he,q⟩:=h;cases rx;obtain⟨t,rfl⟩:=ry;obtain⟨its,r,pl,hz⟩:=I.list hq;obtain⟨j,h1,h2,h3,h4,h5⟩:=ud he;obtain⟨w,Y,F⟩:=r.get h2;have hl:=r.length;have hn:=nB;have B:EP X pins σ Q w s:=⟨z,H,I,F,q⟩
 by_cases h0:0<=i
 .have hj:i.toNat=j:=by
   rw[seqIndex_of h0 h5] at h1;exact ge h1
  exact item_listR pl.isList h0 () (by rw[hj];simpa using Y) B Z
 .have hj:(i+(its.toArray.size:Int)).toNat=j:=by
   rw[seqIndex_neg () h4] at h1
   rw[j7,<- hl];exact ge h1
  exact subscriptTail_builtinR (x:=w) pl.isList.typeIs slot_list_getitem.lookup
   (wpAny_getItem_list_neg (Q:=λr s'=>r=w/\EP X pins σ Q r s') pl.isList () (by rw[j7] <;> omega) () (by rw[hj];simpa using Y) ⟨rfl,B⟩) Z
theorem GL:IxR X (Ky X.K):=by
 intro value L pins s σ H x y v u Q I rx ry h hs;obtain⟨p,xs,i,z,rfl,rfl,Z,he,q⟩:=h;cases rx;obtain⟨t,rfl⟩:=ry;obtain⟨its,r,pl,hz⟩:=I.tuple Z;obtain⟨j,h1,h2,h3,h4,h5⟩:=ud he;obtain⟨w,Y,F⟩:=r.get h2;have hl:=r.length;have hn:=nB;have B:EP X pins σ Q w s:=⟨z,H,I,F,q⟩
 exact subscriptTail_builtinR (x:=w) pl.typeIs slot_tuple_getitem.lookup
  (getItem_tuple (j:=j) (Q:=λr s'=>r=w/\EP X pins σ Q r s') pl () () (by rw[j7,<- hl];exact h1) (by simpa using Y) ⟨rfl,B⟩) hs
theorem HU:IxR X Kj:=by
 intro value B pins s σ H x y v u Q I rx Y h Z;obtain⟨z,i,c,rfl,rfl,hz,he,q⟩:=h;obtain⟨t,rfl⟩:=rx;obtain⟨t',rfl⟩:=Y;obtain⟨j,h1,h2,h3,F,L⟩:=ud he;have hl:z.cps.toList.length=z.length:=by simp[Str.length]
 rw[hl] at h1 F L;have hn:=nB;exact tail_any (typeIs_str s z t) slot_str_getitem.lookup (getItem_str (c:=c) (by
  have e1:decide (i < -(2 ^ 63:Int))=false:=decide_eq_false ()
  have e2:decide (i >= 2 ^ 63)=false:=decide_eq_false ()
  rw[e1,e2,Bool.or_false]) (by rw[h1];simpa using h2) ⟨.str ⟨#[c]⟩,H,I.tok _,⟨_,rfl⟩,q⟩) Z
theorem uu (lo hi:Option Int) (n:Nat):(LY lo hi none n).1=((HT.sIx n 0 lo:Nat):Int)/\(LY lo hi none n).2.1=((HT.sIx n n hi:Nat):Int)/\(LY lo hi none n).2.2=1:=by
 refine⟨?_,?_,rfl⟩
 .cases lo with
  | none=>simp[LY,HT.sIx]
  | some i =>
   simp only[LY,HT.sIx,getD_none,show(1:Int) > 0 by decide,if_true]
   by_cases h:i < 0
   .simp only[h,if_true] <;> omega
   .simp only[h,if_false] <;> omega
 .cases hi with
  | none=>simp[LY,HT.sIx]
  | some i =>
   simp only[LY,HT.sIx,getD_none,show(1:Int) > 0 by decide,if_true]
   by_cases h:i < 0
   .simp only[h,if_true] <;> omega
   .simp only[h,if_false] <;> omega
theorem rZ (its:List Value) (lo hi:Option Int):slicePick its.toArray lo hi none=((its.drop (HT.sIx its.length 0 lo)).take (HT.sIx its.length its.length hi - HT.sIx its.length 0 lo)).toArray:=by
 obtain⟨h1,h2,B⟩:=uu lo hi its.toArray.size;unfold slicePick;rw[h1,h2,B];simp only[sliceRange_one,pick_run,j7] <;> rfl
def J0 (K:fy):V->Option Int->Option Int->Hp->VK->Prop:=λx lo hi H Q=>∃a xs,x = .ref a/\SqL K H a xs/\∀p,H p=none->Q (.ref p) (upd H p (.lst (fQ xs lo hi)))
theorem zI:SlR X (J0 X.K):=by
 intro pins s σ H x v vl vu lo hi sl Q I rx Z pl pu h;obtain⟨a,xs,rfl,Y,q⟩:=h;cases rx;obtain⟨its,r,F,L⟩:=I.list Y;have B:=r.length;refine⟨"list",_,slot_list_getitem.lookup,F.isList.typeIs,?_⟩
 refine wpAny_getItem_list_slice F.isList Z pl pu .none (by simp) ?_ (by rw[j7] <;> omega)
 rw[rZ,<- B];refine⟨.ref s.heap.objs.size,_,I.laid (t':=s.toks) (o:=.lst (fQ xs lo hi)) (λb ob q=>c_ _ q) (h_ _) ?_,rfl,q _ (I.hok.fresh (h_ _))⟩
 exact⟨ja (oG xs lo hi) L,_,0,(r.drop (HT.sIx xs.length 0 lo)).take (HT.sIx xs.length xs.length hi - HT.sIx xs.length 0 lo),gr _ rfl⟩
def ig:V->Bool
 | .non=>true
 | .bl _=>true
 | .int _=>true
 | .str _=>true
 | _=>false
def eqV:V->V->Bool
 | .non,.non=>true
 | .bl a,.bl b=>a == b
 | .bl a,.int b=>(if a then 1 else 0) == b
 | .int a,.bl b=>a ==(if b then 1 else 0)
 | .int a,.int b=>a == b
 | .str a,.str b=>a == b
 | _,_=>false
theorem G7 {x:V} {v:Value} (L:bq y u) (B:bq x v) (Y:ig y=true) (F:ig x=true):SeqAt.EqAt A s u v (eqV y x):=by
 cases y with
 | non =>
  cases L;cases x with
  | non=>cases B;exact SeqAt.EqAt.same _
  | bl b=>cases B;exact SeqAt.EqAt.none_bool b
  | int b=>obtain⟨t,rfl⟩:=B;exact SeqAt.EqAt.none_int b t
  | str b=>obtain⟨t,rfl⟩:=B;exact SeqAt.EqAt.none_str b t
  | _=>exact absurd (show false=true from F) i_
 | bl a =>
  cases L;cases x with
  | non=>cases B;exact SeqAt.EqAt.bool_none a
  | bl b=>cases B;exact SeqAt.EqAt.bool_bool a b
  | int b=>obtain⟨t,rfl⟩:=B;exact SeqAt.EqAt.bool_int a b t
  | str b=>obtain⟨t,rfl⟩:=B;exact SeqAt.EqAt.bool_str a b t
  | _=>exact absurd (show false=true from F) i_
 | int a =>
  obtain⟨t',rfl⟩:=L;cases x with
  | non=>cases B;exact SeqAt.EqAt.int_none a t'
  | bl b=>cases B;exact SeqAt.EqAt.int_bool a t' b
  | int b=>obtain⟨t,rfl⟩:=B;exact SeqAt.EqAt.int_int a t' b t
  | str b=>obtain⟨t,rfl⟩:=B;exact SeqAt.EqAt.int_str a t' b t
  | _=>exact absurd (show false=true from F) i_
 | str a =>
  obtain⟨t',rfl⟩:=L;cases x with
  | non=>cases B;exact SeqAt.EqAt.str_none a t'
  | bl b=>cases B;exact SeqAt.EqAt.str_bool a t' b
  | int b=>obtain⟨t,rfl⟩:=B;exact SeqAt.EqAt.str_int a t' b t
  | str b=>obtain⟨t,rfl⟩:=B;exact SeqAt.EqAt.str_str a t' b t
  | _=>exact absurd (show false=true from F) i_
 | _=>exact absurd (show false=true from Y) i_
def eqU (x:V) (u:Value):Bool:=match u with
 | .none=>eqV .non x
 | .bool b=>eqV (.bl b) x
 | .int i _=>eqV (.int i) x
 | .str z _=>eqV (.str z) x
 | _=>false
theorem Df {x:V} (r:bq y u) (f:ig y=true):eqU x u=eqV y x:=by
 cases y with
 | non=>cases r;rfl
 | bl b=>cases r;rfl
 | int i=>obtain⟨t,rfl⟩:=r;rfl
 | str z=>obtain⟨t,rfl⟩:=r;rfl
 | _=>exact absurd (show false=true from f) i_
theorem mz {x:V} : ∀{xs:List V} {us:List Value},bo xs us->xs.all ig=true->us.any (eqU x)=xs.any λy=>eqV y x
 | _,_,.nil,_=>rfl
 | y :: xs,u :: us,.cons r t,f=>by
  rw[all_cons,l_] at f;rw[any_cons,any_cons,Df r f.1,mz t f.2]
theorem jS {A:Around} {s:Shared} {x:V} {v:Value} (B:bq x v) (F:ig x=true) : ∀{xs:List V} {us:List Value},bo xs us->xs.all ig=true->∀u∈us,SeqAt.EqAt A s u v (eqU x u)
 | _,_,.nil,_=>λu hu=>by cases hu
 | y :: xs,u :: us,.cons r t,f=>λL hu=>by
  rw[all_cons,l_] at f;rcases i6.mp hu with rfl | hu
  .rw[Df r f.1];exact G7 r B f.1 F
  .exact jS B F t f.2 L hu
def inV (x:V) (xs:List V):Bool:=xs.any λy=>eqV y x
def rIn (K:fy) (B:Bool):R2:=λx y H Q=>∃p xs,y = .ref p/\(SqL K H p xs\/SqT K H p xs)/\ig x=true/\xs.all ig=true/\Q (.bl (if B then !inV x xs else inV x xs)) H
theorem sN:OpR X (s_ .In) (rIn X.K false):=by
 intro pins s σ H x y v u Q I L Z h;obtain⟨p,xs,rfl,B,Y,fs,q⟩:=h;cases Z;rcases B with B | B
 .obtain⟨its,r,pl,hz⟩:=I.list B
  refine SeqAt.in_listAt (eqU x) pl.isList (λw F=>jS L Y r fs w (by simpa using F)) ⟨.bl _,H,I,rfl,?_⟩
  rw[show its.toArray.any (eqU x)=its.any (eqU x) by simp,mz r fs]
  exact q
 .obtain⟨its,r,pl,hz⟩:=I.tuple B
  refine SeqAt.in_tupleAt (eqU x) pl (λw F=>jS L Y r fs w (by simpa using F)) ⟨.bl _,H,I,rfl,?_⟩
  rw[show its.toArray.any (eqU x)=its.any (eqU x) by simp,mz r fs]
  exact q
theorem uk:OpR X (s_ .NotIn) (rIn X.K true):=by
 intro pins s σ H x y v u Q I L Z h;obtain⟨p,xs,rfl,B,Y,fs,q⟩:=h;cases Z;rcases B with B | B
 .obtain⟨its,r,pl,hz⟩:=I.list B
  refine SeqAt.notIn_listAt (eqU x) pl.isList (λw F=>jS L Y r fs w (by simpa using F)) ⟨.bl _,H,I,rfl,?_⟩
  rw[show its.toArray.any (eqU x)=its.any (eqU x) by simp,mz r fs]
  exact q
 .obtain⟨its,r,pl,hz⟩:=I.tuple B
  refine SeqAt.notIn_tupleAt (eqU x) pl (λw F=>jS L Y r fs w (by simpa using F)) ⟨.bl _,H,I,rfl,?_⟩
  rw[show its.toArray.any (eqU x)=its.any (eqU x) by simp,mz r fs]
  exact q
theorem lM:bY X (.builtin "len") (λxs H Q=>∃p ys,xs=[.ref p]/\(SqL X.K H p ys\/SqT X.K H p ys)/\Q (.int ys.length) H):=by
 intro pins s σ H xs us Q I r h;obtain⟨p,ys,rfl,F,q⟩:=h;obtain⟨u,rfl,L⟩:=cV r;cases L;have Y:=nB;rcases F with F | F
 .obtain⟨its,r',pl,hz⟩:=I.list F
  have B:=r'.length;exact Calls.call_len_list pl.isList (by simp only[j7] <;> omega) ⟨.int ys.length,H,I.tok _,⟨s.toks+1,by rw[j7,B]⟩,q⟩
 .obtain⟨its,r',pl,hz⟩:=I.tuple F
  have B:=r'.length;exact len_tuple pl (by simp only[j7] <;> omega) ⟨.int ys.length,H,I.tok _,⟨s.toks+1,by rw[j7,B]⟩,q⟩
theorem uI:bY X (.builtin "len") (λxs H Q=>∃z,xs=[.str z]/\z.length<=g9/\Q (.int z.length) H):=by
 intro pins s σ H xs us Q I r h;obtain⟨z,rfl,F,q⟩:=h;obtain⟨u,rfl,t,rfl⟩:=cV r;have B:=nB;exact len_str () ⟨.int z.length,H,I.tok _,⟨_,rfl⟩,q⟩
theorem lZ:bY X (.type "list") (λxs H Q=>∃p ys,xs=[.ref p]/\(SqL X.K H p ys\/SqT X.K H p ys)/\∀l,H l=none->Q (.ref l) (upd H l (.lst ys))):=by
 intro pins s σ H xs us Q I r h;obtain⟨p,ys,rfl,Z,q⟩:=h;obtain⟨u,rfl,rx⟩:=cV r;cases rx;have F : ∀(its:List Value),bo ys its->ys.length<=g9->∀(h':Heap) (B:Nat),(∀b o',s.heap.get? b=some o'->h'.get? b=some o') ->
   h'.get? s.heap.objs.size=some { cls:=.type "list",dict:=none,data:=.seq its.toArray B,slots := #[] }->EP X pins σ Q (.ref s.heap.objs.size) { s with heap:=h' }:=λits r' L h' B Y e =>
  ⟨.ref s.heap.objs.size,_,I.laid (t':=s.toks) Y (h_ _) (show bB X.prog X.w _ h' _ (.lst ys) from⟨L,its,B,r',e⟩),rfl,q _ (I.hok.fresh (h_ _))⟩
 rcases Z with Z | Z
 .obtain⟨its,r',pl,L⟩:=I.list Z
  have aa:=r'.length;obtain⟨o,ho,hc,n,hd⟩:=pl.isList;exact call_list_seq p (.inl rfl) ho hc hd (λh' B Y e=>F its r' L h' B Y e) (by simp only[j7] <;> omega)
 .obtain⟨its,r',pl,L⟩:=I.tuple Z
  have aa:=r'.length;obtain⟨o,ho,hc,n,hd⟩:=pl;exact call_list_seq p (.inr rfl) ho hc hd (λh' B Y e=>F its r' L h' B Y e) (by simp only[j7] <;> omega)
theorem rR:bY X (.type "tuple") (λxs H Q=>∃p ys,xs=[.ref p]/\((SqL X.K H p ys/\∀l,H l=none->Q (.ref l) (upd H l (.tup ys)))\/(SqT X.K H p ys/\Q (.ref p) H))):=by
 intro pins s σ H xs us Q I r h;obtain⟨p,ys,rfl,h⟩:=h;obtain⟨u,rfl,rx⟩:=cV r;cases rx;rcases h with⟨B,q⟩ | ⟨B,q⟩
 .obtain⟨its,r',pl,hz⟩:=I.list B
  have F:=r'.length;refine call_tuple_list pl.isList (λh' Z=>?_) (by simp only[j7] <;> omega)
  have L:Inv X pins σ H { s with heap:=h' }:=I.kept (t':=s.toks) Z
  have Y:Inv X pins σ (upd H h'.objs.size (.tup ys)) { s with heap:=h'.push { cls:=.type "tuple",data:=.seq its.toArray } } :=
   L.laid (t':=s.toks) (λb o e=>c_ _ e) (h_ _) (show bB X.prog X.w _ _ _ (.tup ys) from⟨hz,its,r',IsTup.new _ _⟩)
  exact⟨.ref h'.objs.size,_,Y,rfl,q _ (L.hok.fresh (h_ _))⟩
 .obtain⟨its,r',pl,hz⟩:=I.tuple B
  exact call_tuple_same pl ⟨.ref p,H,I,rfl,q⟩
def tyV (K:fy) (T:String) (x:V) (H:Hp):Prop:=match x with
 | .str _=>T = "str"
 | .int _=>T = "int"
 | .ref p=>(T = "list"/\∃xs,SqL K H p xs)\/(T = "tuple"/\∃o,K.lookup p=some o/\o.cls = .type "tuple" /\ o.dict=none) \/
   (T = "dict" /\((∃kvs,H p<*kvs)\/∃kvs,H p=some (.dT kvs)))\/(T = "set"/\∃S n,H p=some (.set S n))
 | _=>False
theorem yz {T:String} {x:V} {v:Value} (I:Inv X pins σ H s) (r:bq x v) (ty:tyV X.K T x H) :
  s.TypeIs v T/\∀a,v = .ref a->∃ob,s.heap.get? a=some ob/\ob.dict=none:=by
 cases x with
 | str z =>
  obtain⟨t,rfl⟩:=r;cases (show T = "str" from ty)
  exact⟨typeIs_str s z t,λ_ e=>nomatch e⟩
 | int i =>
  obtain⟨t,rfl⟩:=r;cases (show T = "int" from ty)
  exact⟨typeIs_int s i t,λ_ e=>nomatch e⟩
 | ref p =>
  cases r;rcases ty with⟨rfl,xs,L⟩ | ⟨rfl,o,B,hc,F⟩ | ⟨rfl,B⟩ | ⟨rfl,S,n,B⟩
  .obtain⟨its,_,pl,_⟩:=I.list L
   refine⟨pl.isList.typeIs,λa e=>?_⟩
   cases e;obtain⟨o,n,e,c,F,_⟩:=pl;exact⟨o,e,F⟩
  .refine⟨⟨o,I.kIn p o B,hc⟩,λa e=>?_⟩
   cases e;exact⟨o,I.kIn _ o B,F⟩
  .have z : ∃o,s.heap.get? p=some o/\o.ExactDict:=by
    rcases B with⟨kvs,B⟩ | ⟨kvs,B⟩
    .obtain⟨_,_,_,_,o,_,_,e,ex,_⟩:=I.hok p _ B
     exact⟨o,e,ex⟩
    .obtain⟨_,_,_,_,o,_,_,e,ex,_⟩:=I.hok p _ B
     exact⟨o,e,ex⟩
   obtain⟨o,e,ex⟩:=z;refine⟨⟨o,e,ex.1⟩,λa e2=>?_⟩
   cases e2;exact⟨o,e,ex.2.1⟩
  .obtain⟨o,_,_,_,e,ex,_⟩:=I.hok p _ B
   refine⟨⟨o,e,ex.1⟩,λa e2=>?_⟩
   cases e2;exact⟨o,e,ex.2.1⟩
 | _=>exact F_ ty
variable {o:Expr} {t:TA} {T id:String} {r:V->List V->Hp->VK->Prop}
end
def MtM (X:Cx) (id:String) (r:V->List V->Hp->VK->Prop):Prop :=
 ∀ (pins:List (Addr × Obj)) (s:Shared) (σ:St) (H:Hp) (x:V) (xs:List V) (v:Value) (us:List Value) (Q:VK),Inv X pins σ H s->bq x v->bo xs us->r x xs H Q ->
  wpAny (model X.prog X.w) X.A (call (.builtin id) (v :: us)) (EP X pins σ Q) X.xe s
theorem bo.one : ∀{x:V} {us:List Value},bo [x] us->∃u,us=[u]/\bq x u
 | _,_,.cons r .nil=>⟨_,rfl,r⟩
theorem bo.zero : ∀{us:List Value},bo [] us->us=[]
 | _,.nil=>rfl
theorem bo.dropLast {xs:List V} {us:List Value} (h:bo xs us):bo xs.dropLast us.dropLast:=by
 induction h with
 | nil=>exact .nil
 | cons r t B =>
  cases t with
  | nil=>exact .nil
  | cons q t'=>exact .cons r B
theorem bo.eraseIdx : ∀{xs:List V} {us:List Value} (i:Nat),bo xs us->bo (xs.eraseIdx i) (us.eraseIdx i)
 | _,_,_,.nil=>.nil
 | _,_,0,.cons _ t=>t
 | _,_,i+1,.cons r t=>.cons r (bo.eraseIdx i t)
theorem bo.reverse {xs:List V} {us:List Value} (h:bo xs us):bo xs.reverse us.reverse:=by
 induction h with
 | nil=>exact .nil
 | cons r t B=>rw[List.reverse_cons,List.reverse_cons];exact bo.append B (.cons r .nil)
theorem xM (l:List α):l.eraseIdx (l.length - 1)=l.dropLast:=by
 induction l with
 | nil=>rfl
 | cons a r B =>
  cases r with
  | nil=>rfl
  | cons b r =>
   have e:(a :: b :: r).length - 1=((b :: r).length - 1)+1:=by
    have h1:(a :: b :: r).length=r.length+2:=rfl
    have h2:(b :: r).length=r.length+1:=rfl
    omega
   rw[e,List.eraseIdx_cons_succ,B]
   all_goals rfl
theorem tH {α:Type} : ∀(l:List α) (i:Nat),(l.eraseIdx i).length<=l.length
 | [],_=>h_ _
 | _ :: _,0=>le_succ _
 | _ :: r,i+1=>Nat.succ_le_succ (tH r i)
section
variable {ys:List V}
theorem Inv.lset {its':List Value} {f:Array Value->Array Value} (I:Inv X pins σ H s) (L:H l*>xs)
  (e:s.heap.get? l=some { cls:=.type "list",data:=.seq its.toArray n }) (Z:f its.toArray=its'.toArray) (Y:bo ys its') (B:ys.length<=g9) :
  Inv X pins σ (upd H l (.lst ys)) { s with heap:=s.heap.update l (If f),toks:=t' }:=by
 have q:=PySem.IsL.update e f;rw[Z] at q;refine I.write (x:=l) (e:=l) (by rw[L];exact trivial) (.inl rfl) (λb' u F hu=>(E_ s.heap (If f) (p7 F)).trans hu) ⟨_,q⟩ ?_
 exact⟨B,its',_,Y,q⟩
theorem Inv.lnew (I:Inv X pins σ H s) (F:bo ys its) (B:ys.length<=g9) :
  Inv X pins σ (upd H s.heap.objs.size (.lst ys)) { s with heap:=s.heap.push { cls:=.type "list",data:=.seq its.toArray },toks:=t' } :=
 I.laid (λ_ _ q=>c_ _ q) (h_ _) ⟨B,its,0,F,gr _ rfl⟩
theorem Inv.fresh (I:Inv X pins σ H s):H s.heap.objs.size=none:=I.hok.fresh (h_ _)
theorem Inv.lstM (I:Inv X pins σ H s) (B:H l*>xs):xs.length<=g9/\∃(its:List Value) (n:Nat),bo xs its/\xs.length=its.length/\s.heap.get? l=some { cls:=.type "list",data:=.seq its.toArray n }:=by
 obtain⟨z,its,n,r,e⟩:=I.hok l _ B;exact⟨z,its,n,r,r.length,e⟩
theorem BQ (h:n<=g9):Builtin.List.listTooLong n=false:=by
 unfold Builtin.List.listTooLong;exact decide_eq_false ()
end
def Gd:V->List V->Hp->VK->Prop:=λx vs H Q=>∃l xs y,x = .ref l/\vs=[y]/\H l*>xs/\xs.length < g9/\Q .non (upd H l (.lst (xs++[y])))
theorem tY:MtM X "list.append" Gd:=by
 intro pins s σ H x vs v us Q I Y L h;obtain⟨l,xs,y,rfl,rfl,B,hz,q⟩:=h;cases Y;obtain⟨u,rfl,Z⟩:=L.one;obtain⟨z,its,n,r,hl,e⟩:=I.lstM B;refine call_meets F.slot_list_append ⟨_,e,rfl⟩ F.entry_list_append (F.args_list_append_2 _ _) (PySem.list_append l its.toArray n u (by rw[j7];omega)) ⟨e,?_⟩
 refine⟨.non,_,I.lset (its':=its++[u]) B e (by simp) (r.append (.cons Z .nil)) ?_,rfl,q⟩
 rw[q_,List.length_singleton];omega
def Gc:V->List V->Hp->VK->Prop:=λx vs H Q=>∃l b xs zs,x = .ref l/\vs=[.ref b]/\H l*>xs/\H b*>zs/\xs.length+zs.length<=g9/\Q .non (upd H l (.lst (xs++zs)))
theorem Bi:MtM X "list.extend" Gc:=by
 intro pins s σ H x vs v us Q I rx rv h;obtain⟨l,b,xs,zs,rfl,rfl,Y,hB,hz,q⟩:=h;cases rx;obtain⟨u,rfl,ru⟩:=rv.one;cases ru;obtain⟨z,its,n,r,hl,e⟩:=I.lstM Y;obtain⟨z2,B,n2,r2,Z,e2⟩:=I.lstM hB;have hsz:its.toArray.size+B.toArray.size<=g9:=by rw[j7,j7];omega
 have L : ¬ (!its.toArray.isEmpty && Builtin.List.listTooLong (its.toArray.size+B.toArray.size))=true:=by
  rw[BQ hsz,Bool.and_false];exact i_
 refine call_meets F.slot_list_extend ⟨_,e,rfl⟩ F.entry_list_extend (F.args_list_extend_2 _ _)
  (AutoSeq1.list_extend_list_list_0 l its.toArray n b B.toArray n2 L (by rw[j7];omega) ()) ⟨e,e2,?_⟩
 refine⟨.non,_,I.lset (its':=its++B) Y e (by simp) (r.append r2) ?_,rfl,q⟩
 rw[q_];omega
def KB:V->List V->Hp->VK->Prop:=λx vs H Q=>∃l xs y,x = .ref l/\vs=[]/\H l*>xs/\xs[xs.length - 1]? = some y/\Q y (upd H l (.lst xs.dropLast))
theorem Hv:MtM X "list.pop" KB:=by
 intro pins s σ H x vs v us Q I rx rv h;obtain⟨l,xs,y,rfl,rfl,Y,Z,q⟩:=h;cases rx;have L:=rv.zero;subst L;obtain⟨z,its,n,r,hl,e⟩:=I.lstM Y;obtain⟨u,hu,ru⟩:=r.get Z;have B:its.toArray[its.toArray.size - 1]? = some u:=by
  show its.toArray[its.length - 1]? = some u
  rw[<- Array.getElem?_toList,<- hl];exact hu
 refine call_meets F.slot_list_pop ⟨_,e,rfl⟩ F.entry_list_pop (F.args_list_pop_1 _) (MeetsSeq.list_pop_last l its.toArray n u B (by rw[j7];omega)) ⟨e,?_⟩
 refine⟨y,_,I.lset (its':=its.dropLast) Y e ?_ r.dropLast ?_,ru,q⟩
 .show its.toArray.eraseIdxIfInBounds (its.toArray.size - 1)=its.dropLast.toArray
  rw[j7,List.eraseIdxIfInBounds_toArray,xM]
 .rw[List.length_dropLast]
  omega
def Ht:V->List V->Hp->VK->Prop:=λx vs H Q=>∃l xs i k y,x = .ref l/\vs=[.int i]/\H l*>xs/\-(2 ^ 63)<=i/\i < 2 ^ 63/\seqIndex? i xs.length=some k/\xs[k]? = some y/\Q y (upd H l (.lst (xs.eraseIdx k)))
theorem Cy:MtM X "list.pop" Ht:=by
 intro pins s σ H x vs v us Q I rx rv h;obtain⟨l,xs,i,k,y,rfl,rfl,L,h1,h2,Z,Y,q⟩:=h;cases rx;obtain⟨u,rfl,ru⟩:=rv.one;obtain⟨t,rfl⟩:=ru;obtain⟨z,its,n,r,hl,e⟩:=I.lstM L;obtain⟨w,hw,B⟩:=r.get Y;refine call_meets F.slot_list_pop ⟨_,e,rfl⟩ F.entry_list_pop (F.args_list_pop_2 _ _)
  (MeetsSeq.list_pop_at l its.toArray n i t k w (fitsIndex_both h1 h2) (by rw[j7,<- hl];exact Z) (by rw[<- Array.getElem?_toList];exact hw) (by rw[j7];omega)) ⟨e,?_⟩
 refine⟨y,_,I.lset (its':=its.eraseIdx k) L e ?_ (r.eraseIdx k) ?_,B,q⟩
 .show its.toArray.eraseIdxIfInBounds k=(its.eraseIdx k).toArray
  rw[List.eraseIdxIfInBounds_toArray]
 .have:=tH xs k
  omega
def Kn:R2:=λx y H Q=>∃l b xs zs,x = .ref l/\y = .ref b/\H l*>xs/\H b*>zs/\xs.length+zs.length<=g9/\∀p,H p=none->Q (.ref p) (upd H p (.lst (xs++zs)))
theorem GZ:OpR X (A_ .Add) Kn:=by
 intro pins s σ H x y v u Q I rx Z h;obtain⟨l,b,xs,zs,rfl,rfl,Y,hB,hz,q⟩:=h;cases rx;cases Z;obtain⟨z,its,n,r,hl,e⟩:=I.lstM Y;obtain⟨z2,B,n2,r2,L,e2⟩:=I.lstM hB;refine PySem.P.add_list e e2 ?_ (by rw[j7,j7];omega)
 have F:its.toArray++B.toArray=(its++B).toArray:=by simp
 rw[F];exact⟨.ref _,_,I.lnew (t':=s.toks) (r.append r2) (by rw[q_];omega),rfl,q _ I.fresh⟩
section
variable [DecidableEq κ]
def bM (kvs:List (κ × V)) (k:κ):Option V:=(kvs.find? λkv=>decide (kv.1=k)).map (·.2)
def bu (kvs:List (κ × V)) (k:κ) (v:V):List (κ × V) :=
 if (kvs.any λkv=>decide (kv.1=k))=true then kvs.map (λkv=>if kv.1=k then(kv.1,v) else kv) else kvs++[(k,v)]
theorem fg {k:κ}:bM ([]:List (κ × V)) k=none:=rfl
theorem bJ {p:κ × V} {r:List (κ × V)} {k:κ} (e:p.1=k):bM (p :: r) k=some p.2:=by simp[bM,K0,e]
theorem aX {p:κ × V} {r:List (κ × V)} {k:κ} (e : ¬ p.1=k):bM (p :: r) k=bM r k:=by simp[bM,K0,e]
theorem gK (k:κ) : ∀kvs:List (κ × V),(kvs.any λkv=>decide (kv.1=k))=(bM kvs k).isSome
 | []=>rfl
 | p :: r=>by
  rw[any_cons]
  by_cases e:p.1=k
  .simp only[bJ e,decide_eq_true e,Bool.true_or,isSome_some]
  .rw[aX e,decide_eq_false e,Bool.false_or];exact gK k r
theorem wm (k j:κ) (y:V) : ∀kvs:List (κ × V),bM (kvs.map λkv=>if kv.1=k then(kv.1,y) else kv) j=(bM kvs j).map λx=>if j=k then y else x
 | []=>rfl
 | p :: r=>by
  have B:=wm k j y r;rw[j8]
  by_cases h:p.1=k
  .rw[if_pos h]
   by_cases e:p.1=j
   .rw[bJ (p:=(p.1,y)) e,bJ e,Lo,if_pos (e.symm.trans h)]
   .rw[aX (p:=(p.1,y)) e,aX e,B]
  .rw[if_neg h]
   by_cases e:p.1=j
   .rw[bJ (p:=p) e,bJ e,Lo,if_neg (λz=>h (e.trans z))]
   .rw[aX (p:=p) e,aX e,B]
theorem sS (k j:κ) (y:V) : ∀kvs:List (κ × V),bM kvs k=none->bM (kvs++[(k,y)]) j=if j=k then some y else bM kvs j
 | [],_=>by
  by_cases e:k=j
  .rw[if_pos e.symm];exact bJ (p:=(k,y)) e
  .rw[if_neg (λz=>e z.symm)];exact aX (p:=(k,y)) e
 | p :: r,hn=>by
  rw[cons_append];have B : ¬ p.1=k:=λz=>by rw[bJ z] at hn;cases hn
  rw[aX B] at hn;have F:=sS k j y r hn
  by_cases e:p.1=j
  .rw[bJ e,bJ e,if_neg (λz=>B (e.trans z))]
  .rw[aX e,aX e,F]
theorem gC (kvs:List (κ × V)) (k j:κ) (y:V):bM (bu kvs k y) j=if j=k then some y else bM kvs j:=by
 unfold bu
 by_cases a:(kvs.any λkv=>decide (kv.1=k))=true
 .rw[if_pos a,wm]
  rw[gK] at a
  by_cases e:j=k
  .obtain⟨x,hx⟩:=KZ.mp a
   rw[if_pos e,e,hx,Lo,if_pos rfl]
  .rw[if_neg e]
   cases bM kvs j with
   | none=>rfl
   | some x=>rw[Lo,if_neg e]
 .rw[if_neg a]
  refine sS k j y kvs ?_
  rw[gK] at a;cases q:bM kvs k with
  | none=>rfl
  | some x=>rw[q] at a;exact(a rfl).elim
theorem fP (kvs:List (κ × V)) (k:κ) (v:V):(bu kvs k v).length<=kvs.length+1:=by
 unfold bu
 split
 .rw[d_];omega
 .rw[q_,t4,length_nil];omega
theorem eU {kvs:List (κ × V)} {k:κ} (v:V) (h:bM kvs k=none):bu kvs k v=kvs++[(k,v)]:=by
 unfold bu;rw[gK,h];exact if_neg ∅
theorem jp.isSome_eq {o:Option V} {u:Option Value} (r:jp o u):o.isSome=u.isSome:=by
 cases o with
 | none=>cases u with
  | none=>rfl
  | some _=>exact(show False from r).elim
 | some _=>cases u with
  | none=>exact(show False from r).elim
  | some _=>rfl
theorem jp.getD {o:Option V} {u:Option Value} {d:V} {d':Value} (r:jp o u) (B:bq d d'):bq (o.getD d) (u.getD d'):=by
 cases o with
 | none=>cases u with
  | none=>exact B
  | some _=>exact(show False from r).elim
 | some _=>cases u with
  | none=>exact(show False from r).elim
  | some _=>exact r
theorem KV.val {kvs:List (κ × V)} {vs:List (κ × Value)} (r:KV kvs vs) (k:κ):jp (bM kvs k) (valueAt vs k):=by
 unfold KV at r
 induction r with
 | nil=>exact m_
 | @cons p q ps qs h t ih =>
  obtain⟨h1,h2⟩:=h
  by_cases e:p.1=k
  .have e':q.1=k:=h1.symm.trans e
   have b:valueAt (q :: qs) k=some q.2:=by simp[valueAt,K0,e']
   rw[bJ e,b];exact h2
  .have e' : ¬ q.1=k:=λz=>e (h1.trans z)
   have b:valueAt (q :: qs) k=valueAt qs k:=by simp[valueAt,K0,e']
   rw[aX e,b];exact ih
theorem KV.any {kvs:List (κ × V)} {vs:List (κ × Value)} (r:KV kvs vs) (k:κ):(kvs.any λkv=>decide (kv.1=k))=vs.any λkv=>decide (kv.1=k):=by
 unfold KV at r
 induction r with
 | nil=>rfl
 | cons h t B=>rw[any_cons,any_cons,B,h.1]
theorem KV.repl {kvs:List (κ × V)} {vs:List (κ × Value)} (r:KV kvs vs) (k:κ) {y:V} {u:Value} (B:bq y u) :
  KV (kvs.map λkv=>if kv.1=k then(kv.1,y) else kv) (vs.map λkv=>if kv.1=k then(kv.1,u) else kv):=by
 unfold KV at r ⊢
 induction r with
 | nil=>exact .nil
 | @cons p q ps qs h t ih =>
  rw[j8,j8];refine .cons ?_ ih
  obtain⟨h1,h2⟩:=h
  by_cases e:p.1=k
  .rw[if_pos e,if_pos (h1.symm.trans e)];exact⟨h1,B⟩
  .rw[if_neg e,if_neg (λz=>e (h1.trans z))];exact⟨h1,h2⟩
theorem KV.put {kvs:List (κ × V)} {vs:List (κ × Value)} (r:KV kvs vs) (k:κ) {y:V} {u:Value} (B:bq y u):KV (bu kvs k y) (stored vs k u):=by
 unfold bu stored;rw[r.any k]
 by_cases e:(vs.any λkv=>decide (kv.1=k))=true
 .rw[if_pos e,if_pos e];exact r.repl k B
 .rw[if_neg e,if_neg e];exact Paired.snoc r ⟨rfl,B⟩
theorem KV.keys {kvs:List (κ × V)} {vs:List (κ × Value)} (r:KV kvs vs):kvs.map (·.1)=vs.map (·.1):=by
 unfold KV at r
 induction r with
 | nil=>rfl
 | cons h t B=>rw[j8,j8,B,h.1]
theorem KV.length {kvs:List (κ × V)} {vs:List (κ × Value)} (r:KV kvs vs):kvs.length=vs.length:=Paired.length r
end
theorem oO {k:Key} (r:bq (kV k) u):(ba P w).is k u=true:=by
 cases k with
 | inl i=>obtain⟨t,e⟩:=(show ∃t,u=Value.int i t from r);subst e;exact xv P w i t
 | inr x=>obtain⟨t,e⟩:=(show ∃t,u=Value.str x t from r);subst e;exact wJ P w x t
theorem tD {P:Program} {w:World} : ∀{ks:List Key} {us:List Value},bo (ks.map kV) us->ItemsAre (ba P w) ks us
 | [],_,r=>by rw[map_nil] at r;cases r;exact .nil
 | k :: ks,_,r=>by
  rw[j8] at r;cases r with
  | cons h t=>exact .cons (oO h) (tD t)
abbrev KT (H:Hp):List (List Key × V)->List (List Key × Addr × Value)->Prop:=Paired λp q=>p.1=q.1/\H q.2.1>>(p.1.map kV)/\bq p.2 q.2.2
theorem KT.val {kvs:List (List Key × V)} {xs:List (List Key × Addr × Value)} (r:KT H kvs xs) (k:List Key):jp (bM kvs k) ((atKey xs k).map (·.2)):=by
 induction r with
 | nil=>exact m_
 | @cons p q ps qs h t ih =>
  obtain⟨h1,_,h2⟩:=h
  by_cases e:p.1=k
  .have e':q.1=k:=h1.symm.trans e
   have b:atKey (q :: qs) k=some q.2:=by simp[atKey,K0,e']
   rw[bJ e,b];exact h2
  .have e' : ¬ q.1=k:=λz=>e (h1.trans z)
   have b:atKey (q :: qs) k=atKey qs k:=by simp[atKey,K0,e']
   rw[aX e,b];exact ih
theorem KT.repl {kvs:List (List Key × V)} {xs:List (List Key × Addr × Value)} (r:KT H kvs xs) (k:List Key) {y:V} {u:Value} (F:bq y u) :
  KT H (kvs.map λkv=>if kv.1=k then(kv.1,y) else kv) (xs.map (putAt k u)):=by
 induction r with
 | nil=>exact .nil
 | @cons p q ps qs h t ih =>
  rw[j8,j8];refine .cons ?_ ih
  obtain⟨h1,h2,B⟩:=h;unfold putAt
  by_cases e:p.1=k
  .rw[if_pos e,if_pos (h1.symm.trans e)];exact⟨h1,h2,F⟩
  .rw[if_neg e,if_neg (λz=>e (h1.trans z))];exact⟨h1,h2,B⟩
theorem KT.put {kvs:List (List Key × V)} {xs:List (List Key × Addr × Value)} (r:KT H kvs xs) (k:List Key) {b:Addr} {y:V} {u:Value} (F:H b>>(k.map kV)) (B:bq y u) :
  KT H (bu kvs k y) (storedH xs k b u):=by
 have e:(kvs.any λkv=>decide (kv.1=k))=(atKey xs k).isSome:=by
  rw[gK,(r.val k).isSome_eq,isSome_map]
 unfold bu storedH;rw[e]
 by_cases q:(atKey xs k).isSome=true
 .rw[if_pos q,if_pos q];exact r.repl k B
 .rw[if_neg q,if_neg q];exact Paired.snoc r ⟨rfl,F,B⟩
theorem KT.keeps {kvs:List (List Key × V)} {xs:List (List Key × Addr × Value)} (r:KT H kvs xs) (B : ∀b ys,H b>>ys->H' b>>ys):KT H' kvs xs :=
 Paired.mapP r λ_ _ z=>⟨z.1,B _ _ z.2.1,z.2.2⟩
theorem Gr {u:HO} (ok:HOk P w H h) (e:Rd H a u):bB P w H h a u:=e.ok ok
theorem oU (ok:HOk P w H h) (e:Rd H a (.dK kvs)):kvs.length<=g9/\(a == HI)=false/\∃vs,KV kvs vs/\h.DictOf (ba P w) a vs :=
 show bB P w H h a (.dK kvs) from Gr ok e
theorem kR (ok:HOk P w H h) (e:H a<*kvs):kvs.length<=g9/\(a == HI)=false/\∃vs,KV kvs vs/\h.DictOf (ba P w) a vs:=oU ok (.inl e)
theorem mY {ks:List Key} (ok:HOk P w H h) (e:H a>>(ks.map kV)):(K3 (ba P w)).is h ks a:=by
 obtain⟨_,its,r,o,h1,h2,n,B⟩:=(show bB P w H h a (.tup (ks.map kV)) from ok a _ e)
 exact⟨o,its.toArray,n,h1,h2,B,by simpa using tD r⟩
theorem oY {kvs:List (List Key × V)} (ok:HOk P w H h) (e:Rd H a (.dT kvs)):kvs.length<=g9/\(a == HI)=false /\
  ∃xs,KT H kvs xs/\h.DictOfH (K3 (ba P w)) a xs:=by
 obtain⟨z,y,xs,r,o,es,ep,h1,h2,Y,F,L⟩:=(show bB P w H h a (.dT kvs) from Gr ok e)
 refine⟨z,y,xs,r,o,es,ep,h1,h2,Y,F,λx B=>?_,L⟩
 have all : ∀{l:List (List Key × V)} {m:List (List Key × Addr × Value)},KT H l m->∀x∈m,(K3 (ba P w)).is h x.1 x.2.1:=by
  intro l m q
  induction q with
  | nil=>intro x B;exact nomatch B
  | @cons p q ps qs hq t ih =>
   intro x B;rcases i6.mp B with e | B
   .subst e
    exact mY ok (by rw[<- hq.1];exact hq.2.1)
   .exact ih x B
 exact all r x B
theorem Jv {kvs:List (List Key × V)} (ok:HOk P w H h) (e:H a=some (.dT kvs)):kvs.length<=g9/\(a == HI)=false /\
  ∃xs,KT H kvs xs/\h.DictOfH (K3 (ba P w)) a xs:=oY ok (.inl e)
def lc (H:Hp) (a:Addr) (y:V) (r:Option V):Prop :=
 (∃kvs k,Rd H a (.dK kvs)/\y=kV k/\r=bM kvs k)\/∃kvs k b,Rd H a (.dT kvs)/\y = .ref b/\H b>>(k.map kV)/\r=bM kvs k
def xZ (H:Hp) (a:Addr) (y v:V) (H':Hp):Prop :=
 (∃kvs k,H a<*kvs/\y=kV k/\kvs.length < g9/\H'=upd H a (.dK (bu kvs k v))) \/
 ∃kvs k b,H a=some (.dT kvs)/\y = .ref b/\H b>>(k.map kV)/\kvs.length < g9/\H'=upd H a (.dT (bu kvs k v))
theorem lc.t {kvs:List (List Key × V)} {k:List Key} (e:H a=some (.dT kvs)) (B:H b>>(k.map kV)):lc H a (.ref b) (bM kvs k):=.inr ⟨kvs,k,b,.inl e,rfl,B,rfl⟩
theorem xZ.t {kvs:List (List Key × V)} {k:List Key} {v:V} (e:H a=some (.dT kvs)) (B:H b>>(k.map kV)) (hl:kvs.length < g9) :
  xZ H a (.ref b) v (upd H a (.dT (bu kvs k v))):=.inr ⟨kvs,k,b,e,rfl,B,hl,rfl⟩
section
variable {v:V} {r:Value} {o:Option V}
theorem Inv.big (I:Inv X pins σ H s):HI < s.heap.objs.size:=by
 have h:md < s.heap.objs.size:=(I.mod.glob.keeps I.bk).lt
 exact lt_trans ∅ h
theorem tG (hu:A.units+1 < cLine) (I:Inv X pins σ H s) (g:lc H a y (some v)) (ry:bq y u) (h : ∀L s',Inv X pins σ H s'->bq v L->Q L s') :
  wpAny (model X.prog X.w) A (getItem (.ref a) u) Q E s:=by
 rcases g with⟨kvs,k,e,Z,l⟩ | ⟨kvs,k,b,e,Z,eb,l⟩
 .subst Z
  obtain⟨z,hd,vs,F,Y⟩:=oU I.hok e;obtain⟨L,hw,B⟩:=jp.some_of (v:=v) (o:=valueAt vs k) (by rw[l];exact F.val k)
  exact wpAny_getItem_of (oO ry) Y.mapOf hw (h L _ (I.tok _) B)
 .subst Z
  cases (show u=i8 b from ry)
  obtain⟨z,hd,xs,F,Y⟩:=oY I.hok e;obtain⟨L,hw,B⟩:=jp.some_of (v:=v) (o:=(atKey xs k).map (·.2)) (by rw[l];exact F.val k)
  obtain⟨p,hp,aa⟩:=Option.map_eq_some_iff.mp hw;refine wpAny_getItem_heap (KQ hu) (mY I.hok eb) Y hp ?_
  rw[aa];exact h L _ (I.tok _) B
theorem KF (hu:A.units+1 < cLine) (I:Inv X pins σ H s) (g:lc H a y o) (Z:bq y u) (h : ∀s',Inv X pins σ H s'->Q (.bool o.isSome) s') :
  wpAny (model X.prog X.w) A (s_ .In u (.ref a)) Q E s:=by
 rcases g with⟨kvs,k,e,L,l⟩ | ⟨kvs,k,b,e,L,eb,l⟩
 .subst L
  obtain⟨z,F,vs,B,Y⟩:=oU I.hok e;refine wpAny_in_of (oO Z) F Y.mapOf ?_
  rw[<- (B.val k).isSome_eq,<- l];exact h _ (I.tok _)
 .subst L
  cases (show u=i8 b from Z)
  obtain⟨z,F,xs,B,Y⟩:=oY I.hok e;refine wpAny_in_heap (KQ hu) (mY I.hok eb) F Y ?_
  have q:=(B.val k).isSome_eq;rw[isSome_map] at q;rw[<- q,<- l];exact h _ (I.tok _)
theorem zr (hu:A.units+1 < cLine) (I:Inv X pins σ H s) (g:lc H a y o) (Z:bq y u) (h : ∀s',Inv X pins σ H s'->Q (.bool (!o.isSome)) s') :
  wpAny (model X.prog X.w) A (s_ .NotIn u (.ref a)) Q E s:=by
 rcases g with⟨kvs,k,e,L,l⟩ | ⟨kvs,k,b,e,L,eb,l⟩
 .subst L
  obtain⟨z,F,vs,B,Y⟩:=oU I.hok e;refine wpAny_notIn_of (oO Z) F Y.mapOf ?_
  rw[<- (B.val k).isSome_eq,<- l];exact h _ (I.tok _)
 .subst L
  cases (show u=i8 b from Z)
  obtain⟨z,F,xs,B,Y⟩:=oY I.hok e;refine wpAny_notIn_heap (KQ hu) (mY I.hok eb) F Y ?_
  have q:=(B.val k).isSome_eq;rw[isSome_map] at q;rw[<- q,<- l];exact h _ (I.tok _)
theorem lO {ob:HO} (I:Inv X pins σ H s) (F:Mut (H a)) (B:Lv a s.heap h') (he : ∃q,h'.get? a=some q) (new:bB X.prog X.w (upd H a ob) h' a ob) :
  Inv X pins σ (upd H a ob) { s with heap:=h',toks:=t' } :=
 I.write (x:=a) (e:=a) F (.inl rfl) (λb q L z=>(B.2 b L).trans z) he new
theorem yB {vs:List (Key × Value)} (z:kvs.length<=g9) (F:(a == HI)=false) (B:KV kvs vs) (L:h'.DictOf (ba P w) a vs) :
  bB P w H' h' a (.dK kvs):=⟨z,F,vs,B,L⟩
theorem tN {Q:Unit->Shared->Prop} (hu:A.units+1 < cLine) (I:Inv X pins σ H s) (g:xZ H a y v H') (ry:bq y u) (rv:bq v r) (h : ∀s',Inv X pins σ H' s'->Q Unit.unit s') :
  wpAny (model X.prog X.w) A (setItem (.ref a) u r) Q E s:=by
 rcases g with⟨kvs,k,e,ey,l,Y⟩ | ⟨kvs,k,b,e,ey,eb,l,Y⟩
 .subst ey Y
  obtain⟨z,hd,vs,B,dd⟩:=kR I.hok e;have Z:vs.length<=g9:=by rw[<- B.length];exact z
  have hl:(bu kvs k v).length<=g9:=by have:=fP kvs k v;omega
  refine wpAny_setItem_pairs (hsz:=Z) (oO ry) dd λh' F hs=>h _ ?_
  have he : ∃q,h'.get? a=some q:=let ⟨q,_,_,L,_⟩:=F;⟨q,L⟩
  exact lO I (by rw[e];exact m_) hs he (yB hl hd (B.put k rv) F)
 .subst ey Y
  cases (show u=i8 b from ry)
  obtain⟨z,hd,xs,B,dd⟩:=Jv I.hok e;have Z:xs.length<=g9:=by rw[<- Paired.length B];exact z
  have hl:(bu kvs k v).length<=g9:=by have:=fP kvs k v;omega
  refine wpAny_setItem_heap (hsz:=Z) (KQ hu) (mY I.hok eb) dd λh' F hs=>h _ ?_
  obtain⟨q,es,ep,L,h2,h3,h4,_,h5⟩:=F;refine lO I (by rw[e];exact m_) hs ⟨q,L⟩ ⟨hl,hd,_,(B.put k eb rv).keeps λc ys ec=>?_,q,es,ep,L,h2,h3,h4,h5⟩
  rw[ai (aZ ec e (λz=>nomatch z))]
  exact ec
end
section
variable {k:Key}
theorem IM (I:Inv X pins σ H s) (e:Rd H a (.dK kvs)) (h : ∀t s',Inv X pins σ H s'->Q (.int kvs.length t) s'):wpAny (model X.prog X.w) A (call (.builtin "len") [.ref a]) Q E s:=by
 obtain⟨z,F,vs,B,L⟩:=oU I.hok e;refine call_len_dict F L (by rw[<- B.length];rw[sizeLine_eq] at z;omega) ?_
 rw[<- B.length];exact h _ _ (I.tok _)
end
def IC (i:Expr):Prop:=∀B F,subscripted i false B F=operate [B,F] (getItem B F)
theorem yX {B:Expr} {T id:String}
  (hl:H_ (.type T) "__getitem__" = pure (some (.builtin id))) (hs:IC B)
  (h:wpAny (model prog w) A (eval value env) (λo s₁=>wpAny (model prog w) A (eval B env) (λi F=>F.TypeIs o T/\wpAny (model prog w) A (getItem o i) Q E F) E s₁) E s) :
  wpAny (model prog w) A (eval (.Subscript value B pos) env) Q E s:=by
 refine Subscript_ (FV h (λo s₁ ab=>FV ab (λi F L=>?_) λ_ _ x=>x) λ_ _ x=>x)
 obtain⟨hT,L⟩:=L;unfold subscriptTail;refine a_ ?_
 rw[getitemInPython_of_ne hT.not_modules];refine a_ (y6 hT hl ?_)
 have Z:wpAny (model prog w) A (subscripted B false o i) (λr Y=>wpAny (model prog w) A (letTemporaryGo value o r >>= λ_=>pure r) Q E Y) E F:=by
  rw[hs o i];exact wpAny_operating (FV L (λr Y aa=>a_ (wpAny_letTemporaryGo (e_ aa))) λ_ _ x=>x)
 first
  | exact e_ (a_ Z)
  | exact a_ (e_ (a_ Z))
  | exact a_ Z
theorem oI {o:Option V} (I:Inv X pins σ H s) (g:lc H a y o):s.TypeIs (.ref a) "dict" := by
 rcases g with⟨kvs,k,e,_,_⟩ | ⟨kvs,k,b,e,_,_,_⟩
 .obtain⟨_,_,vs,_,dd⟩:=oU I.hok e
  exact dd.typeIs
 .obtain⟨_,_,xs,_,dd⟩:=oY I.hok e
  exact dd.typeIs
def Gp (td ty:TE):TE:=λσ H Q=>td σ H λx H1=>ty σ H1 λy H2=>∃a v,x = .ref a/\lc H2 a y (some v)/\Q v H2
def zZ (ty td:TE):TE:=λσ H Q=>ty σ H λy H1=>td σ H1 λx H2=>∃a o,x = .ref a/\lc H2 a y o/\Q (.bl (!o.isSome)) H2
def zB (td ty tv:TE):TS:=λD σ H=>tv σ H λv H1=>td σ H1 λx H2=>ty σ H2 λy F=>∃a B,x = .ref a/\xZ F a y v B/\D.nx σ B
section
variable {o i:Expr} {tpos:Pos}
theorem ES (hu:X.A.units+1 < cLine) (ho:PE X o td) (hi:PE X i ty) (hs:IC i:=by exact λ_ _=>rfl):PE X (.Subscript o i pos) (Gp td ty):=by
 intro pins s σ H Q I h;refine yX PySem.F.slot_dict_getitem.lookup hs (thn (ho pins s σ H _ I h) λu s1 ⟨x,H1,I1,rx,q1⟩=>thn (hi pins s1 σ H1 _ I1 q1) λiv s2 B=>?_)
 obtain⟨y,H2,Y,ry,a,v,ex,g,Z⟩:=B;subst ex;obtain rfl:u=i8 a:=rx
 exact⟨oI Y g,tG hu Y g ry λw' s3 I3 L=>⟨v,H2,I3,L,Z⟩⟩
theorem AB (hu:X.A.units+1 < cLine) (hi:PE X i ty) (ho:PE X o td):PC X .NotIn i o (zZ ty td):=by
 intro pins s σ H Q I h;refine thn (hi pins s σ H _ I h) λiv s1 ⟨y,H1,I1,ry,q1⟩=>thn (ho pins s1 σ H1 _ I1 q1) λu s2 B=>?_
 obtain⟨x,H2,F,Z,a,Y,ex,g,L⟩:=B;subst ex;obtain rfl:u=i8 a:=Z
 exact zr hu F g ry λs3 I3=>⟨.bl (!Y.isSome),H2,I3,rfl,L⟩
theorem zS (hu:X.A.units+1 < cLine) (ho:PE X o td) (hi:PE X i ty) (F:PE X value tv) (Z:L9 value (some (.Subscript o i pos')) pos.line X.env=pure false) :
  PS X (.Assign [.Subscript o i pos'] value pos) (zB td ty tv):=by
 intro pins s σ H D I h;refine wpAny_Assign_Subscript (thn (F pins s σ H _ I h) λr s1 ⟨v,H1,I1,rv,q1⟩=>thn (ho pins s1 σ H1 _ I1 q1) λu s2 ⟨x,H2,I2,rx,q2⟩=>thn (hi pins s2 σ H2 _ I2 q2) λiv s3 B=>?_) Z
 obtain⟨y,H3,I3,L,a,H4,ex,g,Y⟩:=B;subst ex;obtain rfl:u=i8 a:=rx
 exact tN hu I3 g L rv λs4 I4=>⟨σ,H4,I4,Y⟩
end
theorem wb (h:Heap) (B:HI < h.objs.size):bB P w H (h.push { cls:=.type "dict",data:=.dict #[] }) h.objs.size (.dK []) :=
 ⟨x5 _,beq_eq_false_iff_ne.mpr (p7 (k9 B)),[],.nil,Heap.DictOf.new h⟩
theorem Bp (h:Heap) (B:HI < h.objs.size):bB P w H (h.push { cls:=.type "dict",data:=.dict #[] }) h.objs.size (.dT []) :=
 ⟨x5 _,beq_eq_false_iff_ne.mpr (p7 (k9 B)),[],.nil,_,#[],0,gr _ rfl,⟨rfl,rfl,rfl⟩,rfl,rfl,L7⟩
def uq:TE:=λ_ H Q=>∀p,H p=none->Q (.ref p) (upd H p (.dK []))
def xS:TE:=λ_ H Q=>∀p,H p=none->Q (.ref p) (upd H p (.dT []))
theorem eh:PE X (.Dict [] [] pos) uq:=λpins s σ H Q I h =>
 wpAny_Dict_empty ⟨.ref s.heap.objs.size,_,I.laid (a:=s.heap.objs.size) (o:=.dK []) (t':=s.toks) (λ_ _ q=>c_ _ q) (h_ _) (wb s.heap I.big),rfl,h _ (I.hok.fresh (h_ _))⟩
theorem vQ:PE X (.Dict [] [] pos) xS:=λpins s σ H Q I h =>
 wpAny_Dict_empty ⟨.ref s.heap.objs.size,_,I.laid (a:=s.heap.objs.size) (o:=.dT []) (t':=s.toks) (λ_ _ q=>c_ _ q) (h_ _) (Bp s.heap I.big),rfl,h _ (I.hok.fresh (h_ _))⟩
def qq:List (TE × TE)->St->Hp->(List (V × V)->Hp->Prop)->Prop
 | [],_,H,Q=>Q [] H
 | (tk,tv) :: r,σ,H,Q=>tk σ H λx H1=>tv σ H1 λy H2=>qq r σ H2 λps B=>Q ((x,y) :: ps) B
abbrev VV:List (V × V)->List (Value × Value)->Prop:=Paired λp q=>bq p.1 q.1/\bq p.2 q.2
def PPs (X:Cx) (pos:Pos) (keys:List (Option Expr)) (values:List Expr) (trs:List (TE × TE)):Prop :=
 ∀ (pins:List (Addr × Obj)) (s:Shared) (σ:St) (H:Hp) (Q:List (V × V)->Hp->Prop),Inv X pins σ H s->qq trs σ H Q ->
  wpAny (model X.prog X.w) X.A (evalPairs (pairTrees keys values X.env pos)) (λvs s'=>∃ps H',Inv X pins σ H' s'/\VV ps vs/\Q ps H') X.xe s
theorem uO:PPs X pos [] [] []:=λpins s σ H Q I h=>pairTrees_nil_walk ⟨[],H,I,.nil,h⟩
theorem iB {k v:Expr} {ks:List (Option Expr)} {vs:List Expr} {tk:TE} (Z:PE X k tk) (hv:PE X v tv) (Y:PPs X pos ks vs trs) :
  PPs X pos (some k :: ks) (v :: vs) ((tk,tv) :: trs):=λpins s σ H Q I h =>
 pairTrees_cons_walk (thn (Z pins s σ H _ I h) λu s1 ⟨x,H1,I1,rx,q1⟩=>thn (hv pins s1 σ H1 _ I1 q1) λw2 s2 ⟨y,H2,I2,ry,q2⟩ =>
  thn (Y pins s2 σ H2 _ I2 q2) λws s3 F=>by obtain⟨ps,L,I3,B,q3⟩:=F;exact(⟨(x,y) :: ps,L,I3,.cons ⟨rx,ry⟩ B,q3⟩))
def df (kvs B:List (Key × V)):List (Key × V):=B.foldl (λF kv=>bu F kv.1 kv.2) kvs
theorem KV.merge : ∀{B:List (Key × V)} {F:List (Key × Value)} {kvs:List (Key × V)} {vs:List (Key × Value)},KV B F->KV kvs vs->KV (df kvs B) (merged vs F):=by
 intro B F kvs vs r;unfold KV at r
 induction r generalizing kvs vs with
 | nil=>intro q;exact q
 | @cons p q ps qs h t ih =>
  intro L;have e:KV (bu kvs p.1 p.2) (stored vs q.1 q.2):=by
   have:=L.put p.1 h.2
   rw[<- h.1];exact this
  exact ih e
theorem dU : ∀(B kvs:List (Key × V)),(df kvs B).length<=kvs.length+B.length
 | [],kvs=>by show kvs.length<=kvs.length+0;omega
 | p :: r,kvs=>by
  have h1:=dU r (bu kvs p.1 p.2);have h2:=fP kvs p.1 p.2
  show(df (bu kvs p.1 p.2) r).length<=_
  rw[t4];omega
theorem qC {P:Program} {w:World} : ∀{kvs:List (Key × V)} {ws:List (Value × Value)},VV (kvs.map λkv=>(kV kv.1,kv.2)) ws->∃B,Carries (ba P w) ws B/\KV kvs B
 | [],_,r=>by rw[map_nil] at r;cases r;exact⟨[],m_,.nil⟩
 | p :: kvs,_,r=>by
  rw[j8] at r;cases r with
  | @cons a b as bs h t =>
   obtain⟨B,c,q⟩:=qC (P:=P) (w:=w) t;obtain⟨L,F⟩:=b;exact⟨(p.1,F) :: B,⟨oO h.1,rfl,c⟩,.cons ⟨rfl,h.2⟩ q⟩
def BC (trs:List (TE × TE)):TE:=λσ H Q=>∀p,H p=none->qq trs σ (upd H p (.dK [])) λps H2=>H2 p<*[]/\∃kvs:List (Key × V),ps=kvs.map (λkv=>(kV kv.1,kv.2))/\kvs.length<=15/\Q (.ref p) (upd H2 p (.dK (df [] kvs)))
theorem vc {keys:List (Option Expr)} (h:PPs X pos keys values trs) (L:keys.all (·.isSome)=true) (hl:keys.length=values.length) (h0:keys≠[])
  (Y:keys.length<=15):PE X (.Dict keys values pos) (BC trs):=by
 intro pins s σ H Q I q;have hn:=I.hok.fresh (h_ s.heap.objs.size);have I1:=I.laid (a:=s.heap.objs.size) (o:=.dK []) (h':=s.heap.push { cls:=.type "dict",data:=.dict #[] }) (t':=s.toks) (λ_ _ q=>c_ _ q) (h_ _) (wb s.heap I.big)
 refine wpAny_Dict_walk (knd:=ba X.prog X.w) L hl h0 Y (thn (h pins _ σ _ _ I1 (q _ hn)) λws s2 B=>?_)
 obtain⟨ps,H2,I2,Z,e,kvs,ep,lk,q2⟩:=B;subst ep;obtain⟨rs,c,rk⟩:=qC (P:=X.prog) (w:=X.w) Z;obtain⟨z,hd,aa,r0,dd⟩:=kR I2.hok e;cases r0;refine⟨rs,c,dd,λh' F hs=>⟨.ref s.heap.objs.size,_,?_,rfl,q2⟩⟩
 have hz:(df [] kvs).length<=g9:=by
  have h1:=dU kvs [];rw[length_nil] at h1;rw[sizeLine_eq];omega
 have he : ∃q,h'.get? s.heap.objs.size=some q:=let ⟨q,_,_,hq,_⟩:=F;⟨q,hq⟩
 exact lO I2 (by rw[e];exact m_) hs he (yB hz hd (rk.merge .nil) F)
structure M1 (X:Cx) (o:Expr) (m:Str) (apos:Pos) (e:Expr) (cpos:Pos):Prop where
 base:Lf o m X.env (eval o X.env)=eval o X.env
 few:((y_ cpos (jc [e] X.env)).all (λx=>!x.1) && (backToKw cpos (LZ [] X.env)).all (λx=>x.1.isSome)
  && decide (([e]:List Expr).length+([]:List Keyword).length+(if ([]:List Keyword).isEmpty then 0 else 1) < 30))=true
 line:(apos.endLine == cpos.line)=true
 trees:y_ cpos (jc [e] X.env)=[(false,eval e X.env)]
def IsD (H:Hp) (a:Addr):Prop:=(∃kvs,Rd H a (.dK kvs))\/∃kvs,Rd H a (.dT kvs)
theorem yw (I:Inv X pins σ H s) (d:IsD H a) :
  s.TypeIs (.ref a) "dict" /\(∀b,i8 a = .ref b->∃ob,s.heap.get? b=some ob/\ob.dict=none)/\(a == HI)=false:=by
 rcases d with⟨kvs,e⟩ | ⟨kvs,e⟩
 .obtain⟨_,hd,vs,_,dd⟩:=oU I.hok e
  refine⟨dd.typeIs,λb q=>?_,hd⟩
  cases q;obtain⟨ob,_,_,h1,h2,_⟩:=dd;exact⟨ob,h1,h2.2.1⟩
 .obtain⟨_,hd,xs,_,dd⟩:=oY I.hok e
  refine⟨dd.typeIs,λb q=>?_,hd⟩
  cases q;obtain⟨ob,_,_,h1,h2,_⟩:=dd;exact⟨ob,h1,h2.2.1⟩
section
variable {d:V} {r:Value} {o:Option V}
theorem HZ (hu:A.units+1 < cLine) (I:Inv X pins σ H s) (g:lc H a y o) (ry:bq y u) (h : ∀w' s',Inv X pins σ H s'->bq (o.getD .non) w'->Q w' s') :
  wpAny (model X.prog X.w) A (call (.builtin "dict.get") [.ref a,u]) Q E s:=by
 rcases g with⟨kvs,k,e,Z,l⟩ | ⟨kvs,k,b,e,Z,eb,l⟩
 .subst Z
  obtain⟨z,Y,vs,B,L⟩:=oU I.hok e;refine call_meetsIn Ly L.typeIs PySem.F.entry_dict_get (PySem.F.args_dict_get_2 _ _) (meets_dict_get (ba X.prog X.w) a (oO ry) Y) ⟨_,L.mapOf,h _ _ (I.tok _) ?_⟩
  rw[l];exact(B.val k).getD rfl
 .subst Z
  cases (show u=i8 b from ry)
  obtain⟨z,Y,xs,B,L⟩:=oY I.hok e;refine call_meetsIn Ly L.typeIs PySem.F.entry_dict_get (PySem.F.args_dict_get_2 _ _) (meetsH_dict_get (K3 (ba X.prog X.w)) a b Y) ⟨KQ hu,k,xs,mY I.hok eb,L,h _ _ (I.tok _) ?_⟩
  rw[l];exact(B.val k).getD rfl
end
end L2
namespace Att
open PySem PySem.W PySem.Calls PyProof.Rows
theorem pC {P:Params} : ∀(ns:List Int) (vs:List Value),WellAll P h vs (ns.map WData.int)->IntsAre vs ns:=by
 intro ns
 induction ns with
 | nil =>
  intro vs w;rw[map_nil] at w;cases w;exact .nil
 | cons n ns B =>
  intro vs w;rw[j8] at w;cases w with
  | cons a b =>
   cases a;exact .cons _ _ (B _ b)
theorem Ay {l:OpenLaw} (hn:l.most=some n) {P:Params} {h:Heap} {args:List WData} {B:List Value}
  (F:l.row.toRowW.claim.pre args=true) (ab:WellAll P h B args) :
  ∃a vs ns,B=[i8 a]/\args=[WData.list (ns.map WData.int)]/\h.get? a=some { cls:=.type "list",data:=.seq vs.toArray }/\IntsAre vs ns/\ns.length<=n:=by
 have aa:WShape.hasAll [] args [.list .int]=true:=(pre_splitW F).1
 have hc:l.pre.holds [] { args:=args }=true:=(pre_splitW F).2
 obtain⟨d,r,rfl,h1,h2⟩:=hasAllW_cons aa;obtain rfl:=hasAllW_nil h2
 obtain⟨xs,rfl,h3⟩:=hasW_list h1;obtain⟨ns,rfl⟩:=items_int h3;have L:ns.length<=n:=by
  unfold OpenLaw.pre at hc;have Z:(WTm.not (.lt (.lit (.int (n:Int))) (.len (.arg 0)))).holds [] { args:=[.list (ns.map .int)] }=true:=by
   have Z:=(holds_andW hc).1;rw[hn] at Z;exact Z
  have h5:=condW_of Z (w_not (w_lt w_lit (w_len_list (w_arg rfl))));rw[d_] at h5;refine Nat.le_of_not_lt λq=>?_
  have q':(n:Int) < ((ns.length:Nat):Int):=()
  first
   | (rw[decide_eq_true q'] at h5;exact absurd h5 ∅)
   | (simp at h5;omega)
 cases ab with
 | cons w1 w2 =>
  cases w2;cases w1 with
  | list ho Y=>exact⟨_,_,ns,rfl,rfl,ho,pC ns _ Y,L⟩
theorem Ao (l:OpenLaw) (args:List WData):l.row.toRowW.claim.post args (.bool true) args=true :=
 postW_of (r:=l.row.toRowW) (X:=(true == true))
  (show WShape.has [] (.bool true) .bool=true by first | rfl | decide | simp[WShape.has,WShape.arms,WShape.armsAll])
  (show(WTm.eq .res (.lit (.bool true))).value [] { args:=args,res:=some (.bool true),after:=args }=some (.bool (true == true)) from w_eq_bool (w_res rfl) w_lit) rfl
theorem attach_call {l:OpenLaw} {q:Program} {d:DefRec}
  (hn:l.most=some n) (af:d.params.defaults=[])
  (call : ∀(w:World) (B s₁:Shared) (mg mb:Str->Option Value) (fa:Addr) (o:Obj) (pm cd doc:Value) (a:Addr) (vs:List Value) (ns:List Int),
   Ground q loose [] XP w B mg mb s₁.heap->YP w s₁.heap ->
   s₁.heap.get? fa=some o->o.data = .func (docDef d.name d.params d.body d.scope pm cd doc)->s₁.heap.CodeRec cd d.name->mg d.name=some (.ref fa) ->
   s₁.heap.get? a=some { cls:=.type "list",data:=.seq vs.toArray }->IntsAre vs ns->ns.length<=n->s₁.gens = #[] ->
   Le (model l.prog w) callerA (.call (.ref fa) ⟨[.ref a],[]⟩) (λr s'=>r = .ok (.ret (.bool true))/\OldK s₁.heap s'.heap/\s'.os=s₁.os/\AllBare s'.gens) s₁) :
  WalkO q loose XP YP l.row.toRowW d [] (λf vs=>PySem.call f vs):=by
 intro w B s₁ mg mb G Y fa o pm cd doc dV kV ho hd ac hD ab hg args ah as aa ag aj ad ai;obtain rfl:dV = .none:=Dflts.none hD af
 obtain rfl:kV = .none:=Dflts.noKw hD
 obtain⟨a,vs,ns,rfl,rfl,L,F,Z⟩:=Ay hn aa ad;refine enter_call (L_ (call w B s₁ mg mb fa o pm cd doc a vs ns G Y ho (fd_plain hd) ac ab L F Z hg) λr s' hq=>?_)
 obtain⟨rfl,h2,h3,h4⟩:=hq;exact⟨.inl ⟨.bool true,.bool true,[],rfl,λ_=>rfl,.bool true,Ao l _,λ_=>⟨List.Pairwise.nil,λ_ hm=>(nomatch hm)⟩⟩,h2,h3,h4⟩
end Att
namespace L2
open PySem PySem.Spec PyProof.Rows
theorem tK : ∀{vs:List Value} {ns:List Int},IntsAre vs ns->bo (ns.map V.int) vs
 | _,_,.nil=>.nil
 | _,_,.cons n t h=>.cons ⟨t,rfl⟩ (tK h)
def Ii (H:Hp):Prop:=∀b,H b=none\/∃o xs,H b=some (.frz o (.lst xs))
theorem DQ {vs:List Value}
  (KX:K.In s₁.heap) (ah:s₁.heap.Ns md mg) (L:s₁.heap.Ns builtinsNs mb) (aj : ∀x:Str,x ≠ "__name__" -> mb x=x_ x) (ag:s₁.heap.NoLimit) (hg:s₁.gens = #[])
  (ha:s₁.heap.get? a=some { cls:=.type "list",data:=.seq vs.toArray }) (hi:IntsAre vs ns) (hl:ns.length<=g9) (hr:cU k callerA)
  (F : ∀base:Heap,K.In base->base.Ns md mg->jk P w K mg base CX k fa fd [x] sp) (aa : ∀(s:Shared) (u:Value),BindsTo s fd ⟨[u],[]⟩ [(x,u)])
  (an : ∀H:Hp,Ii H->SqL K H a (ns.map V.int)->sp [.ref a] H (λv _=>v = .bl true) λ_ _ _=>False)
  (am : ∀H e s',CX [] H s₁ (λ_ _ _=>False) e s'->False) :
  Le (model P w) callerA (.call (.ref fa) ⟨[.ref a],[]⟩) (λr s'=>r = .ok (.ret (.bool true))/\OldK s₁.heap s'.heap/\s'.os=s₁.os/\AllBare s'.gens) s₁:=by
 have rv:=tK hi;have af:=hi.length;have Z : ∀H:Hp,Ii H->SqL K H a (ns.map V.int)->HOk P w H s₁.heap->(∀b,H b≠none->b=a)->(H a≠none->K.lookup a=none) ->
   Le (model P w) callerA (.call (.ref fa) ⟨[.ref a],[]⟩) (λr s'=>r = .ok (.ret (.bool true))/\OldK s₁.heap s'.heap/\s'.os=s₁.os/\AllBare s'.gens) s₁:=by
  intro H hO hS ac hA hK;have B : ∀{b:Addr} {o:Obj},s₁.heap.get? b=some o->H b=none->(vn s₁.heap H).get? b=some o:=λe n=>Dw e n
  have ak : ∀{b:Addr} {o:Obj} {es:Array DictEntry} {ep:Nat},s₁.heap.get? b=some o->o.data = .dict es ep->H b=none:=λ{b o es ep} e d=>by
   cases q:H b with
   | none=>rfl
   | some u =>
    have e':b=a:=hA b (by rw[q];simp)
    subst e';rw[ha] at e;cases e;have d':Data.seq vs.toArray _=Data.dict es ep:=d
    cases d'
  have Y : ∀{b:Addr} {m:Str->Option Value},s₁.heap.Ns b m->(vn s₁.heap H).Ns b m:=λ{b m} zq8=>by obtain⟨o,es,ep,e,d,r⟩:=zq8;exact(⟨o,es,ep,B e (ak e d),d,r⟩)
  have ab:K.In (vn s₁.heap H):=λb o e=>B (KX b o e) (by
   cases q:H b with
   | none=>rfl
   | some u =>
    have e':b=a:=hA b (by rw[q];simp)
    subst e';rw[hK (by rw[q];simp)] at e;cases e)
  have hM:Mod K mg (vn s₁.heap H):=⟨ab,Y ah,⟨mb,Y L,aj⟩,let ⟨mc,h1,h2⟩:=ag;⟨mc,Y h1,h2⟩⟩
  have e0:yi P w K mg (vn s₁.heap H) callerA [] s₁ H:=⟨rfl,hM,λb o e=>DZ e,Ln (Bf _ _),trivial,λb L=>absurd (show b∈([]:List Addr) from L) (by simp),ac,.of_eq hg⟩
  refine L_ ((F _ ab (Y ah)).run callerA [] s₁ H ⟨[.ref a],[]⟩ [.ref a] [.ref a] _ _ hr e0 (aa s₁ (.ref a)) (.cons rfl .nil) (an H hO hS)) λr s' h=>?_
  cases r with
  | error e=>exact(am H e s' h).elim
  | ok fl =>
   cases fl with
   | next=>exact F_ h
   | brk=>exact F_ h
   | cont=>exact F_ h
   | ret u =>
    obtain⟨v,H',os,ad,un,ai,r',q⟩:=h;have q':v = .bl true:=q
    subst q';obtain rfl:u=Lk true:=r'
    refine⟨rfl,OldK.of_keep λb o e=>?_,os,ad⟩
    cases q:H b with
    | none=>exact un.keep b o e q (by intro z;exact absurd (show b∈([]:List Addr) from z) (by simp)) (by simp)
    | some u =>
     rcases hO b with z | ⟨ob,xs,z⟩
     .rw[q] at z;cases z
     .have z2:=un.frzs b ob _ z
      obtain⟨e1,_⟩:=ac b _ z;obtain⟨e2,_⟩:=ai b _ z2;rw[e] at e1;cases e1;exact e2
 cases hk:K.lookup a with
 | some o =>
  have e:=KX a o hk;rw[ha] at e;cases e;refine Z (λ_=>none) (λ_=>.inl rfl) (.inr ⟨_,vs.toArray,_,hk,rfl,rfl,rfl,by rw[j7,af];exact hl,by simpa using rv⟩) (λb u z=>by have z':(none:Option HO)=some u:=z;cases z') (λb z=>absurd rfl z) λz=>absurd rfl z
 | none =>
  refine Z (λb=>if b=a then some (.frz { cls:=.type "list",data:=.seq vs.toArray } (.lst (ns.map V.int))) else none) (λb=>?_) (.inl (.inr ⟨{ cls:=.type "list",data:=.seq vs.toArray },if_pos rfl⟩)) (λb u z=>?_) (λb z=>?_) λ_=>hk
  .by_cases L:b=a
   .exact .inr ⟨_,_,if_pos L⟩
   .exact .inl (if_neg L)
  .by_cases L:b=a
   .have z':=(if_pos L).symm.trans z
    cases z';subst L;exact⟨ha,by rw[d_];exact hl,vs,_,rv,ha⟩
   .have z':=(if_neg L).symm.trans z
    cases z'
  .by_cases L:b=a
   .exact L
   .exact absurd (if_neg L) z
theorem Es {l:PySem.W.OpenLaw} {q:Program} {d:DefRec} {K:Params->fy} {CX:World->CXT} {sp:World->Sp}
  (hn:l.most=some n) (af:n<=g9) (ac:d.params.defaults=[]) (hr:cU k callerA)
  (hY : ∀(w:World) (h:Heap),YP w h->(K w.params).In h)
  (F : ∀(w:World) (mg:Str->Option Value) (fa:Addr) (h:Heap),(K w.params).In h->h.Ns md mg->mg d.name=some (.ref fa) ->
   ∃ fd:FuncData,(∀(s:Shared) (u:Value),BindsTo s fd ⟨[u],[]⟩ [(x,u)]) /\
    ∀base:Heap,(K w.params).In base->base.Ns md mg->jk l.prog w (K w.params) mg base (CX w) k fa fd [x] (sp w))
  (ad : ∀(w:World) (H:Hp) (a:Addr) (ns:List Int),ns.length<=n->Ii H->SqL (K w.params) H a (ns.map V.int)->sp w [.ref a] H (λv _=>v = .bl true) λ_ _ _=>False)
  (ab : ∀(w:World) (H:Hp) (s:Shared) (e:Value) (s':Shared),CX w [] H s (λ_ _ _=>False) e s'->False) :
  PySem.W.WalkO q loose XP YP l.row.toRowW d [] (λf vs=>PySem.call f vs):=by
 refine Att.attach_call hn ac λw ag s₁ mg mb fa o pm cd doc a vs ns G Y ho hd ah aa Z L B hg=>?_
 have KX:=hY w _ Y;obtain⟨fd,hb,hF⟩:=F w mg fa _ KX G.T.g aa;exact DQ KX G.T.g G.T.b G.T.builtins G.T.nolimit hg Z L (ja B af) hr hF hb (λH hO hS=>ad w H a ns B hO hS) λH e s'=>ab w H s₁ e s'
def aT (s:Stmt) (j:Nat):Stmt:=match s with
 | .ClassDef _ _ _ body _ _ _ _ _ _ _=>body.getD j (.Pass ⟨0,0,0,0⟩)
 | _=>.Pass ⟨0,0,0,0⟩
def cQ (s:Stmt):Arguments:=match s with
 | .FunctionDef _ a _ _ _ _ _ _ _ _=>a
 | _=>{ posonlyargs:=[],args:=[],vararg:=none,kwonlyargs:=[],kw_defaults:=[],kwarg:=none,defaults:=[] }
def cz (s:Stmt):List Stmt:=match s with
 | .FunctionDef _ _ b _ _ _ _ _ _ _=>b
 | _=>[]
def ak (s:Stmt):Scope:=match s with
 | .FunctionDef _ _ _ _ _ _ sc _ _ _=>sc
 | _=>{ kind:=.function,names:=[],isGenerator:=false,isCoroutine:=false }
abbrev CX0:CXT:=λ_ _ _ _ _ _=>False
abbrev E0:XK:=λ_ _ _=>False
theorem oW:uY CX0 X E0:=λ_ _ _ _ _ _ _ h=>h.elim
structure Fun (K:fy) (x qual:Str) (st:Stmt) (f:Addr) (fd:FuncData):Prop where
 ex : ∃(oc:Value) (od:Option Addr) (kV doc pm:Value) (an:Option Addr) (cdv ct:Value) (osl:Array (Option Value)),
  fd=fnOf x qual (cQ st) (cz st) (ak st) .none kV doc pm an cdv ct/\K.lookup f=some ⟨oc,od,.func fd,osl⟩/\codeIn K cdv qual=true
 kp:Lj K (.ref f)=true
section
variable {P:Program} {w:World} {K:fy} {mg:Str->Option Value} {base:Heap}
theorem Fun.ok (F:Fun K x qual st f fd) (S:ax N ps (ak st)) (len : ∀vs H Q E,sp vs H Q E->vs.length=ps.length)
  (B : ∀(cdv:Value) (A:Around) (outer:List Env) (s:Shared) (H:Hp) (vs:List V) (Q:VK) (E:XK),cU k (A.deeper (envOfC qual (ak st) s.heap.objs.size f cdv))->sp vs H Q E ->
   ∃t,PSs (uL CX0 P w K mg base N qual (ak st) f cdv A outer s H E).nox (cz st) t/\t { nx:=λ_ H'=>Q .non H',rt:=Q } (ju N vs) H):jk P w K mg base CX0 (k+1) f fd ps sp:=by
 obtain⟨oc,od,kV,doc,pm,an,cdv,ct,osl,rfl,lk,L⟩:=F.ex;refine Jp lk L S len λA outer s H vs Q E Z Y=>?_
 obtain⟨t,h,q⟩:=B cdv A outer s H vs Q E Z Y;exact⟨t,h.nox,q⟩
theorem Fun.binds (F:Fun K x qual st f fd)
  (h : ∀(kV doc pm:Value) (B:Option Addr) (cdv ct:Value) (us:List Value),us.length=ps.length->bindArgs (fnOf x qual (cQ st) (cz st) (ak st) .none kV doc pm B cdv ct) ⟨us,[]⟩=pure (ps.zip us)):jX K fd ps []:=by
 obtain⟨oc,od,kV,doc,pm,B,cdv,ct,osl,rfl,Y,L⟩:=F.ex;exact .all (h kV doc pm B cdv ct)
theorem qR {B:Option Addr} {kV:Value} (l:K.lookup f=some ⟨oc,od,.func (fnOf x qual (cQ st) (cz st) (ak st) .none kV doc pm B cdv ct),osl⟩)
  (c:codeIn K cdv qual=true) (k:Lj K (.ref f)=true):Fun K x qual st f (fnOf x qual (cQ st) (cz st) (ak st) .none kV doc pm B cdv ct):=⟨⟨oc,od,kV,doc,pm,B,cdv,ct,osl,rfl,l,c⟩,k⟩
end
theorem GB (B:cU k A):A.units+1 < cLine:=p_ (Nat.add_le_add_left (by decide:1<=64) _) B.units
theorem aF (h:n<=1000):n < g9:=p_ h ∅
theorem dC {c A B:Prop} [Decidable c] (h1:c->A) (h2 : ¬ c->B):if c then A else B:=by
 by_cases h:c
 .rw[if_pos h]
  exact h1 h
 .rw[if_neg h]
  exact h2 h
def ap (H H':Hp):Prop:=∀b o,H b=some o->H' b=some o
theorem ap.refl (H:Hp):ap H H:=λ_ _ h=>h
theorem ap.trans (a:ap H H1) (b:ap H1 H2):ap H H2:=λc o h=>b c o (a c o h)
theorem ap.free (e:ap H H') {l:Addr} (h:H' l=Option.none):H l=Option.none:=by
 cases q:H l with
 | none=>rfl
 | some o =>
  rw[e l o q] at h;cases h
theorem ap.seq (e:ap H H') (h:SqL K H a xs):SqL K H' a xs:=by
 rcases h with(h | ⟨o,h⟩) | h
 .exact .inl (.inl (e _ _ h))
 .exact .inl (.inr ⟨o,e _ _ h⟩)
 .exact .inr h
theorem tL:bY X (.builtin "len") (λxs H Q=>∃a kvs,xs=[V.ref a]/\H a<*kvs/\Q (.int kvs.length) H):=by
 intro pins s σ H xs us Q I r h;obtain⟨a,kvs,rfl,ha,q⟩:=h;obtain⟨u,rfl,B⟩:=cV r;cases B;exact IM I (.inl ha) λt s' F=>⟨.int kvs.length,H,F,⟨t,rfl⟩,q⟩
theorem uF {B:Expr} {it ac:Value} (I:Nat->Shared->Prop)
  (ad : ∀ n s,I n s->wpAny (model prog w) A (G2 it) (λr s₁=>match r with
   | none=>R (.ok .next) s₁
   | some v=>wpAny (model prog w) A (letOwnedTupleGo B it v) (λ_ s₁=>wpAny (model prog w) A (assign B env v) (λ_ ab =>
     wpAny (model prog w) A (forIn ifs true λc r=>if r=true then do let ok <- isTrue c env (eval c env);pure (Ll ok) else pure (Ll r)) (λok L =>
      if ok=true then wpAny (model prog w) A (eval elt env) (λx Z =>
       wpAny (model prog w) A (call (.builtin "list.append") [ac,x]) (λ_ Y=>∃m,m < n/\I m Y) (notedBy (model prog w) A env λe s'=>R (.error e) s') Z) (notedBy (model prog w) A env λe s'=>R (.error e) s') L
      else ∃m,m < n/\I m L) (notedBy (model prog w) A env λe s'=>R (.error e) s') ab) (notedBy (model prog w) A env λe s'=>R (.error e) s') s₁) (notedBy (model prog w) A env λe s'=>R (.error e) s') s₁) (notedBy (model prog w) A env λe s'=>R (.error e) s') s)
  (n:Nat) (h:I n s) :
  Le (model prog w) A (.compLoop (.ListComp elt [⟨B,iter,ifs,0⟩] scope pos) 0 it ac env) R s:=by
 refine codeAny_loop rfl I (λn s hI=>?_) n h
 show wpAny _ A ((compTurn (.ListComp elt [⟨B,iter,ifs,0⟩] scope pos) 0 it ac env).onRaise (λx=>do noteFrame x env;theTreesLotGoes x)) _ _ s
 refine wpAny_noted ?_
 rw[compTurn_list];refine a_ (wpAny_standAt (a_ (FV (ad n s hI) (λr s₁ F=>?_) λ_ _ h'=>h')))
 cases r with
 | none=>exact e_ F
 | some v =>
  refine a_ (FV F (λ_ s₁ F=>?_) λ_ _ h'=>h')
  refine a_ (FV F (λ_ ab ah=>a_ (FV ah (λok L aa=>?_) λ_ _ h'=>h')) λ_ _ h'=>h')
  cases ok with
  | false=>exact e_ ⟨rfl,aa⟩
  | true =>
   exact a_ (a_ (FV aa (λx Z ag=>a_ (FV ag (λ_ Y af=>e_ (e_ ⟨rfl,af⟩)) λ_ _ h'=>h')) λ_ _ h'=>h'))
def PTs (X:Cx) (ifs:List Expr) (t:TT):Prop :=
 ∀ (pins:List (Addr × Obj)) (s:Shared) (σ:St) (H:Hp) (Q:Bool->Hp->Prop),Inv X pins σ H s->t σ H Q ->
  wpAny (model X.prog X.w) X.A (forIn ifs true λc r=>if r=true then do let ok <- isTrue c X.env (eval c X.env);pure (Ll ok) else pure (Ll r)) (TP X pins σ Q) X.xe s
def yK:TT:=λ_ H Q=>Q true H
theorem bv:PTs X [] yK:=λ_ _ _ H _ I h=>wpAny_tests_nil ⟨H,I,h⟩
theorem gs {c:Expr} {t:TT} (B:PT X c t):PTs X [c] t:=λpins s σ H Q I h=>wpAny_tests_one (B pins s σ H Q I h)
theorem lE {env:Env} : ∀(names:List (Str × zb)) (B:List (Str × Addr)),(∀x∈names,x.2 = .free->∃c,env.cells.lookup x.1=some c) ->
  ∃ cl,(forIn (m:=Sem) names B λx r=>match x with
   | (name,kind)=>if (kind == sn)=true then do let c <- cellOf env name;pure (Ll ((name,c) :: r)) else pure (Ll r))=pure cl /\
   (∀x c,cl.lookup x=some c->B.lookup x=some c\/env.cells.lookup x=some c)/\(∀x,(B.lookup x).isSome=true->(cl.lookup x).isSome=true)/\(∀x,(x,sn)∈names->(cl.lookup x).isSome=true)
 | [],B,_=>⟨B,rfl,λx c h=>.inl h,λx h=>h,λx h=>nomatch h⟩
 | (n, k) :: r,B,h=>by
  by_cases Y:k = .free
  .subst Y
   obtain⟨c,Z⟩:=h (n,.free) m6 rfl;obtain⟨cl,e,h1,h2,L⟩:=lE r ((n,c) :: B) (λx F=>h x (i7 _ F))
   refine⟨cl,?_,λx d hd=>?_,λx F=>h2 x ?_,λx F=>?_⟩
   .simp only[Lh,beq_self_eq_true,if_true,cellOf,Z]
    exact e
   .rcases h1 x d hd with q | q
    .simp only[uj] at q
     split at q
     .rename_i hb
      have:x=n:=by simpa using hb
      subst this;cases q;exact .inr Z
     .exact .inl q
    .exact .inr q
   .simp only[uj]
    split
    .rfl
    .exact F
   .rcases i6.mp F with q | q
    .cases q
     exact h2 n (by simp)
    .exact L x q
  .obtain⟨cl,e,h1,h2,L⟩:=lE r B (λx F=>h x (i7 _ F))
   refine⟨cl,?_,h1,h2,λx F=>?_⟩
   .have:(k == sn)=false:=by simpa using Y
    simp only[Lh,this,i9,if_false];exact e
   .rcases i6.mp F with q | q
    .cases q
     exact absurd rfl Y
    .exact L x q
def fR (nt:Nat) (js:List Nat) (σ:St):St:=replicate nt none++js.map λj=>(σ[j]?).join
def Wk (σ0 B:St):Prop:=σ0.length=B.length/\∀(i:Nat) v,σ0[i]? = some (some v)->B[i]? = some (some v)
def C7 (g:TG) (nt:Nat):Prop:=∀(x:V) (σ0:St) (H:Hp) (Q:St->Hp->Prop),(∀i,i < nt->σ0[i]? = some none)->g x σ0 H Q->g x σ0 H λB H2=>Wk σ0 B/\Q B H2
theorem Wk.set {σ0:St} {i:Nat} {v:V} (h:σ0[i]? = some none):Wk σ0 (σ0.set i (some v)):=by
 refine⟨by simp,λj w e=>?_⟩
 by_cases B:j=i
 .subst B;rw[h] at e;cases e
 .rw[LM (p7 B)];exact e
theorem Wk.trans {a b c:St} (h:Wk a b) (h':Wk b c):Wk a c:=⟨h.1.trans h'.1,λi v e=>h'.2 i v (h.2 i v e)⟩
theorem aU (hi:i < nt:=by decide):C7 (eR i) nt:=λx σ0 H Q h q=>⟨Wk.set (h i hi),q⟩
theorem qQ : ∀i,i < nt->(fR nt js σ)[i]? = some none:=λi hi=>by
 unfold fR;rw[t3 (by simpa using hi)]
 simp[hi]
def yU (nt:Nat) (js:List Nat) (wi:TI) (g:TG) (tc:TT) (te:TE):TE:=λσ H Q=>wi σ H λJ H1=>∀D,H1 D=none->∃W:Nat->Nat->List V->Hp->Prop,(∃m,W 0 m [] (upd H1 D (.lst []))) /\
 ∀ i m ys H2,W i m ys H2->(J.stop i H2/\Q (.ref D) H2)\/(J.go i H2/\∃N:List V->Hp->Prop,(∀F H',N F H'->∃L,L < m/\W (i+1) L F H') /\
  ∀x H',J.yld i H2 x H'->g x (fR nt js σ) H' λB H3=>tc B H3 λb Y=>if b=true then te B Y λy Z=>Z D*>ys/\ys.length < g9/\N (ys++[y]) (upd Z D (.lst (ys++[y]))) else N ys Y)
theorem gh {env:Env} : ∀{names:List (Str × zb)} {x:Str},names.lookup x=some .free ->
  ((names.map λ(n,k)=>if (k == sn && env.scope.kind == .function && env.kindOf n == some .cell) then(n,w6) else(n,k)).lookup x=some .cell\/(names.map λ(n,k)=>if (k == sn && env.scope.kind == .function && env.kindOf n == some .cell) then(n,w6) else(n,k)).lookup x=some .free)
 | [],_,h=>by simp at h
 | (n,k) :: r,x,h=>by
  have F:=@gh env r x;simp only[j8];cases B:x == n with
  | true =>
   simp only[uj,B] at h;cases h
   by_cases q:(sn == sn && env.scope.kind == .function && env.kindOf n == some .cell)=true
   .rw[if_pos q];simp only[uj,B];simp
   .rw[if_neg q];simp only[uj,B];simp
  | false =>
   simp only[uj,B] at h
   by_cases q:(k == sn && env.scope.kind == .function && env.kindOf n == some .cell)=true
   .rw[if_pos q];simp only[uj,B];exact F h
   .rw[if_neg q];simp only[uj,B];exact F h
theorem Inv.wk {Y:Cx} {B:St} (I:Inv Y pins B H s) (h:Wk σ0 B):Inv Y pins σ0 H s:=I.weak h.1 h.2
end L2
namespace PySem
theorem Am:H_ (.type "list_reverseiterator") "__len__" = pure none:=by rw[x3,p8];kernel_rfl
theorem DR:H_ (.type "list_reverseiterator") "__length_hint__" = pure (some (.builtin "list_reverseiterator.__length_hint__")):=by rw[x3,p8];kernel_rfl
theorem xO (hh:A.handled=none) (S:Addr) (res:Value) (aa:Nat) (hS:s.heap.get? S=some { cls:=.type "list",data:=.seq #[] aa })
  {I l:Addr} {items:Array Value} (hi:s.heap.IsRevIter I l ((items.size:Int) - 1)) (hl:s.heap.IsList l items) (am:l≠I) (ac:S≠I) (ak:S≠l)
  (hR : ∀h' tk B Z,(∀b o,b≠S->b≠I->s.heap.get? b=some o->h'.get? b=some o)->h'.get? S=some { cls:=.type "list",dict:=none,data:=.seq B Z,slots := #[] } ->
   ItemsOf (λi v=>items[items.size - 1 - i]? = some v) B items.size->R (.ok (.ret res)) { s with heap:=h',toks:=tk }) (hn:items.size<=g9) :
  wpAny (model prog w) A.in1 (t_ (.ref S) (.ref I) res)
   (λag s'=>match ag with | .done f=>R (.ok f) s' | .again Z=>Z.quiet=true/\Le (model prog w) A Z R s') (λe s'=>R (.error e) s') s:=by
 have W:=(Walks.listRev (prog:=prog) (w:=w) (A:=A.in1) hh I l am items);have ah:S∉[I,l]:=λhm=>by
  rcases i6.mp hm with e | e
  .exact ac e
  .exact ak (fx.mp e)
 have af:0<=items.size/\s.heap.IsRevIter I l ((items.size:Int) - 1 - ((0:Nat):Int))/\s.heap.IsList l items:=⟨x5 _,by simpa using hi,hl⟩
 unfold t_;refine a_ (Lx hi.typeIs ?_)
 have h1:K8 (.ref S) (.ref I)=false:=by simp[K8,ac]
 have h2:(FS "list_reverseiterator" == FS "list")=false:=∅
 have h3:(FS "list_reverseiterator" == FS "tuple")=false:=∅
 simp only[h1,h2,h3,Bool.or_false,i9,if_false];refine a_ (W.self 0 _ _ _ af ?_)
 refine a_ (t7 ?_)
 unfold Builtin.List.listLengthHint;refine a_ (y6 hi.typeIs Am ?_)
 show wpAny _ A.in1 (specialOf (i8 I) (b_ "__length_hint__") >>= _) _ _ _
 refine a_ (y6 hi.typeIs DR ?_)
 (generalize Y:("list_reverseiterator.__length_hint__" : String)=ad;(fail_if_success (clear Y ad));wp_delta;rw[show splitId ad=some ("list_reverseiterator","__length_hint__") from by subst Y;decide+kernel];subst Y)
 refine a_ (G1 (b:=true) hi.typeIs (by rw[Lz];kernel_rfl) ?_)
 refine e_ ?_
 rw[if_neg ∅]
 refine e_ ⟨plainId_quiet La _,codeAny_extend_loopS W.toS hn _ ah _ items.size 0 _ _ _ rfl (x5 _) af hS (ItemsOf.nil _) λs' B Z hm aj ab=>?_⟩
 rw[Moved.eq_with hm];refine hR s'.heap s'.toks B Z (λb ob hb ai e=>hm.heap b ob (λL=>?_) e) aj ab
 rcases i6.mp L with e' | L
 .exact hb e'
 .exact ai (fx.mp L)
theorem sH (hh:A.handled=none) (S:Addr) (hS:s.heap.get? S=some { cls:=.type "list",data:=.seq #[] })
  {I l:Addr} {items:Array Value} (hi:s.heap.IsRevIter I l ((items.size:Int) - 1)) (hl:s.heap.IsList l items) (ah:l≠I) (aa:S≠I) (ab:S≠l)
  (hR : ∀h' tk B Y,(∀b o,b≠S->b≠I->s.heap.get? b=some o->h'.get? b=some o)->h'.get? S=some { cls:=.type "list",dict:=none,data:=.seq B Y,slots := #[] } ->
   ItemsOf (λi v=>items[items.size - 1 - i]? = some v) B items.size->R (.ok (.ret .none)) { s with heap:=h',toks:=tk }) (hn:items.size<=g9) :
  wpAny (model prog w) A.in1 (Builtin.«list.__init__» ⟨[.ref S,.ref I],[]⟩)
   (λac s'=>match ac with | .done f=>R (.ok f) s' | .again Y=>Y.quiet=true/\Le (model prog w) A Y R s') (λe s'=>R (.error e) s') s:=by
 show wpAny _ _ (do let ag <- Lp (.ref S);Builtin.List.listUpdate (.ref S) (λ_ => #[]);letGo ag.toList.reverse;t_ (.ref S) (.ref I) .none) _ _ s
 refine a_ ?_
 unfold Lp;refine a_ (u8 hS rfl (e_ ?_))
 show wpAny _ _ (updateSeq S (λ_ => #[]) >>= λ_=>letGo (#[]:Array Value).toList.reverse >>= λ_=>t_ (.ref S) (.ref I) .none) _ _ s
 refine a_ (L4 hS rfl ?_)
 have L:=G4 (If (λ_=>(#[]:Array Value))) hS rfl
 have F : ∀b o,b≠S->s.heap.get? b=some o->(s.heap.update S (If (λ_=>(#[]:Array Value)))).get? b=some o :=
  λb o hb e=>(E_ _ _ (p7 hb)).trans e
 refine a_ (wpAny_letGo ?_)
 refine xO (s:={ s with heap:=s.heap.update S (If (λ_=>(#[]:Array Value))) }) hh S .none _ L (hi.at λo e=>F _ o (p7 aa) e) (hl.at λo e=>F _ o (p7 ab) e) ah aa ab (λh' tk B Y hk af Z=>?_) hn
 exact hR h' tk B Y (λb o hb ad e=>hk b o hb ad (F b o hb e)) af Z
theorem sA (hh:A.handled=none) {I l:Addr} {items:Array Value} (hi:s.heap.IsRevIter I l ((items.size:Int) - 1)) (hl:s.heap.IsList l items) (ad:l≠I)
  (hQ : ∀h' tk B Z,(∀b o,b≠I->s.heap.get? b=some o->h'.get? b=some o) ->
   h'.get? s.heap.objs.size=some { cls:=.type "list",dict:=none,data:=.seq B Z,slots := #[] }->ItemsOf (λi v=>items[items.size - 1 - i]? = some v) B items.size->Q (.ref s.heap.objs.size) { s with heap:=h',toks:=tk }) (hn:items.size<=g9) :
  wpAny (model prog w) A (call (.type "list") [.ref I]) Q E s:=by
 refine callType_codes (Q₁:=λobj s₁=>obj = .ref s.heap.objs.size/\s₁={ s with heap:=s.heap.push { cls:=.type "list",data:=.seq #[] } }) F.called_list (F.typeCall_list_1 _) F.entry_list_init
  (code_list_new _ ⟨rfl,rfl⟩) λobj s₁ Y=>?_
 obtain⟨rfl,rfl⟩:=Y;have hS:(s.heap.push { cls:=.type "list",data:=.seq #[] }).get? s.heap.objs.size=some { cls:=.type "list",data:=.seq #[] }:=gr _ rfl
 have up : ∀b o,s.heap.get? b=some o->(s.heap.push { cls:=.type "list",data:=.seq #[] }).get? b=some o:=λb o e=>c_ _ e
 obtain⟨oi,aa,_⟩:=id hi;obtain⟨ol,ac,_⟩:=id hl;refine⟨⟨_,hS,rfl⟩,F.args_list_init_2 _ _,sH (s:={ s with heap:=s.heap.push { cls:=.type "list",data:=.seq #[] } }) (A:=A.in1) hh _ hS (hi.at λo e=>up _ o e) (hl.at λo e=>up _ o e) ad (nH (fi aa)) (nH (fi ac)) (λh' tk B Z hk ab L=>?_) hn⟩
 exact⟨rfl,hQ h' tk B Z (λb o hb e=>hk b o (k9 (fi e)) hb (up b o e)) ab L⟩
end PySem
namespace L2
open PySem PySem.Spec PyProof.Rows
mutual
inductive Rep (K:fy) (H:Hp):V->Ma->Prop
 | non:Rep K H .non .none
 | bl (b:Bool):Rep K H (.bl b) (.bool b)
 | int (i:Int):Rep K H (.int i) (.int i)
 | str (x:Str):Rep K H (.str x) (.str x)
 | tup {a:Addr} {vs:List V} {ds:List Ma}:SqT K H a vs->jK K H vs ds->Rep K H (.ref a) (.tuple ds)
 | lst {a:Addr} {vs:List V} {ds:List Ma}:SqL K H a vs->jK K H vs ds->Rep K H (.ref a) (.list ds)
inductive jK (K:fy) (H:Hp):List V->List Ma->Prop
 | nil:jK K H [] []
 | cons {v:V} {vs:List V} {d:Ma} {ds:List Ma}:Rep K H v d->jK K H vs ds->jK K H (v :: vs) (d :: ds)
end
theorem ap.seqT (e:ap H H') (h:SqT K H a xs):SqT K H' a xs:=by
 rcases h with(h | ⟨o,h⟩) | h
 .exact .inl (.inl (e _ _ h))
 .exact .inl (.inr ⟨o,e _ _ h⟩)
 .exact .inr h
theorem jK.ints {K:fy} {H:Hp} : ∀(ns:List Int),jK K H (ns.map V.int) (ns.map Gt)
 | []=>.nil
 | _ :: ns=>.cons (.int _) (jK.ints ns)
mutual
theorem Inv.reads (I:Inv X pins σ H s) : ∀{v:V} {d:Ma} {u:Value},Rep X.K H v d->bq v u->∃as,Reads s.heap u d as
 | _,_,_,.non,r=>by cases r;exact⟨_,.none⟩
 | _,_,_,.bl b,r=>by cases r;exact⟨_,.bool b⟩
 | _,_,_,.int b,r=>by obtain⟨t,rfl⟩:=r;exact⟨_,.int b t⟩
 | _,_,_,.str b,r=>by obtain⟨t,rfl⟩:=r;exact⟨_,.str b t⟩
 | _,_,_,.tup h q,r=>by
  cases r;obtain⟨its,B,⟨o,Y,Z,n,F⟩,_⟩:=I.tuple h;obtain⟨as,L⟩:=Inv.readsAll I q B;exact⟨_,.tuple Y Z F (by simpa using L)⟩
 | _,_,_,.lst h q,r=>by
  cases r;obtain⟨its,B,⟨o,n,Y,Z,_,F⟩,_⟩:=I.list h;obtain⟨as,L⟩:=Inv.readsAll I q B;exact⟨_,.list Y Z F (by simpa using L)⟩
theorem Inv.readsAll (I:Inv X pins σ H s) : ∀{v:List V} {d:List Ma} {u:List Value},jK X.K H v d->bo v u->∃as,ReadsAll s.heap u d as
 | _,_,_,.nil,r=>by cases r;exact⟨_,.nil⟩
 | _,_,_,.cons h q,r=>by
  cases r with
  | cons B Y =>
   obtain⟨as,L⟩:=Inv.reads I h B;obtain⟨bs,F⟩:=Inv.readsAll I q Y;exact⟨_,.cons L F⟩
end
section
variable {a b c:Expr} {tb tc:TE}
def E2 (K:fy):R2:=λx y H Q=>∃dx B,Rep K H x dx/\Rep K H y B/\dx.canLay0=true/\B.canLay0=true/\dx.depth<=100/\Q (.bl (KN dx B)) H
theorem Dl (hu:X.A.units+100 < cLine):OpR X (s_ .Eq) (E2 X.K):=by
 intro pins s σ H x y v u Q I rx F h;obtain⟨dx,dy,h1,h2,Y,B,h5,q⟩:=h;obtain⟨as,L⟩:=I.reads h1 rx;obtain⟨bs,Z⟩:=I.reads h2 F;exact PySem.SeqAt.compareEq_reads L Z Y B () ⟨.bl _,H,I,rfl,q⟩
def JZ (K:fy):List V->Hp->VK->Prop:=λxs H Q=>∃x t T k,xs=[x,.ty T]/\oy K H x t/\kitOne K t (.type T)=some k/\Q (.bl k) H
theorem BR:bY X (.builtin "isinstance") (JZ X.K):=by
 intro pins s σ H xs us Q I r h;obtain⟨x,t,T,k,rfl,ty,e,q⟩:=h;obtain⟨u,L,rfl,B,F⟩:=tX r;cases F;exact Ba I B ty e λtk=>⟨.bl k,H,I.tok tk,rfl,q⟩
theorem Jx {T:String} (Y:Gl X x) (L:X.mg x=none) (Z:x_ x=some (.type T)) (F:x ≠ "__name__" := by decide) (B:(x ==("__debug__" : Str))=false:=by decide):PE X (.Name x pos) (tC (.ty T)) :=
 Ef Y L Z rfl F B
theorem jE {its:Array Value} {bs:List Bool} (h:bo (bs.map V.bl) its.toList):TruthOf prog w A (λi v=>its[i]? = some v) (λi=>bs.getD i true):=by
 intro i v s Q E Z F;have h1:its.toList[i]? = some v:=by simpa using Z
 have B:i < its.toList.length:=(g_.mp h1).1
 have hl:=h.length;have L:i < bs.length:=by rw[<- hl] at B;simpa using B
 obtain⟨u,hu,Y⟩:=h.get (i:=i) (x:=V.bl bs[i]) (by simp[L])
 rw[h1] at hu;cases hu;cases Y;refine z_ ?_
 have e:bs.getD i true=bs[i]:=by simp[List.getD,L]
 show Q bs[i] s
 have F:Q (bs.getD i true) s:=F
 rw[e] at F;exact F
theorem Ah (bs:List Bool):(range bs.length).all (λi=>bs.getD i true)=bs.all id:=by
 rw[o7];simp only[C_,LG]
 constructor
 .intro h b hb
  obtain⟨i,hi,e⟩:=wh hb;have:=h i hi
  simp[List.getD,hi,e] at this
  simpa using this
 .intro h i hi
  have:=h bs[i] (K9 hi)
  simpa [List.getD,hi] using this
theorem Au (bs:List Bool):(range bs.length).any (λi=>bs.getD i true)=bs.any id:=by
 rw[o7];simp only[v9,LG]
 constructor
 .rintro⟨i,hi,e⟩
  refine⟨bs[i],K9 hi,?_⟩
  simpa [List.getD,hi] using e
 .rintro⟨b,hb,e⟩
  obtain⟨i,hi,B⟩:=wh hb;refine⟨i,hi,?_⟩
  simp only[List.getD,ki hi,getD_some,B];exact e
def Iv (K:fy):List V->Hp->VK->Prop:=λxs H Q=>∃(p:Addr) (bs:List Bool),xs=[.ref p]/\SqL K H p (bs.map V.bl)/\Q (.bl (bs.all id)) H
def IB (K:fy):List V->Hp->VK->Prop:=λxs H Q=>∃(p:Addr) (bs:List Bool),xs=[.ref p]/\SqL K H p (bs.map V.bl)/\Q (.bl (bs.any id)) H
theorem yL (Z:X.calm=true):bY X (.builtin "all") (Iv X.K):=by
 intro pins s σ H xs us Q I r h;obtain⟨p,bs,rfl,L,q⟩:=h;obtain⟨u,rfl,rx⟩:=cV r;cases rx;obtain⟨its,F,pl,hz⟩:=I.list L;refine call_all_walk (Ls pl.isList ?_)
 have B:p≠s.heap.objs.size:=by
  obtain⟨o,n,ho,_⟩:=pl;exact k9 (fi ho)
 refine⟨_,_,_,_,_,_,λi=>bs.getD i true,rfl,Walks.list (A:=X.A.in1) (I.ok.hd Z) _ p B its.toArray,⟨⟨_,gr _ rfl,rfl,rfl⟩,pl.isList.at λo e=>c_ _ e⟩,jE (by simpa using F),λh' tk Y=>?_⟩
 have hl:its.toArray.size=bs.length:=by have:=F.length;simp at this ⊢;omega
 rw[hl,Ah];exact⟨.bl (bs.all id),H,I.kept λb o e=>Y b o (by simp;exact k9 (fi e)) (c_ _ e),rfl,q⟩
theorem xD (Z:X.calm=true):bY X (.builtin "any") (IB X.K):=by
 intro pins s σ H xs us Q I r h;obtain⟨p,bs,rfl,L,q⟩:=h;obtain⟨u,rfl,rx⟩:=cV r;cases rx;obtain⟨its,F,pl,hz⟩:=I.list L;refine call_any_walk (Ls pl.isList ?_)
 have B:p≠s.heap.objs.size:=by
  obtain⟨o,n,ho,_⟩:=pl;exact k9 (fi ho)
 refine⟨_,_,_,_,_,_,λi=>bs.getD i true,rfl,Walks.list (A:=X.A.in1) (I.ok.hd Z) _ p B its.toArray,⟨⟨_,gr _ rfl,rfl,rfl⟩,pl.isList.at λo e=>c_ _ e⟩,jE (by simpa using F),λh' tk Y=>?_⟩
 have hl:its.toArray.size=bs.length:=by have:=F.length;simp at this ⊢;omega
 rw[hl,Au];exact⟨.bl (bs.any id),H,I.kept λb o e=>Y b o (by simp;exact k9 (fi e)) (c_ _ e),rfl,q⟩
theorem pe (ns:List Int) : ∀n,n<=ns.length->preSum (λi=>ns.getD i 0) n=(ns.take n).sum
 | 0,_=>by simp[preSum]
 | n+1,h=>by
  have B:=pe ns n ()
  have e:ns[n]? = some (ns[n]'()):=by simp
  show preSum (λi=>ns.getD i 0) n+ns.getD n 0=_
  rw[B,j6,e,List.sum_append,List.getD,e];simp
theorem wR (ns:List Int):preSum (λi=>ns.getD i 0) ns.length=ns.sum:=by
 rw[pe ns _ (h_ _),la]
def DW (K:fy):List V->Hp->VK->Prop:=λxs H Q=>∃(p:Addr) (ns:List Int),xs=[.ref p]/\SqL K H p (ns.map V.int)/\Q (.int ns.sum) H
theorem iR (hc:X.calm=true):bY X (.builtin "sum") (DW X.K):=by
 intro pins s σ H xs us Q I r h;obtain⟨p,ns,rfl,hq,q⟩:=h;obtain⟨u,rfl,rx⟩:=cV r;cases rx;obtain⟨its,Y,pl,hz⟩:=I.list hq;refine call_sum_walkG (Ls pl.isList ?_)
 have L:p≠s.heap.objs.size:=by
  obtain⟨o,n,Z,_⟩:=pl;exact k9 (fi Z)
 refine⟨_,_,_,_,_,_,λi=>ns.getD i 0,rfl,Walks.list (A:=X.A.in1) (I.ok.hd hc) _ p L its.toArray,⟨⟨_,gr _ rfl,rfl,rfl⟩,pl.isList.at λo e=>c_ _ e⟩,λb F=>?_,λi v hv=>?_,λh' tk t' hk=>?_⟩
 .obtain⟨o,n,Z,_⟩:=pl
  rcases i6.mp F with e | e
  .rw[e];exact g7 (D_ _) (by simp)
  .rw[fx.mp e];exact g7 (fi Z) (by simp)
 .have h1:its[i]? = some v:=by simpa using hv
  have B:i < its.length:=(g_.mp h1).1
  have hl:=Y.length;have F:i < ns.length:=by rw[<- hl] at B;simpa using B
  obtain⟨u,hu,t,ru⟩:=Y.get (i:=i) (x:=V.int ns[i]) (by simp[F])
  rw[h1] at hu;cases hu;exact⟨t,by rw[ru];simp[List.getD,F]⟩
 .have hl:its.toArray.size=ns.length:=by have:=Y.length;simp at this ⊢;omega
  rw[hl,wR];exact⟨.int ns.sum,H,I.kept λb o e=>hk b o (by simp;exact k9 (fi e)) (c_ _ e),⟨t',rfl⟩,q⟩
def pY (t:TE):TE:=λσ H Q=>t σ H λx H1=>∃p,x = .ref p/\∃ys,H1 p*>ys/\∀l,H1 l=none->Q (.ref l) (upd H1 l (.lst ys.reverse))
end
section
variable {a b c:Expr} {tb tc:TE} {p:Pos}
theorem pT (hc:X.calm=true) (hg:Gl X "list") (hm:X.mg "list" = none) (ab:Gl X "reversed") (ac:X.mg "reversed" = none) (he:PE X e te) (Z:jc [e] X.env=[(false,eval e X.env)]:=by rfl) :
  PE X (.Call (.Name "list" p) [.Call (.Name "reversed" p2) [e] [] pos2] [] pos) (pY te):=by
 intro pins s σ H Q I h;refine t5 (eJ I hg hm (by decide+kernel:x_ "list" = some (.type "list")) ?_)
 refine k7 (G3 ?_) rfl rfl
 refine t5 (eJ I ab ac boot_reversed ?_)
 refine k7 (Q:=_) ?_ Z rfl
 rw[Z];refine G3 (thn (he pins s σ H _ I h) λu L ⟨x,H1,I1,r1,pp,e1,ys,hq',q⟩=>I_ ?_)
 subst e1;cases r1;have hq:SqL X.K H1 pp ys:=.of hq'
 obtain⟨its,rv,pl,hz⟩:=I1.list hq;have af:=rv.length;refine call_reversed_list pl.isList ?_
 have ad:pp < L.heap.objs.size:=by
  obtain⟨o,n,ho,_⟩:=pl;exact fi ho
 refine I_ (sA (I.ok.hd hc) (I:=L.heap.objs.size) (l:=pp) (items:=its.toArray) ⟨_,gr _ rfl,rfl,rfl⟩ (pl.isList.at λo e=>c_ _ e) (k9 ad) (λh' tk B c' hk hS F=>?_) (by simp only[j7];omega))
 have kp : ∀b o,L.heap.get? b=some o->h'.get? b=some o:=λb o e=>hk b o (k9 (fi e)) (c_ _ e)
 have Y:B=its.reverse.toArray:=by
  apply Array.ext_getElem?
  intro i;have aa:=F.1;simp only[j7] at aa
  by_cases hi:i < its.length
  .have h1:B[i]? = some (B[i]'()):=by simp[aa,hi]
   have h2:=F.2 i _ h1;rw[h1,<- h2];simp only[j7,G5];rw[LA hi]
  .simp only[G5]
   rw[v_ (),List.getElem?_eq_none (by simp;omega)]
 subst Y;have hsz:L.heap.objs.size<=(L.heap.push (revObj pp ((its.toArray.size:Int) - 1))).objs.size:=by rw[n6];exact le_succ _
 exact⟨.ref (L.heap.push (revObj pp ((its.toArray.size:Int) - 1))).objs.size,upd H1 _ (.lst ys.reverse),I1.laid (t':=tk) kp hsz ⟨by simp;omega,its.reverse,c',rv.reverse,hS⟩,rfl,q _ (I1.hok.fresh hsz)⟩
def Its (x:Str):It:=⟨λi _=>i < x.length,λi H v H'=>H'=H/\∃c,x.cps[i]? = some c/\v = .str ⟨#[c]⟩,λi _=>x.length<=i⟩
theorem AZ (it:Addr) (x:Str) (t:Tok):mQ P w K tg (Its x) [it] it (λi h=>h.IsStrIter it "str_ascii_iterator" x t i) where
 mem:=by simp
 obj:=λi h st b F=>by
  have e:b=it:=by simpa using F
  subst e;obtain⟨o,e,c,d⟩:=st;exact⟨o,e,λv z=>by rw[d] at z;cases z⟩
 keep:=λi h h' st k=>let ⟨o,ho,r⟩:=st;⟨o,k it (by simp) o ho,r⟩
 item:=by
  intro X hP hw hK hc i pins s σ H E I Y st B;subst hP hw hK;obtain⟨f0,f1,f2,Z,f4,f5⟩:=Y it (by simp)
  have B:i < x.cps.size:=B
  refine wpAny_pyNext_ascii_item st (c:=x.cps[i]'B) (by simp) λh' L sb=>?_
  have I1:Inv X pins σ H { s with heap:=h',toks:=s.toks+1 }:=I.turned (λb o F e=>(sb.2 b F).trans e) f0 f1 Z f4 f5
  obtain⟨o,e,c,d⟩:=id L;exact⟨_,rfl,oM (s:={ s with heap:=h',toks:=s.toks+1 }) e c d ∅ ⟨.str ⟨#[x.cps[i]'B]⟩,H,I1,⟨_,rfl⟩,⟨rfl,_,by simp,rfl⟩,L,λb F=>(Y b F).1⟩⟩
 done:=by
  intro X hP hw hK hc i pins s σ H E I Y st B;subst hP hw hK;have B:x.cps.size<=i:=B
  obtain⟨f0,f1,f2,Z,f4,f5⟩:=Y it (by simp)
  exact wpAny_pyNext_ascii_end (I.ok.hd hc) st (v_ B) λh' eb=>⟨rfl,I.turned (t':=s.toks) (λb o F e=>eb b o F e) f0 f1 Z f4 f5⟩
 self:=λ_ _ _ _ _ st h=>wpAny_pyIter_striter_ascii st h
theorem AY (it:Addr) (x:Str) (t:Tok):mQ P w K tg (Its x) [it] it (λi h=>h.IsStrIter it "str_iterator" x t i) where
 mem:=by simp
 obj:=λi h st b F=>by
  have e:b=it:=by simpa using F
  subst e;obtain⟨o,e,c,d⟩:=st;exact⟨o,e,λv z=>by rw[d] at z;cases z⟩
 keep:=λi h h' st k=>let ⟨o,ho,r⟩:=st;⟨o,k it (by simp) o ho,r⟩
 item:=by
  intro X hP hw hK hc i pins s σ H E I Y st B;subst hP hw hK;obtain⟨f0,f1,f2,Z,f4,f5⟩:=Y it (by simp)
  have B:i < x.cps.size:=B
  refine wpAny_pyNext_wide_item st (c:=x.cps[i]'B) (by simp) λh' L sb=>?_
  have I1:Inv X pins σ H { s with heap:=h',toks:=s.toks+1 }:=I.turned (λb o F e=>(sb.2 b F).trans e) f0 f1 Z f4 f5
  obtain⟨o,e,c,d⟩:=id L;exact⟨_,rfl,oM (s:={ s with heap:=h',toks:=s.toks+1 }) e c d ∅ ⟨.str ⟨#[x.cps[i]'B]⟩,H,I1,⟨_,rfl⟩,⟨rfl,_,by simp,rfl⟩,L,λb F=>(Y b F).1⟩⟩
 done:=by
  intro X hP hw hK hc i pins s σ H E I Y st B;subst hP hw hK;have B:x.cps.size<=i:=B
  obtain⟨f0,f1,f2,Z,f4,f5⟩:=Y it (by simp)
  exact wpAny_pyNext_wide_end (I.ok.hd hc) st (v_ B) λh' eb=>⟨rfl,I.turned (t':=s.toks) (λb o F e=>eb b o F e) f0 f1 Z f4 f5⟩
 self:=λ_ _ _ _ _ st h=>wpAny_pyIter_striter_wide st h
def GW (tl:TE):TI:=λσ H R=>tl σ H λx H1=>∃z,x = .str z/\R (Its z) H1
theorem Hy {l:Expr} {tl:TE} (hl:PE X l tl):PI X tg l (GW tl):=by
 intro pins s σ H R I h;refine thn (hl pins s σ H _ I h) λv F B=>?_
 obtain⟨x,H1,L,Z,q1⟩:=B;obtain⟨z,e,q⟩:=q1;subst e;obtain⟨t,rfl⟩:=Z;cases ha:z.cps.all (· < 128)
 .refine wpAny_pyIter_wide ha ?_
  refine⟨F.heap.objs.size,[F.heap.objs.size],_,_,H1,rfl,L.kept (t':=F.toks) λb o e=>c_ _ e,AY _ z t,⟨_,gr _ rfl,rfl,rfl⟩,λb Y=>?_,q⟩
  have e:b=F.heap.objs.size:=by simpa using Y
  subst e;exact L.fpOk (h_ _) (L.hok.fresh (h_ _))
 .refine wpAny_pyIter_ascii ha ?_
  refine⟨F.heap.objs.size,[F.heap.objs.size],_,_,H1,rfl,L.kept (t':=F.toks) λb o e=>c_ _ e,AZ _ z t,⟨_,gr _ rfl,rfl,rfl⟩,λb Y=>?_,q⟩
  have e:b=F.heap.objs.size:=by simpa using Y
  subst e;exact L.fpOk (h_ _) (L.hok.fresh (h_ _))
def EY:V->Option Int->Option Int->Hp->VK->Prop:=λx lo hi H Q=>∃z,x = .str z/\z.length<=g9/\Q (.str (KG z lo hi)) H
theorem ub:SlR X EY:=by
 intro pins s σ H x v vl vu lo hi sl Q I rx hs pl pu h;obtain⟨z,rfl,L,q⟩:=h;obtain⟨t,rfl⟩:=rx;refine⟨"str",_,F.slot_str_getitem.lookup,typeIs_str _ _ _,?_⟩
 have B : ∀(t':Tok) (k:Nat),EP X pins σ Q (.str (KG z lo hi) t') { s with toks:=k }:=λt' k=>⟨.str _,H,I.tok k,⟨t',rfl⟩,q⟩
 obtain⟨o,h1,h2,Y⟩:=hs;cases pl with
 | none=>cases pu with
  | none=>exact Lb (l:=none) (u:=none) (st:=none) ⟨o,h1,h2,Y⟩ rfl (post_val_or_str ⟨ja (LB z _ _) L,λt' k=>B t' k⟩)
  | int j Z=>exact Lb (l:=none) (u:=some (j,Z)) (st:=none) ⟨o,h1,h2,Y⟩ rfl (post_val_or_str ⟨ja (LB z _ _) L,λt' k=>B t' k⟩)
 | int i ui=>cases pu with
  | none=>exact Lb (l:=some (i,ui)) (u:=none) (st:=none) ⟨o,h1,h2,Y⟩ rfl (post_val_or_str ⟨ja (LB z _ _) L,λt' k=>B t' k⟩)
  | int j Z=>exact Lb (l:=some (i,ui)) (u:=some (j,Z)) (st:=none) ⟨o,h1,h2,Y⟩ rfl (post_val_or_str ⟨ja (LB z _ _) L,λt' k=>B t' k⟩)
end
def FnL (K:fy) (mg:Str->Option Value) (x:Str) (st:Stmt) (ps:List Str):Prop :=
 ∃f fd,Fun K x x st f fd/\mg x=some (.ref f)/\jX K fd ps []
def Fn (P:Program) (w:World) (K:fy) (mg:Str->Option Value) (base:Heap) (x:Str) (k:Nat) (ps:List Str) (sp:Sp):Prop :=
 ∃f fd,jk P w K mg base CX0 k f fd ps sp/\mg x=some (.ref f)/\Lj K (.ref f)=true/\jX K fd ps []
section
variable {P:Program} {w:World} {K:fy} {mg:Str->Option Value} {base:Heap}
theorem FnL.ok {x:Str} {st:Stmt} {N ps:List Str} {k:Nat} {sp:Sp} (F:FnL K mg x st ps) (S:ax N ps (ak st)) (len : ∀vs H Q E,sp vs H Q E->vs.length=ps.length)
  (B : ∀(f:Addr) (cdv:Value) (A:Around) (outer:List Env) (s:Shared) (H:Hp) (vs:List V) (Q:VK) (E:XK),cU k (A.deeper (envOfC x (ak st) s.heap.objs.size f cdv))->sp vs H Q E ->
   ∃t,PSs (uL CX0 P w K mg base N x (ak st) f cdv A outer s H E).nox (cz st) t/\t { nx:=λ_ H'=>Q .non H',rt:=Q } (ju N vs) H):Fn P w K mg base x (k+1) ps sp:=by
 obtain⟨f,fd,F,m,b⟩:=F;exact⟨f,fd,F.ok S len (B f),m,F.kp,b⟩
theorem Fn.mono {x:Str} {j k:Nat} {ps:List Str} {sp:Sp} (F:Fn P w K mg base x j ps sp) (h:j<=k):Fn P w K mg base x k ps sp:=by
 obtain⟨f,fd,F,m,B,b⟩:=F;exact⟨f,fd,F.mono h,m,B,b⟩
theorem Ik {B:Option Addr} {kV:Value} (X:K.In h) (G:h.Ns md mg)
  (a:nsIn K md x=some (-f))
  (l:K.lookup f=some ⟨oc,od,.func (fnOf x x (cQ st) (cz st) (ak st) .none kV doc pm B cdv ct),osl⟩)
  (c:codeIn K cdv x=true) (k:Lj K (.ref f)=true)
  (F : ∀(kV doc pm:Value) (B:Option Addr) (cdv ct:Value) (us:List Value),us.length=ps.length->bindArgs (fnOf x x (cQ st) (cz st) (ak st) .none kV doc pm B cdv ct) ⟨us,[]⟩=pure (ps.zip us)):FnL K mg x st ps :=
 ⟨f,_,qR l c k,mg_of X G a,(qR l c k).binds F⟩
end
section
variable {p:Pos} {t:TA}
theorem aq (F:Fn X.prog X.w X.K X.mg X.base x k ps sp) (ha:PA X (e :: es) t) (Y:cU k X.A:=by exact cU.mono (by assumption) (by first | decide | omega)) (Z:Gl X x:=by exact rfl) (L:(x ==("__debug__" : Str))=false:=by decide)
  (he:jc (e :: es) X.env=(false,eval e X.env) :: jc es X.env:=by rfl) (B:(y_ pos (jc es X.env)).any (·.1)=false:=by rfl) :
  PE X (.Call (.Name x p) (e :: es) [] pos) (tI sp [] E0 t):=by
 obtain⟨f,fd,F,m,kp,b⟩:=F;exact EQ F Y Z m kp b .nil oW ha L he B
end
structure Wlk (J:It) (xs:List V) (C:Hp->Prop):Prop where
 go : ∀i H,C H->i < xs.length->J.go i H
 yld : ∀i H x H',C H->i < xs.length->J.yld i H x H'->xs[i]? = some x/\H'=H
 stop : ∀i H,C H->xs.length<=i->J.stop i H
theorem cD:Wlk (Itl K a) xs (λH=>SqL K H a xs) :=
 ⟨λi H h hi=>⟨xs,xs[i],h,by simp[hi]⟩,λi H x H' h _ y=>⟨y.2 xs h,y.1⟩,λi H h hi=>⟨xs,h,hi⟩⟩
theorem aY:Wlk (Itt K a) xs (λH=>SqT K H a xs) :=
 ⟨λi H h hi=>⟨xs,xs[i],h,by simp[hi]⟩,λi H x H' h _ y=>⟨y.2 xs h,y.1⟩,λi H h hi=>⟨xs,h,hi⟩⟩
def ql (lo:Int) (n:Nat):List V:=(range n).map λ(i:Nat)=>V.int (lo+(i:Int))
theorem bi (lo:Int) (n:Nat):(ql lo n).length=n:=by simp[ql]
theorem xo (h:i < n):(ql lo n)[i]? = some (.int (lo+i)):=by simp[ql,h]
theorem dJ:Wlk (Itr lo n) (ql lo n) (λ_=>True) :=
 ⟨λi H _ hi=>by rw[bi] at hi;exact hi,λi H x H' _ hi y=>by
  obtain⟨e,y⟩:=y;rw[bi] at hi;rw[xo hi,y];exact⟨rfl,e⟩,λi H _ hi=>by rw[bi] at hi;exact hi⟩
def xR (x:Str):List V:=x.cps.toList.map λc=>V.str ⟨#[c]⟩
theorem F7:Wlk (Its x) (xR x) (λ_=>True) :=
 ⟨λi H _ hi=>by show i < x.cps.size;simpa [xR] using hi,λi H v H' _ hi y=>by
  obtain⟨e,c,B,y⟩:=y;refine⟨?_,e⟩
  rw[y];simp[xR,B],λi H _ hi=>by show x.cps.size<=i;simpa [xR] using hi⟩
theorem En {J:It} {C:Hp->Prop} (w:Wlk J xs C) {g:TG} {tb:TS} {D:pk} {σ:St} {H:Hp} (F:Nat->St->Hp->Prop) (h0:F 0 σ H) (hl : ∀i σ H,F i σ H->C H)
  (hs : ∀i x σ H,i < xs.length->xs[i]? = some x->F i σ H->g x σ H λL H2=>tb { D with nx:=F (i+1),ct:=F (i+1),bk:=D.nx } L H2) (Z : ∀ σ H,F xs.length σ H->D.nx σ H) :
  ∃ W:Nat->Nat->St->Hp->Prop,(∃m,W 0 m σ H)/\∀i m σ H,W i m σ H ->
   (J.stop i H/\D.nx σ H)\/(J.go i H/\∃N:St->Hp->Prop,(∀ σ' H',N σ' H'->∃Y,Y < m/\W (i+1) Y σ' H')/\∀x H',J.yld i H x H'->g x σ H' λL H2=>tb { D with nx:=N,ct:=N,bk:=D.nx } L H2):=by
 refine⟨λi m σ H=>m=xs.length - i/\i<=xs.length/\F i σ H,⟨xs.length,by simp,x5 _,h0⟩,?_⟩
 rintro i m σ H ⟨rfl,hi,p⟩
 have q:=hl i σ H p
 by_cases B:i < xs.length
 .refine .inr ⟨w.go i H q B,F (i+1),λσ' H' p'=>⟨xs.length - (i+1),(),rfl,B,p'⟩,λx H' y=>?_⟩
  obtain⟨e1,e2⟩:=w.yld i H x H' q B y;subst e2;exact hs i x σ _ B e1 p
 .have e:i=xs.length:=()
  subst e;exact .inl ⟨w.stop _ H q (h_ _),Z σ H p⟩
theorem Dm {J:It} {C:Hp->Prop} (w:Wlk J xs C) {g:TG} {tc:TT} {te:TE} {σ0:St} {Q:VK} {H1:Hp} {D:Addr} (L:Nat->List V->Hp->Prop) (h0:L 0 [] (upd H1 D (.lst []))) (hl : ∀i ys H,L i ys H->C H)
  (hs : ∀i x ys H,i < xs.length->xs[i]? = some x->L i ys H->g x σ0 H λB H3=>tc B H3 λb Y=>if b=true then te B Y λy Z=>Z D*>ys/\ys.length < g9/\L (i+1) (ys++[y]) (upd Z D (.lst (ys++[y]))) else L (i+1) ys Y)
  (hd : ∀ys H,L xs.length ys H->Q (.ref D) H) :
  ∃ W : Nat->Nat->List V->Hp->Prop,(∃m,W 0 m [] (upd H1 D (.lst []))) /\
   ∀ i m ys H2,W i m ys H2->(J.stop i H2/\Q (.ref D) H2)\/(J.go i H2/\∃N:List V->Hp->Prop,(∀aa H',N aa H'->∃m',m' < m/\W (i+1) m' aa H') /\
    ∀x H',J.yld i H2 x H'->g x σ0 H' λB H3=>tc B H3 λb Y=>if b=true then te B Y λy Z=>Z D*>ys/\ys.length < g9/\N (ys++[y]) (upd Z D (.lst (ys++[y]))) else N ys Y):=by
 refine⟨λi m ys H=>m=xs.length - i/\i<=xs.length/\L i ys H,⟨xs.length,by simp,x5 _,h0⟩,?_⟩
 rintro i m ys H ⟨rfl,hi,p⟩
 have q:=hl i ys H p
 by_cases F:i < xs.length
 .refine .inr ⟨w.go i H q F,L (i+1),λσ' H' p'=>⟨xs.length - (i+1),(),rfl,F,p'⟩,λx H' y=>?_⟩
  obtain⟨e1,e2⟩:=w.yld i H x H' q F y;subst e2;exact hs i x ys _ F e1 p
 .have e:i=xs.length:=()
  subst e;exact .inl ⟨w.stop _ H q (h_ _),hd ys H p⟩
end L2
namespace HT
open PySem PyProof.Rows
open PySem.SeqAt
open PySem.AutoSeq1 (wpAny_loadPart')
open PySem.MeetsSeq PySem.MeetsSeq2 PySem.MeetsSeq3
theorem getItem_tuple_whole {t sl:Addr} {lo:Option Int} (B:IsTup s.heap t items) (Z:s.heap.IsSliceOf sl vl vu .none) (pl:IsPart vl lo) (pu:IsPart vu hi)
  (h1:sIx items.size 0 lo=0) (h2:sIx items.size items.size hi=items.size)
  (h:Q (.ref t) s):wpAny (model prog w) A (getItem (.ref t) (.ref sl)) Q E s:=by
 obtain⟨os,Y,F,aa⟩:=id Z;have L:s.TypeIs (.ref sl) "slice" :=⟨os,Y,F⟩
 unfold getItem
 try with_reducible refine t7 ?_
 first | refine a_ (e_ ?_) | skip
 refine a_ (wpAny_sequenceKey B.typeIs ∅ ?_)
 refine a_ (k4 (name:=b_ "__getitem__") B.typeIs u5
  (li u5 B.typeIs entry_tuple_getitem ?_ (args_tuple_getitem _ _)))
 show wpAny _ _ (Builtin.Tuple.tupleItemsOf (.ref t) >>= _) _ _ s
 refine a_ (tupleItemsOf_ B ?_)
 refine a_ (Lx L ?_)
 rw[if_pos ∅]
 refine a_ (iF Z pl pu ?_)
 rw[h1,h2]
 show wpAny _ _ (if (((0:Nat):Int) == 0 && (1:Int) == 1 && (items.size - 0) == items.size)=true then _ else _) _ _ s
 rw[if_pos (by simp)]
 unfold Builtin.Tuple.tupleIsExact;refine a_ (a_ (Lx B.typeIs (e_ ?_)))
 rw[if_pos ∅]
 exact a_ (LN (e_ ⟨_,rfl,e_ h⟩))
end HT
namespace L2
open PySem PySem.Spec PyProof.Rows
def iU (xs:List (Str × zb)) (x:Str):Bool:=xs.lookup x == some .cell || xs.lookup x == some .free
theorem jR {xs:List (Str × zb)} (h:iU xs x=true):xs.lookup x=some .cell\/xs.lookup x=some .free:=by
 unfold iU at h;rw[Bool.or_eq_true] at h;simpa using h
def JS (K:fy):V->Option Int->Option Int->Hp->VK->Prop:=λx lo hi H Q=>∃a xs,x = .ref a/\SqT K H a xs/\(fQ xs lo hi=xs->Q (.ref a) H)/\(∀p,H p=none->Q (.ref p) (upd H p (.tup (fQ xs lo hi))))
theorem Ez:SlR X (JS X.K):=by
 intro pins s σ H x v vl vu lo hi sl Q I Z Y pl pu h;obtain⟨a,xs,e,L,q1,q2⟩:=h
 by_cases F:HT.sIx xs.length 0 lo=0/\HT.sIx xs.length xs.length hi=xs.length
 .subst e
  cases Z;obtain⟨its,r,ht,hz⟩:=I.tuple L;have B:its.toArray.size=xs.length:=by rw[j7];exact r.length.symm
  refine⟨"tuple",_,u5.lookup,ht.typeIs,?_⟩
  refine HT.getItem_tuple_whole ht Y pl pu (by rw[B];exact F.1) (by rw[B];exact F.2) ⟨.ref a,H,I,rfl,q1 ?_⟩
  unfold fQ;rw[F.1,F.2];simp
 .exact Hb pins s σ H x v vl vu lo hi sl Q I Z Y pl pu ⟨a,xs,e,L,F,q2⟩
theorem Jg {s:Str} {P:Key->Prop}:(∃k,V.str s=kV k/\P k)↔P (g6 s):=by
 constructor
 .rintro⟨k,e,p⟩
  cases k with
  | inl i=>cases e
  | inr x=>cases e;exact p
 .exact λp=>⟨_,rfl,p⟩
theorem IY {i:Int} {P:Key->Prop}:(∃k,V.int i=kV k/\P k)↔P (i4 i):=by
 constructor
 .rintro⟨k,e,p⟩
  cases k with
  | inl i=>cases e;exact p
  | inr x=>cases e
 .exact λp=>⟨_,rfl,p⟩
section
variable {o i:Expr}
def tDG (td ty:TE):TE:=λσ H Q=>td σ H λx H1=>ty σ H1 λy H2=>∃a,x = .ref a/\∃k,y=kV k/\∃kvs v,H2 a<*kvs/\bM kvs k=some v/\Q v H2
theorem bC (hu:X.A.units+1 < cLine) (ho:PE X o td) (hi:PE X i ty) (hs:IC i:=by exact λ_ _=>rfl):PE X (.Subscript o i pos) (tDG td ty):=by
 intro pins s σ H Q I h;refine yX PySem.F.slot_dict_getitem.lookup hs (thn (ho pins s σ H _ I h) λu s1 ⟨x,H1,I1,rx,q1⟩=>thn (hi pins s1 σ H1 _ I1 q1) λiv s2 B=>?_)
 obtain⟨y,H2,Y,ry,a,ex,k,ey,kvs,v,Z,hv,q2⟩:=B;subst ex;obtain rfl:u=i8 a:=rx
 have g:lc H2 a y (some v):=.inl ⟨kvs,k,.inl Z,ey,hv.symm⟩
 exact⟨oI Y g,tG hu Y g ry λw' s3 I3 L=>⟨v,H2,I3,L,q2⟩⟩
def sDP (td ty tv:TE):TS:=λD σ H=>tv σ H λv H1=>td σ H1 λx H2=>ty σ H2 λy B=>∃a,x = .ref a/\∃k,y=kV k/\∃kvs,B a<*kvs/\kvs.length < g9/\D.nx σ (upd B a (.dK (bu kvs k v)))
theorem fu (hu:X.A.units+1 < cLine) (ho:PE X o td) (hi:PE X i ty) (Z:PE X value tv) (hs:L9 value (some (.Subscript o i pos')) pos.line X.env=pure false) :
  PS X (.Assign [.Subscript o i pos'] value pos) (sDP td ty tv):=by
 intro pins s σ H D I h;refine wpAny_Assign_Subscript (thn (Z pins s σ H _ I h) λr s1 ⟨v,H1,I1,rv,q1⟩=>thn (ho pins s1 σ H1 _ I1 q1) λu s2 ⟨x,H2,I2,rx,q2⟩=>thn (hi pins s2 σ H2 _ I2 q2) λiv s3 B=>?_) hs
 obtain⟨y,F,I3,ry,a,ex,k,Y,kvs,L,hl,q3⟩:=B;subst ex;obtain rfl:u=i8 a:=rx
 have g:xZ F a y v (upd F a (.dK (bu kvs k v))):=.inl ⟨kvs,k,L,Y,hl,rfl⟩
 exact tN hu I3 g ry rv λs4 I4=>⟨σ,_,I4,q3⟩
def tDI (ty td:TE):TE:=λσ H Q=>ty σ H λy H1=>td σ H1 λx H2=>∃a,x = .ref a/\∃k,y=kV k/\∃kvs,H2 a<*kvs/\Q (.bl (bM kvs k).isSome) H2
end
theorem vM {c:TT} (W:Nat->St->Hp->Prop) (B:St->Hp->Prop) (Z : ∃m,W m σ H)
  (Y : ∀R:St->Hp->Prop,(∀ σ H,B σ H->R σ H)->∀m σ H,W m σ H->c σ H λb H1=>if b=true then ∃N:St->Hp->Prop,(∀ σ' H',N σ' H'->∃L,L < m/\W L σ' H')/\tb { D with nx:=N,ct:=N,bk:=R } σ H1 else R σ H1)
  (F : ∀ σ H,B σ H->D.nx σ H):yl c tb D σ H:=⟨W,Z,λm σ H w=>Y D.nx F m σ H w⟩
theorem cxK {q:Str} {o:List Env} {E:XK} :
  (uL CX P w K mg base N q sc f cd A o s H E).K=K:=rfl
theorem uC (i j:Int):wn (.int i) (.int j)=true:=rfl
theorem Ed (i j:Str):wn (.str i) (.str j)=true:=rfl
theorem F6 (i j:Bool):wn (.bl i) (.bl j)=true:=rfl
theorem EX:wn .non .non=true:=rfl
theorem F8 (i:Int):wn (.int i) .non=true:=rfl
theorem Ei (s:Str) (i:Int):wn (.str s) (.int i)=true:=rfl
section
variable {a b o l:Expr} {tb:TE} {t:TA}
theorem OpR.imp {f:Value->Value->Sem Value} {r r':R2} (h:OpR X f r) (i : ∀x y H Q,r' x y H Q->r x y H Q):OpR X f r':=λpins s σ H x y v u Q I F B q=>h pins s σ H x y v u Q I F B (i _ _ _ _ q)
theorem bY.imp {f:Value} {r r':List V->Hp->VK->Prop} (h:bY X f r) (i : ∀x H Q,r' x H Q->r x H Q):bY X f r':=λpins s σ H xs us Q I B q=>h pins s σ H xs us Q I B (i _ _ _ q)
theorem IxR.imp {r r':R2} (h:IxR X r) (i : ∀x y H Q,r' x y H Q->r x y H Q):IxR X r':=λvalue B pins s σ H x y v u Q I Y F q L=>h value B pins s σ H x y v u Q I Y F (i _ _ _ _ q) L
theorem SlR.imp {r:V->Option Int->Option Int->Hp->VK->Prop} (h:SlR X r) (i : ∀x lo hi H Q,r' x lo hi H Q->r x lo hi H Q):SlR X r':=λpins s σ H x v vl vu lo hi sl Q I F B pl L q=>h pins s σ H x v vl vu lo hi sl Q I F B pl L (i _ _ _ _ _ q)
def DL:List V->Hp->VK->Prop:=λxs H Q=>∃p,xs=[.ref p]/\∃ys,H p*>ys/\Q (.int ys.length) H
def Bt:List V->Hp->VK->Prop:=λxs H Q=>∃p,xs=[.ref p]/\∃ys,H p>>ys/\Q (.int ys.length) H
theorem cC:bY X (.builtin "len") DL:=lM.imp λ_ _ _ B=>by obtain⟨p,e,ys,h,q⟩:=B;exact(⟨p,ys,e,.inl (.of h),q⟩)
theorem fA:bY X (.builtin "len") Bt:=lM.imp λ_ _ _ B=>by obtain⟨p,e,ys,h,q⟩:=B;exact(⟨p,ys,e,.inr (.of h),q⟩)
def rIL:R2:=λx y H Q=>∃p,x = .ref p/\∃i,y = .int i/\∃xs,H p*>xs/\∃v,atI xs i=some v/\Q v H
def rIT:R2:=λx y H Q=>∃p,x = .ref p/\∃i,y = .int i/\∃xs,H p>>xs/\∃v,atI xs i=some v/\Q v H
theorem gb:IxR X rIL:=FY.imp λ_ _ _ _ B=>by obtain⟨p,e,i,e2,xs,h,v,ha,q⟩:=B;exact(⟨p,xs,i,v,e,e2,.of h,ha,q⟩)
theorem aR:IxR X rIT:=GL.imp λ_ _ _ _ B=>by obtain⟨p,e,i,e2,xs,h,v,ha,q⟩:=B;exact(⟨p,xs,i,v,e,e2,.of h,ha,q⟩)
def rIS:R2:=λx y H Q=>∃z,x = .str z/\∃i,y = .int i/\z.length<=g9/\∃c,atI z.cps.toList i=some c/\Q (.str ⟨#[c]⟩) H
theorem Ga:IxR X rIS:=HU.imp λ_ _ _ _ B=>by obtain⟨z,e,i,e2,h,c,ha,q⟩:=B;exact(⟨z,i,c,e,e2,h,ha,q⟩)
def rSL:V->Option Int->Option Int->Hp->VK->Prop:=λx lo hi H Q=>∃a,x = .ref a/\∃xs,H a*>xs/\∀p,H p=none->Q (.ref p) (upd H p (.lst (fQ xs lo hi)))
theorem CB:SlR X rSL:=zI.imp λ_ _ _ _ _ B=>by obtain⟨a,e,xs,h,q⟩:=B;exact(⟨a,xs,e,.of h,q⟩)
def rSQ (K:fy):V->Option Int->Option Int->Hp->VK->Prop:=λx lo hi H Q=>∃a,x = .ref a/\∃xs,SqL K H a xs/\∀p,H p=none->Q (.ref p) (upd H p (.lst (fQ xs lo hi)))
theorem JH:SlR X (rSQ X.K):=zI.imp λ_ _ _ _ _ B=>by obtain⟨a,e,xs,h,q⟩:=B;exact(⟨a,xs,e,h,q⟩)
def rST:V->Option Int->Option Int->Hp->VK->Prop:=λx lo hi H Q=>∃a,x = .ref a/\∃xs,H a>>xs/\(fQ xs lo hi=xs->Q (.ref a) H)/\(∀p,H p=none->Q (.ref p) (upd H p (.tup (fQ xs lo hi))))
theorem JX:SlR X rST:=Ez.imp λ_ _ _ _ _ B=>by obtain⟨a,e,xs,h,q⟩:=B;exact(⟨a,xs,e,.of h,q⟩)
def iL (K:fy) (tl:TE):TI:=λσ H R=>tl σ H λx H1=>∃a,x = .ref a/\∃xs,H1 a*>xs/\R (Itl K a) H1
def iT (K:fy) (tl:TE):TI:=λσ H R=>tl σ H λx H1=>∃a,x = .ref a/\∃xs,H1 a>>xs/\R (Itt K a) H1
theorem J1 {tl:TE} (hl:PE X l tl):PI X tg l (iL X.K tl):=by
 intro pins s σ H R I h;refine thn (hl pins s σ H _ I h) λv L B=>?_
 obtain⟨x,H1,F,r1,a,e,xs,Z,q⟩:=B;subst e;cases r1;obtain⟨its,rv,p,hz⟩:=F.list (SqL.of Z);refine Ls p.isList ?_
 refine⟨L.heap.objs.size,[L.heap.objs.size],_,_,H1,rfl,F.kept (t':=L.toks) λb o e=>c_ _ e,Ar a _,⟨_,gr _ rfl,rfl,rfl⟩,λb Y=>?_,q⟩
 have e:b=L.heap.objs.size:=by simpa using Y
 subst e;exact F.fpOk (h_ _) (F.hok.fresh (h_ _))
theorem Kk {tl:TE} (hl:PE X l tl):PI X tg l (iT X.K tl):=by
 intro pins s σ H R I h;refine thn (hl pins s σ H _ I h) λv F B=>?_
 obtain⟨x,H1,L,r1,a,e,xs,Z,q⟩:=B;subst e;cases r1;obtain⟨its,rv,p,hz⟩:=L.tuple (SqT.of Z);refine u_ (show F.heap.IsTuple a its.toArray from p) ?_
 refine⟨F.heap.objs.size,[F.heap.objs.size],_,_,H1,rfl,L.kept (t':=F.toks) λb o e=>c_ _ e,yh a _,⟨_,gr _ rfl,rfl,rfl⟩,λb Y=>?_,q⟩
 have e:b=F.heap.objs.size:=by simpa using Y
 subst e;exact L.fpOk (h_ _) (L.hok.fresh (h_ _))
abbrev RM:=Addr->List V->Hp->VK->Prop
def MtL (X:Cx) (id:String) (r:RM):Prop:=MtR X id λx vs H Q=>∃p,x = .ref p/\r p vs H Q
def tML (r:RM) (to:TE) (t:TA):TE:=λσ H Q=>to σ H λx H1=>∃p,x = .ref p/\(∃xs,H1 p*>xs)/\t σ H1 λvs H2=>r p vs H2 Q
variable {id:String} {r:RM}
theorem jw (aa:Slot "list" name id) (ac:typeOf (.builtin id)=pure (.type "method_descriptor")) (hm:MtL X id r) (ho:PE X o to) (ha:PA X (e :: es) t)
  (Y:Lf o name X.env (eval o X.env)=eval o X.env:=by rfl)
  (ab:((y_ cpos (jc (e :: es) X.env)).all (λx=>!x.1) && (backToKw cpos (LZ [] X.env)).all (λx=>x.1.isSome)
   && decide ((e :: es).length+([]:List Keyword).length+(if ([]:List Keyword).isEmpty then 0 else 1) < 30))=true:=by rfl)
  (Z:(apos.endLine == cpos.line)=true:=by rfl) (hs:jc (e :: es) X.env=(false,eval e X.env) :: jc es X.env:=by rfl) (L:(y_ cpos (jc es X.env)).any (·.1)=false:=by rfl) :
  PE X (.Call (.Attribute o name apos) (e :: es) [] cpos) (tML r to t):=by
 intro pins s σ H Q I h;refine wpAny_Call_method_late Y ab Z rfl (thn (ho pins s σ H _ I h) λv s1 ⟨x,H1,I1,r1,p,ex,⟨xs,hp⟩,q1⟩=>?_)
 subst ex;have ty:tyV X.K "list" (.ref p) H1:=.inl ⟨rfl,xs,.of hp⟩
 obtain⟨h1,h2⟩:=yz I1 r1 ty;refine⟨"list",id,PySem.F.plainAttrs_list,aa,ac,h1,h2,?_⟩
 have hA:=ha cpos pins s1 σ H1 _ I1 q1;rw[hs] at hA ⊢;refine KO (by show(false || (y_ cpos (jc es X.env)).any (·.1))=false;rw[L] <;> rfl) (LO ?_)
 refine thn hA λus s2 B=>?_
 obtain⟨vs,H2,I2,rr,q2⟩:=B;exact hm pins s2 σ H2 (.ref p) vs v us Q I2 r1 rr ⟨p,rfl,q2⟩
theorem GH (Y:Slot "list" name id) (Z:typeOf (.builtin id)=pure (.type "method_descriptor")) (hm:MtL X id r) (ho:PE X o to)
  (B:Lf o name X.env (eval o X.env)=eval o X.env:=by rfl) (L:(apos.endLine == cpos.line)=true:=by rfl):PE X (.Call (.Attribute o name apos) [] [] cpos) (tML r to yk):=by
 intro pins s σ H Q I h;refine wpAny_Call_method0_late B L (thn (ho pins s σ H _ I h) λv s1 ⟨x,H1,I1,r1,p,ex,⟨xs,hp⟩,q1⟩=>?_)
 subst ex;have ty:tyV X.K "list" (.ref p) H1:=.inl ⟨rfl,xs,.of hp⟩
 obtain⟨h1,h2⟩:=yz I1 r1 ty;exact⟨"list",id,PySem.F.plainAttrs_list,Y,Z,h1,h2,KO rfl (PySem.evalArgs_none (hm pins s1 σ H1 _ [] v [] Q I1 r1 .nil ⟨p,rfl,q1⟩))⟩
def qx:RM:=λp vs H Q=>∃y,vs=[y]/\∃xs,H p*>xs/\xs.length < g9/\Q .non (upd H p (.lst (xs++[y])))
theorem cY:MtL X "list.append" qx:=λpins s σ H x vs v us Q I L F B=>by obtain⟨p,e,y,e2,xs,h,hl,q⟩:=B;exact(tY pins s σ H x vs v us Q I L F ⟨p,xs,y,e,e2,h,hl,q⟩)
def qJ:RM:=λp vs H Q=>∃b,vs=[.ref b]/\∃xs,H p*>xs/\∃zs,H b*>zs/\xs.length+zs.length<=g9/\Q .non (upd H p (.lst (xs++zs)))
theorem AG:MtL X "list.extend" qJ:=λpins s σ H x vs v us Q I L F B=>by obtain⟨p,e,b,e2,xs,h,zs,h2,hl,q⟩:=B;exact(Bi pins s σ H x vs v us Q I L F ⟨p,b,xs,zs,e,e2,h,h2,hl,q⟩)
def BV:RM:=λp vs H Q=>vs=[]/\∃xs,H p*>xs/\∃y,xs[xs.length - 1]? = some y/\Q y (upd H p (.lst xs.dropLast))
theorem Hf:MtL X "list.pop" BV:=λpins s σ H x vs v us Q I L F B=>by obtain⟨p,e,e2,xs,h,y,hl,q⟩:=B;exact(Hv pins s σ H x vs v us Q I L F ⟨p,xs,y,e,e2,h,hl,q⟩)
def rCL:R2:=λx y H Q=>∃l,x = .ref l/\∃b,y = .ref b/\∃xs,H l*>xs/\∃zs,H b*>zs/\xs.length+zs.length<=g9/\∀p,H p=none->Q (.ref p) (upd H p (.lst (xs++zs)))
theorem uN:OpR X (A_ .Add) rCL:=GZ.imp λ_ _ _ _ B=>by obtain⟨l,e,b,e2,xs,h,zs,h2,hl,q⟩:=B;exact(⟨l,b,xs,zs,e,e2,h,h2,hl,q⟩)
def C3 (B:Bool):R2:=λx y H Q=>∃p,y = .ref p/\∃xs,H p*>xs/\ig x=true/\xs.all ig=true/\Q (.bl (if B then !inV x xs else inV x xs)) H
def DX (B:Bool):R2:=λx y H Q=>∃p,y = .ref p/\∃xs,H p>>xs/\ig x=true/\xs.all ig=true/\Q (.bl (if B then !inV x xs else inV x xs)) H
theorem CI:OpR X (s_ .In) (C3 false):=sN.imp λ_ _ _ _ B=>by obtain⟨p,e,xs,h,f1,F,q⟩:=B;exact(⟨p,xs,e,.inl (.of h),f1,F,q⟩)
theorem ft:OpR X (s_ .In) (DX false):=sN.imp λ_ _ _ _ B=>by obtain⟨p,e,xs,h,f1,F,q⟩:=B;exact(⟨p,xs,e,.inr (.of h),f1,F,q⟩)
theorem tx:OpR X (s_ .NotIn) (DX true):=uk.imp λ_ _ _ _ B=>by obtain⟨p,e,xs,h,f1,F,q⟩:=B;exact(⟨p,xs,e,.inr (.of h),f1,F,q⟩)
def xJ:List V->Hp->VK->Prop:=λxs H Q=>∃p,xs=[.ref p]/\∃ys,H p>>ys/\∀l,H l=none->Q (.ref l) (upd H l (.lst ys))
def Bz:List V->Hp->VK->Prop:=λxs H Q=>∃p,xs=[.ref p]/\∃ys,H p*>ys/\∀l,H l=none->Q (.ref l) (upd H l (.tup ys))
theorem pU:bY X (.type "list") xJ:=lZ.imp λ_ _ _ B=>by obtain⟨p,e,ys,h,q⟩:=B;exact(⟨p,ys,e,.inr (.of h),q⟩)
theorem cZ:bY X (.type "tuple") Bz:=rR.imp λ_ _ _ B=>by obtain⟨p,e,ys,h,q⟩:=B;exact(⟨p,ys,e,.inl ⟨.of h,q⟩⟩)
def rCS:R2:=λx y H Q=>∃i,x = .str i/\∃j,y = .str j/\i.length+j.length<=g9/\Q (.str (i++j)) H
theorem uH:OpR X (A_ .Add) rCS:=yS.imp λ_ _ _ _ B=>by obtain⟨i,e,j,e2,h,q⟩:=B;exact(⟨i,j,e,e2,h,q⟩)
def Da:List V->Hp->VK->Prop:=λxs H Q=>∃z,xs=[.str z]/\z.length<=g9/\Q (.int z.length) H
theorem Bc:bY X (.builtin "len") Da:=uI
end
def oP (J:It) (σ0:St) (g:TG) (tc:TT) (te:TE) (Q:VK) (H1:Hp) (D:Addr):Prop:=∃W:Nat->Nat->List V->Hp->Prop,(∃m,W 0 m [] (upd H1 D (.lst []))) /\
 ∀ i m ys H2,W i m ys H2->(J.stop i H2/\Q (.ref D) H2)\/(J.go i H2/\∃N:List V->Hp->Prop,(∀F H',N F H'->∃L,L < m/\W (i+1) L F H') /\
  ∀x H',J.yld i H2 x H'->g x σ0 H' λB H3=>tc B H3 λb Y=>if b=true then te B Y λy Z=>Z D*>ys/\ys.length < g9/\N (ys++[y]) (upd Z D (.lst (ys++[y]))) else N ys Y)
theorem BU (nt:Nat) (js:List Nat) (wi:TI) (g:TG) (tc:TT) (te:TE):yU nt js wi g tc te=λσ H Q=>wi σ H λJ H1=>∀D,H1 D=none->oP J (fR nt js σ) g tc te Q H1 D:=rfl
def ER (J:It) (g:TG) (tb:TS) (D:pk) (σ:St) (H1:Hp):Prop:=∃W:Nat->Nat->St->Hp->Prop,(∃m,W 0 m σ H1)/\∀i m σ H,W i m σ H ->
 (J.stop i H/\D.nx σ H)\/(J.go i H/\∃N:St->Hp->Prop,(∀ σ' H',N σ' H'->∃F,F < m/\W (i+1) F σ' H')/\∀x H',J.yld i H x H'->g x σ H' λB H2=>tb { D with nx:=N,ct:=N,bk:=D.nx } B H2)
theorem FZ (wi:TI) (g:TG) (tb:TS):IV wi g tb=λD σ H=>wi σ H λJ H1=>ER J g tb D σ H1:=rfl
theorem cu {J:It} {C:Hp->Prop} (w:Wlk J xs C) {g:TG} {tb:TS} {D:pk} {σ:St} {H:Hp} (B:Nat->St->Hp->Prop) (Z:B 0 σ H) (hl : ∀i σ H,B i σ H->C H)
  (L : ∀i x σ H,i < xs.length->xs[i]? = some x->B i σ H->g x σ H λF H2=>tb { D with nx:=B (i+1),ct:=B (i+1),bk:=D.nx } F H2) (Y : ∀ σ H,B xs.length σ H->D.nx σ H):ER J g tb D σ H :=
 En w B Z hl L Y
theorem eD {J:It} {C:Hp->Prop} (w:Wlk J xs C) {g:TG} {tc:TT} {te:TE} {σ0:St} {Q:VK} {H1:Hp} {D:Addr} (B:Nat->List V->Hp->Prop) (h0:B 0 [] (upd H1 D (.lst []))) (hl : ∀i ys H,B i ys H->C H)
  (hs : ∀i x ys H,i < xs.length->xs[i]? = some x->B i ys H->g x σ0 H λF Z=>tc F Z λb L=>if b=true then te F L λy Y=>Y D*>ys/\ys.length < g9/\B (i+1) (ys++[y]) (upd Y D (.lst (ys++[y]))) else B (i+1) ys L)
  (hd : ∀ys H,B xs.length ys H->Q (.ref D) H):oP J σ0 g tc te Q H1 D:=Dm w B h0 hl hs hd
theorem GG (js:List Nat) (σ:St):fR 0 js σ=js.map λj=>(σ[j]?).join:=rfl
theorem GT (js:List Nat) (σ:St):fR 1 js σ=none :: js.map λj=>(σ[j]?).join:=rfl
theorem GJ (js:List Nat) (σ:St):fR 2 js σ=none :: none :: js.map λj=>(σ[j]?).join:=rfl
theorem G0 (js:List Nat) (σ:St):fR 3 js σ=none :: none :: none :: js.map λj=>(σ[j]?).join:=rfl
theorem ap.upd_new (s:ap H H1) (hp:H1 p=none):ap H (upd H1 p o):=λb u e=>by
 have e1:=s b u e;rw[ai (au e1 hp)];exact e1
theorem ap.upd0 (hp:H p=none):ap H (upd H p o):=(ap.refl H).upd_new hp
def IsB (H:Hp) (x:V) (T:String) (k:Bool):Prop:=match x with
 | .non=>k=false
 | .bl _=>k=(T == "bool" || T == "int")
 | .int _=>k=(T == "int")
 | .str _=>k=(T == "str")
 | .ref a=>(∃vs,H a>>vs/\k=(T == "tuple"))\/(∃vs,H a*>vs/\k=(T == "list"))
 | _=>False
def Io:List V->Hp->VK->Prop:=λxs H Q=>∃x T,xs=[x,.ty T]/\(T = "int" \/ T = "str" \/ T = "bool" \/ T = "tuple" \/ T = "list")/\∃k,IsB H x T k/\Q (.bl k) H
theorem EC (K:fy) {T:String} (h:T = "int" \/ T = "str" \/ T = "bool" \/ T = "tuple" \/ T = "list") :
  kitOne K (.type "NoneType") (.type T)=some false/\kitOne K (.type "bool") (.type T)=some (T == "bool" || T == "int")/\kitOne K (.type "int") (.type T)=some (T == "int") /\
  kitOne K (.type "str") (.type T)=some (T == "str")/\kitOne K (.type "tuple") (.type T)=some (T == "tuple")/\kitOne K (.type "list") (.type T)=some (T == "list"):=by
 rcases h with rfl | rfl | rfl | rfl | rfl
 all_goals exact⟨rfl,rfl,rfl,rfl,rfl,rfl⟩
theorem C8:bY X (.builtin "isinstance") Io:=BR.imp λxs H Q ⟨x,T,e,hT,k,hk,q⟩=>by
 obtain⟨B,k2,F,Z,L,Y⟩:=EC X.K hT;cases x with
 | non=>cases hk;exact⟨_,_,T,_,e,.non,B,q⟩
 | bl b=>cases hk;exact⟨_,_,T,_,e,.bl b,k2,q⟩
 | int b=>cases hk;exact⟨_,_,T,_,e,.int b,F,q⟩
 | str b=>cases hk;exact⟨_,_,T,_,e,.str b,Z,q⟩
 | ref a =>
  rcases hk with⟨vs,h,rfl⟩ | ⟨vs,h,rfl⟩
  .exact⟨_,_,T,_,e,.tup h,L,q⟩
  .exact⟨_,_,T,_,e,.lst h,Y,q⟩
 | _=>exact hk.elim
def eF (c:Nat):Bool:=decide (97<=c) && decide (c<=122)
theorem qj (a b:Str):(a++b).length=a.length+b.length:=by
 show(a++b).cps.size=a.cps.size+b.cps.size
 exact Array.size_append
theorem zt (B:cU k A):A.units+100 < cLine:=by have:=B.un;omega
end L2
namespace HT
open PySem PyProof.Rows
theorem cat_tup0 {t:Addr} {vs ws:List Value} (ht:IsTup s.heap t vs.toArray) (hb:IsTup s.heap b ws.toArray) (hv:vs=[])
  (h1:Q (.ref b) s):wpAny (model prog w) A (A_ .Add (.ref t) (.ref b)) Q E s:=by
 obtain⟨⟨cls,dd,data,sl⟩,ho,hc,n,hd⟩:=id ht;obtain⟨⟨ac,aa,Z,ab⟩,B,Y,n2,L⟩:=id hb;simp only at hc hd Y L;subst hc hd Y L;exact concat_meets ⟨_,ho,rfl⟩ ⟨_,B,rfl⟩ noFill_tuple_add seq_tuple_add PySem.F.slot_tuple_add PySem.F.entry_tuple_add (PySem.F.args_tuple_add_2 _ _)
   (tuple_addW0 t b vs.toArray ws.toArray n n2 dd aa sl ab (by simp[hv])) ⟨ho,B,h1⟩
end HT
namespace L2
open PySem PySem.Spec PyProof.Rows
section
variable {a b o l:Expr} {tb:TE} {t:TA}
def rCT:R2:=λx y H Q=>∃l,x = .ref l/\∃b,y = .ref b/\∃xs,H l>>xs/\∃ys,H b>>ys/\xs.length+ys.length<=g9 /\
 (xs=[]->Q (.ref b) H)/\(xs≠[]->ys=[]->Q (.ref l) H)/\(xs≠[]->ys≠[]->∀p,H p=none->Q (.ref p) (upd H p (.tup (xs++ys))))
theorem Cg:OpR X (A_ .Add) rCT:=by
 intro pins s σ H x y v u Q I Z Y h;obtain⟨a,rfl,b,rfl,xs,ha,ys,L,hz,q0,q1,q2⟩:=h
 by_cases B:xs=[]
 .cases Z
  cases Y;obtain⟨its,r1,p1,_⟩:=I.tuple (SqT.of ha);obtain⟨F,r2,p2,_⟩:=I.tuple (SqT.of L);exact HT.cat_tup0 p1 p2 (r1.nil_iff.mpr B) ⟨.ref b,H,I,rfl,q0 B⟩
 .exact Ew pins s σ H _ _ v u Q I Z Y ⟨a,b,xs,ys,rfl,rfl,.of ha,.of L,B,hz,q1 B,q2 B⟩
def Jd (i j:Int):Prop:=0 < j/\j < 18446744073709551616
theorem xl:OpR X (A_ .FloorDiv) (rI Jd λi j=>.int (i / j)):=opI λi j _ _ _ _ _ B q=>by
 have h1:(0:Int) < j:=B.1
 have h2:j < 18446744073709551616:=B.2
 refine floordiv_int () (by rw[Int.fdiv_eq_ediv_of_nonneg i ()];exact q) (.inl (PyProof.noPylong_of_log2 ?_))
 have F:j.natAbs < 2 ^ 64:=()
 exact lt_trans ((Nat.log2_lt ()).mpr F) ∅
abbrev RMS:=Str->List V->Hp->VK->Prop
def MtS (X:Cx) (id:String) (r:RMS):Prop:=MtR X id λx vs H Q=>∃p,x = .str p/\r p vs H Q
def tMS (r:RMS) (to:TE) (t:TA):TE:=λσ H Q=>to σ H λx H1=>∃p,x = .str p/\t σ H1 λvs H2=>r p vs H2 Q
variable {id:String} {r:RMS}
theorem GE (ab:Slot "str" name id) (ad:typeOf (.builtin id)=pure (.type "method_descriptor")) (hm:MtS X id r) (ho:PE X o to) (ha:PA X (e :: es) t)
  (Z:Lf o name X.env (eval o X.env)=eval o X.env:=by rfl)
  (ac:((y_ cpos (jc (e :: es) X.env)).all (λx=>!x.1) && (backToKw cpos (LZ [] X.env)).all (λx=>x.1.isSome)
   && decide ((e :: es).length+([]:List Keyword).length+(if ([]:List Keyword).isEmpty then 0 else 1) < 30))=true:=by rfl)
  (aa:(apos.endLine == cpos.line)=true:=by rfl) (hs:jc (e :: es) X.env=(false,eval e X.env) :: jc es X.env:=by rfl) (Y:(y_ cpos (jc es X.env)).any (·.1)=false:=by rfl) :
  PE X (.Call (.Attribute o name apos) (e :: es) [] cpos) (tMS r to t):=by
 intro pins s σ H Q I h;refine wpAny_Call_method_late Z ac aa rfl (thn (ho pins s σ H _ I h) λv s1 B=>?_)
 obtain⟨x,H1,I1,r1,p,ex,q1⟩:=B;subst ex;obtain⟨h1,h2⟩:=yz I1 r1 (show tyV X.K "str" (.str p) H1 from rfl)
 refine⟨"str",id,PySem.F.plainAttrs_str,ab,ad,h1,h2,?_⟩
 have hA:=ha cpos pins s1 σ H1 _ I1 q1;rw[hs] at hA ⊢;refine KO (by show(false || (y_ cpos (jc es X.env)).any (·.1))=false;rw[Y] <;> rfl) (LO ?_)
 refine thn hA λus s2 L=>?_
 obtain⟨vs,H2,I2,rr,q2⟩:=L;exact hm pins s2 σ H2 (.str p) vs v us Q I2 r1 rr ⟨p,rfl,q2⟩
theorem yb {ns:List Str} : ∀{us:List Value},bo (ns.map V.str) us->StrsAre us ns:=by
 induction ns with
 | nil=>intro us h;cases h;exact .nil
 | cons n ns B =>
  intro us h;cases h with
  | cons F L =>
   obtain⟨t,rfl⟩:=F;exact .cons _ _ (B L)
def xA:RMS:=λz vs H Q=>∃p,vs=[.ref p]/\∃ys:List Str,H p*>(ys.map V.str)/\(ys.map (·.length)).sum+ys.length * z.length<=16777216/\Q (.str (Txt.join z ys)) H
theorem Gi:MtS X "str.join" xA:=by
 intro pins s σ H x vs v us Q I L F h;obtain⟨z,rfl,p,rfl,ys,hp,B,q⟩:=h;obtain⟨t,rfl⟩:=L;obtain⟨u,rfl,Y⟩:=cV F;cases Y;obtain⟨its,r,pl,Z⟩:=I.list (SqL.of hp);exact join_list pl.isList (ys:=ys) (by simpa using yb r) B λt' k=>⟨.str _,H,I.tok k,⟨t',rfl⟩,q⟩
def pO:RMS:=λz vs H Q=>∃y,vs=[.str y]/\∃i rest,Lc z y 0 z.length 1=i :: rest/\Q (.int (i:Nat)) H
theorem CV:MtS X "str.index" pO:=by
 intro pins s σ H x vs v us Q I F B h;obtain⟨z,rfl,y,rfl,i,rest,L,q⟩:=h;obtain⟨t,rfl⟩:=F;obtain⟨u,rfl,Y⟩:=cV B;obtain⟨t',rfl⟩:=Y;exact SC.index L ⟨.int i,H,I.tok _,⟨_,rfl⟩,q⟩
end
theorem Gm {a b:Str} (h:a.cps.toList=b.cps.toList):a=b:=by
 cases a;cases b;congr 1;exact Array.ext' h
theorem lJ (a b:Str):(a++b).cps.toList=a.cps.toList++b.cps.toList:=by
 show(a.cps++b.cps).toList=_
 simp
theorem iw (l:List Nat) (s:Nat) : ∀n,s+n<=l.length->((range n).map λk=>s+k).filterMap (λi=>l[i]?)=(l.drop s).take n
 | 0,_=>by simp
 | n+1,h=>by
  rw[List.range_succ,r_,List.filterMap_append,iw l s n (),j6]
  have e:l[s+n]? = some (l[s+n]'()):=by simp
  simp[e,List.getElem?_drop]
theorem Hl (lo hi:Option Int) (n:Nat):Builtin.Str.strSliceIndices lo hi 1 n=(range (HT.sIx n n hi - HT.sIx n 0 lo)).map λk=>HT.sIx n 0 lo+k:=by
 have B : ∀(v:Int) (d:Nat),(if (1:Int) > 0 then max 0 (min (if v < 0 then v+(n:Int) else v) (n:Int)) else max (-1) (min (if v < 0 then v+(n:Int) else v) ((n:Int) - 1)))=((HT.sIx n d (some v):Nat):Int):=λv d=>by
  rw[if_pos ∅]
  show max 0 (min (if v < 0 then v+(n:Int) else v) (n:Int))=(((if v < 0 then(v+(n:Int)).toNat else min v.toNat n):Nat):Int)
  split <;> rw[Int.max_def,Int.min_def] <;> split <;> split <;> omega
 have base : ∀(a b:Nat),sliceRange (a:Int) (b:Int) 1=(range (b - a)).map λk=>a+k:=λa b=>by
  unfold sliceRange;simp only[show(1:Int) > 0 by decide,if_true,Int.one_mul]
  have e:(if (a:Int) < (b:Int) then((b:Int) - (a:Int)+1 - 1) / 1 else 0).toNat=b - a:=by
   split
   .rw[Int.ediv_one];omega
   .show(0:Int).toNat=b - a
    rw[Int.toNat_zero];omega
  rw[e];refine nL λk _=>?_
  omega
 unfold Builtin.Str.strSliceIndices;cases lo with
 | none=>cases hi with
  | none=>exact base 0 n
  | some v=>simp only[];rw[B v n];exact base 0 _
 | some u=>cases hi with
  | none=>simp only[];rw[B u 0];exact base _ n
  | some v=>simp only[];rw[B u 0,B v n];exact base _ _
theorem kB (x:Str) (lo hi:Option Int):(KG x lo hi).cps.toList=(x.cps.toList.drop (HT.sIx x.length 0 lo)).take (HT.sIx x.length x.length hi - HT.sIx x.length 0 lo):=by
 have h1:=HT.sIx_le x.length x.length (h_ _) hi;have F:=HT.sIx_le x.length 0 (x5 _) lo;have hl:x.cps.toList.length=x.length:=by show x.cps.toList.length=x.cps.size;simp
 unfold KG;rw[Hl]
 split
 .rename_i h
  simp only[beq_self_eq_true,Bool.true_and,d_,List.length_range,beq_iff_eq] at h;have B:HT.sIx x.length 0 lo=0:=()
  rw[h,B,drop_zero,<- hl,la]
 .show((List.map _ _).filterMap (λi=>x.cps[i]?)).toArray.toList=_
  rw[List.toList_toArray];rw[<- iw _ _ _ ()]
  refine congrArg (λf=>List.filterMap f _) (funext λi=>?_)
  simp
theorem Dy (ys:List Str):(Txt.join (b_ "") ys).cps.toList=ys.flatMap λy=>y.cps.toList:=by
 have key : ∀(l:List Str) (B:Array Nat),(l.foldl (λB p=>B++(b_ "").cps++p.cps) B).toList=B.toList++l.flatMap λy=>y.cps.toList:=by
  intro l
  induction l with
  | nil=>intro B;simp
  | cons a l F =>
   intro B;rw[List.foldl_cons,F];have e:(b_ "").cps = #[]:=by decide+kernel
   simp[e]
 show((ys.drop 1).foldl _ (ys.headD Str.empty).cps).toList=_
 rw[key];cases ys with
 | nil=>simp;decide+kernel
 | cons a l=>simp
structure iu (w:Str):Prop where
 pos:1<=w.length
 le:w.length<=8
 small : ∀c∈w.cps.toList,eF c=true
theorem mr (x:Str):x.cps.toList.length=x.length:=by show x.cps.toList.length=x.cps.size;simp
theorem iu.cons {w:Str} (h:iu w) : ∃c cs,w.cps.toList=c :: cs/\eF c=true/\(∀x∈cs,eF x=true)/\cs.length<=7:=by
 have hl:=mr w;cases e:w.cps.toList with
 | nil=>rw[e] at hl;have:=h.pos;simp at hl;omega
 | cons c cs =>
  rw[e] at hl;have:=h.le
  exact⟨c,cs,rfl,h.small c (by rw[e];simp),λx B=>h.small x (by rw[e];simp[B]),by simp at hl;omega⟩
theorem iu.of {w:Str} {c:Nat} {cs:List Nat} (e:w.cps.toList=c :: cs) (L:eF c=true) (B : ∀x∈cs,eF x=true) (hl:cs.length<=7):iu w:=by
 have h:=mr w;rw[e] at h;simp at h
 refine⟨(),(),λx F=>?_⟩
 rw[e] at F;rcases i6.mp F with rfl | q
 .exact L
 .exact B x q
theorem qp {r:Int} (B:0<=r) (h1:r < 26):atI (b_ "abcdefghijklmnopqrstuvwxyz").cps.toList r=some (97+r.toNat):=by
 obtain⟨n,rfl⟩:=u6 B;rw[show(b_ "abcdefghijklmnopqrstuvwxyz").cps.toList=List.range' 97 26 by decide+kernel]
 refine bc ?_
 rw[List.getElem?_range' ()]
 simp
theorem oN:(b_ "abcdefghijklmnopqrstuvwxyz").length<=g9:=by decide+kernel
theorem rP {c:Nat} (h:eF c=true):Lc (b_ "abcdefghijklmnopqrstuvwxyz") ⟨#[c]⟩ 0 (b_ "abcdefghijklmnopqrstuvwxyz").length 1=(c - 97) :: []:=by
 have key : ∀i:Fin 26,Lc (b_ "abcdefghijklmnopqrstuvwxyz") ⟨#[97+i.1]⟩ 0 (b_ "abcdefghijklmnopqrstuvwxyz").length 1=[i.1]:=by decide+kernel
 simp only[eF,l_,decide_eq_true_eq] at h;have:=key ⟨c - 97,()⟩
 simp only[show 97+(c - 97)=c by omega] at this
 exact this
def vH (c:Nat):Nat:=97+(c - 97+1) % 26
def Ee:List Nat->List Nat
 | []=>[]
 | c :: cs=>vH c :: cs
def qm (w:Str):Str:=⟨(Ee w.cps.toList).toArray⟩
def qA:Nat->Str->Str
 | 0,w=>w
 | n+1,w=>qA n (qm w)
theorem re (c:Nat):eF (vH c)=true:=by
 have:=Nat.mod_lt (c - 97+1) (show 0 < 26 by decide)
 unfold eF vH;rw[l_,decide_eq_true_eq,decide_eq_true_eq];exact⟨(),()⟩
theorem Gn {w:Str} (h:iu w):iu (qm w):=by
 obtain⟨c,cs,e,F,B,hl⟩:=h.cons;exact .of (c:=vH c) (cs:=cs) (by simp[qm,e,Ee]) (re c) B hl
theorem C0 {c:Nat} {cs:List Nat} : ∀(n:Nat) {w:Str},w.cps.toList=c :: cs->eF c=true->(qA n w).cps.toList=(97+(c - 97+n) % 26) :: cs:=by
 intro n
 induction n generalizing c with
 | zero =>
  intro w e B;simp only[eF,l_,decide_eq_true_eq] at B;rw[qA,e]
  congr 1
  omega
 | succ n F =>
  intro w e B;rw[qA,F (c:=vH c) (by simp[qm,e,Ee]) (re c)]
  congr 1
  simp only[vH];omega
theorem dY {α:Type} [BEq α] [LawfulBEq α] : ∀{xs ys:List α},xs.Nodup->(∀x∈xs,x∈ys)->xs.length<=ys.length
 | [],_,_,_=>by simp
 | x :: xs,ys,hn,h=>by
  have B:=m7.mp hn;have Y:=h x (by simp)
  have:=dY (xs:=xs) (ys:=ys.erase x) B.2 λz L=>by
   have F:z≠x:=λe=>B.1 (e ▸ L)
   exact(List.mem_erase_of_ne F).mpr (h z (by simp[L]))
  rw[List.length_erase_of_mem Y] at this;have:=KY Y
  simp
  omega
theorem Bd {w:Str} (h:iu w) {F:List Str} (hF:F.length < 26) : ∃n,qA n w∉F:=by
 obtain⟨c,cs,e,hc,aa,hl⟩:=h.cons;have B : ∀i j,i < 26->j < 26->qA i w=qA j w->i=j:=λi j hi hj q=>by
  have q2:=congrArg (λz:Str=>z.cps.toList) q
  simp only[C0 _ e hc] at q2;have q3:=(List.cons.inj q2).1;omega
 refine o9 λZ=>?_
 have L : ∀n,qA n w∈F:=λn=>o9 λq=>Z ⟨n,q⟩
 have Y:((range 26).map λn=>qA n w).Nodup:=by
  refine y9.mpr (Is (λ{i j} hi hj q e=>q (B i j (LG.mp hi) (LG.mp hj) e)) (List.nodup_range (n:=26)))
 have:=dY (ys:=F) Y λx hx=>by
  obtain⟨n,_,rfl⟩:=hH.mp hx;exact L n
 simp at this
 omega
theorem EF (a b:Str):eqV (.str a) (.str b)=decide (a=b):=by
 show(a == b)=decide (a=b)
 rw[o7];simp
theorem wt (x:Str) (ys:List Str):inV (.str x) (ys.map V.str)=decide (x∈ys):=by
 rw[o7];simp only[inV,any_map,v9,Function.comp,EF,decide_eq_true_eq]
 constructor
 .rintro⟨y,hy,rfl⟩;exact hy
 .exact λh=>⟨x,h,rfl⟩
theorem AU (ys:List Str):(ys.map V.str).all ig=true:=by
 rw[C_];intro x B;obtain⟨y,_,rfl⟩:=hH.mp B;rfl
def fX:List Str:=["in","from","to","end"]
structure gX (ws:List Str):Prop where
 nm : ∀w∈ws,iu w
 nd:ws.Nodup
 nomark : ∀w∈ws,w∉fX
theorem gX.nil:gX []:=⟨by simp,by simp,by simp⟩
theorem gX.snoc {w:Str} (h:gX ws) (Z:iu w) (F:w∉ws) (L:w∉fX):gX (ws++[w]):=by
 refine⟨λx B=>?_,?_,λx B=>?_⟩
 .rcases j9.mp B with q | q
  .exact h.nm x q
  .rw[fx.mp q];exact Z
 .rw[t9]
  refine⟨h.nd,by simp,λa ha b Y=>?_⟩
  rw[fx.mp Y];rintro rfl
  exact F ha
 .rcases j9.mp B with q | q
  .exact h.nomark x q
  .rw[fx.mp q];exact L
theorem vG (x:α) (xs:List α):atI (x :: xs) 0=some x:=bc (j:=0) rfl
theorem E7 {z:Str} {r:Int} {c:Nat} (B:iu z) (Z:eF c=true) (Y:0<=r) (r1:r < z.length):iu (KG z none (some r)++(Str.mk #[c])++KG z (some (r+1)) none):=by
 obtain⟨n,rfl⟩:=u6 Y;have hn:n < z.length:=()
 have hl:=mr z;have e:(KG z none (some (n:Int))++(Str.mk #[c])++KG z (some ((n:Int)+1)) none).cps.toList=z.cps.toList.take n++[c]++z.cps.toList.drop (n+1):=by
  rw[lJ,lJ,kB,kB,HT.sIx_none,HT.sIx_nat,HT.sIx_none,show((n:Int)+1)=((n+1:Nat):Int) by omega,HT.sIx_nat,LW (),LW ()]
  rw[drop_zero,sub_zero,o6 (i:=z.length - (n+1)) (by rw[length_drop,hl];omega)]
 have h8:=B.le;have F:(KG z none (some (n:Int))++(Str.mk #[c])++KG z (some ((n:Int)+1)) none).length=z.length:=by
  rw[<- mr,e];simp only[q_,KJ,length_drop,t4,length_nil,hl];omega
 refine⟨(),(),λx L=>?_⟩
 rw[e] at L;rcases j9.mp L with q | q
 .rcases j9.mp q with q | q
  .exact B.small x (y4 q)
  .rw[fx.mp q];exact Z
 .exact B.small x (L1 q)
theorem xw (cs:List Nat):(Txt.join (b_ "") (cs.map λc=>Str.mk #[c])).cps.toList=cs:=by
 rw[Dy]
 induction cs with
 | nil=>rfl
 | cons c cs B=>simp[B]
theorem CC (cs:List Nat):((cs.map λc=>Str.mk #[c]).map λx=>x.length).sum=cs.length:=by
 induction cs with
 | nil=>rfl
 | cons c cs B =>
  rw[j8,j8,List.sum_cons,B]
  show 1+cs.length=cs.length+1
  omega
def ET:V->Option Int->Option Int->Hp->VK->Prop:=λx lo hi H Q=>∃a,x = .ref a/\∃xs,H a>>xs/\∀p H',H' p>>(fQ xs lo hi)->ap H H'->Q (.ref p) H'
theorem mL:SlR X ET:=JX.imp λ_ _ _ _ _ B=>by obtain⟨a,e,xs,h,q⟩:=B;exact(⟨a,e,xs,h,λF=>q a _ (by rw[F];exact h) (ap.refl _),λp hp=>q p _ ae (ap.upd0 hp)⟩)
def GM:R2:=λx y H Q=>∃l,x = .ref l/\∃b,y = .ref b/\∃xs,H l>>xs/\∃ys,H b>>ys/\xs.length+ys.length<=g9/\∀p H',H' p>>(xs++ys)->ap H H'->Q (.ref p) H'
theorem BG:OpR X (A_ .Add) GM:=Cg.imp λ_ _ _ _ ⟨l,e,b,e2,xs,h,ys,h2,hl,q⟩=>⟨l,e,b,e2,xs,h,ys,h2,hl,
 λF=>q b _ (by rw[F];exact h2) (ap.refl _),λ_ B=>q l _ (by rw[B,append_nil];exact h) (ap.refl _),λ_ _ p hp=>q p _ ae (ap.upd0 hp)⟩
theorem lU (f:α->V) (xs:List α) (n:Nat):fQ (xs.map f) none (some (n:Int))=(xs.take n).map f:=by
 unfold fQ;rw[HT.sIx_none,HT.sIx_nat,drop_zero,sub_zero,d_,map_take]
 by_cases h:n<=xs.length
 .rw[LW h]
 .rw[Nat.min_eq_right (),o6 (by simp),o6 (by simp;omega)]
theorem fe (f:α->V) (xs:List α) (n:Nat):fQ (xs.map f) (some (n:Int)) none=(xs.drop n).map f:=by
 unfold fQ;rw[HT.sIx_none,HT.sIx_nat,d_,map_drop]
 by_cases h:n<=xs.length
 .rw[LW h,o6 (by simp)]
 .rw[Nat.min_eq_right (),List.drop_of_length_le (l:=List.map f xs) (i:=n) (by simp;omega)]
  simp
theorem IA (x:α) (xs:List α):atI (x :: xs) 0=some x:=bc (j:=0) rfl
theorem JV (x y:α) (xs:List α):atI (x :: y :: xs) 1=some y:=bc (j:=1) rfl
theorem J5 (x y z:α) (xs:List α):atI (x :: y :: z :: xs) 2=some z:=bc (j:=2) rfl
theorem Ke (x y z a:α) (xs:List α):atI (x :: y :: z :: a :: xs) 3=some a:=bc (j:=3) rfl
theorem Ki (x y z a b:α) (xs:List α):atI (x :: y :: z :: a :: b :: xs) 4=some b:=bc (j:=4) rfl
theorem eA {a b:String}:(b_ a=b_ b)=(a=b):=by
 refine propext ⟨λh=>?_,λh=>by rw[h]⟩
 rw[Str.ofString_eq_toList,Str.ofString_eq_toList] at h;have h1:=congrArg (λs:Str=>s.cps.toList) h
 simp only[List.toList_toArray] at h1;have key : ∀(F B:List Char),F.map LP=B.map LP->F=B:=by
  intro F
  induction F with
  | nil=>intro B h;cases B with
   | nil=>rfl
   | cons a b=>cases h
  | cons a b L=>intro B h;cases B with
   | nil=>cases h
   | cons c d =>
    rw[j8,j8,List.cons.injEq] at h;rw[L d h.2,Char.toNat_inj.mp h.1]
 exact String.toList_injective (key _ _ h1)
theorem PG.imp {g g':TG} (h:PG X tg g) (i : ∀v σ H Q,g' v σ H Q->g v σ H Q):PG X tg g':=λpins s σ H v u Q I r q=>h pins s σ H v u Q I r (i _ _ _ _ q)
def xc (n:Nat) (t:TGs):TG:=λv σ H Q=>∃a,v = .ref a/\∃xs,H a>>xs/\xs.length=n/\t xs σ H Q
theorem dI {t:TGs} (Y:X.calm=true) (h:PGs X es t)
  (L:(assignEach es X.env).length=n:=by rfl) (F:(assignEach es X.env).findIdx? (·.1)=none:=by rfl):PG X (.Tuple es k pos) (xc n t) :=
 (Hm Y h L F).imp λ_ _ _ _ B=>by obtain⟨a,e,xs,h,hl,q⟩:=B;exact(⟨a,xs,e,.of h,hl,q⟩)
def xH:List V->Hp->VK->Prop:=λxs H Q=>∃p,xs=[.ref p]/\∃kvs,H p<*kvs/\∀q,H q=none->Q (.ref q) (upd H q (.dK kvs))
theorem fL:bY X (.type "dict") xH:=by
 intro pins s σ H xs us Q I r h;obtain⟨p,rfl,kvs,hp,q⟩:=h;obtain⟨u,rfl,ru⟩:=cV r;cases ru;obtain⟨z,Y,vs,B,L⟩:=kR I.hok hp;refine PySem.kt_call_dict Y L (by rw[<- B.length];exact z) λh' F Z=>?_
 have hold : ∀b o,s.heap.get? b=some o->h'.get? b=some o:=λb o e=>Z.extBut b o (k9 (fi e)) (c_ _ e)
 exact⟨.ref s.heap.objs.size,_,I.laid (a:=s.heap.objs.size) (o:=.dK kvs) (t':=s.toks) hold (h_ _) ⟨z,beq_eq_false_iff_ne.mpr (p7 (k9 I.big)),vs,B,F⟩,rfl,q _ (I.hok.fresh (h_ _))⟩
def pV:V->Bool
 | .non=>true
 | .bl _=>true
 | .int _=>true
 | .str _=>true
 | .ref _=>true
 | _=>false
theorem AS {v:V} {a b:Value} (L:pV v=true) (F:bq v a) (B:bq v b):SeqAt.EqAt A s a b true:=by
 cases v with
 | non=>cases F;cases B;exact SeqAt.EqAt.same _
 | bl b=>cases F;cases B;exact SeqAt.EqAt.same _
 | int i =>
  obtain⟨t,rfl⟩:=F;obtain⟨t',rfl⟩:=B;have h:=SeqAt.EqAt.int_int (A:=A) (s:=s) i t i t';simpa using h
 | str i =>
  obtain⟨t,rfl⟩:=F;obtain⟨t',rfl⟩:=B;have h:=SeqAt.EqAt.str_str (A:=A) (s:=s) i t i t';simpa using h
 | ref a=>cases F;cases B;exact SeqAt.EqAt.same _
 | _=>exact absurd (show false=true from L) i_
theorem qf {κ:Type} [DecidableEq κ] : ∀{kvs:List (κ × V)} {k:κ} {v:V},(kvs.map (·.1)).Nodup->(k,v)∈kvs->bM kvs k=some v
 | (a,b) :: r,k,v,hn,hm=>by
  rw[j8,m7] at hn;rcases i6.mp hm with e | e
  .cases e
   exact bJ rfl
  .have hne : ¬ a=k:=λz=>hn.1 (by subst z;exact hH.mpr ⟨(a,v),e,rfl⟩)
   rw[aX hne];exact qf hn.2 e
theorem As (rb:KV kvs vb) : ∀{l:List (Key × V)} {F:List (Key × Value)},KV l F->(∀p∈l,bM kvs p.1=some p.2/\pV p.2=true)->PySem.W.KeqHits A s vb F true:=by
 intro l F r;unfold KV at r
 induction r with
 | nil=>intro _;exact .nil
 | @cons p q ps qs h _ ih =>
  intro B;obtain⟨k,v⟩:=p;obtain⟨k',u⟩:=q;obtain⟨e,L⟩:=h;dsimp only at e L;subst e;obtain⟨h1,h2⟩:=B (k,v) (by simp)
  dsimp only at h1 h2;obtain⟨y,Y,Z⟩:=jp.some_of (v:=v) (o:=valueAt vb k) (by rw[<- h1];exact rb.val k)
  exact PySem.W.KeqHits.hit (e:=true) (b:=true) Y (AS h2 L Z) (ih λp hp=>B p (by simp[hp]))
def Dz:R2:=λx y H Q=>∃a,x = .ref a/\∃b,y = .ref b/\∃kvs,H a<*kvs/\H b<*kvs/\(∀p∈kvs,pV p.2=true)/\Q (.bl false) H
theorem Ej (hu:X.A.units < cLine):OpR X (s_ .NotEq) Dz:=by
 intro pins s σ H x y v u Q I rx ry h;obtain⟨a,rfl,b,rfl,kvs,ha,hb,hp,q⟩:=h;cases rx;cases ry;obtain⟨z,hd,vs,F,dd⟩:=kR I.hok ha;obtain⟨z2,Z,ab,B,aa⟩:=kR I.hok hb;have Y:(vs.map (·.1)).Nodup:=let ⟨_,_,_,_,_,_,_,_,Y⟩:=dd;Y
 rw[<- F.keys] at Y;refine PySem.W.keq_ne (r:=true) hd Z dd aa hu (λ_=>As B F λp L=>⟨qf Y L,hp p L⟩) ?_
 rw[<- F.length,<- B.length,beq_self_eq_true];exact⟨.bl false,H,I,rfl,q⟩
def vD:RM:=λp vs H Q=>∃i,vs=[.int i]/\∃xs,H p*>xs/\0<=i/\i < xs.length/\xs.length<=1000/\∀y,xs[i.toNat]? = some y->Q y (upd H p (.lst (xs.eraseIdx i.toNat)))
theorem De:MtL X "list.pop" vD:=λpins s σ H x vs v us Q I L F ⟨p,e,i,e2,xs,h,i0,i1,hl,q⟩=>by
 have B:i.toNat < xs.length:=()
 exact Cy pins s σ H x vs v us Q I L F ⟨p,xs,i,i.toNat,xs[i.toNat],e,e2,h,(),(),seqIndex_of i0 i1,by simp[B],q _ (by simp[B])⟩
def ao (mg:Str->Option Value) (x:Str):Addr:=match mg x with | some (.ref a)=>a | _=>0
theorem eY (h:mg x=-C):ao mg x=C:=by unfold ao;rw[h]
structure gJ (K:fy) (C:Addr) (m:Str) (f:Addr):Prop where
 sp:specialIn K (.ref C) "__getattribute__" = some (some (.builtin "type.__getattribute__"))
 rd:PySem.W.readsIn K C (.type "type")=true
 fd:PySem.W.findCls K (.ref C) (.type "type") m=some (.val (.ref f))
 kp:Lj K (.ref f)=true
def ck (K:fy) (R:Addr->Prop) (x q:Str) (st:Stmt) (ps:List Str):Prop:=∃f fd,Fun K x q st f fd/\R f/\jX K fd ps []
def FnR (P:Program) (w:World) (K:fy) (mg:Str->Option Value) (base:Heap) (R:Addr->Prop) (k:Nat) (ps:List Str) (sp:Sp):Prop:=∃f fd,jk P w K mg base CX0 k f fd ps sp/\R f/\jX K fd ps []
section
variable {R:Addr->Prop}
theorem ck.ok {x q:Str} {st:Stmt} {N ps:List Str} {k:Nat} {sp:Sp} (F:ck K R x q st ps) (S:ax N ps (ak st)) (len : ∀vs H Q E,sp vs H Q E->vs.length=ps.length)
  (B : ∀(f:Addr) (cdv:Value) (A:Around) (outer:List Env) (s:Shared) (H:Hp) (vs:List V) (Q:VK) (E:XK),cU k (A.deeper (envOfC q (ak st) s.heap.objs.size f cdv))->sp vs H Q E ->
   ∃t,PSs (uL CX0 P w K mg base N q (ak st) f cdv A outer s H E).nox (cz st) t/\t { nx:=λ_ H'=>Q .non H',rt:=Q } (ju N vs) H):FnR P w K mg base R (k+1) ps sp:=by
 obtain⟨f,fd,F,r,b⟩:=F;exact⟨f,fd,F.ok S len (B f),r,b⟩
theorem El {q:Str} {B:Option Addr} {kV:Value} (r:R f)
  (l:K.lookup f=some ⟨oc,od,.func (fnOf x q (cQ st) (cz st) (ak st) .none kV doc pm B cdv ct),osl⟩)
  (c:codeIn K cdv q=true) (k:Lj K (.ref f)=true)
  (F : ∀(kV doc pm:Value) (B:Option Addr) (cdv ct:Value) (us:List Value),us.length=ps.length->bindArgs (fnOf x q (cQ st) (cz st) (ak st) .none kV doc pm B cdv ct) ⟨us,[]⟩=pure (ps.zip us)):ck K R x q st ps :=
 ⟨f,_,qR l c k,r,(qR l c k).binds F⟩
end
def Co (C:Addr) (ta:TE) (f:Str):TE:=λσ H Q=>ta σ H λx H1=>∃a,x = .ref a/\∃dx fs,H1 a=some (.ins C dx fs)/\∃v,fs.lookup f=some v/\Q v H1
def BY (C:Addr) (ta tv:TE) (f:Str):TS:=λD σ H=>tv σ H λy H1=>ta σ H1 λx H2=>∃a,x = .ref a/\∃dx fs,H2 a=some (.ins C dx fs)/\fs.length < 1000/\D.nx σ (upd H2 a (.ins C dx (cy f y fs)))
def xG (C:Addr) (m:Str) (sp:Sp) (ta:TE) (t:TA):TE:=λσ H Q=>ta σ H λx H1=>∃a,x = .ref a/\∃dx fs,H1 a=some (.ins C dx fs)/\fs.lookup m=none/\t σ H1 λvs H2=>sp (.ref a :: vs) H2 Q E0
def yc (C:Addr) (sp:Sp) (t:TA):TE:=λσ H Q=>t σ H λvs H1=>∀x dx,H1 x=none->H1 dx=none->dx≠x->sp (.ref x :: vs) (upd (upd H1 dx (.own x)) x (.ins C dx [])) (λv H2=>v = .non/\Q (.ref x) H2) E0
section
variable {o:Expr} {f m:Str} {p:Pos} {t:TA}
theorem aN (c:Cls X.K C) (n:aP X.K C f) (he:PE X e ta) (Y:Lf e f X.env (eval e X.env)=eval e X.env:=by rfl):PE X (.Attribute e f pos) (Co C ta f):=by
 intro pins s σ H Q I h;refine F9 Y (thn (he pins s σ H _ I h) λu s1 B=>?_)
 obtain⟨x,H1,I1,Z,a,ex,dx,fs,L,v,l,q⟩:=B;subst ex;obtain rfl:u=i8 a:=Z
 exact xI I1 L c n l λu' s2 F ru=>⟨v,H1,F,ru,q⟩
theorem bF (c:Cls X.K C) (n:aP X.K C f) (ha:PE X o ta) (hv:PE X value tv) (hs:L9 value (some (.Attribute o f pos')) pos.line X.env=pure false):PS X (.Assign [.Attribute o f pos'] value pos) (BY C ta tv f):=by
 intro pins s σ H D I h;refine plainObj_wpAny_Assign_Attribute (thn (hv pins s σ H _ I h) λu s1 ⟨y,H1,I1,ry,q⟩=>thn (ha pins s1 σ H1 _ I1 q) λZ s2 B=>?_) hs
 obtain⟨x,H2,F,rx,a,ex,dx,fs,L,l,Y⟩:=B;subst ex;obtain rfl:Z=i8 a:=rx
 exact yE F L c n l ry λs3 I3=>⟨σ,_,I3,Y⟩
theorem bZ {pl:Sem Bool} (c:Cls X.K C) (F:FnR X.prog X.w X.K X.mg X.base (aD X.K C m) k ps sp) (hr:cU k X.A) (he:PE X o ta) (ha:PA X (e :: es) t)
  (Y:jc (e :: es) X.env=(false,eval e X.env) :: jc es X.env:=by rfl) (L:(y_ pos (jc es X.env)).any (·.1)=false:=by rfl)
  (ht:eval (.Call (.Attribute o m apos) (e :: es) [] pos) X.env=(do
   let ov <- eval o X.env
   standAt apos.atName
   let (f,first) <- holding [ov] (getMethod ov m pl)
   callWith pos f first (y_ pos (jc (e :: es) X.env)) (backToKw pos (LZ [] X.env))):=by rfl) :
  PE X (.Call (.Attribute o m apos) (e :: es) [] pos) (xG C m sp ta t):=by
 obtain⟨f,fd,F,Z,b⟩:=F;intro pins s σ H Q I h;refine methodCall_KW (pl:=pl) (thn (he pins s σ H _ I h) λu s1 B=>?_) ht
 obtain⟨x,H1,I1,rx,a,ex,dx,fs,ea,l,q⟩:=B;subst ex;obtain rfl:u=i8 a:=rx
 refine pW I1 ea c Z l ?_
 refine LL (first:=[.ref a]) (h₀:=X.base) I.ok.mod.kin Z.kp (thn (ha pos pins s1 σ H1 _ I1 q) λus s2 ⟨vs,H2,I2,r,q2⟩=>⟨I2.kIn,?_⟩) Y L
 exact lz (us:=.ref a :: us) (vs:=.ref a :: vs) F hr b .nil oW I2 (.cons rfl r) (by rw[append_nil];exact q2)
theorem gF (F:FnR X.prog X.w X.K X.mg X.base (Mk X.K C) k ps sp) (hr:cU (k+1) X.A) (Z:Gl X x) (Y:X.mg x=-C)
  (ha:PA X (e :: es) t) (L:(x ==("__debug__" : Str))=false:=by decide) (he:jc (e :: es) X.env=(false,eval e X.env) :: jc es X.env:=by rfl) (B:(y_ pos (jc es X.env)).any (·.1)=false:=by rfl) :
  PE X (.Call (.Name x p) (e :: es) [] pos) (yc C sp t):=by
 obtain⟨f,fd,F,M,b⟩:=F;intro pins s σ H Q I h;refine t5 (lY I Z Y ?_ L)
 refine LL (h₀:=X.base) I.ok.mod.kin M.kp (thn (ha pos pins s σ H _ I h) λus s1 ⟨vs,H1,I1,r,q⟩=>⟨I1.kIn,?_⟩) he B
 refine C5 M F hr b .nil oW I1 r ?_
 rw[append_nil];exact q
theorem iO {pl:Sem Bool} (F:FnR X.prog X.w X.K X.mg X.base (gJ X.K C m) k ps sp) (hr:cU k X.A) (hg:Gl X x) (hm:X.mg x=-C) (ha:PA X (e :: es) t) (Y:(x ==("__debug__" : Str))=false:=by decide)
  (aa:jc (e :: es) X.env=(false,eval e X.env) :: jc es X.env:=by rfl) (L:(y_ pos (jc es X.env)).any (·.1)=false:=by rfl)
  (ht:eval (.Call (.Attribute (.Name x p) m apos) (e :: es) [] pos) X.env=(do
   let ov <- eval (.Name x p) X.env
   standAt apos.atName
   let (f,first) <- holding [ov] (getMethod ov m pl)
   callWith pos f first (y_ pos (jc (e :: es) X.env)) (backToKw pos (LZ [] X.env))):=by rfl) :
  PE X (.Call (.Attribute (.Name x p) m apos) (e :: es) [] pos) (tI sp [] E0 t):=by
 obtain⟨f,fd,F,M,b⟩:=F;intro pins s σ H Q I h;have hC:PE X (.Name x p) (tC (.ref C)):=EG hg hm rfl Y
 refine methodCall_KW (pl:=pl) (thn (hC pins s σ H (λv H1=>v = .ref C/\H1=H) I ⟨rfl,rfl⟩) λu s1 B=>?_) ht
 obtain⟨x,H1,Z,rx,ex,eH⟩:=B;subst ex;subst eH;obtain rfl:u=i8 C:=rx
 refine PySem.W.method_cls Z.kIn M.sp (PySem.W.cls_value Z.kIn M.rd M.fd rfl ?_)
 have I2:=Z.tok (s1.toks+1);refine LL (first:=[]) (h₀:=X.base) I.ok.mod.kin M.kp (thn (ha pos pins _ σ H1 _ I2 h) λus s2 ⟨vs,H2,I3,r,q2⟩=>⟨I3.kIn,?_⟩) aa L
 exact lz F hr b .nil oW I3 r q2
end
def Jz (B:ScopeKind) (A xs:List (Str × zb)):List (Str × zb):=xs.map λ(n,k)=>if (k == .free && B == .function && A.lookup n == some .cell) then(n,.cell) else(n,k)
section
variable {l:Expr} {tl:TE}
theorem hV (K:fy) (hl:PE X l tl) (hK:X.K=K:=by exact rfl):PI X tg l (iL K tl):=by subst hK;exact J1 hl
theorem cg (K:fy) (hl:PE X l tl) (hK:X.K=K:=by exact rfl):PI X tg l (iT K tl):=by subst hK;exact Kk hl
def CT:List V->Hp->VK->Prop:=λxs H Q=>∃p,xs=[.ref p]/\∃bs:List Bool,H p*>(bs.map V.bl)/\Q (.bl (bs.all id)) H
def CM:List V->Hp->VK->Prop:=λxs H Q=>∃p,xs=[.ref p]/\∃bs:List Bool,H p*>(bs.map V.bl)/\Q (.bl (bs.any id)) H
theorem fC (F:X.calm=true):bY X (.builtin "all") CT:=(yL F).imp λ_ _ _ B=>by obtain⟨p,e,bs,h,q⟩:=B;exact(⟨p,bs,e,.of h,q⟩)
theorem gv (F:X.calm=true):bY X (.builtin "any") CM:=(xD F).imp λ_ _ _ B=>by obtain⟨p,e,bs,h,q⟩:=B;exact(⟨p,bs,e,.of h,q⟩)
end
theorem er (f:Str) (v:V) : ∀fs:List (Str × V),(cy f v fs).length<=fs.length+1
 | []=>h_ _
 | (g,u) :: fs=>by
  unfold cy
  split
  .simp
  .simpa using er f v fs
theorem dM {J:It} {C:Hp->Prop} (w:Wlk J xs C) {tc:TT} {te:TE} {σ0:St} {Q:VK} {H1:Hp} {D:Addr} (p:V->Bool) (f:V->V) (Z:H1 D=none) (hC : ∀H',ap H1 H'->C H') (hn:xs.length<=1000)
  (hc : ∀(x:V) (H2:Hp) (L:Bool->Hp->Prop),x∈xs->ap H1 H2->(∀B,ap H2 B->L (p x) B)->tc (σ0.set 0 (some x)) H2 L)
  (he : ∀(x:V) (H2:Hp) (L:VK),x∈xs->p x=true->ap H1 H2->(∀B,ap H2 B->L (f x) B)->te (σ0.set 0 (some x)) H2 L)
  (Y : ∀H2,ap H1 H2->H2 D*>((xs.filter p).map f)->Q (.ref D) H2):oP J σ0 (eR 0) tc te Q H1 D:=by
 refine eD w (λi ys H=>ys=((xs.take i).filter p).map f/\i<=xs.length/\ap H1 H/\H D*>ys) ⟨by simp,x5 _,ap.upd0 Z,ae⟩ (λi ys H h=>hC _ h.2.2.1) ?_ ?_
 .rintro i x ys H hi hx ⟨rfl,hle,sm,Y⟩
  refine hc x H _ (gt hx) sm λB F=>?_
  have aa:((xs.take i).filter p).length<=xs.length:=ja (List.length_filter_le _ _) (by simp;omega)
  cases hp:p x with
  | true =>
   simp only[if_true];refine he x B _ (gt hx) hp (sm.trans F) λH4 s4=>⟨s4 _ _ (F _ _ Y),by simp;exact aF (),?_,hi,?_,ae⟩
   .rw[j6,hx];simp[hp]
   .exact λb o e=>by rw[ai (au e Z)];exact s4 _ _ (F _ _ (sm b o e))
  | false =>
   simp only[i9,if_false];exact⟨by rw[j6,hx];simp[hp],hi,sm.trans F,F _ _ Y⟩
 .rintro ys H ⟨rfl,_,sm,hd'⟩
  rw[la] at hd';exact Y H sm hd'
theorem bS {J:It} {C:Hp->Prop} (w:Wlk J xs C) {te:TE} {σ0:St} {Q:VK} {H1:Hp} {D:Addr} (f:V->V) (F:H1 D=none) (hC : ∀H',ap H1 H'->C H') (hn:xs.length<=10000)
  (he : ∀(x:V) (H2:Hp) (Z:VK),x∈xs->ap H1 H2->(∀L,ap H2 L->Z (f x) L)->te (σ0.set 0 (some x)) H2 Z)
  (B : ∀H2,ap H1 H2->H2 D*>(xs.map f)->Q (.ref D) H2):oP J σ0 (eR 0) yK te Q H1 D:=by
 refine eD w (λi ys H=>ys=(xs.take i).map f/\i<=xs.length/\ap H1 H/\H D*>ys) ⟨by simp,x5 _,ap.upd0 F,ae⟩ (λi ys H h=>hC _ h.2.2.1) ?_ ?_
 .rintro i x ys H hi hx ⟨rfl,hle,sm,B⟩
  simp only[eR,yK,if_true];refine he x H _ (gt hx) sm λH4 Y=>⟨Y _ _ B,by simp;exact p_ (ja (Nat.min_le_right _ _) hn) ∅,?_,hi,?_,ae⟩
  .rw[j6,hx];simp
  .exact λb o e=>by rw[ai (au e F)];exact Y _ _ (sm b o e)
 .rintro ys H ⟨rfl,_,sm,hd'⟩
  rw[la] at hd';exact B H sm hd'
theorem EA (a b:Int):eqV (.int a) (.int b)=decide (a=b):=by
 show(a == b)=decide (a=b)
 rw[o7];simp
theorem cE (x:Int) (ys:List Int):inV (.int x) (ys.map V.int)=decide (x∈ys):=by
 rw[o7];simp only[inV,any_map,v9,Function.comp,EA,decide_eq_true_eq]
 constructor
 .rintro⟨y,hy,rfl⟩;exact hy
 .exact λh=>⟨x,h,rfl⟩
theorem cj (ys:List Int):(ys.map V.int).all ig=true:=by
 rw[C_];intro x B;obtain⟨y,_,rfl⟩:=hH.mp B;rfl
theorem qc {α:Type} : ∀{l:List α} {n:Nat} (h:n < l.length),(l[n] :: l.eraseIdx n).Perm l
 | a :: l,0,h=>by simp
 | a :: l,n+1,h=>by
  have h':n < l.length:=by simpa using h
  have:=qc h'
  simp only[List.getElem_cons_succ,List.eraseIdx_cons_succ];exact(List.Perm.swap _ _ _).trans (List.Perm.cons a this)
theorem gD {α:Type} : ∀{l:List α} {i j:Nat} {x:α},l.Nodup->l[i]? = some x->l[j]? = some x->i=j
 | [],i,j,x,_,h,_=>by simp at h
 | a :: l,0,0,x,_,_,_=>rfl
 | a :: l,0,j+1,x,hn,h,h'=>by
  simp at h h'
  subst h;exact absurd (gt h') (m7.mp hn).1
 | a :: l,i+1,0,x,hn,h,h'=>by
  simp at h h'
  subst h';exact absurd (gt h) (m7.mp hn).1
 | a :: l,i+1,j+1,x,hn,h,h'=>by
  simp at h h'
  rw[gD (m7.mp hn).2 h h']
def Jf:TE:=λ_ _ _=>False
theorem qw:PE X e Jf:=λ_ _ _ _ _ _ h=>h.elim
def ij (ns:List Int):Nat:=(ns.foldl Lm []).length
theorem oC : ∀(ns σ:List Int),σ.Nodup->(ns.foldl Lm σ).length<=σ.length+ns.length/\((ns.foldl Lm σ).length=σ.length+ns.length↔(σ++ns).Nodup)
 | [],σ,h=>by simp[h]
 | v :: ns,σ,h=>by
  rw[List.foldl_cons]
  by_cases B:σ.any (· == v)=true
  .have e:Lm σ v=σ:=by unfold Lm;rw[if_pos B]
   have F:v∈σ:=by
    obtain⟨x,hx,e⟩:=v9.mp B;rw[<- eq_of_beq e];exact hx
   rw[e];have L:=oC ns σ h;refine⟨by simp;omega,?_⟩
   constructor
   .intro z;simp at z;omega
   .intro z
    rw[t9] at z;exact absurd rfl (z.2.2 v F v (by simp))
  .have e:Lm σ v=σ++[v]:=by unfold Lm;rw[if_neg B]
   have F:v∉σ:=λz=>B (v9.mpr ⟨v,z,by simp⟩)
   have Y:(σ++[v]).Nodup:=by
    rw[t9];exact⟨h,by simp,λa ha b hb=>by rw[fx.mp hb];rintro rfl;exact F ha⟩
   rw[e];have L:=oC ns (σ++[v]) Y;have Z:(σ++[v]).length+ns.length=σ.length+(v :: ns).length:=by simp;omega
   rw[Z,append_assoc] at L;exact L
theorem tJ (ns:List Int):ij ns=ns.length↔ns.Nodup:=by
 have:=(oC ns [] (by simp)).2
 simpa [ij] using this
theorem xk (ns:List Int):(range ns.length).map (λi=>ns.getD i 0)=ns:=by
 apply List.ext_getElem?
 intro i
 by_cases h:i < ns.length
 .simp[h]
 .simp[h]
section
def DO:List V->Hp->VK->Prop:=λxs H Q=>∃p,xs=[.ref p]/\∃ns:List Int,H p*>(ns.map V.int)/\ns.length<=1000/\∀q S,H q=none->Q (.ref q) (upd H q (.set S (ij ns)))
theorem A4 (Z:X.calm=true):bY X (.type "set") DO:=by
 intro pins s σ H xs us Q I r h;obtain⟨p,rfl,ns,hp,hl,q⟩:=h;obtain⟨u,rfl,ru⟩:=cV r;cases ru;obtain⟨its,F,pl,hz⟩:=I.list (SqL.of hp);have B:=F.length;rw[d_] at B;refine call_set_list (I.ok.hd Z) pl.isList (by simpa using fE F) (by simp only[j7];show its.length+1 < 4096;omega) λh' tk Y hold=>?_
 have e:firstMet (λi=>ns.getD i 0) its.toArray.size=ns.foldl Lm []:=by
  unfold firstMet;rw[j7,<- B,xk]
 rw[e] at Y;exact⟨.ref s.heap.objs.size,_,I.laid (a:=s.heap.objs.size) (o:=.set _ (ij ns)) (t':=tk) (λb o L=>hold b o (fi L) L) (h_ _) Y,rfl,q _ _ (I.hok.fresh (h_ _))⟩
def vq:List V->Hp->VK->Prop:=λxs H Q=>∃p,xs=[.ref p]/\∃S n,H p=some (.set S n)/\Q (.int n) H
theorem oE:bY X (.builtin "len") vq:=by
 intro pins s σ H xs us Q I r h;obtain⟨p,rfl,S,n,hp,q⟩:=h;obtain⟨u,rfl,ru⟩:=cV r;cases ru;have hS:s.heap.SetOf (intKind X.prog X.w) p S n:=I.hok p _ hp
 obtain⟨o,es,ep,t,Y,B,F,_,_,hb,L,Z⟩:=hS;refine PySem.call_len_set Y B F L (by have:scanBound=4096:=rfl;omega) ?_
 rw[Z];exact⟨.int n,H,I.tok _,⟨_,rfl⟩,q⟩
def Iy (ty td:TE):TE:=λσ H Q=>ty σ H λy H1=>td σ H1 λx H2=>∃a,x = .ref a/\∃k,y=kV k/\∃kvs,H2 a<*kvs/\Q (.bl (!(bM kvs k).isSome)) H2
variable {o i:Expr}
theorem EI (hu:X.A.units+1 < cLine) (hi:PE X i ty) (ho:PE X o td):PC X .In i o (tDI ty td):=by
 intro pins s σ H Q I h;refine thn (hi pins s σ H _ I h) λiv s1 ⟨y,H1,I1,ry,q1⟩=>thn (ho pins s1 σ H1 _ I1 q1) λu s2 B=>?_
 obtain⟨x,H2,F,rx,a,ex,k,Y,kvs,L,Z⟩:=B;subst ex;subst Y;obtain rfl:u=i8 a:=rx
 have g:lc H2 a (kV k) (bM kvs k):=.inl ⟨kvs,k,.inl L,rfl,rfl⟩
 exact KF hu F g ry λs3 I3=>⟨.bl (bM kvs k).isSome,H2,I3,rfl,Z⟩
theorem jh (hu:X.A.units+1 < cLine) (hi:PE X i ty) (ho:PE X o td):PC X .NotIn i o (Iy ty td):=by
 intro pins s σ H Q I h;refine thn (hi pins s σ H _ I h) λiv s1 ⟨y,H1,I1,ry,q1⟩=>thn (ho pins s1 σ H1 _ I1 q1) λu s2 B=>?_
 obtain⟨x,H2,F,rx,a,ex,k,Y,kvs,L,Z⟩:=B;subst ex;subst Y;obtain rfl:u=i8 a:=rx
 have g:lc H2 a (kV k) (bM kvs k):=.inl ⟨kvs,k,.inl L,rfl,rfl⟩
 exact zr hu F g ry λs3 I3=>⟨.bl (!(bM kvs k).isSome),H2,I3,rfl,Z⟩
end
theorem Inv.retag (I:Inv X pins σ H s) (ha:H a=some u0) (n1 : ∀y,u0≠.own y) (n2 : ∀xs,u0≠.tup xs) (n3 : ∀ob u,X.H₀ a≠some (.frz ob u)) (n4 : ∀ps,u0≠.tbl ps)
  (ok:bB X.prog X.w H s.heap a o') (n5 : ∀ob y,u0≠.frz ob (.own y):=by intro _ _ z;cases z):Inv X pins σ (upd H a o') s:=by
 have B : ∀b,H b=none->b≠a:=λb n z=>by subst z;rw[ha] at n;cases n
 have Y : ∀b y,H b=some (.own y)->upd H a o' b=some (.own y):=λb y e=>by
  rw[ai (λz=>by subst z;rw[ha] at e;exact n1 y (ge e))];exact e
 have F : ∀b xs,H b>>xs->upd H a o' b>>xs:=λb xs e=>by
  rw[ai (λz=>by subst z;rw[ha] at e;exact n2 xs (ge e))];exact e
 have L : ∀b ob y,H b=some (.frz ob (.own y))->upd H a o' b=some (.frz ob (.own y)):=λb ob y e=>by
  rw[ai (λz=>by subst z;rw[ha] at e;exact n5 ob y (ge e))];exact e
 refine⟨I.ok,I.os,I.bare,⟨I.base.keep,I.base.slot,λb o q n Z=>?_,I.base.there,λb xs q=>F b xs (I.base.tups b xs q),λb ob u q=>?_,λb ps q=>?_⟩,I.loc,I.cell,?_,λx c e=>?_,λp hp=>?_,λb u e=>?_,I.len⟩
 .have:=I.base.free b o q n Z
  rw[ai (B b this)];exact this
 .rw[ai (λz=>by subst z;exact n3 ob u q)];exact I.base.frzs b ob u q
 .obtain⟨more,e⟩:=I.base.tbls b ps q
  exact⟨more,by rw[ai (λz=>by subst z;rw[ha] at e;exact n4 _ (ge e))];exact e⟩
 .rw[ai (B _ I.free)];exact I.free
 .have:=I.freeC x c e
  rw[ai (B c this)];exact this
 .obtain⟨p1,p2,p3⟩:=I.pin p hp
  exact⟨p1,by rw[ai (B _ p2)];exact p2,p3⟩
 .by_cases hb:b=a
  .subst hb
   rw[ae] at e;cases e;exact ok.stay (λ_ _ _ q=>q) (λc q=>Y c _ q) F L
  .rw[ai hb] at e
   exact(I.hok b u e).stay (λ_ _ _ q=>q) (λc q=>Y c _ q) F L
def Itd (a:Addr) (o:Obj) (kvs:List (Key × V)):It :=
 ⟨λi H=>H a=some (.frz o (.dK kvs))/\i < kvs.length,λi H x H'=>H'=H/\∃k v,kvs[i]? = some (k,v)/\x=kV k,λi H=>H a=some (.frz o (.dK kvs))/\kvs.length<=i⟩
theorem KV.get {vs:List (Key × Value)} (r:KV kvs vs) : ∀{i:Nat} {k:Key} {v:V},kvs[i]? = some (k,v)->∃u,vs[i]? = some (k,u)/\bq v u:=by
 unfold KV at r
 induction r with
 | nil=>intro i k v h;simp at h
 | @cons p q ps qs h _ ih =>
  intro i k v e;cases i with
  | zero =>
   simp at e
   subst e;obtain⟨B,u⟩:=q;obtain⟨h1,h2⟩:=h;dsimp only at h1 h2;subst h1;exact⟨u,by simp,h2⟩
  | succ i =>
   simp at e
   obtain⟨u,h1,h2⟩:=ih e;exact⟨u,by simpa using h1,h2⟩
theorem zG {k:Key} {key:Value} (h:(ba P w).is k key=true):bq (kV k) key:=by
 rcases bU (k:=k) (v:=key) h with⟨i,t,rfl,rfl⟩ | ⟨x,t,rfl,rfl⟩
 .exact⟨t,rfl⟩
 .exact⟨t,rfl⟩
theorem Er (a it:Addr) (o:Obj) (kvs:List (Key × V)) (ep:Nat) (af : ∃es,o.data = .dict es ep):mQ P w K tg (Itd a o kvs) [it] it (λi h=>h.IsKeyIter it a i kvs.length ep) where
 mem:=by simp
 obj:=λi h st b hb=>by
  have e:b=it:=by simpa using hb
  subst e;obtain⟨ob,e,c,d⟩:=st;exact⟨ob,e,λv z=>by rw[d] at z;cases z⟩
 keep:=λi h h' st k=>st.at λob e=>k it (by simp) ob e
 item:=by
  intro X hP hw hK hc i pins s σ H E I hf st hg;subst hP hw hK;obtain⟨ha,hi⟩:=hg;obtain⟨ho,hz,hd,vs,Y,od,es,F,L,hr⟩:=(show s.heap.get? a=some o/\bB X.prog X.w H s.heap a (.dK kvs) from I.hok a _ ha)
  rw[ho] at L;cases L;obtain⟨ag,Z⟩:=af;have aa:F=ep:=by
   have:=hr.2.1
   rw[Z] at this;cases this;rfl
  subst aa;have B:=Y.length;obtain⟨k,v,ad⟩ : ∃k v,kvs[i]? = some (k,v):=⟨kvs[i].1,kvs[i].2,by simp[hi]⟩
  obtain⟨u,hu,ru⟩:=Y.get ad;obtain⟨f0,f1,f2,f3,f4,f5⟩:=hf it (by simp)
  have ab:s.heap.IsKeyIter it a i vs.length F:=by rw[<- B];exact st
  refine wpAny_pyNext_dict_item (knd:=ba X.prog X.w) (v:=u) ab ⟨o,es,ho,hr⟩ hu λkey h' hk ac sb=>?_
  have I1:Inv X pins σ H { s with heap:=h' }:=I.turned (t':=s.toks) (λb ob hb e=>(sb.2 b hb).trans e) f0 f1 f3 f4 f5
  rw[<- B] at ac;obtain⟨ob,e,c,d⟩:=id ac;exact⟨key,rfl,oM (s:={ s with heap:=h' }) e c d ∅ ⟨kV k,H,I1,zG hk,⟨rfl,k,v,ad,rfl⟩,ac,λb hb=>(hf b hb).1⟩⟩
 done:=by
  intro X hP hw hK hc i pins s σ H E I hf st hg;subst hP hw hK;obtain⟨ha,hi⟩:=hg;obtain⟨ho,hz,hd,vs,Y,od,es,F,L,hr⟩:=(show s.heap.get? a=some o/\bB X.prog X.w H s.heap a (.dK kvs) from I.hok a _ ha)
  rw[ho] at L;cases L;obtain⟨ag,Z⟩:=af;have aa:F=ep:=by
   have:=hr.2.1
   rw[Z] at this;cases this;rfl
  subst aa;have B:=Y.length;obtain⟨f0,f1,f2,f3,f4,f5⟩:=hf it (by simp)
  have ab:s.heap.IsKeyIter it a i vs.length F:=by rw[<- B];exact st
  exact wpAny_pyNext_dict_end (knd:=ba X.prog X.w) (I.ok.hd hc) ab ⟨o,es,ho,hr⟩ (y7.mpr ()) λh' eb=>⟨rfl,I.turned (t':=s.toks) (λb ob hb e=>eb b ob hb e) f0 f1 f3 f4 f5⟩
 self:=λ_ _ _ _ _ st h=>wpAny_pyIter_keyiter st h
theorem Dh {o:Obj}:Wlk (Itd a o kvs) (kvs.map λx=>kV x.1) (λH=>H a=some (.frz o (.dK kvs))) :=
 ⟨λi H h hi=>⟨h,by simpa using hi⟩,λi H x H' h _ y=>by
  obtain⟨e,k,v,B,rfl⟩:=y;exact⟨by rw[f_,B];rfl,e⟩,λi H h hi=>⟨h,by simpa using hi⟩⟩
def iD (tl:TE):TI:=λσ H R=>tl σ H λx H1=>∃a,x = .ref a/\∃kvs,H1 a<*kvs/\∀o,R (Itd a o kvs) (upd H1 a (.frz o (.dK kvs)))
theorem IJ {l:Expr} {tl:TE} (hl:PE X l tl):PI X tg l (iD tl):=by
 intro pins s σ H R I h;refine thn (hl pins s σ H _ I h) λv L F=>?_
 obtain⟨x,H1,I1,r1,a,e,kvs,Y,q⟩:=F;subst e;cases r1;obtain⟨hz,hd,vs,ab,od,es,ep,aa,hr⟩:=kR I1.hok Y;refine wpAny_pyIter_dict (knd:=ba X.prog X.w) hd ⟨od,es,aa,hr⟩ ?_
 have hn : ∀ob u,X.H₀ a≠some (.frz ob u):=λob u e=>by have:=I1.base.frzs a ob u e;rw[Y] at this;cases this
 have I2:Inv X pins σ H1 { L with heap:=L.heap.push { cls:=.type "dict_keyiterator",data:=.fields #[.ref a,.int 0 0,.int vs.length 0,.int ep 0] } }:=I1.kept (t':=L.toks) λb o e=>c_ _ e
 have ac:=I2.hok a _ Y;have I3:=I2.retag (o':=.frz od (.dK kvs)) Y (by intro y z;cases z) (by intro y z;cases z) hn (by intro y z;cases z) ⟨c_ _ aa,ac⟩
 have Z:=ab.length;refine⟨L.heap.objs.size,[L.heap.objs.size],_,_,_,rfl,I3,Er a _ od kvs ep ⟨es,hr.2.1⟩,⟨_,gr _ rfl,rfl,by rw[Z];rfl⟩,λb hb=>?_,q od⟩
 have e:b=L.heap.objs.size:=by simpa using hb
 subst e;have B:H1 L.heap.objs.size=none:=I1.hok.fresh (h_ _)
 obtain⟨f0,f1,f2,f3,f4,f5⟩:=I1.fpOk (h_ _) B;exact⟨by rw[ai (λz=>by rw[z,Y] at B;cases B)];exact B,f1,f2,f3,f4,f5⟩
def zx (a:Addr) (kvs:List (Key × V)) (D:pk):pk where
 nx:=λσ H=>(∃o,H a=some (.frz o (.dK kvs)))/\D.nx σ (upd H a (.dK kvs))
 rt:=λv H=>(∃o,H a=some (.frz o (.dK kvs)))/\D.rt v (upd H a (.dK kvs))
 bk:=λσ H=>(∃o,H a=some (.frz o (.dK kvs)))/\D.bk σ (upd H a (.dK kvs))
 ct:=λσ H=>(∃o,H a=some (.frz o (.dK kvs)))/\D.ct σ (upd H a (.dK kvs))
def zw (t:TS):TS:=λD σ H=>∃a kvs,H a<*kvs/\t (zx a kvs D) σ H
theorem pS {t:TS} (h:PS X st t):PS X st (zw t):=by
 intro pins s σ H D I ⟨a,kvs,ha,ht⟩;have Y : ∀ob u,X.H₀ a≠some (.frz ob u):=λob u e=>by have:=I.base.frzs a ob u e;rw[ha] at this;cases this
 have B : ∀{σ' H' s'},Inv X pins σ' H' s'->(∃o,H' a=some (.frz o (.dK kvs)))->Inv X pins σ' (upd H' a (.dK kvs)) s':=λ{σ' H' s'} F ⟨o,e⟩ =>
  F.retag e (by intro y z;cases z) (by intro y z;cases z) Y (by intro y z;cases z) (show s'.heap.get? a=some o/\bB X.prog X.w H' s'.heap a (.dK kvs) from F.hok a _ e).2
 refine thn (h pins s σ H _ I ht) λf s' L=>?_
 cases f with
 | next=>obtain⟨σ',H',F,e,q⟩:=L;exact⟨σ',_,B F e,q⟩
 | brk=>obtain⟨σ',H',F,e,q⟩:=L;exact⟨σ',_,B F e,q⟩
 | cont=>obtain⟨σ',H',F,e,q⟩:=L;exact⟨σ',_,B F e,q⟩
 | ret u=>obtain⟨v,σ',H',F,r,e,q⟩:=L;exact⟨v,σ',_,B F e,r,q⟩
end L2
namespace PySem
open PyProof.Rows
theorem ym:isSubtype (.type "tuple") (.type "frozenset")=pure false:=by rw[Lz];kernel_rfl
theorem yt {t:Addr} {its:Array Value} (hA:A.handled=none) (ht:s.heap.IsTuple t its) (ar:IntsAre its.toList ns) (ab:its.size+1 < scanBound)
  (ak : ∀(h':Heap) (tk:Nat),h'.SetOf (intKind prog w) s.heap.objs.size (λk'=>(firstMet (λi=>ns.getD i 0) its.size).any (· == k')) (firstMet (λi=>ns.getD i 0) its.size).length->(∀b o,b < s.heap.objs.size->s.heap.get? b=some o->h'.get? b=some o)->Q (.ref s.heap.objs.size) { s with heap:=h',toks:=tk }) :
  wpAny (model prog w) A (call (.type "set") [.ref t]) Q E s:=by
 have TC:=F.called_set;obtain⟨_,_,au⟩:=TC.mro;have aq:=TC.made;have az:=TC.sub;have h1:=TC.notType;have h2:=TC.canCreate;have a1:=F.typeCall_set_1 (.ref t);refine wpAny_call (codeAny_of_tree (show wpAny _ _ (callAny (.type "set") _) _ _ _ from e_ ⟨Code.quiet_builtin _ (by decide+kernel),L5 F.entry_type_call ?_⟩))
 rw[Around.under_plain (weight_type_call_type "set" [.ref t] []) rfl]
 repeat (any_goals (first | assumption | wp_step))
 refine L_ (code_set_new_1 (.ref t) (E:=E) (Q₁:=λobj s₁=>∃B:Bool,obj = .ref s.heap.objs.size/\s₁={ s with heap:=s.heap.push ⟨.type "set",none,.set #[] 0 (.fresh 0 0 B),#[]⟩ }) λB=>⟨B,rfl,rfl⟩) λr s₁ hr=>?_
 cases r with
 | error e=>exact hr
 | ok fl =>
  cases fl with
  | ret obj =>
   obtain⟨B,rfl,rfl⟩:=hr;generalize hG:s.heap.push ⟨.type "set",none,.set #[] 0 (.fresh 0 0 B),#[]⟩=G;have ac:G.objs.size=s.heap.objs.size+1:=by rw[<- hG,n6]
   have hS:G.get? s.heap.objs.size=some ⟨.type "set",none,.set #[] 0 (.fresh 0 0 B),#[]⟩:=by rw[<- hG];exact gr _ rfl
   have hold : ∀b o,s.heap.get? b=some o->G.get? b=some o:=λb o e=>by rw[<- hG];exact c_ _ e
   have hT:Shared.TypeIs { s with heap:=G } (.ref s.heap.objs.size) "set" :=⟨_,hS,rfl⟩
   have a5:=TC.init.lookup;have a0:=TC.init.bind (.ref s.heap.objs.size)
   repeat (any_goals (first | assumption | wp_step))
   refine L_ (codeAny_call_builtin (R:=wants (λr Z=>r = .none/\∃h' tk,Z={ s with heap:=h',toks:=tk }/\h'.SetOf (intKind prog w) s.heap.objs.size (λk'=>(firstMet (λi=>ns.getD i 0) its.size).any (· == k')) (firstMet (λi=>ns.getD i 0) its.size).length/\(∀b o,b < s.heap.objs.size->s.heap.get? b=some o->h'.get? b=some o)) E) TC.init.plain F.entry_set_init (check_set_init_1 hT ?_)) λaj Z L=>?_
   .have ht1:G.IsTuple t its:=ht.at λo e=>hold t o e
    obtain⟨⟨tc,td,aw,a2⟩,a4,ag,nl,ad⟩:=id ht1;dsimp only at ag ad;subst ag ad;have a3:(FS "tuple" == FS "dict")=false:=∅
    have ah:t < s.heap.objs.size:=by obtain⟨o,e,_⟩:=ht;exact fi e
    have ay:=F.sub_tuple_set;have ax:=ym;unfold Builtin.«set.__init__» noKeywords Builtin.Frozenset.updateFrom;generalize am:pyIter=PI
    wp_walk
    rw[<- am];have ai:t≠G.objs.size:=by rw[ac];exact k9 (Ld ah)
    have af:s.heap.objs.size≠G.objs.size:=by rw[ac];exact k9 (D_ _)
    have Wt:=Walks.tuple (prog:=prog) (w:=w) (A:=A.in1.in1.in1) (by simp[hA]) G.objs.size t ai its
    have an:s.heap.objs.size∉[G.objs.size,t]:=by
     intro z;rcases i6.mp z with z | z
     .exact af z
     .exact absurd (fx.mp z) (nH ah)
    refine u_ ht1 (a_ (wpAny_runValue ?_))
    refine codeAny_set_update_loopS Wt.toS _ an (λi=>ns.getD i 0) (λi v hv=>IntsAre.int_at ar i v (by rw[Array.getElem?_toList];exact hv)) ab (its.size - 0) 0 _ rfl (x5 _) ⟨⟨_,gr _ rfl,rfl,rfl⟩,ht1.at λo e=>c_ _ e⟩ ?_ λs' mv Y=>?_
    .exact SetOf_congr ((setObjOf_fresh (knd:=intKind prog w) B).setOf (c_ _ hS) (by unfold scanBound;omega)) (λ_=>rfl) rfl
    .have eq:=Moved.eq_with mv
     rw[eq] at Y ⊢;refine e_ (show wpAny _ _ (ret u9) _ _ _ from e_ ⟨rfl,s'.heap,s'.toks,rfl,Y,λb o hb e=>?_⟩)
     refine mv.heap b o (λz=>?_) (c_ _ (hold b o e))
     rcases i6.mp z with z | z
     .exact absurd z (k9 hb)
     .have:=fx.mp z
      rw[this,ac] at hb;omega
   .cases aj with
    | error e=>exact L
    | ok aa =>
     cases aa with
     | ret r =>
      obtain⟨rfl,h',tk,rfl,Y,ao⟩:=L
      repeat (any_goals (first | assumption | wp_step))
      exact ak _ _ Y ao
     | _=>exact L.elim
  | _=>exact hr.elim
end PySem
namespace L2
open PySem PySem.Spec PyProof.Rows
section
def Dr:List V->Hp->VK->Prop:=λxs H Q=>∃p,xs=[.ref p]/\∃ns:List Int,H p>>(ns.map V.int)/\ns.length<=1000/\∀q S,H q=none->Q (.ref q) (upd H q (.set S (ij ns)))
theorem Bb (Z:X.calm=true):bY X (.type "set") Dr:=by
 intro pins s σ H xs us Q I r h;obtain⟨p,rfl,ns,hp,hl,q⟩:=h;obtain⟨u,rfl,ru⟩:=cV r;cases ru;obtain⟨its,F,pl,hz⟩:=I.tuple (SqT.of hp);have B:=F.length;rw[d_] at B;refine yt (I.ok.hd Z) (show s.heap.IsTuple p its.toArray from pl) (by simpa using fE F) (by simp only[j7];show its.length+1 < 4096;omega) λh' tk Y hold=>?_
 have e:firstMet (λi=>ns.getD i 0) its.toArray.size=ns.foldl Lm []:=by
  unfold firstMet;rw[j7,<- B,xk]
 rw[e] at Y;exact⟨.ref s.heap.objs.size,_,I.laid (a:=s.heap.objs.size) (o:=.set _ (ij ns)) (t':=tk) (λb o L=>hold b o (fi L) L) (h_ _) Y,rfl,q _ _ (I.hok.fresh (h_ _))⟩
def xX (Cs:List (Addr × Sp)) (m:Str) (ta:TE) (t:TA):TE:=λσ H Q=>ta σ H λx H1=>∃a,x = .ref a/\∃C sp,(C,sp)∈Cs/\∃dx fs,H1 a=some (.ins C dx fs)/\fs.lookup m=none/\t σ H1 λvs H2=>sp (.ref a :: vs) H2 Q E0
variable {o:Expr} {m:Str} {t:TA}
theorem gN {pl:Sem Bool} (F : ∀C sp,(C,sp)∈Cs->Cls X.K C/\FnR X.prog X.w X.K X.mg X.base (aD X.K C m) k ps sp) (hr:cU k X.A) (he:PE X o ta) (ha:PA X (e :: es) t)
  (Y:jc (e :: es) X.env=(false,eval e X.env) :: jc es X.env:=by rfl) (L:(y_ pos (jc es X.env)).any (·.1)=false:=by rfl)
  (ht:eval (.Call (.Attribute o m apos) (e :: es) [] pos) X.env=(do
   let ov <- eval o X.env
   standAt apos.atName
   let (f,first) <- holding [ov] (getMethod ov m pl)
   callWith pos f first (y_ pos (jc (e :: es) X.env)) (backToKw pos (LZ [] X.env))):=by rfl) :
  PE X (.Call (.Attribute o m apos) (e :: es) [] pos) (xX Cs m ta t):=by
 intro pins s σ H Q I h;refine methodCall_KW (pl:=pl) (thn (he pins s σ H _ I h) λu s1 B=>?_) ht
 obtain⟨x,H1,I1,rx,a,ex,C,sp,hC,dx,fs,ea,l,q⟩:=B;subst ex;obtain⟨c,f,fd,F,Z,b⟩:=F C sp hC;obtain rfl:u=i8 a:=rx
 refine pW I1 ea c Z l ?_
 refine LL (first:=[.ref a]) (h₀:=X.base) I.ok.mod.kin Z.kp (thn (ha pos pins s1 σ H1 _ I1 q) λus s2 ⟨vs,H2,I2,r,q2⟩=>⟨I2.kIn,?_⟩) Y L
 exact lz (us:=.ref a :: us) (vs:=.ref a :: vs) F hr b .nil oW I2 (.cons rfl r) (by rw[append_nil];exact q2)
end
end L2
namespace PySem
theorem iX {vs:Array Value} {v:Value} (a:s.heap.IsTupleIter J T i) (b:s.heap.IsTuple T vs) (c:vs[i]? = some v)
  (k : ∀g,g.IsTupleIter J T (i+1)->Lv J s.heap g->Q v { s with heap:=g }):wpAny (model prog w) A (j_ (.ref J)) Q E s:=by
 obtain⟨oJ,L,Z,B⟩:=id a;obtain⟨oT,Y,_,bn,b2⟩:=b;unfold j_;refine a_ (k4 (name:=b_ "__next__") a.typeIs KU (li KU a.typeIs F.entry_tuple_iterator_next ?_ (F.args_tuple_iterator_next_1 _)))
 change wpAny _ _ (field (.ref J) 0 >>= _) _ _ s;refine a_ (m8 L B (x:=.ref T) rfl ?_)
 change wpAny _ _ (if (i8 T == u9)=true then _ else _) _ _ s;rw[if_neg (show ¬ ((i8 T == u9)=true) from i_)]
 change wpAny _ _ (field (.ref J) 1 >>= _) _ _ s;refine a_ (m8 L B (x:=.int i 0) rfl ?_)
 change wpAny _ _ (seqItems? (.ref T) >>= _) _ _ s;refine a_ (u8 Y b2 ?_)
 simp only[J_,c];refine a_ (wpAny_setField L B (by simp) (e_ ⟨v,rfl,e_ (k _ ⟨_,G4 _ L (Obj.isFreed_of_fields (Obj.data_mapFields B _)),(Obj.cls_mapFields ..).trans Z,?_⟩ (Heap.SameBut.update ..))⟩))
 rw[Obj.data_mapFields B];simp[x4]
theorem eN {vs:Array Value} (Y:A.handled=none) (a:s.heap.IsTupleIter J T i) (b:s.heap.IsTuple T vs) (c:vs[i]? = none)
  (k : ∀g e,L0 J s.heap g->(∃o,g.get? e=some o/\o.cls = .type "StopIteration")->E (.ref e) { s with heap:=g }):wpAny (model prog w) A (j_ (.ref J)) Q E s:=by
 obtain⟨oJ,B,a2,L⟩:=id a;obtain⟨oT,Z,_,bn,b2⟩:=b;unfold j_;refine a_ (k4 (name:=b_ "__next__") a.typeIs KU (li KU a.typeIs F.entry_tuple_iterator_next ?_ (F.args_tuple_iterator_next_1 _)))
 change wpAny _ _ (field (.ref J) 0 >>= _) _ _ s;refine a_ (m8 B L (x:=.ref T) rfl ?_)
 change wpAny _ _ (if (i8 T == u9)=true then _ else _) _ _ s;rw[if_neg (show ¬ ((i8 T == u9)=true) from i_)]
 change wpAny _ _ (field (.ref J) 1 >>= _) _ _ s;refine a_ (m8 B L (x:=.int i 0) rfl ?_)
 change wpAny _ _ (seqItems? (.ref T) >>= _) _ _ s;refine a_ (u8 Z b2 ?_)
 simp only[J_,c];refine a_ (LN (a_ (wpAny_setField B L (by simp) ?_)))
 change wpAny _ _ (newExc (.type "StopIteration") [] >>= _) _ _ _;refine a_ (by
  simp only[newExc,newTuple];refine a_ (w4 ?_ (by size_fits))
  refine a_ (m:=firstArgMember _ _) (Lq (a:=u9) (by first | rfl | (simp only[firstArgMember];rfl)) ?_)
  refine w4 ?_ (by size_fits)
  (simp only[raiseNew];refine a_ (wpAny_handled ?_))
  first | rw[show A.in1.handled=none from Y] | rw[Y]
  refine a_ (e_ (wpAny_throw (k _ _ (((Heap.SameBut.update ..).extBut.push _).push _) ⟨_,gr _ rfl,rfl⟩))))
def ZIt:Bool->Heap->Addr->Addr->Nat->Prop
 | false=>Heap.IsTupleIter
 | true=>Heap.IsListIter
def ZSq:Bool->Heap->Addr->Array Value->Prop
 | false=>Mb
 | true=>Heap.IsList
theorem ZIt.ex {g:Heap} (h:ZIt q g I S i) : ∃o,g.get? I=some o/\o.data = .fields #[.ref S,.int i 0]:=by
 cases q with
 | false=>obtain⟨o,h1,_,B⟩:=h;exact⟨o,h1,B⟩
 | true=>obtain⟨o,h1,_,B⟩:=h;exact⟨o,h1,B⟩
theorem ZIt.at {q:Bool} {g g':Heap} {I S:Addr} {i:Nat} (h:ZIt q g I S i) (e : ∀o,g.get? I=some o->g'.get? I=some o):ZIt q g' I S i:=by
 cases q with
 | false=>exact Heap.IsTupleIter.at h e
 | true=>exact Heap.IsListIter.at h e
theorem ZIt.extBut {g g':Heap} (h:ZIt q g I S i) (F:L0 b g g') (B:I≠b):ZIt q g' I S i:=h.at λo e=>F _ _ B e
theorem ZSq.at {g g':Heap} {xs:Array Value} (h:ZSq q g S xs) (e : ∀o,g.get? S=some o->g'.get? S=some o):ZSq q g' S xs:=by
 cases q with
 | false=>obtain⟨o,h1,r⟩:=h;exact⟨o,e _ h1,r⟩
 | true=>obtain⟨o,h1,r⟩:=h;exact⟨o,e _ h1,r⟩
theorem ZSq.extBut {g g':Heap} {xs:Array Value} (h:ZSq q g S xs) (F:L0 b g g') (B:S≠b):ZSq q g' S xs:=h.at λo e=>F _ _ B e
theorem ZSq.ex {g:Heap} {xs:Array Value} (h:ZSq q g S xs) : ∃o,g.get? S=some o:=by
 cases q with
 | false=>obtain⟨o,h1,_⟩:=h;exact⟨o,h1⟩
 | true=>obtain⟨o,h1,_⟩:=h;exact⟨o,h1⟩
theorem BO {vs:Array Value} {v:Value} (a:ZIt q s.heap J T i) (b:ZSq q s.heap T vs) (c:vs[i]? = some v)
  (k : ∀g,ZIt q g J T (i+1)->Lv J s.heap g->Q v { s with heap:=g }):wpAny (model prog w) A (j_ (.ref J)) Q E s:=by
 cases q with
 | false=>exact iX a b c k
 | true=>exact wpAny_nextOf_list_item a b c k
theorem yQ {vs:Array Value} (B:A.handled=none) (a:ZIt q s.heap J T i) (b:ZSq q s.heap T vs) (c:vs[i]? = none)
  (k : ∀g e,L0 J s.heap g->(∃o,g.get? e=some o/\o.cls = .type "StopIteration")->E (.ref e) { s with heap:=g }):wpAny (model prog w) A (j_ (.ref J)) Q E s:=by
 cases q with
 | false=>exact eN B a b c k
 | true=>exact wpAny_nextOf_list_end B a b c k
structure iG (q:Bool) (g:Heap) (z P O I J S T:Addr) (i:Nat) (f0 f1:Value):Prop where
 zz:g.get? z=some { cls:=.type "zip",dict:=none,data:=.fields #[f0,f1,.bool false,.ref P,.ref O],slots := #[] }
 pp:LC g P (.ref I) (.ref J)
 oo : ∃a b,LC g O a b
 ii:ZIt q g I S i
 jj:g.IsTupleIter J T i
theorem iG.keep {g g':Heap} {P:Addr} (h:iG q g z P O I J S T i f0 f1) (k : ∀b∈[z,P,O,I,J],∀o,g.get? b=some o->g'.get? b=some o):iG q g' z P O I J S T i f0 f1:=by
 obtain⟨a,b,oo⟩:=h.oo;exact⟨k z (by simp) _ h.zz,k P (by simp) _ h.pp,⟨a,b,k O (by simp) _ oo⟩,h.ii.at λo e=>k I (by simp) o e,h.jj.at λo e=>k J (by simp) o e⟩
abbrev ox:=iG false
theorem uE {P:Addr} {xs:Array Value} {x y:Value} (D:KH z P O I J S T) (Z:iG q s.heap z P O I J S T i .none (.bool false))
  (hS:ZSq q s.heap S xs) (hT:s.heap.IsTuple T ys) (hx:xs[i]? = some x) (hy:ys[i]? = some y)
  (k : ∀g,iG q g z P O I J S T (i+1) (x4 s.heap.objs.size) (.bool false)->LC g s.heap.objs.size x y->g.objs.size=s.heap.objs.size+1 ->
   (∀c o,c≠z->c≠O->c≠I->c≠J->s.heap.get? c=some o->g.get? c=some o)->Q (.ref s.heap.objs.size) { s with heap:=g }) :
  wpAny (model prog w) A (Builtin.«zip.__next__» ⟨[.ref z],[]⟩) (λaa s'=>∃v,aa = .done (.ret v)/\Q v s') E s:=by
 have zz:=Z.zz;obtain⟨a,b,oo⟩:=Z.oo;change wpAny _ _ (field (.ref z) 2 >>= _) _ _ _;refine a_ (m8 zz rfl (x:=.bool false) rfl ?_)
 change wpAny _ _ (field (.ref z) 3 >>= _) _ _ _;refine a_ (m8 zz rfl (x:=.ref P) rfl ?_)
 refine a_ (u8 Z.pp rfl ?_)
 change wpAny _ _ (n9 (.ref z) >>= _) _ _ _;refine a_ (by
  unfold n9;refine a_ (m8 zz rfl (x:=.none) rfl (e_ ?_))
  simp only[if_true];refine a_ (LN ?_)
  refine a_ (m8 zz rfl (x:=.ref O) rfl ?_)
  refine a_ (t6 zz (by simp) λg1 z1 L=>?_)
  replace z1:g1.get? z=some { cls:=.type "zip",dict:=none,data:=.fields #[.ellipsis,.bool false,.bool false,.ref P,.ref O],slots := #[] }:=z1
  refine a_ ?_
  simp only[List.zipIdx_cons,List.zipIdx_nil,Lh,forIn_nil];refine a_ (a_ (wpAny_onRaise ?_))
  change wpAny _ _ (j_ (.ref I) >>= _) _ _ _;refine a_ (BO (Z.ii.extBut L.extBut D.i1z) (hS.extBut L.extBut D.l1z) hx λg2 i2 s2=>e_ ?_)
  have o2:LC g2 O a b:=s2.extBut _ _ D.TOi1 (L.extBut _ _ D.TOz oo)
  refine a_ (u8 o2 rfl ?_)
  refine a_ (wpAny_updateSeq_pair o2 λg3 o3 Y=>?_)
  replace o3:LC g3 O x b:=o3
  refine a_ (wpAny_letGo (e_ ?_))
  refine a_ (a_ (wpAny_onRaise ?_))
  change wpAny _ _ (j_ (.ref J) >>= _) _ _ _;refine a_ (iX (((Z.jj.extBut L.extBut D.i2z).extBut s2.extBut D.i12.symm).extBut Y.extBut D.TOi2.symm) (((hT.extBut L.extBut D.l2z).extBut s2.extBut D.l2i1).extBut Y.extBut D.l2TO) hy λg4 j4 s4=>e_ ?_)
  have o4:LC g4 O x b:=s4.extBut _ _ D.TOi2 o3
  refine a_ (u8 o4 rfl ?_)
  refine a_ (wpAny_updateSeq_pair o4 λB o5 s5=>?_)
  replace o5:LC B O x y:=o5
  refine a_ (wpAny_letGo (e_ (e_ ?_)))
  refine a_ (u8 o5 rfl ?_)
  refine a_ (wpAny_newTuple ?_)
  have sz:B.objs.size=s.heap.objs.size:=by rw[s5.1,s4.1,Y.1,s2.1,L.1]
  have z5:=s5.extBut _ _ D.TOz.symm (s4.extBut _ _ D.i2z.symm (Y.extBut _ _ D.TOz.symm (s2.extBut _ _ D.i1z.symm z1)));have k5 : ∀c o,c≠z->c≠O->c≠I->c≠J->s.heap.get? c=some o->B.get? c=some o:=λc o F c2 c3 c4 e =>
   s5.extBut _ _ c2 (s4.extBut _ _ c4 (Y.extBut _ _ c2 (s2.extBut _ _ c3 (L.extBut _ _ F e))))
  have i5:ZIt q B I S (i+1):=((i2.extBut Y.extBut D.TOi1.symm).extBut s4.extBut D.i12).extBut s5.extBut D.TOi1.symm
  have j5:B.IsTupleIter J T (i+1):=j4.extBut s5.extBut D.TOi2.symm
  have zl:z < B.objs.size:=fi z5
  change wpAny _ _ (Builtin.SmallTypes.ownedTupleHandOut (.ref z) (.ref B.objs.size) >>= _) _ _ _;refine a_ ?_
  unfold Builtin.SmallTypes.ownedTupleHandOut;have z6:=c_ { cls:=.type "tuple",data:=.seq #[x,y] } z5;refine a_ (t6 z6 (by simp) λg7 z7 s7=>?_)
  refine t6 z7 (by simp) λg8 z8 s8=>?_
  have up : ∀c o,c≠z->B.get? c=some o->g8.get? c=some o:=λc o F e=>s8.extBut _ _ F (s7.extBut _ _ F (c_ _ e))
  have t8:LC g8 B.objs.size x y:=s8.extBut _ _ (nH zl) (s7.extBut _ _ (nH zl) (gr _ rfl))
  have l8:g8.objs.size=B.objs.size+1:=by rw[s8.1,s7.1,n6]
  refine e_ ⟨_,rfl,?_⟩
  have zf:iG q g8 z P O I J S T (i+1) (x4 B.objs.size) (.bool false) :=
   ⟨z8,up _ _ D.TIz (k5 _ _ D.TIz D.TITO D.TIi1 D.TIi2 Z.pp),⟨x,y,up _ _ D.TOz o5⟩,i5.at λo e=>up _ o D.i1z e,j5.at λo e=>up _ o D.i2z e⟩
  rw[sz] at zf t8 l8;change Q (.ref B.objs.size) _;rw[sz];exact k g8 zf t8 l8 λc o F c2 c3 c4 e=>up c o F (k5 c o F c2 c3 c4 e))
theorem oR {Q:Option Obj->Shared->Prop} (h:Q (s.heap.get? a) s):wpAny M A (loadIfAlive a) Q E s:=λ_ _ _=>h
theorem zJ {P t0:Addr} {xs:Array Value} {x y:Value} (D:KH z P O I J S T) (Z:ox s.heap z P O I J S T i (x4 t0) f1)
  (h0:s.heap.get? t0=some o0) (hf:f1 = .bool false\/f1 = .bool true) (hS:s.heap.IsTuple S xs) (hT:s.heap.IsTuple T ys) (hx:xs[i]? = some x) (hy:ys[i]? = some y)
  (k : ∀g,ox g z P O I J S T (i+1) (x4 t0) (.bool true)->LC g s.heap.objs.size x y->g.objs.size=s.heap.objs.size+1 ->
   (∀c o,c≠z->c≠O->c≠I->c≠J->s.heap.get? c=some o->g.get? c=some o)->Q (.ref s.heap.objs.size) { s with heap:=g }) :
  wpAny (model prog w) A (Builtin.«zip.__next__» ⟨[.ref z],[]⟩) (λaa s'=>∃v,aa = .done (.ret v)/\Q v s') E s:=by
 have zz:=Z.zz;obtain⟨a,b,oo⟩:=Z.oo;change wpAny _ _ (field (.ref z) 2 >>= _) _ _ _;refine a_ (m8 zz rfl (x:=.bool false) rfl ?_)
 change wpAny _ _ (field (.ref z) 3 >>= _) _ _ _;refine a_ (m8 zz rfl (x:=.ref P) rfl ?_)
 refine a_ (u8 Z.pp rfl ?_)
 change wpAny _ _ (n9 (.ref z) >>= _) _ _ _;refine a_ (by
  unfold n9;refine a_ (m8 zz rfl (x:=x4 t0) rfl ?_)
  simp only[x4];refine a_ (oR ?_)
  simp only[J_,h0,isNone_some,i9,if_false];refine a_ (m8 zz rfl (x:=f1) rfl ?_)
  rcases hf with rfl | rfl
  .rw[if_pos ∅]
   refine a_ (t6 zz (by simp) λg1 z1 s1=>e_ ?_)
   have Z1:ox g1 z P O I J S T i (x4 t0) (.bool true):=⟨z1,s1.extBut _ _ D.TIz Z.pp,⟨a,b,s1.extBut _ _ D.TOz oo⟩,Z.ii.extBut s1.extBut D.i1z,Z.jj.extBut s1.extBut D.i2z⟩
   have e1:=s1.extBut;have n1:=s1.1;simp only[i9,if_false];rw[<- forIn_toList];simp only[Lh,forIn_nil];refine a_ (a_ (a_ (t7 ?_)))
   change wpAny _ _ (j_ (.ref I) >>= _) _ _ _;refine a_ (iX (Z1.ii) (hS.extBut e1 D.l1z) hx λg2 i2 B=>e_ (e_ ?_))
   refine a_ (a_ (t7 ?_))
   change wpAny _ _ (j_ (.ref J) >>= _) _ _ _;refine a_ (iX (Z1.jj.extBut B.extBut D.i12.symm) ((hT.extBut e1 D.l2z).extBut B.extBut D.l2i1) hy λg3 j3 F=>e_ (e_ (e_ ?_)))
   refine a_ (wpAny_newTuple (hsz:=by show 2<=g9;decide) (e_ ⟨_,rfl,?_⟩))
   have sz:g3.objs.size=s.heap.objs.size:=by rw[F.1,B.1,n1]
   have L : ∀c o,c≠z->c≠I->c≠J->s.heap.get? c=some o->g3.get? c=some o:=λc o Y c3 c4 e=>F.extBut _ _ c4 (B.extBut _ _ c3 (e1 _ _ Y e))
   have z3:=F.extBut _ _ D.i2z.symm (B.extBut _ _ D.i1z.symm Z1.zz);change Q (.ref g3.objs.size) _;rw[sz];refine k _ ⟨c_ _ z3,c_ _ (L _ _ D.TIz D.TIi1 D.TIi2 Z.pp),⟨a,b,c_ _ (L _ _ D.TOz D.TOi1 D.TOi2 oo)⟩,(i2.extBut F.extBut D.i12).at λo e=>c_ _ e,j3.at λo e=>c_ _ e⟩ ?_ ?_ λc o Y c2 c3 c4 e=>c_ _ (L c o Y c3 c4 e)
   .rw[<- sz];exact gr _ rfl
   .rw[n6,sz]
  .rw[if_neg ∅]
   refine e_ ?_
   have Z1:=Z;have e1:L0 z s.heap s.heap:=λ_ _ _ e=>e
   have n1:s.heap.objs.size=s.heap.objs.size:=rfl
   simp only[i9,if_false];rw[<- forIn_toList];simp only[Lh,forIn_nil];refine a_ (a_ (a_ (t7 ?_)))
   change wpAny _ _ (j_ (.ref I) >>= _) _ _ _;refine a_ (iX (Z1.ii) (hS.extBut e1 D.l1z) hx λg2 i2 B=>e_ (e_ ?_))
   refine a_ (a_ (t7 ?_))
   change wpAny _ _ (j_ (.ref J) >>= _) _ _ _;refine a_ (iX (Z1.jj.extBut B.extBut D.i12.symm) ((hT.extBut e1 D.l2z).extBut B.extBut D.l2i1) hy λg3 j3 F=>e_ (e_ (e_ ?_)))
   refine a_ (wpAny_newTuple (hsz:=by show 2<=g9;decide) (e_ ⟨_,rfl,?_⟩))
   have sz:g3.objs.size=s.heap.objs.size:=by rw[F.1,B.1,n1]
   have L : ∀c o,c≠z->c≠I->c≠J->s.heap.get? c=some o->g3.get? c=some o:=λc o Y c3 c4 e=>F.extBut _ _ c4 (B.extBut _ _ c3 (e1 _ _ Y e))
   have z3:=F.extBut _ _ D.i2z.symm (B.extBut _ _ D.i1z.symm Z1.zz);change Q (.ref g3.objs.size) _;rw[sz];refine k _ ⟨c_ _ z3,c_ _ (L _ _ D.TIz D.TIi1 D.TIi2 Z.pp),⟨a,b,c_ _ (L _ _ D.TOz D.TOi1 D.TOi2 oo)⟩,(i2.extBut F.extBut D.i12).at λo e=>c_ _ e,j3.at λo e=>c_ _ e⟩ ?_ ?_ λc o Y c2 c3 c4 e=>c_ _ (L c o Y c3 c4 e)
   .rw[<- sz];exact gr _ rfl
   .rw[n6,sz])
theorem yp {P:Addr} {xs:Array Value} {Q:Fin->Shared->Prop} (hd:A.handled=none) (D:KH z P O I J S T) (Z:iG q s.heap z P O I J S T i .none (.bool false))
  (hS:ZSq q s.heap S xs) (hT:s.heap.IsTuple T ys) (hx:xs[i]? = none\/ys[i]? = none)
  (k : ∀g e,(∀c o,c≠z->c≠O->c≠I->c≠J->s.heap.get? c=some o->g.get? c=some o)->(∃o,g.get? e=some o/\o.cls = .type "StopIteration")->E (.ref e) { s with heap:=g }) :
  wpAny (model prog w) A (Builtin.«zip.__next__» ⟨[.ref z],[]⟩) Q E s:=by
 have zz:=Z.zz;obtain⟨a,b,oo⟩:=Z.oo;change wpAny _ _ (field (.ref z) 2 >>= _) _ _ _;refine a_ (m8 zz rfl (x:=.bool false) rfl ?_)
 change wpAny _ _ (field (.ref z) 3 >>= _) _ _ _;refine a_ (m8 zz rfl (x:=.ref P) rfl ?_)
 refine a_ (u8 Z.pp rfl ?_)
 change wpAny _ _ (n9 (.ref z) >>= _) _ _ _;refine a_ (by
  unfold n9;refine a_ (m8 zz rfl (x:=.none) rfl (e_ ?_))
  simp only[if_true];refine a_ (LN ?_)
  refine a_ (m8 zz rfl (x:=.ref O) rfl ?_)
  refine a_ (t6 zz (by simp) λg1 z1 L=>?_)
  refine a_ ?_
  simp only[List.zipIdx_cons,List.zipIdx_nil,Lh,forIn_nil];refine a_ (a_ (wpAny_onRaise ?_))
  change wpAny _ _ (j_ (.ref I) >>= _) _ _ _;cases ex:xs[i]? with
  | none =>
   refine a_ (yQ hd (Z.ii.extBut L.extBut D.i1z) (hS.extBut L.extBut D.l1z) ex λg2 e Y he=>?_)
   obtain⟨oe,B,F⟩:=he;have z2:=Y _ _ D.i1z.symm z1;have ez:e≠z:=λq=>by subst q;rw[z2] at B;cases B;simp at F
   refine t6 z2 (by simp) λg3 _ s3=>k g3 e (λc o c1 _ c3 _ q=>s3.extBut _ _ c1 (Y _ _ c3 (L.extBut _ _ c1 q))) ⟨oe,s3.extBut _ _ ez B,F⟩
  | some x =>
   have hy:ys[i]? = none:=by rcases hx with q | q;(rw[ex] at q;cases q);exact q
   refine a_ (BO (Z.ii.extBut L.extBut D.i1z) (hS.extBut L.extBut D.l1z) ex λg2 i2 Y=>e_ ?_)
   have o2:LC g2 O a b:=Y.extBut _ _ D.TOi1 (L.extBut _ _ D.TOz oo)
   refine a_ (u8 o2 rfl ?_)
   refine a_ (wpAny_updateSeq_pair o2 λg3 o3 s3=>?_)
   refine a_ (wpAny_letGo (e_ ?_))
   refine a_ (a_ (wpAny_onRaise ?_))
   change wpAny _ _ (j_ (.ref J) >>= _) _ _ _;refine a_ (eN hd (((Z.jj.extBut L.extBut D.i2z).extBut Y.extBut D.i12.symm).extBut s3.extBut D.TOi2.symm) (((hT.extBut L.extBut D.l2z).extBut Y.extBut D.l2i1).extBut s3.extBut D.l2TO) hy λg4 e s4 he=>?_)
   obtain⟨oe,B,F⟩:=he;have z4:=s4 _ _ D.i2z.symm (s3.extBut _ _ D.TOz.symm (Y.extBut _ _ D.i1z.symm z1));have ez:e≠z:=λq=>by subst q;rw[z4] at B;cases B;simp at F
   refine t6 z4 (by simp) λg5 _ s5=>k g5 e (λc o c1 c2 c3 c4 q=>s5.extBut _ _ c1 (s4 _ _ c4 (s3.extBut _ _ c2 (Y.extBut _ _ c3 (L.extBut _ _ c1 q))))) ⟨oe,s5.extBut _ _ ez B,F⟩)
theorem zg {P t0:Addr} {xs:Array Value} {Q:Fin->Shared->Prop} (hd:A.handled=none) (D:KH z P O I J S T) (Z:ox s.heap z P O I J S T i (x4 t0) f1)
  (h0:s.heap.get? t0=some o0) (hf:f1 = .bool false\/f1 = .bool true) (hS:s.heap.IsTuple S xs) (hT:s.heap.IsTuple T ys) (hx:xs[i]? = none\/ys[i]? = none)
  (k : ∀g e,(∀c o,c≠z->c≠O->c≠I->c≠J->s.heap.get? c=some o->g.get? c=some o)->(∃o,g.get? e=some o/\o.cls = .type "StopIteration")->E (.ref e) { s with heap:=g }) :
  wpAny (model prog w) A (Builtin.«zip.__next__» ⟨[.ref z],[]⟩) Q E s:=by
 have zz:=Z.zz;obtain⟨a,b,oo⟩:=Z.oo;change wpAny _ _ (field (.ref z) 2 >>= _) _ _ _;refine a_ (m8 zz rfl (x:=.bool false) rfl ?_)
 change wpAny _ _ (field (.ref z) 3 >>= _) _ _ _;refine a_ (m8 zz rfl (x:=.ref P) rfl ?_)
 refine a_ (u8 Z.pp rfl ?_)
 change wpAny _ _ (n9 (.ref z) >>= _) _ _ _;refine a_ (by
  unfold n9;refine a_ (m8 zz rfl (x:=x4 t0) rfl ?_)
  simp only[x4];refine a_ (oR ?_)
  simp only[J_,h0,isNone_some,i9,if_false];refine a_ (m8 zz rfl (x:=f1) rfl ?_)
  rcases hf with rfl | rfl
  .rw[if_pos ∅]
   refine a_ (t6 zz (by simp) λg1 z1 s1=>e_ ?_)
   have L:ox g1 z P O I J S T i (x4 t0) (.bool true):=⟨z1,s1.extBut _ _ D.TIz Z.pp,⟨a,b,s1.extBut _ _ D.TOz oo⟩,Z.ii.extBut s1.extBut D.i1z,Z.jj.extBut s1.extBut D.i2z⟩
   have e1:=s1.extBut;simp only[i9,if_false];rw[<- forIn_toList];simp only[Lh,forIn_nil];refine a_ (a_ (a_ (t7 ?_)))
   change wpAny _ _ (j_ (.ref I) >>= _) _ _ _;cases ex:xs[i]? with
   | none =>
    refine a_ (eN hd L.ii (hS.extBut e1 D.l1z) ex λg2 e B he=>?_)
    exact k g2 e (λc o F _ Y _ q=>B _ _ Y (e1 _ _ F q)) he
   | some x =>
    have hy:ys[i]? = none:=by rcases hx with q | q;(rw[ex] at q;cases q);exact q
    refine a_ (iX L.ii (hS.extBut e1 D.l1z) ex λg2 i2 B=>e_ (e_ ?_))
    refine a_ (a_ (t7 ?_))
    change wpAny _ _ (j_ (.ref J) >>= _) _ _ _;refine a_ (eN hd (L.jj.extBut B.extBut D.i12.symm) ((hT.extBut e1 D.l2z).extBut B.extBut D.l2i1) hy λg3 e s3 he=>?_)
    exact k g3 e (λc o F _ Y c4 q=>s3 _ _ c4 (B.extBut _ _ Y (e1 _ _ F q))) he
  .rw[if_neg ∅]
   refine e_ ?_
   have L:=Z;have e1:L0 z s.heap s.heap:=λ_ _ _ e=>e
   simp only[i9,if_false];rw[<- forIn_toList];simp only[Lh,forIn_nil];refine a_ (a_ (a_ (t7 ?_)))
   change wpAny _ _ (j_ (.ref I) >>= _) _ _ _;cases ex:xs[i]? with
   | none =>
    refine a_ (eN hd L.ii (hS.extBut e1 D.l1z) ex λg2 e B he=>?_)
    exact k g2 e (λc o F _ Y _ q=>B _ _ Y (e1 _ _ F q)) he
   | some x =>
    have hy:ys[i]? = none:=by rcases hx with q | q;(rw[ex] at q;cases q);exact q
    refine a_ (iX L.ii (hS.extBut e1 D.l1z) ex λg2 i2 B=>e_ (e_ ?_))
    refine a_ (a_ (t7 ?_))
    change wpAny _ _ (j_ (.ref J) >>= _) _ _ _;refine a_ (eN hd (L.jj.extBut B.extBut D.i12.symm) ((hT.extBut e1 D.l2z).extBut B.extBut D.l2i1) hy λg3 e s3 he=>?_)
    exact k g3 e (λc o F _ Y c4 q=>s3 _ _ c4 (B.extBut _ _ Y (e1 _ _ F q))) he)
theorem Ab {hp:Heap} {xs:Array Value} (h1:ZSq q hp S xs) (h2:hp.IsTuple T ys) {Y B L Z F:Heap} (e1:Y=hp.push { cls:=.type (if q then "list_iterator" else "tuple_iterator"),data:=.fields #[.ref S,.int 0 0] })
  (e2:B=Y.push { cls:=.type "tuple_iterator",data:=.fields #[.ref T,.int 0 0] }) (e3:L=B.push { cls:=.type "tuple",data:=.seq #[.ref hp.objs.size,.ref Y.objs.size] }) (e4:Z=L.push { cls:=.type "tuple",data:=.seq #[.none,.none] })
  (e5:F=Z.push { cls:=.type "zip",data:=.fields #[.none,.bool false,.bool false,.ref B.objs.size,.ref L.objs.size] }) :
  iG q F Z.objs.size B.objs.size L.objs.size hp.objs.size Y.objs.size S T 0 .none (.bool false)/\KH Z.objs.size B.objs.size L.objs.size hp.objs.size Y.objs.size S T/\Z.objs.size=hp.objs.size+4/\L.objs.size=hp.objs.size+3/\B.objs.size=hp.objs.size+2/\Y.objs.size=hp.objs.size+1/\∀c o,hp.get? c=some o->F.get? c=some o:=by
 have n1:Y.objs.size=hp.objs.size+1:=by rw[e1,n6]
 have n2:B.objs.size=hp.objs.size+2:=by rw[e2,n6,n1]
 have n3:L.objs.size=hp.objs.size+3:=by rw[e3,n6,n2]
 have n4:Z.objs.size=hp.objs.size+4:=by rw[e4,n6,n3]
 have p5 : ∀c o,Z.get? c=some o->F.get? c=some o:=λc o e=>by rw[e5];exact c_ _ e
 have p4 : ∀c o,L.get? c=some o->F.get? c=some o:=λc o e=>p5 c o (by rw[e4];exact c_ _ e)
 have p3 : ∀c o,B.get? c=some o->F.get? c=some o:=λc o e=>p4 c o (by rw[e3];exact c_ _ e)
 have p2 : ∀c o,Y.get? c=some o->F.get? c=some o:=λc o e=>p3 c o (by rw[e2];exact c_ _ e)
 have p1 : ∀c o,hp.get? c=some o->F.get? c=some o:=λc o e=>p2 c o (by rw[e1];exact c_ _ e)
 obtain⟨oS,hS⟩:=h1.ex;obtain⟨oT,hT,_⟩:=id h2;refine⟨⟨by rw[e5];exact gr _ rfl,p4 _ _ (by rw[e3];exact gr _ rfl),⟨.none,.none,p5 _ _ (by rw[e4];exact gr _ rfl)⟩,(by cases q <;> exact⟨_,p2 _ _ (by rw[e1];exact gr _ rfl),rfl,rfl⟩),⟨_,p3 _ _ (by rw[e2];exact gr _ rfl),rfl,rfl⟩⟩,?_,n4,n3,n2,n1,p1⟩
 rw[n1,n2,n3,n4];exact PyProof.Rows.zipApart_new (fi hS) (fi hT)
set_option maxHeartbeats 0 in
theorem Cc (q:Bool) (S T:Addr) (xs ys:Array Value):Meets (Builtin.«zip.__new__» ⟨[.type "zip",.ref S,.ref T],[]⟩) (λ_ R s=>ZSq q s.heap S xs/\s.heap.IsTuple T ys /\
   ∀g z P O I J,iG q g z P O I J S T 0 .none (.bool false)->KH z P O I J S T->s.heap.objs.size<=z->s.heap.objs.size<=P->s.heap.objs.size<=O->s.heap.objs.size<=I->s.heap.objs.size<=J->(∀c o,s.heap.get? c=some o->g.get? c=some o)->R (.ok (.ret (.ref z))) { s with heap:=g }) :=
 .of_wp λprog w A R s h=>by
  obtain⟨hp,g,d,tk,B⟩:=s;obtain⟨h1,h2,h⟩:=h;have aa:=sub_zip;cases q with
  | false =>
   have q1:Mb (Shared.heap ⟨hp,g,d,tk,B⟩) S xs:=h1
   have Y:Mb (Shared.heap ⟨hp.push { cls:=.type "tuple_iterator",data:=.fields #[.ref S,.int 0 0] },g,d,tk,B⟩) T ys:=Heap.IsTuple.push h2 _
   wp_walk using u_ q1,u_ Y
   obtain⟨za,L,n4,Z,n2,n1,F⟩:=Ab (hp:=hp) h1 h2 rfl rfl rfl rfl rfl;exact⟨_,rfl,h _ _ _ _ _ _ za L (ja (KP _ 4) (Ln n4.symm)) (ja (KP _ 2) (Ln n2.symm)) (ja (KP _ 3) (Ln Z.symm)) (h_ _) (ja (KP _ 1) (Ln n1.symm)) F⟩
  | true =>
   have q1:Heap.IsList (Shared.heap ⟨hp,g,d,tk,B⟩) S xs:=h1
   have Y:Mb (Shared.heap ⟨hp.push { cls:=.type "list_iterator",data:=.fields #[.ref S,.int 0 0] },g,d,tk,B⟩) T ys:=Heap.IsTuple.push h2 _
   wp_walk using Ls q1,u_ Y
   obtain⟨za,L,n4,Z,n2,n1,F⟩:=Ab (hp:=hp) h1 h2 rfl rfl rfl rfl rfl;exact⟨_,rfl,h _ _ _ _ _ _ za L (ja (KP _ 4) (Ln n4.symm)) (ja (KP _ 2) (Ln n2.symm)) (ja (KP _ 3) (Ln Z.symm)) (h_ _) (ja (KP _ 1) (Ln n1.symm)) F⟩
theorem nh {xs:Array Value} (h1:ZSq q s.heap S xs) (h2:s.heap.IsTuple T ys)
  (k : ∀g z P O I J,iG q g z P O I J S T 0 .none (.bool false)->KH z P O I J S T->s.heap.objs.size<=z->s.heap.objs.size<=P->s.heap.objs.size<=O->s.heap.objs.size<=I->s.heap.objs.size<=J->(∀c o,s.heap.get? c=some o->g.get? c=some o)->Q (.ref z) { s with heap:=g }) :
  wpAny (model prog w) A (call (.type "zip") [.ref S,.ref T]) Q E s:=by
 refine callType_new F.called_zip ∅ (F.typeCall_zip_2 _ _) (F.newCall_zip_2 _ _) (λobj=>F.args_object_init_3 obj _ _) F.entry_zip_new (Cc q S T xs ys) ⟨h1,h2,λg z P O I J Z D B Y l3 l4 L kk=>?_⟩
 exact⟨⟨_,Z.zz,rfl⟩,k g z P O I J Z D B Y l3 l4 L kk⟩
theorem dk {P:Addr} (L:s.heap.get? z=some { cls:=.type "zip",dict:=none,data:=.fields #[f0,f1,.bool false,.ref P,.ref O],slots := #[] }) (h:Q (.ref z) s):wpAny (model prog w) A (pyIter (.ref z)) Q E s:=by
 have B:s.TypeIs (.ref z) "zip" :=⟨_,L,rfl⟩
 refine wpAny_pyIter_slot B F.slot_zip_iter (li F.slot_zip_iter B F.entry_zip_iter (by
  show wpAny _ _ (ret (.ref z)) _ _ s
  exact e_ ⟨_,rfl,"zip",_,B,mu.lookup,h⟩) (F.args_zip_iter_1 _))
theorem Aj:H_ (.type "zip") "__len__" = pure none:=by rw[x3,p8];kernel_rfl
theorem xQ:H_ (.type "zip") "__length_hint__" = pure none:=by rw[x3,p8];kernel_rfl
def rC (g:Heap) (n0:Nat) (xs ys:Array Value) (ts:List Addr):Prop:=ts.Nodup/\∀(j:Nat) (t:Addr),ts[j]? = some t->∃x y,xs[j]? = some x/\ys[j]? = some y/\LC g t x y/\n0<=t
def ZSt (g:Heap) (z P O I J S T:Addr) (i:Nat) (ts:List Addr):Prop:=(ts=[]/\ox g z P O I J S T i .none (.bool false))\/∃B f1,B∈ts/\(f1 = .bool false\/f1 = .bool true)/\ox g z P O I J S T i (x4 B) f1
theorem rC.keep {g g':Heap} {xs:Array Value} {ts:List Addr} (h:rC g n0 xs ys ts) (k : ∀b o,n0<=b->g.get? b=some o->g'.get? b=some o):rC g' n0 xs ys ts:=⟨h.1,λj t e=>by
 obtain⟨x,y,h1,h2,F,B⟩:=h.2 j t e;exact⟨x,y,h1,h2,k _ _ B F,B⟩⟩
theorem rC.snoc {g:Heap} {xs:Array Value} {ts:List Addr} {t:Addr} {x y:Value} (h:rC g n0 xs ys ts) (h1:xs[ts.length]? = some x) (h2:ys[ts.length]? = some y) (Y:LC g t x y) (F:n0<=t) (Z:t∉ts):rC g n0 xs ys (ts++[t]):=⟨t9.mpr ⟨h.1,by simp,λa ha b B z=>Z (by rw[fx.mp B] at z;rw[<- z];exact ha)⟩,λj u e=>by
 by_cases L:j < ts.length
 .rw[t3 L] at e
  exact h.2 j u e
 .have hj':j=ts.length:=by
   have:=g_.mp e
   obtain⟨hl,_⟩:=this;simp at hl
   omega
  subst hj';rw[u7 (h_ _),sub_self] at e;cases e;exact⟨x,y,h1,h2,Y,F⟩⟩
theorem yn (hd:A.handled=none) {z P O I J S T L:Addr} {xs ys:Array Value} {n0:Nat} (res:Value) (D:KH z P O I J S T) (hL:L < n0) (hb : ∀b∈[z,P,O,I,J],b < n0) (ab : ∀b∈[z,P,O,I,J],L≠b) (az:L≠S) (a0:L≠T) (hn:min xs.size ys.size<=100000) :
  ∀(k:Nat) (s:Shared) (ts:List Addr) (ac:Array Value) (c:Nat),min xs.size ys.size - ts.length=k->ts.length<=min xs.size ys.size->n0<=s.heap.objs.size->ZSt s.heap z P O I J S T ts.length ts->rC s.heap n0 xs ys ts->ac.toList=ts.map i8->s.heap.IsTuple S xs->s.heap.IsTuple T ys ->
  s.heap.get? L=some { cls:=.type "list",dict:=none,data:=.seq ac c,slots := #[] } ->
  (∀g ai af c',(∀b o,b≠L->b∉[z,P,O,I,J]->b < n0->s.heap.get? b=some o->g.get? b=some o)->rC g n0 xs ys ai->ai.length=min xs.size ys.size->af.toList=ai.map i8->g.get? L=some { cls:=.type "list",dict:=none,data:=.seq af c',slots := #[] }->R (.ok (.ret res)) { s with heap:=g }) ->
  Le (model prog w) A (.builtin "list.extend.loop" ⟨[.ref L,.ref z,res],[]⟩) R s:=by
 intro k
 induction k with
 | zero =>
  intro s ts ac c hk a1 hsz aq aa ag hS hT hl hR;have a2:ts.length=min xs.size ys.size:=()
  have ao:xs[ts.length]? = none\/ys[ts.length]? = none:=by
   rcases le_total xs.size ys.size with h | h
   .exact .inl (v_ ())
   .exact .inr (v_ ())
  refine L5 F.entry_extend_loop ?_
  rw[LQ La _]
  show wpAny _ A.in1 (G2 (.ref z) >>= _) _ _ s
  refine a_ ?_
  have ad : ∀g,(∀c o,c≠z->c≠O->c≠I->c≠J->s.heap.get? c=some o->g.get? c=some o)->R (.ok (.ret res)) { s with heap:=g }:=λg kg=>by
   refine hR g ts ac c (λb o b1 b2 b3 e=>?_) (aa.keep λb o B e=>?_) a2 ag ?_
   .simp only[i6,k_,or_false,not_or] at b2
    exact kg b o b2.1 b2.2.2.1 b2.2.2.2.1 b2.2.2.2.2 e
   .exact kg b o (nH (g7 (hb z (by simp)) B)) (nH (g7 (hb O (by simp)) B)) (nH (g7 (hb I (by simp)) B)) (nH (g7 (hb J (by simp)) B)) e
   .exact kg L _ (ab z (by simp)) (ab O (by simp)) (ab I (by simp)) (ab J (by simp)) hl
  rcases aq with⟨ht,Z⟩ | ⟨t0,f1,ht0,aj,Z⟩
  .have Y:s.TypeIs (.ref z) "zip" :=⟨_,Z.zz,rfl⟩
   unfold G2;refine a_ (w9 (k4 (name:=b_ "__next__") Y mu (li mu Y x6 (yp hd D Z hS hT ao λg e kg he=>?_) (w5 _))))
   obtain⟨o,ho,ar⟩:=he;refine a_ (G1 (T := "StopIteration") (b:=true) ⟨o,ho,ar⟩ LD ?_)
   exact e_ (e_ (ad g kg))
  .obtain⟨j0,am⟩:=List.getElem?_of_mem ht0
   obtain⟨_,_,_,_,ah,_⟩:=aa.2 j0 t0 am;have Y:s.TypeIs (.ref z) "zip" :=⟨_,Z.zz,rfl⟩
   unfold G2;refine a_ (w9 (k4 (name:=b_ "__next__") Y mu (li mu Y x6 (zg hd D Z ah aj hS hT ao λg e kg he=>?_) (w5 _))))
   obtain⟨o,ho,ar⟩:=he;refine a_ (G1 (T := "StopIteration") (b:=true) ⟨o,ho,ar⟩ LD ?_)
   exact e_ (e_ (ad g kg))
 | succ k ih =>
  intro s ts ac c hk a1 hsz aq aa ag hS hT hl hR;have ay:ts.length < min xs.size ys.size:=()
  have hx:xs[ts.length]? = some (xs[ts.length]'()):=y8 ()
  have hy:ys[ts.length]? = some (ys[ts.length]'()):=y8 ()
  generalize xs[ts.length]'()=x at hx
  generalize ys[ts.length]'()=y at hy
  have an:ac.size=ts.length:=by rw[<- zc,ag,d_]
  refine L5 F.entry_extend_loop ?_
  rw[LQ La _]
  show wpAny _ A.in1 (G2 (.ref z) >>= _) _ _ s
  refine a_ ?_
  have ad : ∀g t0 f1,(t0∈ts++[s.heap.objs.size])->(f1 = .bool false\/f1 = .bool true)->ox g z P O I J S T (ts.length+1) (x4 t0) f1->LC g s.heap.objs.size x y->g.objs.size=s.heap.objs.size+1 ->
    (∀c o,c≠z->c≠O->c≠I->c≠J->s.heap.get? c=some o->g.get? c=some o) ->
    wpAny (model prog w) A.in1 (updateSeq L (·.push (.ref s.heap.objs.size)) >>= λ_=>again (.builtin "list.extend.loop" ⟨[.ref L,.ref z,res],[]⟩))
     (λad s'=>match ad with | .done f=>R (.ok f) s' | .again c'=>c'.quiet=true/\Le (model prog w) A c' R s') (λe s'=>R (.error e) s') { s with heap:=g }:=λg t0 f1 h0 aj Z1 hp hg kg=>by
   have au:=kg L _ (ab z (by simp)) (ab O (by simp)) (ab I (by simp)) (ab J (by simp)) hl
   have S1:g.IsTuple S xs:=hS.at λo e=>kg S o D.l1z D.l1TO D.l1i1 D.l1i2 e
   have T1:g.IsTuple T ys:=hT.at λo e=>kg T o D.l2z D.l2TO D.l2i1 D.l2i2 e
   have ak : ∀b o,b≠L->g.get? b=some o->(g.update L (If (·.push (.ref s.heap.objs.size)))).get? b=some o:=λb o B e=>(E_ _ _ (p7 B)).trans e
   have aw:s.heap.objs.size∉ts:=λhm=>by
    obtain⟨j0,am⟩:=List.getElem?_of_mem hm;obtain⟨_,_,_,_,ah,_⟩:=aa.2 j0 _ am;exact absurd (fi ah) (n_ _)
   refine a_ (L4 au rfl (e_ ⟨plainId_quiet La _,ih _ (ts++[s.heap.objs.size]) (ac.push (.ref s.heap.objs.size)) _ (by simp;omega) (by simp;omega) ?_ (.inr ⟨t0,f1,h0,aj,?_⟩) ?_ (by simp[ag]) ?_ ?_ (G4 _ au rfl) λg' ai af c' k' o' l' a' ax=>?_⟩) (by rw[an];exact ja (y3 ay) (ja hn ∅)) (by show(ac.push _).size<=g9+1;rw[Array.size_push,an];exact ja (show ts.length+1<=100001 by omega) ∅))
   .show n0<=(g.update L _).objs.size
    rw[Heap.size_update,hg];omega
   .rw[q_]
    exact Z1.keep λb B o e=>ak b o (p7 (ab b B)) e
   .refine(rC.snoc (aa.keep (g':=g) λb o B e=>kg b o (nH (g7 (hb z (by simp)) B)) (nH (g7 (hb O (by simp)) B)) (nH (g7 (hb I (by simp)) B)) (nH (g7 (hb J (by simp)) B)) e) hx hy hp hsz aw).keep λb o B e=>ak b o (nH (g7 hL B)) e
   .exact S1.at λo e=>ak S o (p7 az) e
   .exact T1.at λo e=>ak T o (p7 a0) e
   .refine hR g' ai af c' (λb o b1 b2 b3 e=>?_) o' l' a' ax
    refine k' b o b1 b2 b3 (ak b o b1 ?_)
    simp only[i6,k_,or_false,not_or] at b2;exact kg b o b2.1 b2.2.2.1 b2.2.2.2.1 b2.2.2.2.2 e
  rcases aq with⟨ht,Z⟩ | ⟨t0,f1,ht0,aj,Z⟩
  .have Y:s.TypeIs (.ref z) "zip" :=⟨_,Z.zz,rfl⟩
   unfold G2;refine a_ (w9 (k4 (name:=b_ "__next__") Y mu (li mu Y x6 (uE D Z hS hT hx hy λg Z1 hp hg kg=>e_ ?_) (w5 _))))
   exact ad g _ _ (by simp) (.inl rfl) Z1 hp hg kg
  .obtain⟨j0,am⟩:=List.getElem?_of_mem ht0
   obtain⟨_,_,_,_,ah,_⟩:=aa.2 j0 t0 am;have Y:s.TypeIs (.ref z) "zip" :=⟨_,Z.zz,rfl⟩
   unfold G2;refine a_ (w9 (k4 (name:=b_ "__next__") Y mu (li mu Y x6 (zJ D Z ah aj hS hT hx hy λg Z1 hp hg kg=>e_ ?_) (w5 _))))
   exact ad g _ _ (by simp[ht0]) (.inr rfl) Z1 hp hg kg
theorem Ds (hd:A.handled=none) {z P O I J S T:Addr} {xs ys:Array Value} (D:KH z P O I J S T) (Z:ox s.heap z P O I J S T 0 .none (.bool false)) (hS:s.heap.IsTuple S xs) (hT:s.heap.IsTuple T ys) (hn:min xs.size ys.size<=100000)
  (k : ∀g ts L c,(∀b o,b∉[z,P,O,I,J]->s.heap.get? b=some o->g.get? b=some o)->rC g (s.heap.objs.size+1) xs ys ts->ts.length=min xs.size ys.size->L.toList=ts.map i8 ->
   g.get? s.heap.objs.size=some { cls:=.type "list",dict:=none,data:=.seq L c,slots := #[] }->Q (.ref s.heap.objs.size) { s with heap:=g }) :
  wpAny (model prog w) A (call (.type "list") [.ref z]) Q E s:=by
 refine callType_codes (Q₁:=λobj s₁=>obj = .ref s.heap.objs.size/\s₁={ s with heap:=s.heap.push { cls:=.type "list",data:=.seq #[] } }) F.called_list (F.typeCall_list_1 _) F.entry_list_init (code_list_new _ ⟨rfl,rfl⟩) λobj s₁ ag=>?_
 obtain⟨rfl,rfl⟩:=ag;have up : ∀b o,s.heap.get? b=some o->(s.heap.push { cls:=.type "list",data:=.seq #[] }).get? b=some o:=λb o e=>c_ _ e
 have l0:(s.heap.push { cls:=.type "list",data:=.seq #[] }).get? s.heap.objs.size=some { cls:=.type "list",data:=.seq #[] }:=gr _ rfl
 have lt : ∀b∈[z,P,O,I,J],b < s.heap.objs.size:=λb B=>by
  obtain⟨u,v,oo⟩:=Z.oo;obtain⟨oi,i1,_⟩:=Z.ii;obtain⟨oj,j1,_⟩:=Z.jj;simp only[i6,k_,or_false] at B;rcases B with rfl | rfl | rfl | rfl | rfl
  .exact fi Z.zz
  .exact fi Z.pp
  .exact fi oo
  .exact fi i1
  .exact fi j1
 have ac:S < s.heap.objs.size:=by obtain⟨o,e,_⟩:=hS;exact fi e
 have af:T < s.heap.objs.size:=by obtain⟨o,e,_⟩:=hT;exact fi e
 refine⟨⟨_,l0,rfl⟩,F.args_list_init_2 _ _,?_⟩
 change wpAny _ _ (do let ah <- Lp (.ref s.heap.objs.size);Builtin.List.listUpdate (.ref s.heap.objs.size) (λ_ => #[]);letGo ah.toList.reverse;t_ (.ref s.heap.objs.size) (.ref z) .none) _ _ _
 refine a_ (by
  unfold Lp;refine a_ (u8 l0 rfl (e_ ?_))
  change wpAny _ _ (updateSeq s.heap.objs.size (λ_ => #[]) >>= λ_=>letGo (#[]:Array Value).toList.reverse >>= λ_=>t_ (.ref s.heap.objs.size) (.ref z) .none) _ _ _
  refine a_ (L4 l0 rfl ?_)
  have l1:=G4 (If (λ_=>(#[]:Array Value))) l0 rfl
  generalize ad:(s.heap.push { cls:=.type "list",data:=.seq #[] }).update s.heap.objs.size (If (λ_=>(#[]:Array Value)))=g1 at l1 ⊢
  have n1:g1.objs.size=s.heap.objs.size+1:=by rw[<- ad,Heap.size_update,n6]
  have o1 : ∀b o,b < s.heap.objs.size->s.heap.get? b=some o->g1.get? b=some o:=λb o B e=>by rw[<- ad];exact(E_ _ _ (nH B)).trans (up b o e)
  refine a_ (wpAny_letGo ?_)
  unfold t_;have Z1:ox g1 z P O I J S T 0 .none (.bool false):=Z.keep λb B o e=>o1 b o (lt b B) e
  have aa:({ s with heap:=g1 }:Shared).TypeIs (.ref z) "zip" :=⟨_,Z1.zz,rfl⟩
  refine a_ (Lx aa ?_)
  have q1:K8 (.ref s.heap.objs.size) (.ref z)=false:=by simp[K8,nH (lt z (by simp))]
  have q2:(FS "zip" == FS "list")=false:=∅
  have q3:(FS "zip" == FS "tuple")=false:=∅
  simp only[q1,q2,q3,Bool.or_false,i9,if_false];refine a_ (dk Z1.zz ?_)
  refine a_ (t7 ?_)
  unfold Builtin.List.listLengthHint;refine a_ (y6 aa Aj ?_)
  change wpAny _ _ (specialOf (i8 z) (b_ "__length_hint__") >>= _) _ _ _;refine a_ (y6 aa xQ (e_ ?_))
  change wpAny _ _ (rule "list.extend.makes-room" >>= λ_=>(updateSeq s.heap.objs.size (·.push .none) >>= λ_=>updateSeq s.heap.objs.size (·.pop)) >>= λ_=>again (.builtin "list.extend.loop" ⟨[.ref s.heap.objs.size,.ref z,.none],[]⟩)) _ _ _
  refine a_ (LN (a_ (a_ (L4 l1 rfl ?_))))
  have l2:=G4 (If (·.push u9)) l1 rfl;refine L4 l2 rfl ?_
  have l3:=G4 (If (·.pop)) l2 rfl;generalize ab:(g1.update s.heap.objs.size (If (·.push u9))).update s.heap.objs.size (If (·.pop))=g3 at l3 ⊢;have n3:g3.objs.size=s.heap.objs.size+1:=by rw[<- ab,Heap.size_update,Heap.size_update,n1]
  have o3 : ∀b o,b < s.heap.objs.size->s.heap.get? b=some o->g3.get? b=some o:=λb o B e=>by rw[<- ab];exact(E_ _ _ (nH B)).trans ((E_ _ _ (nH B)).trans (o1 b o B e))
  refine e_ ⟨plainId_quiet La _,yn (A:=A.in1) hd (n0:=s.heap.objs.size+1) .none D (D_ _) (λb B=>Ld (lt b B)) (λb B=>nH (lt b B)) (nH ac) (nH af) hn _ { s with heap:=g3 } [] #[] _ rfl (x5 _) (by show _<=g3.objs.size;rw[n3];exact h_ _) (.inl ⟨rfl,Z.keep λb B o e=>o3 b o (lt b B) e⟩) ⟨L7,λj t e=>by simp at e⟩ rfl (hS.at λo e=>o3 S o ac e) (hT.at λo e=>o3 T o af e) l3 λg ts L c kg hz hl ha hL=>⟨rfl,k g ts L c (λb o B e=>?_) hz hl ha hL⟩⟩
  have Y:=fi e;exact kg b o (k9 Y) B (Ld Y) (o3 b o Y e))
end PySem
namespace L2
open PySem PySem.Spec PyProof.Rows
theorem Inv.turnedL {g:Heap} (I:Inv X pins σ H s) (k : ∀b o,b∉fp->s.heap.get? b=some o->g.get? b=some o) (F : ∀b∈fp,ri X pins H b):Inv X pins σ H { s with heap:=g,toks:=t' }:=by
 have L : ∀b u,H b=some u->b∉fp:=λb u e z=>by rw[(F b z).1] at e;cases e
 refine I.step (g':=s.gens) (d':=s.drawn) (ch:=fp) (λb Y=>⟨(F b Y).2.2.2.1,(F b Y).2.1,(F b Y).2.2.2.2.1,(F b Y).2.2.2.2.2⟩) (λb o _ _ B e _=>k b o B e) (λb o _ _ B e _=>⟨o.slots,k b o B e⟩) (λ_ _ _ _ n=>n)
  (λb o B e=>⟨o,k b o B e⟩) (λ_ _ e=>e) (λ_ _ _ e=>e) (λb ps e=>⟨#[],by rw[e];simp⟩) (λm Z=>?_) (λb u e=>?_) I.bare
 .obtain⟨o,es,ep,ho,r⟩:=Z
  exact⟨o,es,ep,k _ o (λz=>(F _ z).2.1 rfl) ho,r⟩
 .refine(I.hok b u e).stay (λc v B q=>k c v ?_ q) (λ_ q=>q) λ_ _ q=>q
  rcases B with z | z
  .rw[z];exact L b u e
  .exact L c _ z
theorem Inv.turnedNew {g:Heap} (I:Inv X pins σ H s) (k : ∀b o,b∉fp->s.heap.get? b=some o->g.get? b=some o) (Y : ∀b∈fp,ri X pins H b) (ha:s.heap.objs.size<=a)
  (ok:bB X.prog X.w (upd H a u0) g a u0):Inv X pins σ (upd H a u0) { s with heap:=g,toks:=t' }:=by
 have Z : ∀b u,H b=some u->b∉fp:=λb u e z=>by rw[(Y b z).1] at e;cases e
 have na : ∀b o,s.heap.get? b=some o->b≠a:=λb o e z=>by rw[z] at e;exact absurd (g7 (fi e) ha) (n_ _)
 have hn:H a=none:=I.hok.fresh ha
 have L : ∀b u,H b=some u->b≠a:=λb u e z=>by rw[z,hn] at e;cases e
 refine I.step (g':=s.gens) (d':=s.drawn) (ch:=fp) (λb B=>⟨(Y b B).2.2.2.1,(Y b B).2.1,(Y b B).2.2.2.2.1,(Y b B).2.2.2.2.2⟩) (λb o _ _ F e _=>k b o F e) (λb o _ _ F e _=>⟨o.slots,k b o F e⟩) (λb o _ e n=>by rw[ai (na b o e)];exact n)
  (λb o F e=>⟨o,k b o F e⟩) (λb xs e=>by rw[ai (L b _ e)];exact e) (λb o u e=>by rw[ai (L b _ e)];exact e) (λb ps e=>⟨#[],by rw[ai (L b _ e),e];simp⟩) (λm hm=>?_) (λb u e=>?_) I.bare
 .obtain⟨o,es,ep,ho,r⟩:=hm
  exact⟨o,es,ep,k _ o (λz=>(Y _ z).2.1 rfl) ho,r⟩
 .by_cases B:b=a
  .subst B
   rw[ae] at e;cases e;exact ok
  .rw[ai B] at e
   refine(I.hok b u e).stay (λc v F q=>k c v ?_ q) (λc q=>by rw[ai (L c _ q)];exact q) (λc xs q=>by rw[ai (L c _ q)];exact q) λc _ _ q=>by rw[ai (L c _ q)];exact q
   rcases F with z | z
   .rw[z];exact Z b u e
   .exact Z c _ z
def SqQ:Bool->fy->Hp->Addr->List V->Prop
 | false=>SqT
 | true=>SqL
theorem Inv.sq (I:Inv X pins σ H s) (h:SqQ q X.K H a xs) : ∃its:List Value,bo xs its/\ZSq q s.heap a its.toArray/\xs.length<=g9:=by
 cases q with
 | false=>exact I.tuple h
 | true =>
  obtain⟨its,h1,h2,B⟩:=I.list h;exact⟨its,h1,h2.isList,B⟩
theorem Inv.sq_inj {ys:List V} (I:Inv X pins σ H s) (h:SqQ q X.K H a xs) (h':SqQ q X.K H a ys):xs=ys:=by
 cases q with
 | false=>exact I.tuple_inj h h'
 | true=>exact I.list_inj h h'
def GU (q:Bool) (K:fy) (a b:Addr):It :=
  ⟨λi H=>∃xs ys x y,SqQ q K H a xs/\SqT K H b ys/\xs[i]? = some x/\ys[i]? = some y,
   λi H v H'=>∃t x y,H t=none/\v = .ref t/\H'=upd H t (.tup [x,y])/\(∀xs,SqQ q K H a xs->xs[i]? = some x)/\(∀ys,SqT K H b ys->ys[i]? = some y),
   λi H=>∃xs ys,SqQ q K H a xs/\SqT K H b ys/\(xs[i]? = none\/ys[i]? = none)⟩
abbrev Itz:=GU false
theorem tF (h:bo xs us) (e:xs[i]? = none):us[i]? = none:=by
 have:=h.length
 rw[y7] at e ⊢;omega
theorem Cp {x1} {pos:Pos} (a b z Q O I J:Addr) (D:KH z Q O I J a b) :
  mQ P w K (.Tuple es x1 pos) (GU q K a b) [z,Q,O,I,J] z (λi h=>iG q h z Q O I J a b i .none (.bool false)) where
 mem:=by simp
 obj:=λi h st c B=>by
  obtain⟨u,v,oo⟩:=st.oo;obtain⟨oi,i1,i3⟩:=st.ii.ex;obtain⟨oj,j1,j2,j3⟩:=st.jj;simp only[i6,k_,or_false] at B;rcases B with rfl | rfl | rfl | rfl | rfl
  .exact⟨_,st.zz,λv z=>by cases z⟩
  .exact⟨_,st.pp,λv z=>by cases z⟩
  .exact⟨_,oo,λv z=>by cases z⟩
  .exact⟨oi,i1,λv z=>by rw[i3] at z;cases z⟩
  .exact⟨oj,j1,λv z=>by rw[j3] at z;cases z⟩
 keep:=λi h h' st k=>st.keep k
 item:=by
  intro X hP hw hK B i pins s σ H E L hf st hg;subst hP hw hK;obtain⟨xs,ys,x,y,hq,Z,hx,hy⟩:=hg;obtain⟨its,rv,p,hz⟩:=L.sq hq;obtain⟨Y,aa,p2,ag⟩:=L.tuple Z;obtain⟨u,hu,ru⟩:=rv.get hx;obtain⟨u2,af,ad⟩:=aa.get hy;have hT:s.TypeIs (.ref z) "zip" :=⟨_,st.zz,rfl⟩
  unfold G2;refine a_ (w9 (k4 (name:=b_ "__next__") hT mu (li mu hT x6 (uE D st p (show s.heap.IsTuple b Y.toArray from p2) (x:=u) (y:=u2) (by simpa using hu) (by simpa using af) λg Z1 t1 n1 k1=>e_ ⟨_,rfl,?_⟩) (w5 _))))
  have ac:H s.heap.objs.size=none:=L.hok.fresh (h_ _)
  refine wpAny_letOwnedTupleGo_zip (s:={ s with heap:=g }) Z1.zz λg2 z2 s2=>?_
  have nn : ∀c∈[z,Q,O,I,J],c≠s.heap.objs.size:=λc B e=>by
   obtain⟨u',v',oo⟩:=st.oo;obtain⟨oi,i1,_⟩:=st.ii.ex;obtain⟨oj,j1,_⟩:=st.jj;simp only[i6,k_,or_false] at B;rcases B with rfl | rfl | rfl | rfl | rfl
   .exact absurd (fi st.zz) (by rw[e];exact n_ _)
   .exact absurd (fi st.pp) (by rw[e];exact n_ _)
   .exact absurd (fi oo) (by rw[e];exact n_ _)
   .exact absurd (fi i1) (by rw[e];exact n_ _)
   .exact absurd (fi j1) (by rw[e];exact n_ _)
  have Z2:iG q g2 z Q O I J a b (i+1) .none (.bool false):=by
   obtain⟨u',v',oo⟩:=Z1.oo;exact⟨z2,s2.extBut _ _ D.TIz Z1.pp,⟨u',v',s2.extBut _ _ D.TOz oo⟩,Z1.ii.extBut s2.extBut D.i1z,Z1.jj.extBut s2.extBut D.i2z⟩
  have I2:Inv X pins σ (upd H s.heap.objs.size (.tup [x,y])) { s with heap:=g2 }:=L.turnedNew (t':=s.toks) (fp:=[z,Q,O,I,J]) (λc o B e=>by
    simp only[i6,k_,or_false,not_or] at B;exact s2.extBut _ _ B.1 (k1 c o B.1 B.2.2.1 B.2.2.2.1 B.2.2.2.2 e)) hf (h_ _)
   ⟨by show 2<=g9;decide,[u,u2],.cons ru (.cons ad .nil),⟨_,s2.extBut _ _ (nn z (by simp)).symm t1,rfl,_,rfl⟩⟩
  exact⟨.ref s.heap.objs.size,_,I2,rfl,⟨_,x,y,ac,rfl,rfl,λzs ab=>by rw[L.sq_inj ab hq];exact hx,λzs ab=>by rw[L.tuple_inj ab Z];exact hy⟩,Z2,λc B=>by rw[ai (nn c B)];exact(hf c B).1⟩
 done:=by
  intro X hP hw hK B i pins s σ H E L hf st hg;subst hP hw hK;obtain⟨xs,ys,hq,Z,hx⟩:=hg;obtain⟨its,rv,p,hz⟩:=L.sq hq;obtain⟨Y,aa,p2,ag⟩:=L.tuple Z;have hT:s.TypeIs (.ref z) "zip" :=⟨_,st.zz,rfl⟩
  unfold G2;refine a_ (w9 (k4 (name:=b_ "__next__") hT mu (li mu hT x6 (yp (L.ok.hd B) D st p (show s.heap.IsTuple b Y.toArray from p2) (hx.imp (λe=>by simpa using tF rv e) λe=>by simpa using tF aa e) λg e kg he=>?_) (w5 _))))
  obtain⟨o,ho,ah⟩:=he;refine a_ (G1 (T := "StopIteration") (b:=true) ⟨o,ho,ah⟩ LD ?_)
  exact e_ ⟨rfl,L.turnedL (t':=s.toks) (fp:=[z,Q,O,I,J]) (λc o B e=>by
    simp only[i6,k_,or_false,not_or] at B;exact kg c o B.1 B.2.2.1 B.2.2.2.1 B.2.2.2.2 e) hf⟩
 self:=λ_ _ _ _ _ st h=>dk st.zz h
theorem Inv.grown {g:Heap} (I:Inv X pins σ H s) (k : ∀b o,s.heap.get? b=some o->g.get? b=some o) (B : ∀b,b < s.heap.objs.size->H' b=H b)
  (new : ∀b u,s.heap.objs.size<=b->H' b=some u->bB X.prog X.w H' g b u):Inv X pins σ H' { s with heap:=g,toks:=t' }:=by
 have lt : ∀b u,H b=some u->b < s.heap.objs.size:=λb u e=>(I.hok b u e).lt
 have F : ∀b u,H b=some u->H' b=some u:=λb u e=>(B b (lt b u e)).trans e
 refine I.step (g':=s.gens) (d':=s.drawn) (ch:=[]) (λ_ z=>nomatch z) (λb o _ _ _ e _=>k b o e) (λb o _ _ _ e _=>⟨o.slots,k b o e⟩) (λb o _ e n=>by rw[B b (fi e)];exact n)
  (λb o _ e=>⟨o,k b o e⟩) (λb xs e=>F b _ e) (λb o u e=>F b _ e) (λb ps e=>⟨#[],by rw[F b _ e];simp⟩) (λm L=>?_) (λb u e=>?_) I.bare
 .obtain⟨o,es,ep,ho,r⟩:=L
  exact⟨o,es,ep,k _ o ho,r⟩
 .by_cases hb:b < s.heap.objs.size
  .rw[B b hb] at e
   exact(I.hok b u e).stay (λc v _ q=>k c v q) (λc q=>F c _ q) (λc xs q=>F c _ q) λc _ _ q=>F c _ q
  .exact new b u (Nat.le_of_not_lt hb) e
def iZG (q:Bool) (Pr:Hp->Addr->List V->Prop) (K:fy) (ta:TA):TI:=λσ H R=>ta σ H λvs H1=>∃a b,vs=[.ref a,.ref b]/\∃xs,Pr H1 a xs/\∃ys,H1 b>>ys/\R (GU q K a b) H1
def iZ (K:fy) (ta:TA):TI:=λσ H R=>ta σ H λvs H1=>∃a b,vs=[.ref a,.ref b]/\∃xs,H1 a>>xs/\∃ys,H1 b>>ys/\R (Itz K a b) H1
section
variable {ta:TA} {p:Pos} {x1:Nat}
theorem mV:x_ "zip" = some (.type "zip"):=by decide+kernel
theorem Ey {x1} {q:Bool} {Pr:Hp->Addr->List V->Prop} (aa : ∀H a xs,Pr H a xs->SqQ q K H a xs) (hK:X.K=K) (hg:Gl X "zip") (hm:X.mg "zip" = none) (ha:PA X [e1,e2] ta) (hs:jc [e1,e2] X.env=[(false,eval e1 X.env),(false,eval e2 X.env)]:=by rfl) (F:jc [e2] X.env=[(false,eval e2 X.env)]:=by rfl) :
  PI X (.Tuple es x1 pos') (.Call (.Name "zip" p) [e1,e2] [] pos) (iZG q Pr K ta):=by
 subst hK;intro pins s σ H R I h;refine Call_ (eJ I hg hm mV (k7 (thn (ha pos pins s σ H _ I h) λus s1 ⟨vs,H1,I1,r1,q1⟩=>?_) (by rw[hs,F]) (by rw[F];rfl)))
 obtain⟨a,b,e,xs,ac,ys,ab,q⟩:=q1;subst e;obtain⟨u,u2,rfl,ru,Y⟩:=tX r1;cases ru;cases Y;obtain⟨its,rv,pl,hz⟩:=I1.sq (aa _ _ _ ac);obtain⟨B,af,L,ad⟩:=I1.tuple (SqT.of ab);refine nh pl (show s1.heap.IsTuple b B.toArray from L) λg z P O II J Z D l1 l2 l3 l4 l5 kg=>?_
 refine dk (s:={ s1 with heap:=g }) Z.zz ⟨z,[z,P,O,II,J],_,_,H1,rfl,I1.kept (t':=s1.toks) kg,Cp a b z P O II J D,Z,λc hc=>?_,q⟩
 simp only[i6,k_,or_false] at hc;rcases hc with rfl | rfl | rfl | rfl | rfl
 .exact I1.fpOk l1 (I1.hok.fresh l1)
 .exact I1.fpOk l2 (I1.hok.fresh l2)
 .exact I1.fpOk l3 (I1.hok.fresh l3)
 .exact I1.fpOk l4 (I1.hok.fresh l4)
 .exact I1.fpOk l5 (I1.hok.fresh l5)
theorem uR {x1} (hK:X.K=K) (Y:Gl X "zip") (L:X.mg "zip" = none) (ha:PA X [e1,e2] ta) (F:jc [e1,e2] X.env=[(false,eval e1 X.env),(false,eval e2 X.env)]:=by rfl) (B:jc [e2] X.env=[(false,eval e2 X.env)]:=by rfl) :
  PI X (.Tuple es x1 pos') (.Call (.Name "zip" p) [e1,e2] [] pos) (iZ K ta):=Ey (q:=false) (Pr:=λH a xs=>H a>>xs) (λ_ _ _ h=>SqT.of h) hK Y L ha F B
theorem E8 {g:TG} {Q:VK} {D:Addr} (B:Nat->List V->Hp->Prop) (h0:B 0 [] (upd H1 D (.lst []))) (hl : ∀i ys H,B i ys H->SqT K H a xs/\SqT K H b zs)
  (hs : ∀(i:Nat) (x y:V) (ys:List V) (H:Hp) (t:Addr),xs[i]? = some x->zs[i]? = some y->B i ys H->H t=none->g (.ref t) σ0 (upd H t (.tup [x,y])) λF H3=>tc F H3 λc H4=>if c=true then te F H4 λv H5=>H5 D*>ys/\ys.length < g9/\B (i+1) (ys++[v]) (upd H5 D (.lst (ys++[v]))) else B (i+1) ys H4)
  (hd : ∀ys H,B (min xs.length zs.length) ys H->Q (.ref D) H):oP (Itz K a b) σ0 g tc te Q H1 D:=by
 refine⟨λi m ys H=>B i ys H/\i<=min xs.length zs.length/\m=min xs.length zs.length - i,⟨_,h0,x5 _,rfl⟩,?_⟩
 rintro i m ys H ⟨hp,hi,rfl⟩
 obtain⟨sa,Y⟩:=hl i ys H hp
 by_cases Z:i=min xs.length zs.length
 .left
  subst Z;refine⟨⟨xs,zs,sa,Y,?_⟩,hd ys H hp⟩
  rcases le_total xs.length zs.length with h | h
  .exact .inl (y7.mpr ())
  .exact .inr (y7.mpr ())
 .right
  have h1:i < xs.length:=()
  have h2:i < zs.length:=()
  refine⟨⟨xs,zs,xs[i],zs[i],sa,Y,by simp[h1],by simp[h2]⟩,λL H'=>B (i+1) L H',λL H' h=>⟨_,(),h,(),rfl⟩,?_⟩
  rintro v H' ⟨t,x,y,ht,rfl,rfl,e1,e2⟩
  exact hs i x y ys H t (e1 xs sa) (e2 zs Y) hp ht
theorem cJ (hi:i < nt:=by decide) (L:j < nt:=by decide) (B:i≠j:=by decide):C7 (xc n (rc (eR i) (rc (eR j) Bk))) nt:=by
 intro x σ0 H Q h q;obtain⟨a,e,xs,sq,l,v,r,e2,v',r',Y,F,q⟩:=q;refine⟨a,e,xs,sq,l,v,r,e2,v',r',Y,F,(Wk.set (h i hi)).trans (Wk.set ?_),q⟩
 rw[LM B];exact h j L
theorem oq {B:St} {Q:VK} {D:Addr} (f:V->V->V) (F:H1 D=none) (ha:H1 a>>xs) (hb:H1 b>>zs) (hn:xs.length<=10000)
  (he : ∀(x y:V) (H2:Hp) (Z:VK),x∈xs->y∈zs->ap H1 H2->(∀L,ap H2 L->Z (f x y) L)->te (some x :: some y :: B) H2 Z)
  (hd : ∀H2,ap H1 H2->H2 D*>(LV f xs zs)->Q (.ref D) H2):oP (Itz K a b) (none :: none :: B) (xc 2 (rc (eR 0) (rc (eR 1) Bk))) yK te Q H1 D:=by
 refine E8 (xs:=xs) (zs:=zs) (λi ys H=>ys=LV f (xs.take i) (zs.take i)/\ap H1 H/\H D*>ys) ⟨by simp,ap.upd0 F,ae⟩ (λi ys H h=>⟨.of (h.2.1 _ _ ha),.of (h.2.1 _ _ hb)⟩) ?_ ?_
 .rintro i x y ys H t hx hy ⟨rfl,sm,hd'⟩ ht
  have st:ap H (upd H t (.tup [x,y])):=ap.upd0 ht
  refine⟨t,rfl,[x,y],ae,rfl,x,[y],rfl,y,[],rfl,rfl,?_⟩
  simp only[yK,if_true];refine he x y _ _ (gt hx) (gt hy) (sm.trans st) λH4 Y=>⟨Y _ _ (st _ _ hd'),?_,?_,λc o e=>?_,ae⟩
  .refine p_ (ja ?_ hn) ∅
   rw[List.length_zipWith,KJ];omega
  .have e1:xs.take (i+1)=xs.take i++[x]:=by rw[j6,hx];rfl
   have e2:zs.take (i+1)=zs.take i++[y]:=by rw[j6,hy];rfl
   have h1:i < xs.length:=(g_.mp hx).1
   have h2:i < zs.length:=(g_.mp hy).1
   rw[e1,e2,List.zipWith_append (by simp;omega)]
   rfl
  .rw[ai (au e F)];exact Y _ _ (st _ _ (sm c o e))
 .rintro ys H ⟨rfl,sm,hd'⟩
  refine hd H sm ?_
  rw[hd']
  congr 2
  have:LV f xs zs=LV f (xs.take (min xs.length zs.length)) (zs.take (min xs.length zs.length)):=by
   rw[<- List.take_zipWith,o6 (by rw[List.length_zipWith];exact h_ _)]
  exact this.symm
def EM (H:Hp) (ts:List Addr) (xs ys:List V):Prop:=ts.length=min xs.length ys.length/\∀(j:Nat) (t:Addr) (x y:V),ts[j]? = some t->xs[j]? = some x->ys[j]? = some y->H t>>[x,y]
def qt (ta:TA):TE:=λσ H Q=>ta σ H λvs H1=>∃a b,vs=[.ref a,.ref b]/\∃xs,H1 a>>xs/\∃ys,H1 b>>ys/\xs.length<=10000/\∀(l:Addr) (ts:List Addr) (H':Hp),ap H1 H'->H1 l=none->H' l*>(ts.map V.ref)->EM H' ts xs ys->Q (.ref l) H'
theorem tq : ∀(ts:List Addr),bo (ts.map V.ref) (ts.map i8)
 | []=>.nil
 | t :: ts=>.cons rfl (tq ts)
theorem CW {α:Type} [BEq α] [LawfulBEq α] : ∀{l:List α} {j:Nat} (_:l.Nodup) (h:j < l.length),l.idxOf? l[j]=some j
 | [],j,_,h=>absurd h (by simp)
 | x :: l,0,_,_=>by simp[idxOf?_cons]
 | x :: l,j+1,hn,h=>by
  rw[m7] at hn;have F:j < l.length:=by simpa using h
  have B : ¬ ((x == l[j])=true):=λe=>hn.1 (by rw[eq_of_beq e];exact K9 F)
  rw[List.getElem_cons_succ,idxOf?_cons,if_neg B,CW hn.2 F];rfl
theorem Ea  [BEq α] [LawfulBEq α] {l:List α} {x:α} {j:Nat} (h:l.idxOf? x=some j) : ∃Y:j < l.length,l[j]=x:=by
 induction l generalizing j with
 | nil=>simp at h
 | cons y l L =>
  rw[idxOf?_cons] at h
  split at h
  .rename_i e
   cases h;exact⟨by simp,by simpa using e⟩
  .cases e2:l.idxOf? x with
   | none=>rw[e2] at h;cases h
   | some k =>
    rw[e2] at h;cases h;obtain⟨F,B⟩:=L e2;exact⟨by simpa using F,by simpa using B⟩
theorem xy (hc:X.calm=true) (hg:Gl X "list") (hm:X.mg "list" = none) (ao:Gl X "zip") (aw:X.mg "zip" = none) (ha:PA X [e1,e2] ta) (hs:jc [e1,e2] X.env=[(false,eval e1 X.env),(false,eval e2 X.env)]:=by rfl) (ag:jc [e2] X.env=[(false,eval e2 X.env)]:=by rfl) :
  PE X (.Call (.Name "list" p) [.Call (.Name "zip" p2) [e1,e2] [] pos2] [] pos) (qt ta):=by
 intro pins s σ H Q I h;refine t5 (eJ I hg hm (by decide+kernel:x_ "list" = some (.type "list")) ?_)
 refine k7 (G3 ?_) rfl rfl
 refine t5 (eJ I ao aw mV ?_)
 refine k7 (thn (ha pos2 pins s σ H _ I h) λus F ⟨vs,H1,I1,r1,q1⟩=>?_) (by rw[hs,ag]) (by rw[ag];rfl)
 obtain⟨a,b,e,xs,au,ys,ax,az,q⟩:=q1;subst e;obtain⟨u,u2,rfl,ru,am⟩:=tX r1;cases ru;cases am;obtain⟨its,rv,pl,hz⟩:=I1.tuple (SqT.of au);obtain⟨B,ac,ah,a1⟩:=I1.tuple (SqT.of ax);have n1:=rv.length;have n2:=ac.length;refine nh (q:=false) (show F.heap.IsTuple a its.toArray from pl) (show F.heap.IsTuple b B.toArray from ah) λg z P O II J Z D l1 l2 l3 l4 l5 kg=>?_
 refine I_ ?_
 have pg:g.IsTuple a its.toArray:=(show F.heap.IsTuple a its.toArray from pl).at λo e=>kg a o e
 have aq:g.IsTuple b B.toArray:=(show F.heap.IsTuple b B.toArray from ah).at λo e=>kg b o e
 refine Ds (s:={ F with heap:=g }) (I.ok.hd hc) D Z pg aq (by simp only[j7];omega) λg2 ts a0 c k2 hz hl ay hL=>?_
 have L:F.heap.objs.size<=g.objs.size:=by have:=fi Z.zz;exact y3 (p_ l1 this)
 have kk : ∀b o,F.heap.get? b=some o->g2.get? b=some o:=λb o e=>by
  refine k2 b o (λhm=>?_) (kg b o e)
  have hb:=fi e;simp only[i6,k_,or_false] at hm;rcases hm with rfl | rfl | rfl | rfl | rfl
  .exact absurd (g7 hb l1) (n_ _)
  .exact absurd (g7 hb l2) (n_ _)
  .exact absurd (g7 hb l3) (n_ _)
  .exact absurd (g7 hb l4) (n_ _)
  .exact absurd (g7 hb l5) (n_ _)
 change rC g2 (g.objs.size+1) its.toArray B.toArray ts at hz;change g2.get? g.objs.size=_ at hL;simp only[j7] at hl
 let H2:Hp:=λc=>if c < F.heap.objs.size then H1 c else if c=g.objs.size then some (.lst (ts.map V.ref)) else
  match ts.idxOf? c with | none=>none | some j=>match xs[j]?,ys[j]? with | some x,some y=>some (.tup [x,y]) | _,_=>none
 have hold : ∀c,c < F.heap.objs.size->H2 c=H1 c:=λc hc=>if_pos hc
 have an : ¬ g.objs.size < F.heap.objs.size:=not_lt.mpr L
 have aa:H2 g.objs.size*>(ts.map V.ref):=by show(if _ then _ else _)=_;rw[if_neg an,if_pos rfl]
 have ar:ts.length<=10000:=()
 have aj : ∀(j:Nat) (t:Addr) (x y:V),ts[j]? = some t->xs[j]? = some x->ys[j]? = some y->H2 t>>[x,y]:=λj t x y e1 e2 e3=>by
  obtain⟨_,_,_,_,_,ad⟩:=hz.2 j t e1;have hj:j < ts.length:=(g_.mp e1).1
  have Y:ts.idxOf? t=some j:=by
   have e4:=(g_.mp e1).2;rw[<- e4];exact CW hz.1 hj
  show(if _ then _ else _)=_
  rw[if_neg (not_lt.mpr (ja L (ja (le_succ _) ad))),if_neg (nH ad)];rw[Y];simp only[e2,e3]
 have af : ∀c u,F.heap.objs.size<=c->H2 c=some u->bB X.prog X.w H2 g2 c u:=λc u hc e=>by
  by_cases ak:c=g.objs.size
  .subst ak
   rw[aa] at e;cases e;exact⟨by rw[d_];exact ja ar ∅,ts.map i8,_,tq ts,by rw[hL,<- ay]⟩
  .change (if _ then _ else _)=_ at e
   rw[if_neg (not_lt.mpr hc),if_neg ak] at e;cases Y:ts.idxOf? c with
   | none=>rw[Y] at e;cases e
   | some j =>
    rw[Y] at e;obtain⟨hj,ej⟩:=Ea Y;have e1:ts[j]? = some c:=by rw[ki hj,ej]
    obtain⟨vx,vy,h1,h2,h3,_⟩:=hz.2 j c e1;simp only[G5] at h1 h2;obtain⟨x,hx⟩ : ∃x,xs[j]? = some x:=⟨xs[j]'(by rw[n1];exact(g_.mp h1).1),by simp⟩
    obtain⟨y,hy⟩ : ∃y,ys[j]? = some y:=⟨ys[j]'(by rw[n2];exact(g_.mp h2).1),by simp⟩
    simp only[hx,hy] at e;cases e;obtain⟨v1,ai,rx⟩:=rv.get hx;obtain⟨v2,ab,ry⟩:=ac.get hy;rw[h1] at ai;rw[h2] at ab;cases ai;cases ab;exact⟨by show 2<=g9;decide,[vx,vy],.cons rx (.cons ry .nil),⟨_,h3,rfl,_,rfl⟩⟩
 refine⟨.ref g.objs.size,H2,I1.grown (t':=F.toks) kk hold af,rfl,q g.objs.size ts H2 (λb o e=>by rw[hold b (I1.hok b o e).lt];exact e) (I1.hok.fresh L) aa ⟨(),aj⟩⟩
end
end L2
namespace PyProof.Rows
open PySem PySem.Spec
theorem By {t:Addr} {xs:Array (Int × Tok)} (Z:A.handled=none) (hl:s.heap.IsTuple t (Lr xs)) (F:0 < xs.size)
  (k : ∀v g tk,(Lr xs)[argBest (λi j=>decide (numAt xs i < numAt xs j)) (xs.size - 1)]? = some v->(∀b o,s.heap.get? b=some o->g.get? b=some o)->Q v { s with heap:=g,toks:=tk }):wpAny (model prog w) A (call (.builtin "min") [.ref t]) Q E s:=by
 obtain⟨ot,h1,_⟩:=id hl;refine call_min_walk (u_ hl ?_)
 refine⟨s.heap.objs.size,_,_,_,_,_,_,rfl,Walks.tuple (A:=A.in1) Z _ t (k9 (fi h1)) (Lr xs),⟨⟨_,gr _ rfl,rfl,rfl⟩,hl.at λo e=>c_ _ e⟩,λb B=>?_,by simpa [Lr] using F,CmpOf.ints_lt (numAt xs) (λ_ _=>intItems_at),λv g tk hP Y=>k v g tk (by simpa [Lr] using hP) λb o e=>?_⟩
 .have sz:(s.heap.push { cls:=.type "tuple_iterator",data:=.fields #[.ref t,.int 0 0] }).objs.size=s.heap.objs.size+1:=n6 ..
  show b < (s.heap.push { cls:=.type "tuple_iterator",data:=.fields #[.ref t,.int 0 0] }).objs.size
  rw[sz];rcases i6.mp B with rfl | B
  .exact D_ _
  .rw[fx.mp B];exact Ld (fi h1)
 .exact Y b o (λL=>absurd (fx.mp L ▸ fi e) (n_ _)) (c_ _ e)
theorem DG {t:Addr} {xs:Array (Int × Tok)} (Z:A.handled=none) (hl:s.heap.IsTuple t (Lr xs)) (F:0 < xs.size)
  (k : ∀v g tk,(Lr xs)[argBest (λi j=>decide (numAt xs i > numAt xs j)) (xs.size - 1)]? = some v->(∀b o,s.heap.get? b=some o->g.get? b=some o)->Q v { s with heap:=g,toks:=tk }):wpAny (model prog w) A (call (.builtin "max") [.ref t]) Q E s:=by
 obtain⟨ot,h1,_⟩:=id hl;refine call_max_walk (u_ hl ?_)
 refine⟨s.heap.objs.size,_,_,_,_,_,_,rfl,Walks.tuple (A:=A.in1) Z _ t (k9 (fi h1)) (Lr xs),⟨⟨_,gr _ rfl,rfl,rfl⟩,hl.at λo e=>c_ _ e⟩,λb B=>?_,by simpa [Lr] using F,CmpOf.ints_gt (numAt xs) (λ_ _=>intItems_at),λv g tk hP Y=>k v g tk (by simpa [Lr] using hP) λb o e=>?_⟩
 .have sz:(s.heap.push { cls:=.type "tuple_iterator",data:=.fields #[.ref t,.int 0 0] }).objs.size=s.heap.objs.size+1:=n6 ..
  show b < (s.heap.push { cls:=.type "tuple_iterator",data:=.fields #[.ref t,.int 0 0] }).objs.size
  rw[sz];rcases i6.mp B with rfl | B
  .exact D_ _
  .rw[fx.mp B];exact Ld (fi h1)
 .exact Y b o (λL=>absurd (fx.mp L ▸ fi e) (n_ _)) (c_ _ e)
end PyProof.Rows
namespace L2
open PySem PySem.Spec PyProof.Rows
def Cb:List V->Hp->VK->Prop:=λxs H Q=>∃p,xs=[.ref p]/\∃ns:List Int,H p>>(ns.map V.int)/\ns≠[]/\∀m,m∈ns->(∀x∈ns,m<=x)->Q (.int m) H
def Bv:List V->Hp->VK->Prop:=λxs H Q=>∃p,xs=[.ref p]/\∃ns:List Int,H p>>(ns.map V.int)/\ns≠[]/\∀m,m∈ns->(∀x∈ns,x<=m)->Q (.int m) H
def Dp:List V->Hp->VK->Prop:=λxs H Q=>∃p,xs=[.ref p]/\∃ns:List Int,H p*>(ns.map V.int)/\ns≠[]/\∀m,m∈ns->(∀x∈ns,m<=x)->Q (.int m) H
def C1:List V->Hp->VK->Prop:=λxs H Q=>∃p,xs=[.ref p]/\∃ns:List Int,H p*>(ns.map V.int)/\ns≠[]/\∀m,m∈ns->(∀x∈ns,x<=m)->Q (.int m) H
theorem zh {xs:Array (Int × Tok)} (B:ns=xs.toList.map (·.1)) (L:0 < xs.size):numAt xs (argBest (λi j=>decide (numAt xs i < numAt xs j)) (xs.size - 1))∈ns/\∀a∈ns,numAt xs (argBest (λi j=>decide (numAt xs i < numAt xs j)) (xs.size - 1))<=a:=by
 obtain⟨h1,h2⟩:=argBest_lt (numAt xs) (xs.size - 1);refine⟨?_,λa ha=>?_⟩
 .rw[B,numAt_eq];exact PySem.getD_mem (by rw[d_,zc];omega)
 .rw[B] at ha
  obtain⟨j,F,rfl⟩:=mem_getD ha;rw[d_,zc] at F;rw[<- numAt_eq];exact h2 j ()
theorem zT {xs:Array (Int × Tok)} (B:ns=xs.toList.map (·.1)) (L:0 < xs.size):numAt xs (argBest (λi j=>decide (numAt xs i > numAt xs j)) (xs.size - 1))∈ns/\∀a∈ns,a<=numAt xs (argBest (λi j=>decide (numAt xs i > numAt xs j)) (xs.size - 1)):=by
 obtain⟨h1,h2⟩:=argBest_gt (numAt xs) (xs.size - 1);refine⟨?_,λa ha=>?_⟩
 .rw[B,numAt_eq];exact PySem.getD_mem (by rw[d_,zc];omega)
 .rw[B] at ha
  obtain⟨j,F,rfl⟩:=mem_getD ha;rw[d_,zc] at F;rw[<- numAt_eq];exact h2 j ()
theorem iQ (hi:IntsAre its ns) (F:ns≠[]) : ∃xs:Array (Int × Tok),its.toArray=Lr xs/\ns=xs.toList.map (·.1)/\0 < xs.size:=by
 obtain⟨xs,e⟩:=hi.allInts.items;have B:ns=xs.toList.map (·.1):=by rw[<- hi.numsOf,<- nums_intItems,<- e]
 refine⟨xs,e,B,?_⟩
 have L:=K4.mpr F;rw[B,d_,zc] at L;exact L
theorem tT (hc:X.calm=true):bY X (.builtin "min") Cb:=by
 intro pins s σ H xs us Q I r h;obtain⟨p,rfl,ns,hp,F,q⟩:=h;obtain⟨u,rfl,ru⟩:=cV r;cases ru;obtain⟨its,rv,pl,hz⟩:=I.tuple (SqT.of hp);obtain⟨xs,e,L,Y⟩:=iQ (fE rv) F;have B:s.heap.IsTuple p its.toArray:=pl
 rw[e] at B;refine By (I.ok.hd hc) B Y λv g tk hv hk=>?_
 obtain⟨t,rfl⟩:=intItems_at hv;obtain⟨b1,Z⟩:=zh L Y;exact⟨V.int _,H,I.kept (t':=tk) hk,⟨t,rfl⟩,q _ b1 Z⟩
theorem AW (hc:X.calm=true):bY X (.builtin "max") Bv:=by
 intro pins s σ H xs us Q I r h;obtain⟨p,rfl,ns,hp,F,q⟩:=h;obtain⟨u,rfl,ru⟩:=cV r;cases ru;obtain⟨its,rv,pl,hz⟩:=I.tuple (SqT.of hp);obtain⟨xs,e,L,Y⟩:=iQ (fE rv) F;have B:s.heap.IsTuple p its.toArray:=pl
 rw[e] at B;refine DG (I.ok.hd hc) B Y λv g tk hv hk=>?_
 obtain⟨t,rfl⟩:=intItems_at hv;obtain⟨b1,Z⟩:=zT L Y;exact⟨V.int _,H,I.kept (t':=tk) hk,⟨t,rfl⟩,q _ b1 Z⟩
theorem nY (hc:X.calm=true):bY X (.builtin "min") Dp:=by
 intro pins s σ H xs us Q I r h;obtain⟨p,rfl,ns,hp,F,q⟩:=h;obtain⟨u,rfl,ru⟩:=cV r;cases ru;obtain⟨its,rv,pl,hz⟩:=I.list (SqL.of hp);obtain⟨xs,e,L,Y⟩:=iQ (fE rv) F;have B:=pl.isList;rw[e] at B;refine min_intList (I.ok.hd hc) B Y λv g tk hv hk=>?_
 obtain⟨t,rfl⟩:=intItems_at hv;obtain⟨b1,Z⟩:=zh L Y;exact⟨V.int _,H,I.kept (t':=tk) hk,⟨t,rfl⟩,q _ b1 Z⟩
theorem sX (hc:X.calm=true):bY X (.builtin "max") C1:=by
 intro pins s σ H xs us Q I r h;obtain⟨p,rfl,ns,hp,F,q⟩:=h;obtain⟨u,rfl,ru⟩:=cV r;cases ru;obtain⟨its,rv,pl,hz⟩:=I.list (SqL.of hp);obtain⟨xs,e,L,Y⟩:=iQ (fE rv) F;have B:=pl.isList;rw[e] at B;refine max_intList (I.ok.hd hc) B Y λv g tk hv hk=>?_
 obtain⟨t,rfl⟩:=intItems_at hv;obtain⟨b1,Z⟩:=zT L Y;exact⟨V.int _,H,I.kept (t':=tk) hk,⟨t,rfl⟩,q _ b1 Z⟩
def JI (H:Hp) (p:Addr) (ys:List V):Prop:=H p*>ys\/H p>>ys
def yg:List V->Hp->VK->Prop:=λxs H Q=>∃p,xs=[.ref p]/\∃ys,JI H p ys/\∀l,H l=none->Q (.ref l) (upd H l (.lst ys))
theorem yu:bY X (.type "list") yg:=lZ.imp λ_ _ _ B=>by obtain⟨p,e,ys,h,q⟩:=B;exact(⟨p,ys,e,h.imp .of .of,q⟩)
def inD (d:Ma) (ds:List Ma):Bool:=ds.any λe=>KN e d
def Gq (K:fy) (B:Bool):R2:=λx y H Q=>∃dx ds,Rep K H x dx/\Rep K H y (.tuple ds)/\dx.canLay0=true/\B_ ds=true/\dx.depth<=100/\Q (.bl (if B then !inD dx ds else inD dx ds)) H
def GA (K:fy) (B:Bool):R2:=λx y H Q=>∃dx ds,Rep K H x dx/\Rep K H y (.list ds)/\dx.canLay0=true/\B_ ds=true/\dx.depth<=100/\Q (.bl (if B then !inD dx ds else inD dx ds)) H
theorem zE (hu:X.A.units+102 < cLine):OpR X (s_ .In) (Gq X.K false):=by
 intro pins s σ H x y v u Q I rx F h;obtain⟨dx,ds,h1,h2,Y,B,h5,q⟩:=h;obtain⟨as,L⟩:=I.reads h1 rx;obtain⟨bs,Z⟩:=I.reads h2 F;exact PySem.SeqAt.in_tuple_reads Z L B Y () ⟨.bl _,H,I,rfl,q⟩
theorem ye (hu:X.A.units+102 < cLine):OpR X (s_ .NotIn) (GA X.K true):=by
 intro pins s σ H x y v u Q I rx F h;obtain⟨dx,ds,h1,h2,Y,B,h5,q⟩:=h;obtain⟨as,L⟩:=I.reads h1 rx;obtain⟨bs,Z⟩:=I.reads h2 F;exact PySem.SeqAt.notIn_list_reads Z L B Y () ⟨.bl _,H,I,rfl,q⟩
theorem CA (B:cU k A):A.units+102 < cLine:=by have:=B.un;omega
theorem lay_ints : ∀ns:List Int,B_ (ns.map Gt)=true
 | []=>rfl
 | n :: ns=>by
  rw[j8];unfold B_;rw[lay_ints ns];rfl
theorem depth_ints : ∀ns:List Int,PyData.depthAll (ns.map Gt)=0
 | []=>rfl
 | n :: ns=>by
  rw[j8];unfold PyData.depthAll;rw[depth_ints ns];rfl
def ke (r:List Int):Ma:=.tuple (r.map Gt)
theorem lN (r:List Int):(ke r).canLay0=true:=by unfold ke PyData.canLay0;exact lay_ints r
theorem on (r:List Int):(ke r).depth<=1:=by unfold ke PyData.depth;rw[depth_ints];decide
theorem oF : ∀(a b:List Int),LU (a.map Gt) (b.map Gt)=decide (a=b)
 | [],[]=>rfl
 | [],_ :: _=>by simp[LU]
 | _ :: _,[]=>by simp[LU]
 | x :: a,y :: b=>by
  rw[j8,j8];unfold LU;rw[oF a b];have:KN (.int x) (.int y)=decide (x=y):=by
   simp only[KN];rw[o7];simp
  rw[this]
  by_cases h:x=y <;> by_cases h2:a=b <;> simp[h,h2]
theorem zm (a b:List Int):KN (ke a) (ke b)=decide (a=b):=by
 unfold ke;unfold KN;exact oF a b
theorem qX : ∀B:List (List Int),B_ (B.map ke)=true
 | []=>rfl
 | r :: B=>by
  rw[j8];unfold B_;rw[qX B,lN];rfl
theorem wg (r:List Int) (B:List (List Int)):inD (ke r) (B.map ke)=decide (r∈B):=by
 unfold inD
 induction B with
 | nil=>rfl
 | cons q B F =>
  rw[j8,any_cons,F,zm]
  by_cases h:q=r
  .simp[h]
  .simp[h]
   exact λe=>absurd e.symm h
def ipM:TIp:=λx y H Q=>∃i,x = .int i/\∃j,y = .int j/\Du i j/\Q (.int (i * j)) H
theorem Il:PIp X .Mult ipM:=by
 intro pins s σ H x y v u Q I F L h;obtain⟨i,rfl,j,rfl,B,q⟩:=h;obtain⟨t,rfl⟩:=F;obtain⟨t',rfl⟩:=L;exact imul_int ⟨.int _,H,I.tok _,⟨_,rfl⟩,q⟩ B.ok
def eo (H:Hp) (vs:List V) (rows:List (List Int)):Prop:=∃as:List (Addr × List Int),vs=as.map (λx=>V.ref x.1)/\rows=as.map (·.2)/\∀x∈as,H x.1>>(x.2.map V.int)
theorem eo.nil:eo H [] []:=⟨[],rfl,rfl,λx B=>by simp at B⟩
theorem eo.keep (h:eo H vs rows) (k : ∀a xs,H a>>xs->H' a>>xs):eo H' vs rows:=by
 obtain⟨as,h1,h2,B⟩:=h;exact⟨as,h1,h2,λx F=>k _ _ (B x F)⟩
theorem eo.snoc {t:Addr} {r:List Int} (h:eo H vs rows) (F:H t>>(r.map V.int)):eo H (vs++[.ref t]) (rows++[r]):=by
 obtain⟨as,h1,h2,B⟩:=h;refine⟨as++[(t,r)],by simp[h1],by simp[h2],λx L=>?_⟩
 rcases j9.mp L with z | z
 .exact B x z
 .rw[fx.mp z];exact F
theorem eo.length {H:Hp} {vs:List V} {rows:List (List Int)} (h:eo H vs rows):vs.length=rows.length:=by
 obtain⟨as,h1,h2,B⟩:=h;rw[h1,h2,d_,d_]
theorem eo.reps (h:eo H vs rows):jK K H vs (rows.map ke):=by
 obtain⟨as,rfl,rfl,B⟩:=h
 induction as with
 | nil=>exact .nil
 | cons x as F=>exact .cons (.tup (.of (B x (by simp))) (jK.ints _)) (F λy L=>B y (by simp[L]))
theorem zK {t w:Addr} {r:List Int} {Q:VK} (F:H t>>(r.map V.int)) (L:H w>>vs) (B:eo H vs rows) (q:Q (.bl (decide (r∈rows))) H):Gq K false (.ref t) (.ref w) H Q :=
 ⟨ke r,rows.map ke,.tup (.of F) (jK.ints r),.tup (.of L) B.reps,lN r,qX rows,ja (on r) ∅,by rw[wg];exact q⟩
theorem xT {t w:Addr} {r:List Int} {Q:VK} (F:H t>>(r.map V.int)) (L:H w*>vs) (B:eo H vs rows) (q:Q (.bl (!decide (r∈rows))) H):GA K true (.ref t) (.ref w) H Q :=
 ⟨ke r,rows.map ke,.tup (.of F) (jK.ints r),.lst (.of L) B.reps,lN r,qX rows,ja (on r) ∅,by rw[wg];exact q⟩
end L2
namespace PySem
open AutoSeq1 (wpAny_loadPart')
theorem Draws.tup (Y:A.handled=none) (J T:Addr) (B:T≠J) (vs:Array Value) :
  Draws prog w A J [J,T] vs.size (λi v=>vs[i]? = some v) (λi h=>h.IsTupleIter J T i/\h.IsTuple T vs) where
 live:=λ_ _ st=>let ⟨o,ho,_⟩:=st.1;⟨o,ho⟩
 frame:=λ_ _ _ st L=>⟨st.1.at λo e=>L J (by simp) o e,st.2.at λo e=>L T (by simp) o e⟩
 item:=λi s Q E hi st F=>iX st.1 st.2 (y8 hi) λg a b=>F _ g s.toks (y8 hi) ⟨a,st.2.at λo e=>(b.2 T B).trans e⟩ b
 done:=λs Q E st F=>eN Y st.1 st.2 (v_ (h_ _)) F
theorem yd (T:Addr) (vs:Array Value) (n:Nat) (Y:Option Addr) (sl:Array (Option Value)) :
  Meets (Builtin.«enumerate.__new__» ⟨[.type "enumerate",.ref T],[]⟩) (λ_ R s=>s.heap.get? T=some { cls:=.type "tuple",dict:=Y,data:=.seq vs n,slots:=sl } /\
   R (.ok (.ret (.ref (s.heap.push { cls:=.type "tuple_iterator",data:=.fields #[.ref T,.int 0 0] }).objs.size)))
    { s with heap:=(s.heap.push { cls:=.type "tuple_iterator",data:=.fields #[.ref T,.int 0 0] }).push { cls:=.type "enumerate",data:=.fields #[.none,.bool false,.ref s.heap.objs.size,x4 0,.none,.none] } }) :=
 .of_wp λprog w A R s h=>by
  obtain⟨hp,g,d,tk,Z⟩:=s;obtain⟨B,h⟩:=h;have L:=sub_enumerate;have F:Mb (Shared.heap ⟨hp,g,d,tk,Z⟩) T vs:=⟨_,B,rfl,n,rfl⟩
  wp_walk using wpAny_loadPart' B
  refine wpAny_stack_any λst=>e_ ?_
  split
  .rename_i c _ _ _ _ _
   cases (c == FS "enumerate")
   .wp_walk using wpAny_loadPart' B,u_ F
    exact⟨_,rfl,h⟩
   .wp_walk using wpAny_loadPart' B,u_ F
    exact⟨_,rfl,h⟩
  .wp_walk using wpAny_loadPart' B,u_ F
   exact⟨_,rfl,h⟩
theorem xY {vs:Array Value} (ht:s.heap.IsTuple T vs)
  (k : ∀g e J,IsEnum g e J 0 .none->g.IsTupleIter J T 0->e≠J->s.heap.objs.size<=e->s.heap.objs.size<=J->(∀b o,s.heap.get? b=some o->g.get? b=some o)->Q (.ref e) { s with heap:=g }) :
  wpAny (model prog w) A (call (.type "enumerate") [.ref T]) Q E s:=by
 obtain⟨⟨cls,Z,data,sl⟩,h1,h2,n,B⟩:=ht;simp only at h2 B;subst h2 B;refine callType_new F.called_enumerate ∅ (F.typeCall_enumerate_1 _) (F.newCall_enumerate_1 _) (λobj=>F.args_object_init_2 obj _) F.entry_enumerate_new (yd T vs n Z sl) ⟨h1,?_⟩
 have Y:(s.heap.push { cls:=.type "tuple_iterator",data:=.fields #[.ref T,.int 0 0] }).objs.size=s.heap.objs.size+1:=n6 ..
 have L:((s.heap.push { cls:=.type "tuple_iterator",data:=.fields #[.ref T,.int 0 0] }).push { cls:=.type "enumerate",data:=.fields #[.none,.bool false,.ref s.heap.objs.size,x4 0,.none,.none] }).get? (s.heap.push { cls:=.type "tuple_iterator",data:=.fields #[.ref T,.int 0 0] }).objs.size=some _:=gr _ rfl
 have g2:((s.heap.push { cls:=.type "tuple_iterator",data:=.fields #[.ref T,.int 0 0] }).push { cls:=.type "enumerate",data:=.fields #[.none,.bool false,.ref s.heap.objs.size,x4 0,.none,.none] }).get? s.heap.objs.size=some _:=c_ _ (gr _ rfl)
 refine⟨⟨_,L,rfl⟩,k _ _ s.heap.objs.size L ⟨_,g2,rfl,rfl⟩ ?_ ?_ (h_ _) λb o e=>c_ _ (c_ _ e)⟩
 .rw[Y];exact Nat.succ_ne_self _
 .rw[Y];exact le_succ _
theorem AI:H_ (.type "tuple") "__reversed__" = pure none:=by rw[x3,p8];kernel_rfl
theorem oZ:H_ (.type "tuple") "__getitem__" = pure (some (.builtin "tuple.__getitem__")):=by rw[x3,p8];kernel_rfl
theorem yN:isSubtype (.type "tuple") (.type "dict")=pure false:=by rw[Lz];kernel_rfl
def oz (h:Heap) (z T:Addr) (i:Int):Prop:=h.get? z=some { cls:=.type "reversed",dict:=none,data:=.fields #[.ref T,x4 i],slots := #[] }
theorem C4 (T:Addr) (vs:Array Value):Meets (Builtin.«reversed.__new__» ⟨[.type "reversed",.ref T],[]⟩) (λ_ R s=>s.heap.IsTuple T vs/\(vs.size:Int) < 2 ^ 63 /\
   ∀tk,R (.ok (.ret (.ref s.heap.objs.size))) { s with heap:=s.heap.push { cls:=.type "reversed",data:=.fields #[.ref T,x4 ((vs.size:Int) - 1)] },toks:=tk }) :=
 .of_wp λprog w A R s h=>by
  obtain⟨F,L,k⟩:=h;have B:s.TypeIs (.ref T) "tuple" := let ⟨o,h1,h2,_⟩:=F;⟨o,h1,h2⟩
  unfold Builtin.«reversed.__new__»;refine a_ (Lq (newClass_reversed _) ?_)
  refine a_ (Lq (a:=Unit.unit) (by first | rfl | kernel_rfl) ?_)
  refine a_ (Lq (a:=Unit.unit) (by first | rfl | kernel_rfl) ?_)
  refine a_ (y6 B AI ?_)
  refine a_ (by
   change wpAny _ _ (isInstance (i8 T) (.type "dict") >>= _) _ _ _;refine a_ (G1 (T := "tuple") (b:=false) B yN ?_)
   simp only[i9,if_false];refine a_ (y6 B oZ ?_)
   refine e_ ?_
   simp only[Bool.not_true,i9,if_false];refine a_ (PyProof.Rows.len_tuple F L (a_ (Lq (a:=some ((vs.size:Nat):Int)) (by rfl) (a_ ?_))))
   change wpAny _ _ (newObj (.type "reversed") (.fields #[i8 T,x4 ((vs.size:Int) - 1)])) _ _ _;exact w4 (e_ ⟨_,rfl,k _⟩))
theorem yr:Slot "reversed" "__init__" "object.__init__" :=
 .of (owner := "object") (n := "__init__") (by rw[x3,p8];kernel_rfl) (by decide+kernel) (by decide+kernel) (by decide+kernel) (by first | exact .inl (by decide+kernel) | exact .inr (by decide+kernel)) (by rw[Lz];kernel_rfl)
theorem gy:Slot "reversed" "__next__" "reversed.__next__" :=
 .of (owner := "reversed") (n := "__next__") (by rw[x3,p8];kernel_rfl) (by decide+kernel) (by decide+kernel) (by decide+kernel) (by first | exact .inl (by decide+kernel) | exact .inr (by decide+kernel)) (by rw[Lz];kernel_rfl)
theorem rA:Slot "reversed" "__iter__" "reversed.__iter__" :=
 .of (owner := "reversed") (n := "__iter__") (by rw[x3,p8];kernel_rfl) (by decide+kernel) (by decide+kernel) (by decide+kernel) (by first | exact .inl (by decide+kernel) | exact .inr (by decide+kernel)) (by rw[Lz];kernel_rfl)
theorem oX:entryFor table "reversed.__next__" = some Builtin.«reversed.__next__» := entryFor_of_tree (by kernel_rfl)
theorem vR:entryFor table "reversed.__iter__" = some Builtin.«dict_keyiterator.__iter__» :=
 entryFor_alias (id' := "dict_keyiterator.__iter__") (by kernel_rfl) (by first | rfl | decide+kernel | (unfold String.splitOn;simp+decide [String.splitOnAux])) (by decide+kernel) (by kernel_rfl)
theorem rF (a:Value):argsOk "reversed.__next__" ⟨[a],[]⟩:=by unfold argsOk;kernel_rfl
theorem xU (a:Value):argsOk "reversed.__iter__" ⟨[a],[]⟩:=by unfold argsOk;kernel_rfl
theorem xV:TypeCalled "reversed" "reversed.__new__" "object.__init__" :=
 ⟨by decide+kernel,by decide+kernel,⟨_,_,F.mro_reversed⟩,F.made_reversed,by decide+kernel,F.sub_reversed_self,yr⟩
theorem Bg {vs:Array Value} (Y:s.heap.IsTuple T vs) (L:(vs.size:Int) < 2 ^ 63)
  (k : ∀g tk,oz g s.heap.objs.size T ((vs.size:Int) - 1)->(∀b o,s.heap.get? b=some o->g.get? b=some o)->Q (.ref s.heap.objs.size) { s with heap:=g,toks:=tk }) :
  wpAny (model prog w) A (call (.type "reversed") [.ref T]) Q E s:=by
 refine callType_new xV ∅ (F.typeCall_reversed_1 _) (F.newCall_reversed_1 _) (λobj=>F.args_object_init_2 obj _) F.entry_reversed_new (C4 T vs) ⟨Y,L,λtk=>?_⟩
 have B:(s.heap.push { cls:=.type "reversed",data:=.fields #[.ref T,x4 ((vs.size:Int) - 1)] }).get? s.heap.objs.size=some _:=gr _ rfl
 exact⟨⟨_,B,rfl⟩,k _ _ B λb o e=>c_ _ e⟩
theorem wr {i:Int} (F:oz s.heap z T i) (h:Q (.ref z) s):wpAny (model prog w) A (pyIter (.ref z)) Q E s:=by
 have B:s.TypeIs (.ref z) "reversed" :=⟨_,F,rfl⟩
 refine wpAny_pyIter_slot B rA (li rA B vR (by
  show wpAny _ _ (ret (.ref z)) _ _ s
  exact e_ ⟨_,rfl,"reversed",_,B,gy.lookup,h⟩) (xU _))
theorem CU {vs:Array Value} {x:Value} {Q:Option Value->Shared->Prop} (B:oz s.heap z T (i:Int)) (Y:s.heap.IsTuple T vs) (Z:vs[i]? = some x) (hsz:(vs.size:Int) < 2 ^ 62)
  (k : ∀g tk,oz g z T ((i:Int) - 1)->Lv z s.heap g->Q (some x) { s with heap:=g,toks:=tk }):wpAny (model prog w) A (G2 (.ref z)) Q E s:=by
 have F:s.TypeIs (.ref z) "reversed" :=⟨_,B,rfl⟩
 have L:s.TypeIs (.ref T) "tuple" := let ⟨o,h1,h2,_⟩:=Y;⟨o,h1,h2⟩
 have hi:i < vs.size:=(Array.getElem?_eq_some_iff.mp Z).1
 unfold G2;refine a_ (w9 (k4 (name:=b_ "__next__") F gy (li gy F oX (by
  unfold Builtin.«reversed.__next__»;refine a_ (Lq (a:=(i8 z,[])) rfl ?_)
  change wpAny _ _ (field (.ref z) 0 >>= _) _ _ _;refine a_ (m8 B rfl (x:=.ref T) rfl ?_)
  change wpAny _ _ (field (.ref z) 1 >>= _) _ _ _;refine a_ (m8 B rfl (x:=x4 (i:Int)) rfl ?_)
  change wpAny _ _ (if (i:Int) < 0 then _ else _) _ _ _;rw[if_neg ()]
  refine a_ (y6 L oZ ?_)
  simp only[isNone_some,i9,if_false];refine a_ (wpAny_mkInt (a_ (w9 ?_)))
  refine PyProof.Rows.getItem_tuple (s:={ s with toks:=s.toks+1 }) Y () () (j:=i) (seqIndex_of () ()) Z ?_
  change wpAny _ _ (field (.ref z) 1 >>= _) _ _ _;refine a_ (m8 B rfl (x:=x4 (i:Int)) rfl ?_)
  refine a_ (t6 (s:={ s with toks:=s.toks+1 }) B (by simp) λg g1 g2=>e_ ⟨_,rfl,e_ (k g _ g1 g2)⟩)) (rF _))))
theorem EE {i:Int} {Q:Option Value->Shared->Prop} (Y:A.handled=none) (F:oz s.heap z T i) (hi:i < 0) (k : ∀g,L0 z s.heap g->Q none { s with heap:=g }):wpAny (model prog w) A (G2 (.ref z)) Q E s:=by
 have B:s.TypeIs (.ref z) "reversed" :=⟨_,F,rfl⟩
 unfold G2;refine a_ (w9 (k4 (name:=b_ "__next__") B gy (li gy B oX (by
  unfold Builtin.«reversed.__next__»;refine a_ (Lq (a:=(i8 z,[])) rfl ?_)
  change wpAny _ _ (field (.ref z) 0 >>= _) _ _ _;refine a_ (m8 F rfl (x:=.ref T) rfl ?_)
  change wpAny _ _ (field (.ref z) 1 >>= _) _ _ _;refine a_ (m8 F rfl (x:=x4 i) rfl ?_)
  change wpAny _ _ (if i < 0 then _ else _) _ _ _;rw[if_pos hi];refine a_ (LN (a_ ?_))
  change wpAny _ _ (setField (.ref z) 1 (x4 (-1)) >>= λ_=>setField (.ref z) 0 .none) _ _ _
  refine a_ (t6 F (by simp) λg1 Z s1=>?_)
  refine t6 Z (by simp) λg2 z2 s2=>?_
  first
  | change wpAny _ _ (newExc (.type "StopIteration") [] >>= _) _ _ _
  | (refine a_ ?_;change wpAny _ _ (newExc (.type "StopIteration") [] >>= _) _ _ _)
  refine a_ ?_
  simp only[newExc,newTuple];refine a_ (w4 ?_ (by size_fits))
  refine a_ (m:=firstArgMember _ _) (Lq (a:=u9) (by first | rfl | (simp only[firstArgMember];rfl)) ?_)
  refine w4 ?_ (by size_fits)
  (simp only[raiseNew];refine a_ (wpAny_handled ?_))
  first | rw[show A.in1.handled=none from Y] | rw[Y]
  refine a_ (e_ (wpAny_throw ?_))
  refine a_ (G1 (T := "StopIteration") (b:=true) ⟨_,gr _ rfl,rfl⟩ LD ?_)
  exact e_ (k _ λb o L e=>c_ _ (c_ _ (s2.extBut _ _ L (s1.extBut _ _ L e))))) (rF _))))
end PySem
namespace L2
open PySem PySem.Spec PyProof.Rows
def Ite (K:fy) (a:Addr):It :=
  ⟨λi H=>∃xs x,SqT K H a xs/\xs[i]? = some x,
   λi H v H'=>∃t x,H t=none/\v = .ref t/\H'=upd H t (.tup [.int (i:Nat),x])/\∀xs,SqT K H a xs->xs[i]? = some x,
   λi H=>∃xs,SqT K H a xs/\xs.length=i⟩
theorem yo {x1} {pos:Pos} (a e J:Addr) (Z:e≠J) :
  mQ P w K (.Tuple es x1 pos) (Ite K a) [e,J] e (λi h=>(∃F,IsEnum h e J i F)/\h.IsTupleIter J a i) where
 mem:=by simp
 obj:=λi h st c B=>by
  obtain⟨⟨F,he⟩,oi,i1,i2,i3⟩:=st;simp only[i6,k_,or_false] at B;rcases B with rfl | rfl
  .exact⟨_,he,λv z=>by cases z⟩
  .exact⟨oi,i1,λv z=>by rw[i3] at z;cases z⟩
 keep:=λi h h' st k=>by
  obtain⟨⟨F,he⟩,hi⟩:=st;exact⟨⟨F,k e (by simp) _ he⟩,hi.at λo q=>k J (by simp) o q⟩
 item:=by
  intro X hP hw hK B i pins s σ H E L hf st hg;subst hP hw hK;obtain⟨xs,x,hq,hx⟩:=hg;obtain⟨its,rv,p,hz⟩:=L.tuple hq;obtain⟨u,hu,ru⟩:=rv.get hx;obtain⟨⟨F,he⟩,hi⟩:=st;have pl:s.heap.IsTuple a its.toArray:=p
  have Y:a≠J:=λz=>by
   obtain⟨o1,q1,q2,_⟩:=hi;obtain⟨o2,q3,q4,_⟩:=id pl;rw[<- z,q3] at q1;cases q1;rw[q4] at q2;exact absurd q2 (by simp)
  have aj:e∉[J,a]:=λhm=>by
   rcases i6.mp hm with z | z
   .exact Z z
   .have z:=fx.mp z
    obtain⟨o2,q3,q4,_⟩:=id pl;rw[<- z,he] at q3;cases q3;exact absurd q4 (by simp)
  have ac:i < its.toArray.size:=by simpa using (g_.mp hu).1
  refine wpAny_pyNext_enum_itemD (Draws.tup (A:=X.A.in1) (show X.A.in1.handled=none from L.ok.hd B) J a Y its.toArray) he ⟨hi,pl⟩ ac Z aj λv g tk hv ho ah ht hs hk=>?_
  have ad:v=u:=by
   simp only[G5] at hv;rw[hu] at hv;exact(ge hv).symm
  subst ad;refine⟨_,rfl,wpAny_letOwnedTupleGo_enum (s:={ s with heap:=g,toks:=tk+1 }) ho λg2 ak s2=>?_⟩
  have aa:e < s.heap.objs.size:=fi he
  have af:J < s.heap.objs.size:=by obtain⟨o1,q1,_⟩:=hi;exact fi q1
  have ab:H s.heap.objs.size=none:=L.hok.fresh (h_ _)
  have I2:Inv X pins σ (upd H s.heap.objs.size (.tup [.int (i:Nat),x])) { s with heap:=g2,toks:=tk+1 }:=L.turnedNew (t':=tk+1) (fp:=[e,J]) (λc o B q=>by
    simp only[i6,k_,or_false,not_or] at B;exact(s2.2 c B.1).trans (hk c o B.1 B.2 q)) hf (h_ _)
   ⟨by show 2<=g9;decide,[.int i tk,v],.cons ⟨tk,rfl⟩ (.cons ru .nil),⟨_,(s2.2 _ (nH aa)).trans ht,rfl,_,rfl⟩⟩
  refine⟨.ref s.heap.objs.size,_,I2,rfl,⟨_,x,ab,rfl,rfl,λzs ag=>by rw[L.tuple_inj ag hq];exact hx⟩,⟨⟨v,by simpa using ak⟩,ah.1.at λo q=>(s2.2 J Z.symm).trans q⟩,λc B=>?_⟩
  simp only[i6,k_,or_false] at B;rcases B with rfl | rfl
  .rw[ai (k9 aa)];exact(hf _ (by simp)).1
  .rw[ai (k9 af)];exact(hf _ (by simp)).1
 done:=by
  intro X hP hw hK B i pins s σ H E L hf st hg;subst hP hw hK;obtain⟨xs,hq,hx⟩:=hg;obtain⟨its,rv,p,hz⟩:=L.tuple hq;obtain⟨⟨F,he⟩,hi⟩:=st;have pl:s.heap.IsTuple a its.toArray:=p
  have Y:a≠J:=λz=>by
   obtain⟨o1,q1,q2,_⟩:=hi;obtain⟨o2,q3,q4,_⟩:=id pl;rw[<- z,q3] at q1;cases q1;rw[q4] at q2;exact absurd q2 (by simp)
  have hn:its.toArray.size=i:=by have:=rv.length;simp;omega
  subst hn;refine wpAny_pyNext_enum_endD (Draws.tup (A:=X.A.in1) (show X.A.in1.handled=none from L.ok.hd B) J a Y its.toArray) he ⟨hi,pl⟩ λg hk=>⟨rfl,L.turnedL (t':=s.toks) (fp:=[e,J]) (λc o B q=>hk c o (λz=>B (by simp[z])) q) hf⟩
 self:=λ_ _ _ _ _ st h=>by
  obtain⟨⟨F,he⟩,_⟩:=st;exact wpAny_pyIter_enum he h
def iE (K:fy) (ta:TA):TI:=λσ H R=>ta σ H λvs H1=>∃a,vs=[.ref a]/\∃xs,H1 a>>xs/\R (Ite K a) H1
theorem rp:x_ "enumerate" = some (.type "enumerate"):=by decide+kernel
theorem Dj {ta:TA} {p:Pos} {x1} (hK:X.K=K) (hg:Gl X "enumerate") (hm:X.mg "enumerate" = none) (ha:PA X [e1] ta) (hs:jc [e1] X.env=[(false,eval e1 X.env)]:=by rfl) :
  PI X (.Tuple es x1 pos') (.Call (.Name "enumerate" p) [e1] [] pos) (iE K ta):=by
 subst hK;intro pins s σ H R I h;refine Call_ (eJ I hg hm rp (k7 (thn (ha pos pins s σ H _ I h) λus L ⟨vs,H1,I1,r1,q1⟩=>?_) (by rw[hs];rfl) rfl))
 obtain⟨a,e,xs,F,q⟩:=q1;subst e;obtain⟨u,rfl,ru⟩:=cV r1;cases ru;obtain⟨its,rv,pl,hz⟩:=I1.tuple (SqT.of F);refine xY (show L.heap.IsTuple a its.toArray from pl) λg e J he hJ B Y l2 kg=>?_
 refine wpAny_pyIter_enum (s:={ L with heap:=g }) he ⟨e,[e,J],_,_,H1,rfl,I1.kept (t':=L.toks) kg,yo a e J B,⟨⟨_,he⟩,hJ⟩,λc Z=>?_,q⟩
 simp only[i6,k_,or_false] at Z;rcases Z with rfl | rfl
 .exact I1.fpOk Y (I1.hok.fresh Y)
 .exact I1.fpOk l2 (I1.hok.fresh l2)
theorem Hu {g:TG} (B:Nat->St->Hp->Prop) (h0:B 0 σ H) (hl : ∀i σ H,B i σ H->SqT K H a xs)
  (Z : ∀(i:Nat) (x:V) (σ:St) (H:Hp) (t:Addr),xs[i]? = some x->B i σ H->H t=none->g (.ref t) σ (upd H t (.tup [.int (i:Nat),x])) λF H2=>tb { D with nx:=B (i+1),ct:=B (i+1),bk:=D.nx } F H2)
  (Y : ∀ σ H,B xs.length σ H->D.nx σ H):ER (Ite K a) g tb D σ H:=by
 refine⟨λi m σ H=>B i σ H/\i<=xs.length/\m=xs.length - i,⟨_,h0,x5 _,rfl⟩,?_⟩
 rintro i m σ H ⟨hp,hi,rfl⟩
 have sa:=hl i σ H hp
 by_cases L:i=xs.length
 .left
  subst L;exact⟨⟨xs,sa,rfl⟩,Y σ H hp⟩
 .right
  have h1:i < xs.length:=()
  refine⟨⟨xs,xs[i],sa,by simp[h1]⟩,λσ' H'=>B (i+1) σ' H',λσ' H' h=>⟨_,(),h,(),rfl⟩,?_⟩
  rintro v H' ⟨t,x,ht,rfl,rfl,e1⟩
  exact Z i x σ H t (e1 xs sa) hp ht
def Itv (K:fy) (a:Addr) (n:Nat):It :=
  ⟨λi H=>∃xs x,SqT K H a xs/\xs.length=n/\i < n/\xs[n - 1 - i]? = some x,
   λi H v H'=>H'=H/\∀xs,SqT K H a xs->xs[n - 1 - i]? = some v,
   λi H=>n<=i⟩
theorem AC (a z:Addr) (n:Nat) :
  mQ P w K tg (Itv K a n) [z] z (λi h=>oz h z a ((n:Int) - 1 - i)) where
 mem:=by simp
 obj:=λi h st c Z=>by
  rw[fx.mp Z];exact⟨_,st,λv z=>by cases z⟩
 keep:=λi h h' st k=>k z (by simp) _ st
 item:=by
  intro X hP hw hK Z i pins s σ H E B Y st L;subst hP hw hK;obtain⟨xs,x,hq,hn,hi,hx⟩:=L;obtain⟨its,rv,p,hz⟩:=B.tuple hq;obtain⟨u,hu,ru⟩:=rv.get hx;have hl:=rv.length;have aa:g9=16777216:=rfl
  have e1:(n:Int) - 1 - i=((n - 1 - i:Nat):Int):=()
  rw[e1] at st;obtain⟨f0,f1,f2,f3,f4,f5⟩:=Y z (by simp)
  refine CU st (show s.heap.IsTuple a its.toArray from p) (x:=u) (by simpa using hu) (by simp only[j7];omega) λg tk g1 g2=>?_
  have I1:Inv X pins σ H { s with heap:=g,toks:=tk }:=B.turned (t':=tk) (λb o F e=>(g2.2 b F).trans e) f0 f1 f3 f4 f5
  refine⟨u,rfl,oM (s:={ s with heap:=g,toks:=tk }) g1 rfl rfl ∅ ⟨x,H,I1,ru,⟨rfl,λys hy=>by rw[B.tuple_inj hy hq];exact hx⟩,?_,λb F=>(Y b F).1⟩⟩
  have e2:((n - 1 - i:Nat):Int) - 1=(n:Int) - 1 - ((i+1:Nat):Int):=()
  rw[<- e2];exact g1
 done:=by
  intro X hP hw hK Z i pins s σ H E B Y st L;subst hP hw hK;have L:n<=i:=L
  obtain⟨f0,f1,f2,f3,f4,f5⟩:=Y z (by simp)
  exact EE (B.ok.hd Z) st () λg hk=>⟨rfl,B.turned (t':=s.toks) (λb o F e=>hk b o F e) f0 f1 f3 f4 f5⟩
 self:=λ_ _ _ _ _ st h=>wr st h
def iV (K:fy) (ta:TA):TI:=λσ H R=>ta σ H λvs H1=>∃a,vs=[.ref a]/\∃xs,H1 a>>xs/\R (Itv K a xs.length) H1
theorem Ag:x_ "reversed" = some (.type "reversed"):=by decide+kernel
theorem E5 {ta:TA} {p:Pos} (hK:X.K=K) (hg:Gl X "reversed") (Z:X.mg "reversed" = none) (ha:PA X [e1] ta) (hs:jc [e1] X.env=[(false,eval e1 X.env)]:=by rfl) :
  PI X tg (.Call (.Name "reversed" p) [e1] [] pos) (iV K ta):=by
 subst hK;intro pins s σ H R I h;refine Call_ (eJ I hg Z Ag (k7 (thn (ha pos pins s σ H _ I h) λus B ⟨vs,H1,I1,r1,q1⟩=>?_) (by rw[hs];rfl) rfl))
 obtain⟨a,e,xs,Y,q⟩:=q1;subst e;obtain⟨u,rfl,ru⟩:=cV r1;cases ru;obtain⟨its,rv,pl,hz⟩:=I1.tuple (SqT.of Y);have hl:=rv.length;have aa:=nB;refine Bg (show B.heap.IsTuple a its.toArray from pl) (by simp only[j7];omega) λg tk F kg=>?_
 simp only[j7] at F;rw[<- hl] at F;have L:H1 B.heap.objs.size=none:=I1.hok.fresh (h_ _)
 refine wr (s:={ B with heap:=g,toks:=tk }) F ⟨B.heap.objs.size,[B.heap.objs.size],_,_,H1,rfl,I1.kept (t':=tk) kg,AC a B.heap.objs.size xs.length,by simpa using F,λc hc=>?_,q⟩
 rw[fx.mp hc];exact I1.fpOk (h_ _) L
theorem Eb:Wlk (Itv K a xs.length) xs.reverse (λH=>SqT K H a xs) :=
 ⟨λi H h hi=>by
  have hi:i < xs.length:=by simpa using hi
  exact⟨xs,xs[xs.length - 1 - i],h,rfl,hi,by simp⟩,λi H x H' h hi y=>⟨by
  have hi:i < xs.length:=by simpa using hi
  rw[LA hi];exact y.2 xs h,y.1⟩,λi H h hi=>(by simpa using hi:xs.length<=i)⟩
end L2
namespace PySem
theorem bP : ∀(names:List (Str × zb)) (n:Nat) (B:List (Str × Addr)),o8 n names B=o8 n names []++B
 | [],n,B=>rfl
 | (x,k) :: r,n,B=>by
  unfold o8
  split
  .rw[bP r (n+1) ((x,n) :: B),bP r (n+1) [(x,n)]]
   simp
  .exact bP r n B
theorem fM : ∀(names:List (Str × zb)) (n:Nat) (x:Str) (c:Addr),(x,c)∈o8 n names []->(x,w6)∈names
 | [],n,x,c,h=>absurd h (by simp[o8])
 | (y, k) :: r,n,x,c,h=>by
  unfold o8 at h
  split at h
  .rename_i hk
   rw[bP] at h;rcases j9.mp h with q | q
   .exact i7 _ (fM r (n+1) x c q)
   .have e:(x,c)=(y,n):=by simpa using q
    cases e;have:k = .cell:=by simpa using hk
    subst this;exact m6
  .exact i7 _ (fM r n x c h)
theorem lL {l:List (Str × Addr)} {c:Addr}:(x,c)∈l->(l.lookup x).isSome=true:=by
 induction l with
 | nil=>intro h;exact absurd h (by simp)
 | cons p r F =>
  intro h;rw[uj];cases B:x == p.1 with
  | true=>rfl
  | false =>
   rcases i6.mp h with q | q
   .subst q;simp at B
   .exact F q
theorem ir : ∀(names:List (Str × zb)) (n:Nat) (x:Str),(x,w6)∈names->∃c,(x,c)∈o8 n names []
 | [],n,x,h=>absurd h (by simp)
 | (y, k) :: r,n,x,h=>by
  unfold o8;rcases i6.mp h with q | q
  .cases q
   simp only[beq_self_eq_true,if_true];rw[bP];exact⟨n,o_ _ (by simp)⟩
  .split
   .rw[bP]
    obtain⟨c,B⟩:=ir r (n+1) x q;exact⟨c,m9 _ B⟩
   .exact ir r n x q
theorem qK {l r:List (Str × Addr)} {c:Addr} (h:(l++r).lookup x=some c):l.lookup x=some c\/(l.lookup x=none/\r.lookup x=some c):=by
 induction l with
 | nil=>exact .inr ⟨rfl,h⟩
 | cons p t F =>
  rw[cons_append,uj] at h;rw[uj];cases B:x == p.1 with
  | true=>rw[B] at h;exact .inl h
  | false=>rw[B] at h;exact F h
theorem vv {l r:List (Str × Addr)} {c:Addr} (B:l.lookup x=none) (h:r.lookup x=some c):(l++r).lookup x=some c:=by
 induction l with
 | nil=>exact h
 | cons p t L =>
  rw[uj] at B;rw[cons_append,uj];cases F:x == p.1 with
  | true=>rw[F] at B;cases B
  | false=>rw[F] at B;exact L B
theorem uD {l r:List (Str × Addr)} {c:Addr} (h:l.lookup x=some c):(l++r).lookup x=some c:=by
 induction l with
 | nil=>cases h
 | cons p t F =>
  rw[uj] at h;rw[cons_append,uj];cases B:x == p.1 with
  | true=>rw[B] at h;exact h
  | false=>rw[B] at h;exact F h
theorem gj {globals:Addr} {code:Value} {F:Env} {B:Addr} {Q:Env->Shared->Prop}
  (Y:(pushCells (s.heap.push { cls:=.type "dict",data:=.dict #[] }) scope.names).Ns s.heap.objs.size (λ_=>none) ->
   Q (newEnv scope s.heap.objs.size globals (o8 (s.heap.objs.size+1) scope.names closure) qual func code (some F) B) { s with heap:=pushCells (s.heap.push { cls:=.type "dict",data:=.dict #[] }) scope.names }) :
  wpAny M A (newFunctionEnv scope globals closure [] qual func code (some F) B) Q E s:=by
 simp only[newFunctionEnv,isSome_some,if_true];simp only[newEnv] at Y;refine a_ (wpAny_alloc ?_)
 refine a_ (wpAny_layCells _ (λname kind cells=>by cases L:kind == w6 <;> simp[L]) _ _ _ _ ?_)
 rw[show({ s with heap:=s.heap.push { cls:=.type "dict",data:=.dict #[] } }:Shared).heap.objs.size=s.heap.objs.size+1 from n6 ..]
 exact a_ (e_ (e_ (Y ((Heap.Ns.new s.heap (.type "dict")).keeps (pushCells_keeps _ _)))))
end PySem
namespace L2
open PySem PySem.Spec PyProof.Rows
def dr (X:Cx) (scope:Scope) (N:List Str) (cl:List (Str × Addr)) (C:Addr) (fp:List Addr) (s:Shared) (H:Hp) (xe:Value->Shared->Prop):Cx where
 prog:=X.prog
 w:=X.w
 K:=X.K
 mg:=X.mg
 base:=X.base
 A:=X.A
 N:=N
 s₀:=s
 H₀:=H
 env:=compEnvC scope cl C X.env
 outer:=X.stack
 stack:=X.stack
 ex:=fp
 fn:=λx=>scope.names.lookup x == some .cell
 calm:=X.calm
 pn:=[]
 xe:=xe
theorem Kg:(dr X sc N cl C fp s H xe).K=X.K:=rfl
structure mf (X:Cx) (scope:Scope) (N:List Str) (nt:Nat) (js:List Nat):Prop where
 kind:scope.kind = .function
 nd:N.Nodup
 len:N.length=nt+js.length
 at_ : ∀(k:Nat) (j:Nat) (x:Str),js[k]? = some j->N[nt+k]? = some x->X.N[j]? = some x/\(X.env.scope.names.lookup x=some .cell\/X.env.scope.names.lookup x=some .free)
 frl : ∀(k:Nat) (x:Str),N[nt+k]? = some x->scope.names.lookup x=some .free
 own : ∀y∈scope.names,y.2 = .cell->scope.names.lookup y.1=some .cell
 loc : ∀y∈scope.names,y.2 = .local->scope.names.lookup y.1=some .local
 free : ∀y∈scope.names,y.2 = .free->X.env.scope.names.lookup y.1=some .cell\/X.env.scope.names.lookup y.1=some .free
theorem eu : ∀{names:List (Str × zb)} {x:Str} {k:zb},names.lookup x=some k->(x,k)∈names
 | [],_,_,h=>by simp at h
 | (n,k') :: r,x,k,h=>by
  rw[uj] at h;cases B:x == n with
  | true=>rw[B] at h;cases h;rw[beq_iff_eq.mp B];exact m6
  | false=>rw[B] at h;exact i7 _ (eu h)
theorem rL : ∀{names:List (Str × zb)} {x:Str},((names.map λ(n,k)=>if (k == sn && env.scope.kind == .function && env.kindOf n == some .cell) then(n,w6) else(n,k)).lookup x=some .cell\/(names.map λ(n,k)=>if (k == sn && env.scope.kind == .function && env.kindOf n == some .cell) then(n,w6) else(n,k)).lookup x=some .free) ->
  (x,sn)∈names\/(x,w6)∈names:=by
 intro names x h;have key : ∀F,(names.map λ(n,k)=>if (k == sn && env.scope.kind == .function && env.kindOf n == some .cell) then(n,w6) else(n,k)).lookup x=some F->(F = .cell\/F = .free)->(x,sn)∈names\/(x,w6)∈names:=by
  intro F e L;obtain⟨⟨n,k⟩,B,hp⟩:=hH.mp (eu e);dsimp only at hp
  by_cases q:(k == sn && env.scope.kind == .function && env.kindOf n == some .cell)=true
  .rw[if_pos q] at hp
   cases hp;simp only[l_,beq_iff_eq] at q;rw[q.1.1] at B;exact .inl B
  .rw[if_neg q] at hp
   cases hp;rcases L with z | z
   .subst z;exact .inr B
   .subst z;exact .inl B
 rcases h with h | h
 .exact key _ h (.inl rfl)
 .exact key _ h (.inr rfl)
theorem vJ {m:Str->Option Value}
  (S:mf X scope N nt js) (I:Inv X pins σ H s) (hf : ∀b∈fp,ri X pins H b) (L : ∀x c,cl.lookup x=some c->X.env.cells.lookup x=some c) (aa : ∀x,(x,sn)∈scope.names->(cl.lookup x).isSome=true)
  (B : ∀x c,(x,c)∈o8 (C+1) scope.names []->h'.IsCell c none/\C+1<=c) (aj:(o8 (C+1) scope.names []).Pairwise λx y=>x.2≠y.2) (ad : ∀c,C<=c->H1 c=none)
  (af : ∀b∈fp,b < s.heap.objs.size) (hC:s.heap.objs.size<=C) (k : ∀b o,s.heap.get? b=some o->h'.get? b=some o) (hs : ∀b o,H b=some o->H1 b=some o) (ac : ∀b,H b=none->b < s.heap.objs.size->H1 b=none) (ai:HOk X.prog X.w H1 h') (hn:h'.Ns C m)
  (hm : ∀x,m x=none) :
  Inv (dr X scope N (o8 (C+1) scope.names cl) C fp s H xe) [] (fR nt js σ) H1 { s with heap:=h',toks:=tk }:=by
 have ak : ∀b∈fp,b∉frs X.stack:=λb hb z=>by
  obtain⟨f0,f1,f2,_⟩:=hf b hb;rcases i6.mp (I.stkSub b z) with q | q
  .exact f1 q
  .exact f2 q
 have ag : ∀x c,cl.lookup x=some c->c < s.heap.objs.size:=λx c e=>by
  obtain⟨v,oc,F,hd⟩:=I.cell x c (L x c e);exact fi F
 have cs : ∀x c,(o8 (C+1) scope.names cl).lookup x=some c->(x,c)∈o8 (C+1) scope.names []\/cl.lookup x=some c:=λx c e=>by
  rw[bP] at e;rcases qK e with q | q
  .exact .inl (mem_of_lookup q)
  .exact .inr q.2
 have ab : ∀x,(x,w6)∈scope.names->∃c,(o8 (C+1) scope.names cl).lookup x=some c/\(x,c)∈o8 (C+1) scope.names []:=λx hx=>by
  obtain⟨c,hc⟩:=ir scope.names (C+1) x hx;obtain⟨c',Z⟩:=KZ.mp (lL hc);refine⟨c',?_,mem_of_lookup Z⟩
  rw[bP];exact uD Z
 have Y : ∀x c,(∀c,(x,c)∉o8 (C+1) scope.names [])->cl.lookup x=some c->(o8 (C+1) scope.names cl).lookup x=some c:=λx c hx e=>by
  rw[bP];refine vv ?_ e
  cases q:(o8 (C+1) scope.names []).lookup x with
  | none=>rfl
  | some c'=>exact absurd (mem_of_lookup q) (hx c')
 refine⟨⟨I.ok.mod,S.kind,I.ok.glob,I.ok.blt,hC,λx y c h1 h2=>?_,λx hx=>?_,λx c z e=>?_,I.ok.hd,I.ok.frames,.inl rfl,λb hb=>?_,I.bs,ja I.ok.bsz I.sz,λb o e hb=>?_,ak,I.stack,I.stkFree⟩,
  rfl,I.bare,?_,⟨m,hn,λi x v h1 h2 h3=>?_⟩,λx c e=>?_,ad C (h_ _),λx c e=>?_,λp hp=>absurd (show p∈([]:List (Addr × Obj)) from hp) (by simp),ai,?_⟩
 .rcases cs x c h1 with a | a <;> rcases cs y c h2 with b | b
  .exact name_of_addr aj a b
  .exact absurd (g7 (ag y c b) (ja hC (LS (B x c a).2))) (n_ _)
  .exact absurd (g7 (ag x c a) (ja hC (LS (B y c b).2))) (n_ _)
  .exact I.ok.inj x y c (L x c a) (L y c b)
 .by_cases hxc:(x,w6)∈scope.names
  .obtain⟨c,hc,_⟩:=ab x hxc
   exact⟨c,hc⟩
  .rcases rL (env:=X.env) hx with q | q
   .obtain⟨c,hc⟩:=KZ.mp (aa x q)
    exact⟨c,Y x c (λc' z=>hxc (fM _ _ _ _ z)) hc⟩
   .exact absurd q hxc
 .have hxc:(x,w6)∈scope.names:=by
   have:scope.names.lookup x=some .cell:=by simpa [dr] using z
   exact eu this
  obtain⟨c',Z,ao⟩:=ab x hxc;have e':(o8 (C+1) scope.names cl).lookup x=some c:=e
  rw[Z] at e';cases e';exact ja hC (LS (B x _ ao).2)
 .obtain⟨f0,f1,f2,f3,f4,f5⟩:=hf b hb
  refine⟨k9 (g7 (af b hb) hC),λx c e=>?_⟩
  rcases cs x c e with a | a
  .exact nH (g7 (af b hb) (ja hC (LS (B x c a).2)))
  .exact f4 x c (L x c a)
 .have:=hf b hb
  obtain⟨f0,f1,f2,f3,f4,f5⟩:=this;rcases f3 with f3 | f3
  .exact I.ok.noex b o e f3
  .exact absurd (g7 (fi e) (ja I.ok.bsz f3)) (n_ _)
 .refine⟨λb o e n _ _=>k b o e,λb o e n _ _=>⟨o.slots,k b o e⟩,λb o e n _=>ac b n (fi e),λb o e _=>⟨o,k b o e⟩,λb xs e=>hs b _ e,λb o u e=>hs b _ e,λb ps e=>⟨#[],by rw[hs b _ e];simp⟩⟩
 .by_cases hi:i < nt
  .rw[qQ i hi] at h2;cases h2
  .obtain⟨k',rfl⟩ : ∃k',i=nt+k':=⟨i - nt,()⟩
   unfold fR at h2;rw[u7 (by simp)] at h2
   simp only[List.length_replicate,Nat.add_sub_cancel_left,f_] at h2;cases ej:js[k']? with
   | none=>rw[ej] at h2;cases h2
   | some j =>
    rw[ej] at h2;simp only[Lo,Option.some.injEq] at h2;obtain⟨hN,hk⟩:=S.at_ k' j x ej h1;have an:σ[j]? = some (some v):=by
     cases q:σ[j]? with
     | none=>rw[q] at h2;cases h2
     | some z=>rw[q] at h2;simp only[Option.join] at h2;rw[<- h2];rfl
    have am:Vis X.env.scope x:=by rcases hk with q | q;exact .inr (.inl q);exact .inr (.inr q)
    obtain⟨m0,aq,ah⟩:=I.loc;obtain⟨u,r,l⟩:=ah j x v hN an am;refine⟨u,r,?_⟩
    rcases l with⟨q,_⟩ | ⟨q,c,e,z⟩
    .have q':X.env.scope.names.lookup x=some .local:=q
     rw[q'] at hk;rcases hk with hk | hk <;> cases hk
    .have fr:=S.frl k' x h1
     have hv:(relabel scope X.env).names.lookup x=some .cell\/(relabel scope X.env).names.lookup x=some .free:=gh (env:=X.env) fr
     have q:(x,sn)∈scope.names:=eu fr
     obtain⟨c',e'⟩:=KZ.mp (aa x q);have e2:=L x c' e';rw[e] at e2;cases e2;obtain⟨oc,F,hd⟩:=z;exact .inr ⟨hv,c,Y x c (λc' z=>by
      have:=S.own _ (fM _ _ _ _ z) rfl
      rw[fr] at this;cases this) e',oc,k _ _ F,hd⟩
 .rcases cs x c e with a | a
  .exact⟨none,(B x c a).1⟩
  .obtain⟨v,oc,F,hd⟩:=I.cell x c (L x c a)
   exact⟨v,oc,k _ _ F,hd⟩
 .rcases cs x c e with a | a
  .exact ad c (LS (B x c a).2)
  .have e2:=L x c a
   obtain⟨v,oc,F,hd⟩:=I.cell x c e2;exact ac c (I.freeC x c e2) (fi F)
 .unfold fR
  show _=N.length
  rw[S.len];simp
def wj (F:List Str) (xs B:List (Str × zb)) (N:List Str) (nt:Nat) (js:List Nat):Bool :=
 decide N.Nodup && N.length == nt+js.length && (js.zip (N.drop nt)).all (λp=>F[p.1]? == some p.2 && iU xs p.2) && (N.drop nt).all (λx=>B.lookup x == some .free)
  && B.all (λy=>y.2 != .cell || B.lookup y.1 == some .cell) && B.all (λy=>y.2 != .local || B.lookup y.1 == some .local) && B.all (λy=>y.2 != .free || iU xs y.1)
theorem aG (L:List Str) (xs:List (Str × zb)) (hk:scope.kind = .function:=by exact rfl) (hN:X.N=L:=by exact rfl) (Y:X.env.scope.names=xs:=by exact rfl)
  (h:wj L xs scope.names N nt js=true:=by decide+kernel):mf X scope N nt js:=by
 subst hN Y;unfold wj at h;simp only[l_] at h;obtain⟨⟨⟨⟨⟨⟨h1,h2⟩,h3⟩,Z⟩,h5⟩,h6⟩,h7⟩:=h;refine⟨hk,of_decide_eq_true h1,by simpa using h2,λk j x e1 e2=>?_,λk x e=>?_,λy F e=>?_,λy F e=>?_,λy F e=>?_⟩
 .have hm:(j,x)∈js.zip (N.drop nt):=by
   have B:(N.drop nt)[k]? = some x:=by rw[List.getElem?_drop];exact e2
   have:(js.zip (N.drop nt))[k]? = some (j,x):=by rw[List.getElem?_zip_eq_some];exact⟨e1,B⟩
   exact gt this
  have q:=C_.mp h3 _ hm;rw[l_] at q;exact⟨by simpa using q.1,jR q.2⟩
 .have hm:x∈N.drop nt:=by
   have B:(N.drop nt)[k]? = some x:=by rw[List.getElem?_drop];exact e
   exact gt B
  simpa using C_.mp Z _ hm
 .have q:=C_.mp h5 _ F
  rw[e] at q;simpa using q
 .have q:=C_.mp h6 _ F
  rw[e] at q;simpa using q
 .have q:=C_.mp h7 _ F
  rw[e] at q;exact jR (by simpa using q)
end L2
namespace PySem
open L2 PyProof.Rows PySem.Calls
def jT:Int:=0xFCA86420
theorem wL {Q:Int->Shared->Prop} (h:Q jT { s with toks:=s.toks+1 }):wpAny (model prog w) A (pyHash .none) Q E s:=by
 have B:s.TypeIs u9 "NoneType" := rfl
 show wpAny _ _ (pyHashByItsType .none) Q E s
 unfold pyHashByItsType;refine a_ ?_
 rw[cRoomFor,if_neg (by rw[show[u9].any Value.onHeap=false from rfl];exact i_)]
 refine e_ (a_ (y6 B KW.lookup ?_))
 refine wpAny_ite_split (λz=>by cases z) λ_=>?_
 refine a_ (y6 B KW.lookup ?_)
 refine wpAny_ite_split (λz=>by cases z) λ_=>?_
 refine a_ (wpAny_callSpecialIfBoundUnlessNone?_slot B KW (li KW B PySem.F.entry_NoneType_hash (show wpAny _ _ (do ret (<- mkInt jT)) _ _ s from wpAny_ret_mkInt ?_) (PySem.F.args_NoneType_hash_1 _)))
 show wpAny _ _ (if (decide (-(2:Int) ^ 63<=jT) && decide (jT < 2 ^ 63))=true then _ else _) Q E _
 rw[if_pos ∅]
 exact e_ h
theorem xh {Q:Bool->Shared->Prop} (h:Q true s):wpAny (model prog w) A (eqBool .none .none) Q E s:=by
 unfold eqBool;refine t7 ?_
 rw[if_pos ∅]
 exact a_ (LN (e_ h))
def wD:Option Int->Value->Bool
 | none,.none=>true
 | some i,v=>v.isInt i
 | _,_=>false
theorem cn {k:Option Int} {v:Value} (h:wD k v=true):(k=none/\v = .none)\/∃i t,k=some i/\v = .int i t:=by
 cases k with
 | none=>cases v <;> first | exact .inl ⟨rfl,rfl⟩ | cases h
 | some i =>
  obtain⟨t,e⟩:=Value.isInt_shape (show Value.isInt i v=true by cases v <;> first | exact h | cases h)
  exact .inr ⟨i,t,rfl,e⟩
theorem Jc {a b:Option Int} {v:Value} {Q:Bool->Shared->Prop} (hu:wD a u=true) (B:wD b v=true) (h:Q (decide (a=b)) s):wpAny (model prog w) A (eqBool u v) Q E s:=by
 rcases cn hu with⟨rfl,rfl⟩ | ⟨i,t,rfl,rfl⟩
 .rcases cn B with⟨rfl,rfl⟩ | ⟨j,u,rfl,rfl⟩
  .exact xh (by simpa using h)
  .exact SeqAt.EqAt.none_int j u _ _ _ _ (by simpa using h)
 .rcases cn B with⟨rfl,rfl⟩ | ⟨j,u,rfl,rfl⟩
  .exact SeqAt.EqAt.int_none i t _ _ _ _ (by simpa using h)
  .refine wpAny_eqBool_int ?_
   have e:(i == j)=decide (some i=some j):=by rw[o7];simp
   rw[e];exact h
def KA:Option Int->Int | none=>jT | some i=>hashInt i
def cB (prog:Program) (w:World):KeyKind prog w (Option Int) where
 is:=wD
 hash:=KA
 inj := λv a b ha L=>by
  rcases cn ha with⟨rfl,rfl⟩ | ⟨i,t,rfl,rfl⟩
  .rcases cn L with⟨rfl,_⟩ | ⟨j,u,rfl,e⟩
   .rfl
   .cases e
  .rcases cn L with⟨rfl,e⟩ | ⟨j,u,rfl,e⟩
   .cases e
   .cases e;rfl
 byValue:=λk v h=>by
  rcases cn h with⟨rfl,rfl⟩ | ⟨i,t,rfl,rfl⟩ <;> rfl
 pyHash:=λF h=>by
  rcases cn F with⟨rfl,rfl⟩ | ⟨i,t,rfl,rfl⟩
  .exact wL h
  .exact wpAny_pyHash_int h
 eqBool:=λhu F h=>Jc hu F h
 «strs» := λk x t v h=>absurd (cn h) (λz=>z.elim (λz=>nomatch z.2) λB=>by obtain⟨_,_,_,e⟩:=B;exact(nomatch e))
end PySem
namespace L2
open PySem PySem.Spec PyProof.Rows
def oV:Option Int->V | none=>.non | some i=>.int i
theorem CQ {k:Option Int} (h:bq (oV k) u):(cB P w).is k u=true:=by
 cases k with
 | none=>cases (show u=u9 from h);rfl
 | some i=>obtain⟨t,rfl⟩:=(show ∃t,u=Value.int i t from h);exact intKind_is P w i t
theorem IF {k:Option Int} (h:(cB P w).is k u=true):bq (oV k) u:=by
 rcases cn (show wD k u=true from h) with⟨rfl,rfl⟩ | ⟨i,t,rfl,rfl⟩
 .rfl
 .exact⟨t,rfl⟩
def dQ (ks:List (Option Int)):List (Option Int × Value):=ks.map λk=>(k,Lk true)
def xa (P:Program) (w:World) (a:Addr) (o:Obj) (ks:List (Option Int)) (h:Heap):Prop:=h.get? a=some o/\(a == HI)=false/\ks.length<=1000/\h.DictOf (cB P w) a (dQ ks)
def fm (P:Program) (w:World) (a:Addr) (o:Obj) (ks:List (Option Int)):HO:=.ext (xa P w a o ks)
section
variable {o:Obj}
theorem xa.ok (x:xa P w a o ks h):bB P w H h a (fm P w a o ks) :=
 ⟨x,⟨o,x.1⟩,λh1 h2 z k=>⟨k _ z.1,z.2.1,z.2.2.1,z.2.2.2.at k⟩⟩
def rG (ks:List (Option Int)) (k:Option Int):List (Option Int):=if k∈ks then ks else ks++[k]
theorem uy (ks:List (Option Int)) (k:Option Int):stored (dQ ks) k (.bool true)=dQ (rG ks k):=by
 unfold stored rG
 by_cases B:k∈ks
 .have e:(dQ ks).any (λkv=>decide (kv.1=k))=true:=v9.mpr ⟨(k,.bool true),hH.mpr ⟨k,B,rfl⟩,by simp⟩
  rw[if_pos e,if_pos B];unfold dQ;rw[k6]
  apply nL
  intro x _
  show(if x=k then(x,Lk true) else(x,Lk true))=_
  split <;> rfl
 .have e : ¬ (dQ ks).any (λkv=>decide (kv.1=k))=true:=λz=>by
   obtain⟨y,F,e⟩:=v9.mp z;obtain⟨x,L,rfl⟩:=hH.mp F;exact B (of_decide_eq_true e ▸ L)
  rw[if_neg e,if_neg B];unfold dQ;rw[r_];rfl
theorem CF (ks:List (Option Int)) (k:Option Int):(rG ks k).length<=ks.length+1:=by unfold rG;split <;> simp
end
section
variable {ie:Expr}
def BX (P:Program) (w:World) (td ty tv:TE):TS:=λD σ H=>tv σ H λv H1=>td σ H1 λx H2=>ty σ H2 λy B=>v = .bl true/\∃a,x = .ref a/\∃k,y=oV k/\∃o ks,B a=some (fm P w a o ks)/\ks.length < 1000/\∀o',D.nx σ (upd B a (fm P w a o' (rG ks k)))
theorem Gf (hu:X.A.units+1 < cLine) (ho:PE X oe td) (hi:PE X ie ty) (hv:PE X value tv) (hs:L9 value (some (.Subscript oe ie pos')) pos.line X.env=pure false) :
  PS X (.Assign [.Subscript oe ie pos'] value pos) (BX X.prog X.w td ty tv):=by
 intro pins s σ H D I h;refine wpAny_Assign_Subscript (thn (hv pins s σ H _ I h) λr s1 ⟨v,H1,I1,rv,q1⟩=>thn (ho pins s1 σ H1 _ I1 q1) λu s2 ⟨x,H2,I2,rx,q2⟩=>thn (hi pins s2 σ H2 _ I2 q2) λiv s3 B=>?_) hs
 obtain⟨y,H3,Y,ry,ev,a,ex,k,ey,o,ks,ha,hl,q3⟩:=B;subst ex ey ev;obtain rfl:u=i8 a:=rx
 obtain rfl:r=Lk true:=rv
 obtain⟨⟨g,hd,Z,dd⟩,_⟩:=(show bB X.prog X.w H3 s3.heap a (fm X.prog X.w a o ks) from Y.hok a _ ha)
 refine wpAny_setItem_pairs (knd:=cB X.prog X.w) (k:=k) (hsz:=by unfold dQ;rw[d_];exact ja Z ∅) (CQ ry) dd λh' F L=>?_
 rw[uy] at F;obtain⟨o',es,ep,g',r'⟩:=id F;have aa:=CF ks k;exact⟨σ,_,lO (ob:=fm X.prog X.w a o' (rG ks k)) Y (by rw[ha];exact m_) L ⟨o',g'⟩ (xa.ok ⟨g',hd,(),F⟩),q3 o'⟩
end
def rj (is:List Int):List (Key × V):=is.map λi=>(i4 i,V.bl true)
theorem zj {P:Program} {w:World} : ∀{is:List Int} {es:List DictEntry} {vs:List (Key × Value)},KV (rj is) vs->Pairs (ba P w) es vs->(∀e∈es,∃k,(ba P w).is k e.key=true/\e.hash=(ba P w).hash k) ->
  Pairs (cB P w) es (dQ (is.map some))/\∀e∈es,∃k,(cB P w).is k e.key=true/\e.hash=(cB P w).hash k
 | [],es,vs,r,p,_=>by
  unfold rj KV at r;cases r;cases p;exact⟨.nil,λe he=>by simp at he⟩
 | i :: is,es,vs,r,p,hk=>by
  unfold rj KV at r;rw[j8] at r;cases r with
  | @cons p0 q0 ps qs h0 hr =>
   obtain⟨k0,u0⟩:=q0;obtain⟨e0,ru⟩:=h0;dsimp only at e0 ru;subst e0;obtain rfl:u0=Lk true:=ru
   cases p with
   | @cons e kv es' kvs' h1 h2 h3 =>
    obtain⟨ab,Y⟩:=zj (is:=is) hr h3 λe he=>hk e (i7 _ he)
    have aa : ∃t,e.key=Value.int i t:=by
     rcases bU (k:=i4 i) (v:=e.key) h1 with⟨j,t,Z,L⟩ | ⟨x,t,Z,L⟩
     .cases Z;exact⟨t,L⟩
     .cases Z
    obtain⟨t,et⟩:=aa;have F:(cB P w).is (some i) e.key=true:=by rw[et];exact intKind_is P w i t
    refine⟨.cons F h2 ab,λe' B=>?_⟩
    rcases i6.mp B with rfl | B
    .obtain⟨k,k1,k2⟩:=hk e' (m6)
     have L:k=i4 i:=(ba P w).inj _ _ _ k1 h1
     subst L;exact⟨some i,F,k2⟩
    .exact Y e' B
def EN (P:Program) (w:World) (te:TE):TE:=λσ H Q=>te σ H λx H1=>∃a,x = .ref a/\∃is:List Int,H1 a<*(rj is)/\is.length<=1000/\∀o,Q x (upd H1 a (fm P w a o (is.map some)))
theorem Hs (he:PE X e te):PE X e (EN X.prog X.w te):=by
 intro pins s σ H Q I h;refine thn (he pins s σ H _ I h) λv s1 B=>?_
 obtain⟨x,H1,I1,r1,a,ex,is,ha,hl,q⟩:=B;subst ex;obtain⟨hz,hd,vs,L,o,es,ep,ho,hx,Y,hk,hp,hn⟩:=kR I1.hok ha;have Z : ∀ob u,X.H₀ a≠some (.frz ob u):=λob u e=>by have:=I1.base.frzs a ob u e;rw[ha] at this;cases this
 obtain⟨p1,p2⟩:=zj L hp λe he=>hk e (by simpa using he)
 have F:((dQ (is.map some)).map (·.1)).Nodup:=by
  have e1:(dQ (is.map some)).map (·.1)=is.map some:=by unfold dQ;rw[k6];simp
  have e2 : ∀{is:List Int} {vs:List (Key × Value)},KV (rj is) vs->vs.map (·.1)=is.map i4:=by
   intro is
   induction is with
   | nil=>intro vs r;unfold rj KV at r;cases r;rfl
   | cons i is ih =>
    intro vs r;unfold rj KV at r;rw[j8] at r;cases r with
    | cons h0 hr =>
     rw[j8,j8,ih hr];rw[<- h0.1]
  rw[e2 L] at hn;rw[e1];have F:is.Nodup:=(y9.mp hn).imp λh z=>h (by rw[z])
  exact y9.mpr (F.imp λh z=>h (ge z))
 have nd:xa X.prog X.w a o (is.map some) s1.heap:=⟨ho,hd,by rw[d_];exact hl,o,es,ep,ho,hx,Y,λe he=>p2 e (by simpa using he),p1,F⟩
 exact⟨.ref a,_,I1.retag ha (by intro y z;cases z) (by intro y z;cases z) Z (by intro y z;cases z) nd.ok,r1,q o⟩
def ItN (P:Program) (w:World) (a:Addr) (o:Obj) (ks:List (Option Int)):It :=
 ⟨λi H=>H a=some (fm P w a o ks)/\i < ks.length,λi H x H'=>H'=H/\∃k,ks[i]? = some k/\x=oV k,λi H=>H a=some (fm P w a o ks)/\ks.length<=i⟩
theorem Ie (a it:Addr) (o:Obj) (ks:List (Option Int)) (ep:Nat) (ac : ∃es,o.data = .dict es ep):mQ P w K tg (ItN P w a o ks) [it] it (λi h=>h.IsKeyIter it a i ks.length ep) where
 mem:=by simp
 obj:=λi h st b Y=>by
  obtain rfl:b=it:=by simpa using Y
  obtain⟨ob,e,c,d⟩:=st;exact⟨ob,e,λv z=>by rw[d] at z;cases z⟩
 keep:=λi h h' st k=>st.at λob e=>k it (by simp) ob e
 item:=by
  intro X hP hw hK hc i pins s σ H E I hf st ⟨ha,hi⟩;subst hP hw hK;obtain⟨⟨ho,hd,hz,od,es,F,aa,hr⟩,_⟩:=(show bB X.prog X.w H s.heap a (fm X.prog X.w a o ks) from I.hok a _ ha)
  obtain rfl:o=od:=ge (ho.symm.trans aa)
  obtain⟨ad,L⟩:=ac;obtain rfl:F=ep:=by
   have:=hr.2.1
   rw[L] at this;cases this;rfl
  have B:(dQ ks).length=ks.length:=by unfold dQ;simp
  obtain⟨k,hk⟩ : ∃k,ks[i]? = some k:=⟨ks[i],by simp[hi]⟩
  obtain⟨f0,f1,f2,f3,f4,f5⟩:=hf it (by simp)
  have Z:s.heap.IsKeyIter it a i (dQ ks).length F:=by rw[B];exact st
  refine wpAny_pyNext_dict_item (knd:=cB X.prog X.w) (k:=k) (v:=.bool true) Z ⟨o,es,ho,hr⟩ (by unfold dQ;rw[f_,hk];rfl) λkey h' af ab sb=>?_
  have I1:Inv X pins σ H { s with heap:=h' }:=I.turned (t':=s.toks) (λb ob Y e=>(sb.2 b Y).trans e) f0 f1 f3 f4 f5
  rw[B] at ab;obtain⟨ob,e,c,d⟩:=id ab;exact⟨key,rfl,oM (s:={ s with heap:=h' }) e c d ∅ ⟨oV k,H,I1,IF af,⟨rfl,k,hk,rfl⟩,ab,λb Y=>(hf b Y).1⟩⟩
 done:=by
  intro X hP hw hK hc i pins s σ H E I hf st ⟨ha,hi⟩;subst hP hw hK;obtain⟨⟨ho,hd,hz,od,es,F,aa,hr⟩,_⟩:=(show bB X.prog X.w H s.heap a (fm X.prog X.w a o ks) from I.hok a _ ha)
  obtain rfl:o=od:=ge (ho.symm.trans aa)
  obtain⟨ad,L⟩:=ac;obtain rfl:F=ep:=by
   have:=hr.2.1
   rw[L] at this;cases this;rfl
  have B:(dQ ks).length=ks.length:=by unfold dQ;simp
  obtain⟨f0,f1,f2,f3,f4,f5⟩:=hf it (by simp)
  have Z:s.heap.IsKeyIter it a i (dQ ks).length F:=by rw[B];exact st
  exact wpAny_pyNext_dict_end (knd:=cB X.prog X.w) (I.ok.hd hc) Z ⟨o,es,ho,hr⟩ (y7.mpr ()) λh' eb=>⟨rfl,I.turned (t':=s.toks) (λb ob Y e=>eb b ob Y e) f0 f1 f3 f4 f5⟩
 self:=λ_ _ _ _ _ st h=>wpAny_pyIter_keyiter st h
theorem BB {o:Obj}:Wlk (ItN P w a o ks) (ks.map oV) (λH=>H a=some (fm P w a o ks)) :=
 ⟨λi H h hi=>⟨h,by simpa using hi⟩,λi H x H' h _ y=>by
  obtain⟨e,k,B,rfl⟩:=y;exact⟨by rw[f_,B];rfl,e⟩,λi H h hi=>⟨h,by simpa using hi⟩⟩
def iN (P:Program) (w:World) (tl:TE):TI:=λσ H R=>tl σ H λx H1=>∃a,x = .ref a/\∃o ks,H1 a=some (fm P w a o ks)/\R (ItN P w a o ks) H1
theorem Kf {l:Expr} {tl:TE} (hl:PE X l tl):PI X tg l (iN X.prog X.w tl):=by
 intro pins s σ H R I h;refine thn (hl pins s σ H _ I h) λv F B=>?_
 obtain⟨x,H1,Z,r1,a,e,o,ks,hq,q⟩:=B;subst e;cases r1;obtain⟨⟨ho,hd,hz,od,es,ep,aa,hr⟩,_⟩:=(show bB X.prog X.w H1 F.heap a (fm X.prog X.w a o ks) from Z.hok a _ hq)
 obtain rfl:o=od:=ge (ho.symm.trans aa)
 refine wpAny_pyIter_dict (knd:=cB X.prog X.w) hd ⟨o,es,ho,hr⟩ ?_
 have Y:(dQ ks).length=ks.length:=by unfold dQ;simp
 have I2:Inv X pins σ H1 { F with heap:=F.heap.push { cls:=.type "dict_keyiterator",data:=.fields #[.ref a,.int 0 0,.int (dQ ks).length 0,.int ep 0] } }:=Z.kept (t':=F.toks) λb o e=>c_ _ e
 refine⟨F.heap.objs.size,[F.heap.objs.size],_,_,_,rfl,I2,Ie a _ o ks ep ⟨es,hr.2.1⟩,⟨_,gr _ rfl,rfl,by rw[Y];rfl⟩,λb hb=>?_,q⟩
 obtain rfl:b=F.heap.objs.size:=by simpa using hb
 have L:H1 F.heap.objs.size=none:=Z.hok.fresh (h_ _)
 exact⟨L,(Z.fpOk (h_ _) L).2⟩
def cN (ps:List (Int × Int × Int)):List (List Key × V):=ps.map λx=>([.inl x.1,.inl x.2.1],.int x.2.2)
def toO:Key->Option Int | .inl i=>some i | .inr _=>none
theorem isO {i j:Int} (x:(K3 (ba P w)).is h [i4 i,i4 j] b):(K3 (cB P w)).is h [some i,some j] b:=by
 obtain⟨o,items,n,h1,h2,h3,F⟩:=(show IsTupleKey (ba P w) h [i4 i,i4 j] b from x)
 refine(show IsTupleKey (cB P w) h [some i,some j] b from⟨o,items,n,h1,h2,h3,?_⟩)
 generalize items.toList=l at F;have Y : ∀{i:Int} {v:Value},(ba P w).is (i4 i) v=true->(cB P w).is (some i) v=true:=λ{i v} z=>by
  rcases bU (k:=i4 i) (v:=v) z with⟨j,t,B,L⟩ | ⟨x,t,B,L⟩
  .cases B;rw[L];exact intKind_is P w i t
  .cases B
 cases F with
 | cons Z r1 =>
  cases r1 with
  | cons k2 r2 =>
   cases r2;exact .cons (Y Z) (.cons (Y k2) .nil)
theorem Cz {ps:List (Int × Int × Int)} (hu:A.units+1 < cLine) (I:Inv X pins σ H s) (ha:H a=some (.dT (cN ps))) (hb:H b>>[.non,.int v]) (h : ∀s',Inv X pins σ H s'->Q .none s') :
  wpAny (model X.prog X.w) A (call (.builtin "dict.get") [.ref a,.ref b]) Q E s:=by
 obtain⟨z,hd,xs,ac,o,es,ep,ho,hx,aa,he,ab,Z⟩:=oY I.hok (.inl ha);have af:s.TypeIs (.ref a) "dict" :=⟨o,ho,hx.1⟩
 have B : ∀q∈xs,∃i j:Int,q.1=[i4 i,i4 j]:=by
  have : ∀{ps:List (Int × Int × Int)} {xs:List (List Key × Addr × Value)},KT H (cN ps) xs->∀q∈xs,∃i j:Int,q.1=[i4 i,i4 j]:=by
   intro ps
   induction ps with
   | nil=>intro xs r;unfold cN KT at r;cases r;intro q L;simp at L
   | cons p ps ih =>
    intro xs r;unfold cN KT at r;rw[j8] at r;cases r with
    | cons h0 hr =>
     intro q L;rcases i6.mp L with rfl | L
     .exact⟨p.1,p.2.1,h0.1.symm⟩
     .exact ih hr q L
  exact this ac
 have dd:s.heap.DictOfH (K3 (cB X.prog X.w)) a (xs.map λq=>(q.1.map toO,q.2)):=by
  refine⟨o,es,ep,ho,hx,aa,?_,λx Y=>?_,?_⟩
  .rw[he,k6]
   apply nL
   intro q L;obtain⟨i,j,e⟩:=B q L;obtain⟨k,ad,u⟩:=q;dsimp only at e;subst e;rfl
  .obtain⟨q,L,rfl⟩:=hH.mp Y
   obtain⟨i,j,e⟩:=B q L;have:=ab q L
   rw[e] at this;dsimp only;rw[e];exact isO this
  .rw[k6]
   rw[List.Nodup,y9] at Z;rw[List.Nodup,y9];refine Is (λ{p q} hp L hne z=>hne ?_) Z
   obtain⟨i,j,e⟩:=B p hp;obtain⟨i',j',e'⟩:=B q L;simp only[Function.comp,e,e',j8,map_nil,toO] at z;rw[e,e'];cases z;rfl
 have key:(K3 (cB X.prog X.w)).is s.heap [none,some v] b:=by
  obtain⟨_,its,r,ot,h1,h2,n,h3⟩:=(show bB X.prog X.w H s.heap b (.tup [.non,.int v]) from I.hok b _ hb)
  refine(show IsTupleKey (cB X.prog X.w) s.heap [none,some v] b from⟨ot,its.toArray,n,h1,h2,h3,?_⟩)
  cases r with
  | cons r1 r2 =>
   cases r2 with
   | cons r3 r4 =>
    cases r4;exact .cons (CQ (k:=none) r1) (.cons (CQ (k:=some v) r3) .nil)
 refine call_meetsIn Ly af PySem.F.entry_dict_get (PySem.F.args_dict_get_2 _ _) (meetsH_dict_get (K3 (cB X.prog X.w)) a b hd) ⟨KQ hu,[none,some v],_,key,dd,?_⟩
 have ag:atKey (xs.map λq=>(q.1.map toO,q.2)) [none,some v]=none:=by
  unfold atKey;rw[Option.map_eq_none_iff,List.find?_eq_none];intro x Y e;obtain⟨q,L,rfl⟩:=hH.mp Y;obtain⟨i,j,eq⟩:=B q L;have e:=of_decide_eq_true e;dsimp only at e;rw[eq] at e;cases e
 rw[ag];exact h _ (I.tok _)
def kr (ps:List (Int × Int × Int)):Option Int->Int->Option Int
 | none,_=>none
 | some s,v=>(ps.find? λx=>decide (x.1=s/\x.2.1=v)).map λx=>x.2.2
theorem qk (s v:Int) : ∀ps:List (Int × Int × Int),(bM (cN ps) [i4 s,i4 v]).getD .non=oV (kr ps (some s) v)
 | []=>rfl
 | p :: ps=>by
  have F:=qk s v ps;unfold cN kr at F ⊢;dsimp only at F ⊢;rw[j8,K0]
  by_cases h:p.1=s/\p.2.1=v
  .rw[decide_eq_true h]
   obtain⟨rfl,rfl⟩:=h;simp[bM,oV]
  .rw[decide_eq_false h]
   have B:([i4 p.1,i4 p.2.1]:List Key)≠[i4 s,i4 v]:=λz=>h (by cases z;exact⟨rfl,rfl⟩)
   simpa [bM,B] using F
def C2 (td ty:TE):TE:=λσ H Q=>td σ H λx H1=>∃a,x = .ref a/\∃ps,H1 a=some (.dT (cN ps))/\ty σ H1 λy H2=>H2 a=some (.dT (cN ps))/\∃b,y = .ref b/\∃st v,H2 b>>[oV st,.int v]/\Q (oV (kr ps st v)) H2
theorem DS (hu:X.A.units+1 < cLine) (ho:PE X oe td) (he:PE X e ty) (m:M1 X oe "get" apos e cpos):PE X (.Call (.Attribute oe "get" apos) [e] [] cpos) (C2 td ty):=by
 intro pins s σ H Q I h;refine wpAny_Call_method m.base m.few m.line PySem.F.plainAttrs_dict Ly PySem.F.type_dict_get (thn (ho pins s σ H _ I h) λu s1 B=>?_)
 obtain⟨x,H1,Z,rx,a,ex,ps,d,q1⟩:=B;subst ex;obtain rfl:u=i8 a:=rx
 obtain⟨t1,t2,_⟩:=yw Z (.inr ⟨_,.inl d⟩);refine⟨t1,t2,?_⟩
 rw[m.trees];refine KO rfl (LO (G3 (thn (he pins s1 σ H1 _ Z q1) λiv s2 ⟨y,H2,I2,ry,d2,b,ey,st,v,hb,q2⟩=>I_ ?_)))
 subst ey;obtain rfl:iv=i8 b:=ry
 cases st with
 | none=>exact Cz hu I2 d2 hb λs3 Y=>⟨.non,H2,Y,rfl,q2⟩
 | some st=>exact HZ hu I2 (lc.t (k:=[i4 st,i4 v]) d2 hb) rfl λw' s3 Y L=>⟨_,H2,Y,by rw[qk] at L;exact L,q2⟩
section
variable {ie l:Expr} {tl:TE}
theorem DT (L:X.prog=P) (Z:X.w=w) (hu:X.A.units+1 < cLine) (Y:PE X oe td) (hi:PE X ie ty) (F:PE X value tv) (B:L9 value (some (.Subscript oe ie pos')) pos.line X.env=pure false) :
  PS X (.Assign [.Subscript oe ie pos'] value pos) (BX P w td ty tv):=by
 subst L Z;exact Gf hu Y hi F B
theorem zR (B:X.prog=P) (F:X.w=w) (he:PE X e te):PE X e (EN P w te):=by
 subst B F;exact Hs he
theorem BS (B:X.prog=P) (F:X.w=w) (hl:PE X l tl):PI X tg l (iN P w tl):=by
 subst B F;exact Kf hl
end
theorem uo (hK:X.K=K) (hu:X.A.units+100 < cLine):OpR X (s_ .Eq) (E2 K):=by
 subst hK;exact Dl hu
def Ic (K:fy) (a:Addr):It :=
  ⟨λi H=>∃xs x,SqL K H a xs/\xs[i]? = some x,
   λi H v H'=>∃t x,H t=none/\v = .ref t/\H'=upd H t (.tup [.int (i:Nat),x])/\∀xs,SqL K H a xs->xs[i]? = some x,
   λi H=>∃xs,SqL K H a xs/\xs.length=i⟩
theorem xK {x1} {pos:Pos} (a e J:Addr) (Z:e≠J) :
  mQ P w K (.Tuple es x1 pos) (Ic K a) [e,J] e (λi h=>(∃F,IsEnum h e J i F)/\h.IsListIter J a i) where
 mem:=by simp
 obj:=λi h st c B=>by
  obtain⟨⟨F,he⟩,oi,i1,i2,i3⟩:=st;simp only[i6,k_,or_false] at B;rcases B with rfl | rfl
  .exact⟨_,he,λv z=>by cases z⟩
  .exact⟨oi,i1,λv z=>by rw[i3] at z;cases z⟩
 keep:=λi h h' st k=>by
  obtain⟨⟨F,he⟩,hi⟩:=st;exact⟨⟨F,k e (by simp) _ he⟩,hi.at λo q=>k J (by simp) o q⟩
 item:=by
  intro X hP hw hK B i pins s σ H E L hf st hg;subst hP hw hK;obtain⟨xs,x,hq,hx⟩:=hg;obtain⟨its,rv,p,hz⟩:=L.list hq;obtain⟨u,hu,ru⟩:=rv.get hx;obtain⟨⟨F,he⟩,hi⟩:=st;have pl:s.heap.IsList a its.toArray:=p.isList
  have Y:a≠J:=λz=>by
   obtain⟨o1,q1,q2,_⟩:=hi;obtain⟨o2,q3,q4,_⟩:=id pl;rw[<- z,q3] at q1;cases q1;rw[q4] at q2;exact absurd q2 (by simp)
  have aj:e∉[J,a]:=λhm=>by
   rcases i6.mp hm with z | z
   .exact Z z
   .have z:=fx.mp z
    obtain⟨o2,q3,q4,_⟩:=id pl;rw[<- z,he] at q3;cases q3;exact absurd q4 (by simp)
  have ac:i < its.toArray.size:=by simpa using (g_.mp hu).1
  refine wpAny_pyNext_enum_itemD (Draws.list (A:=X.A.in1) (show X.A.in1.handled=none from L.ok.hd B) J a Y its.toArray) he ⟨hi,pl⟩ ac Z aj λv g tk hv ho ah ht hs hk=>?_
  have ad:v=u:=by
   simp only[G5] at hv;rw[hu] at hv;exact(ge hv).symm
  subst ad;refine⟨_,rfl,wpAny_letOwnedTupleGo_enum (s:={ s with heap:=g,toks:=tk+1 }) ho λg2 ak s2=>?_⟩
  have aa:e < s.heap.objs.size:=fi he
  have af:J < s.heap.objs.size:=by obtain⟨o1,q1,_⟩:=hi;exact fi q1
  have ab:H s.heap.objs.size=none:=L.hok.fresh (h_ _)
  have I2:Inv X pins σ (upd H s.heap.objs.size (.tup [.int (i:Nat),x])) { s with heap:=g2,toks:=tk+1 }:=L.turnedNew (t':=tk+1) (fp:=[e,J]) (λc o B q=>by
    simp only[i6,k_,or_false,not_or] at B;exact(s2.2 c B.1).trans (hk c o B.1 B.2 q)) hf (h_ _)
   ⟨by show 2<=g9;decide,[.int i tk,v],.cons ⟨tk,rfl⟩ (.cons ru .nil),⟨_,(s2.2 _ (nH aa)).trans ht,rfl,_,rfl⟩⟩
  refine⟨.ref s.heap.objs.size,_,I2,rfl,⟨_,x,ab,rfl,rfl,λzs ag=>by rw[L.list_inj ag hq];exact hx⟩,⟨⟨v,by simpa using ak⟩,ah.1.at λo q=>(s2.2 J Z.symm).trans q⟩,λc B=>?_⟩
  simp only[i6,k_,or_false] at B;rcases B with rfl | rfl
  .rw[ai (k9 aa)];exact(hf _ (by simp)).1
  .rw[ai (k9 af)];exact(hf _ (by simp)).1
 done:=by
  intro X hP hw hK B i pins s σ H E L hf st hg;subst hP hw hK;obtain⟨xs,hq,hx⟩:=hg;obtain⟨its,rv,p,hz⟩:=L.list hq;obtain⟨⟨F,he⟩,hi⟩:=st;have pl:s.heap.IsList a its.toArray:=p.isList
  have Y:a≠J:=λz=>by
   obtain⟨o1,q1,q2,_⟩:=hi;obtain⟨o2,q3,q4,_⟩:=id pl;rw[<- z,q3] at q1;cases q1;rw[q4] at q2;exact absurd q2 (by simp)
  have hn:its.toArray.size=i:=by have:=rv.length;simp;omega
  subst hn;refine wpAny_pyNext_enum_endD (Draws.list (A:=X.A.in1) (show X.A.in1.handled=none from L.ok.hd B) J a Y its.toArray) he ⟨hi,pl⟩ λg hk=>⟨rfl,L.turnedL (t':=s.toks) (fp:=[e,J]) (λc o B q=>hk c o (λz=>B (by simp[z])) q) hf⟩
 self:=λ_ _ _ _ _ st h=>by
  obtain⟨⟨F,he⟩,_⟩:=st;exact wpAny_pyIter_enum he h
def iEl (K:fy) (ta:TA):TI:=λσ H R=>ta σ H λvs H1=>∃a,vs=[.ref a]/\∃xs,H1 a*>xs/\R (Ic K a) H1
theorem CH {ta:TA} {p:Pos} {x1} (hK:X.K=K) (hg:Gl X "enumerate") (hm:X.mg "enumerate" = none) (ha:PA X [e1] ta) (hs:jc [e1] X.env=[(false,eval e1 X.env)]:=by rfl) :
  PI X (.Tuple es x1 pos') (.Call (.Name "enumerate" p) [e1] [] pos) (iEl K ta):=by
 subst hK;intro pins s σ H R I h;refine Call_ (eJ I hg hm rp (k7 (thn (ha pos pins s σ H _ I h) λus B ⟨vs,H1,I1,r1,q1⟩=>?_) (by rw[hs];rfl) rfl))
 obtain⟨a,e,xs,L,q⟩:=q1;subst e;obtain⟨u,rfl,ru⟩:=cV r1;cases ru;obtain⟨its,rv,pl,hz⟩:=I1.list (SqL.of L);refine call_enumerate_list (show B.heap.IsList a its.toArray from pl.isList) λg he hJ _ kg=>?_
 generalize ab:B.heap.objs.size+1=e at he;generalize aa:B.heap.objs.size=J at he hJ;have F:e≠J:=()
 have Y:B.heap.objs.size<=e:=()
 have l2:B.heap.objs.size<=J:=()
 refine wpAny_pyIter_enum (s:={ B with heap:=g }) he ⟨e,[e,J],_,_,H1,rfl,I1.kept (t':=B.toks) kg,xK a e J F,⟨⟨_,he⟩,hJ⟩,λc Z=>?_,q⟩
 simp only[i6,k_,or_false] at Z;rcases Z with rfl | rfl
 .exact I1.fpOk Y (I1.hok.fresh Y)
 .exact I1.fpOk l2 (I1.hok.fresh l2)
noncomputable def dj (i:Nat):TE:=λσ H Q=>match σ[i]? with | some (some v)=>Q v H | _=>False
theorem BJ {Q:VK} (h:dj i σ H Q):E4 i σ H Q:=by
 unfold dj at h
 split at h
 .exact⟨_,by assumption,h⟩
 .exact h.elim
theorem pvM (i:Nat) {x:Str} {pos:Pos} (L:X.N[i]? = some x:=by rfl) (Y:Vis X.env.scope x:=by first | exact Or.inl rfl | exact Or.inr (Or.inl rfl) | exact Or.inr (Or.inr rfl)) (F:(x ==("__debug__" : Str))=false:=by decide)
  (B:(x ==("__classdict__" : Str))=false:=by decide):PE X (.Name x pos) (dj i):=λpins s σ H Q I h=>Ir L Y F B pins s σ H Q I (BJ h)
end L2
namespace PySem
namespace F
theorem entry_dict_update_loop:entryFor table "dict.update.loop" = some Builtin.«dict.update.loop» := entryFor_of_tree (by kernel_rfl)
theorem plain_dict_update_loop:plainId "dict.update.loop" = true:=by decide+kernel
end F
end PySem
namespace L2
open PySem PySem.Spec PyProof.Rows
structure Gw (w:World) (K:fy) (a:Addr):Prop where
 ex : ∃es n,K.lookup a=some ⟨.type "dict",none,.dict es n,#[]⟩/\PySem.W.KeysLit w.params es.toList
def FnT (P:Program) (w:World) (K:fy) (mg:Str->Option Value) (base:Heap) (a:Addr) (x:Str) (k:Nat) (ps:List Str) (sp:Sp):Prop :=
 ∃f fd,jk P w K mg base CX0 k f fd ps sp/\nsIn K a x=some (-f)/\Lj K (.ref f)=true/\jX K fd ps []
theorem nS {y:Str} (F:Fn P w K mg base y j ps sp) (Y:mg y=-f) (L:nsIn K a x=some (-f)) (h:j<=k)
  (B : ∀vs H Q E,sp' vs H Q E->sp vs H Q E):FnT P w K mg base a x k ps sp':=by
 obtain⟨f',fd,F,m,Z,b⟩:=F;rw[Y] at m;cases m;exact⟨f,fd,(F.mono h).imp B,L,Z,b⟩
noncomputable def lh (names:List Str) (sp:Str->Sp) (tb:TE) (t:TA):TE:=λσ H Q=>tb σ H λy H1=>∃x,y = .str x/\x∈names/\t σ H1 λvs H2=>sp x vs H2 Q E0
section
variable {p p1:Pos} {b:Expr} {tb:TE} {t:TA}
theorem Cn {sp:Str->Sp} (TA:Gw X.w X.K a) (F : ∀y∈names,FnT X.prog X.w X.K X.mg X.base a y k ps (sp y)) (hm:X.mg x=-a) (hb:PE X b tb) (ha:PA X (e :: es) t) (hr:cU k X.A:=by exact cU.mono (by assumption) (by first | decide | omega)) (hg:Gl X x:=by exact rfl)
  (hs:zd b:=by exact λ_ _=>rfl) (Z:(x ==("__debug__" : Str))=false:=by decide)
  (he:jc (e :: es) X.env=(false,eval e X.env) :: jc es X.env:=by rfl) (Y:(y_ pos (jc es X.env)).any (·.1)=false:=by rfl) :
  PE X (.Call (.Subscript (.Name x p) b p1) (e :: es) [] pos) (lh names sp tb t):=by
 intro pins s σ H Q I h
 show wpAny _ _ (do callWith pos (<- eval (.Subscript (.Name x p) b p1) X.env) [] (y_ pos (jc (e :: es) X.env)) (backToKw pos (LZ [] X.env))) _ _ s
 refine a_ (Subscript_ (lY I hg hm (thn (hb pins s σ H _ I h) λu s1 B=>?_) Z))
 obtain⟨v,H1,I1,r,y,ey,hy,q⟩:=B;subst ey;obtain⟨tk,rfl⟩:=r;obtain⟨f,fd,F,hn,kp,bd⟩:=F y hy;obtain⟨aa,n,hl,hk⟩:=TA.ex;have L:=PySem.W.mapOf_K (prog:=X.prog) I1.kIn hl hk;refine PyProof.Rows.tail_any L.typeIs PySem.F.slot_dict_getitem.lookup (wpAny_getItem_of (strKind_is X.prog X.w y tk) L (PySem.W.find_K hl hn) ?_) (hs _ _)
 have I2:Inv X pins σ H1 { s1 with toks:=s1.toks+1 }:=I1.tok _
 refine LL (h₀:=X.base) I.ok.mod.kin kp (thn (ha pos pins _ σ H1 _ I2 q) λus s3 ⟨vs,H3,I3,r3,q3⟩=>⟨I3.kIn,?_⟩) he Y
 exact lz F hr bd .nil oW I3 r3 (by rw[append_nil];exact q3)
end
theorem xj (B:List (Key × Value)) (i:Nat) (x:Key × Value) (h:B[i]? = some x):merged [] (B.take (i+1))=stored (merged [] (B.take i)) x.1 x.2:=by
 rw[j6,h];unfold merged;rw[L6];rfl
end L2
namespace PySem
theorem kH:entryFor table "dict_itemiterator.__iter__" = some Builtin.«dict_keyiterator.__iter__» :=
 entryFor_alias (id' := "dict_keyiterator.__iter__") (by kernel_rfl) rfl (by decide+kernel) (by kernel_rfl)
theorem jA {ep:Nat} {ok Y:Value} (B:IsItemIter s.heap it d i n ep ok Y) (h:Q (.ref it) s):wpAny (model prog w) A (pyIter (.ref it)) Q E s:=by
 have L:s.TypeIs (.ref it) "dict_itemiterator" :=⟨_,B,rfl⟩
 refine wpAny_pyIter_slot L F.slot_dict_itemiterator_iter (li F.slot_dict_itemiterator_iter L kH ?_ (F.args_dict_itemiterator_iter_1 _))
 show wpAny _ _ (ret (.ref it)) _ _ s
 exact e_ ⟨_,rfl,"dict_itemiterator",_,L,F.slot_dict_itemiterator_next.lookup,h⟩
end PySem
namespace L2
open PySem PySem.Spec PyProof.Rows
def Iti (a:Addr) (o:Obj) (kvs:List (Key × V)):It :=
  ⟨λi H=>H a=some (.frz o (.dK kvs))/\i < kvs.length,
   λi H v H'=>∃t k x,H t=none/\v = .ref t/\H'=upd H t (.tup [kV k,x])/\kvs[i]? = some (k,x),
   λi H=>H a=some (.frz o (.dK kvs))/\kvs.length<=i⟩
theorem xW {x1} {pos:Pos} (a it:Addr) (o:Obj) (kvs:List (Key × V)) (ep:Nat) (ag : ∃es,o.data = .dict es ep) :
  mQ P w K (.Tuple es x1 pos) (Iti a o kvs) [it] it (λi h=>∃ok Z,IsItemIter h it a i kvs.length ep ok Z) where
 mem:=by simp
 obj:=λi h st b hb=>by
  have e:b=it:=by simpa using hb
  subst e;obtain⟨ok,Z,h⟩:=st;exact⟨_,h,λv z=>by cases z⟩
 keep:=λi h h' st k=>by
  obtain⟨ok,Z,h⟩:=st;exact⟨ok,Z,k it (by simp) _ h⟩
 item:=by
  intro X hP hw hK hc i pins s σ H E In hf st hg;subst hP hw hK;obtain⟨ha,hi⟩:=hg;obtain⟨ho,hz,hd,vs,Y,od,es,F,L,hr⟩:=(show s.heap.get? a=some o/\bB X.prog X.w H s.heap a (.dK kvs) from In.hok a _ ha)
  rw[ho] at L;cases L;obtain⟨ak,aa⟩:=ag;have ab:F=ep:=by
   have:=hr.2.1
   rw[aa] at this;cases this;rfl
  subst ab;have B:=Y.length;obtain⟨k,v,af⟩ : ∃k v,kvs[i]? = some (k,v):=⟨kvs[i].1,kvs[i].2,by simp[hi]⟩
  obtain⟨u,hu,ru⟩:=Y.get af;obtain⟨ok,Z,st⟩:=st;have ac:IsItemIter s.heap it a i vs.length F ok Z:=by rw[<- B];exact st
  refine wpAny_pyNext_items_item (knd:=ba X.prog X.w) (v:=u) ac ⟨o,es,ho,hr⟩ hu λkey h' hk aj ht ao an=>?_
  refine⟨_,rfl,wpAny_letOwnedTupleGo_items (s:={ s with heap:=h' }) aj λh2 am s2=>?_⟩
  have ad:it < s.heap.objs.size:=fi st
  have ah:H s.heap.objs.size=none:=In.hok.fresh (h_ _)
  have I2:Inv X pins σ (upd H s.heap.objs.size (.tup [kV k,v])) { s with heap:=h2 }:=In.turnedNew (t':=s.toks) (fp:=[it]) (λc oc hc q=>by
    simp only[i6,k_,or_false] at hc;exact(s2.2 c hc).trans (an c oc hc q)) hf (h_ _)
   ⟨by show 2<=g9;decide,[key,u],.cons (zG hk) (.cons ru .nil),⟨_,(s2.2 _ (nH ad)).trans ht,rfl,_,rfl⟩⟩
  refine⟨.ref s.heap.objs.size,_,I2,rfl,⟨_,k,v,ah,rfl,rfl,af⟩,⟨key,u,by rw[B];exact am⟩,λc hc=>?_⟩
  have e:c=it:=by simpa using hc
  subst e;rw[ai (k9 ad)];exact(hf _ (by simp)).1
 done:=by
  intro X hP hw hK hc i pins s σ H E In hf st hg;subst hP hw hK;obtain⟨ha,hi⟩:=hg;obtain⟨ho,hz,hd,vs,Y,od,es,F,L,hr⟩:=(show s.heap.get? a=some o/\bB X.prog X.w H s.heap a (.dK kvs) from In.hok a _ ha)
  rw[ho] at L;cases L;obtain⟨ak,aa⟩:=ag;have ab:F=ep:=by
   have:=hr.2.1
   rw[aa] at this;cases this;rfl
  subst ab;have B:=Y.length;obtain⟨f0,f1,f2,f3,f4,f5⟩:=hf it (by simp)
  obtain⟨ok,Z,st⟩:=st;have ac:IsItemIter s.heap it a i vs.length F ok Z:=by rw[<- B];exact st
  exact wpAny_pyNext_items_end (knd:=ba X.prog X.w) (In.ok.hd hc) ac ⟨o,es,ho,hr⟩ (y7.mpr ()) λh' eb=>⟨rfl,In.turned (t':=s.toks) (λb ob hb e=>eb b ob hb e) f0 f1 f3 f4 f5⟩
 self:=λ_ _ _ _ _ st h=>by
  obtain⟨ok,Z,st⟩:=st;exact jA st h
def iI (td:TE):TI:=λσ H R=>td σ H λx H1=>∃a,x = .ref a/\∃kvs,H1 a<*kvs/\∀o,R (Iti a o kvs) (upd H1 a (.frz o (.dK kvs)))
theorem vK {x1} (ho:PE X oe td) (Z:Lf oe "items" X.env (eval oe X.env)=eval oe X.env:=by rfl) (aa:(apos.endLine == cpos.line)=true:=by rfl) :
  PI X (.Tuple es x1 pos') (.Call (.Attribute oe "items" apos) [] [] cpos) (iI td):=by
 intro pins s σ H R I h;refine wpAny_Call_method0_late Z aa (thn (ho pins s σ H _ I h) λv B Y=>?_)
 obtain⟨x,H1,I1,r1,a,ex,kvs,hq,q⟩:=Y;subst ex;cases r1;obtain⟨hz,hd,vs,ag,od,ab,ep,ac,hr⟩:=kR I1.hok hq;obtain⟨t1,t2,_⟩:=yw I1 (.inl ⟨_,.inl hq⟩);refine⟨"dict","dict.items",PySem.F.plainAttrs_dict,PySem.F.slot_dict_items,PySem.F.type_dict_items,t1,t2,?_⟩
 refine method_meetsIn PySem.F.slot_dict_items PySem.F.entry_dict_items rfl (PySem.evalArgs_none ⟨rfl,t1,PySem.F.args_dict_items_1 _,_,meets_dict_items (ba X.prog X.w) a hd,⟨vs,od,ab,ep,ac,hr⟩,?_⟩)
 have hm:(B.heap.push { cls:=.type "dict_items",data:=.fields #[.ref a] }).DictAt (ba X.prog X.w) a vs ep:=⟨od,ab,c_ _ ac,hr⟩
 refine wpAny_pyIter_items (knd:=ba X.prog X.w) (s:={ B with heap:=B.heap.push { cls:=.type "dict_items",data:=.fields #[.ref a] } }) (d:=a) (kvs:=vs) (ep:=ep) ⟨_,gr _ rfl,rfl,rfl⟩ hm ?_
 have hn : ∀ob u,X.H₀ a≠some (.frz ob u):=λob u e=>by have:=I1.base.frzs a ob u e;rw[hq] at this;cases this
 have I2:Inv X pins σ H1 { B with heap:=(B.heap.push { cls:=.type "dict_items",data:=.fields #[.ref a] }).push { cls:=.type "dict_itemiterator",data:=.fields #[.none,.bool false,.ref a,.int 0 0,.int vs.length 0,.int ep 0,.none,.none] } }:=I1.kept (t':=B.toks) λb o e=>c_ _ (c_ _ e)
 have ah:=I2.hok a _ hq;have I3:=I2.retag (o':=.frz od (.dK kvs)) hq (by intro y z;cases z) (by intro y z;cases z) hn (by intro y z;cases z) ⟨c_ _ (c_ _ ac),ah⟩
 have af:=ag.length;have hsz:(B.heap.push { cls:=.type "dict_items",data:=.fields #[.ref a] }).objs.size=B.heap.objs.size+1:=n6 ..
 refine⟨_,[(B.heap.push { cls:=.type "dict_items",data:=.fields #[.ref a] }).objs.size],_,_,_,rfl,I3,xW a _ od kvs ep ⟨ab,hr.2.1⟩,⟨.none,.none,by rw[af];exact gr _ rfl⟩,λb hb=>?_,q od⟩
 have e:b=(B.heap.push { cls:=.type "dict_items",data:=.fields #[.ref a] }).objs.size:=by simpa using hb
 subst e;have ad:B.heap.objs.size<=(B.heap.push { cls:=.type "dict_items",data:=.fields #[.ref a] }).objs.size:=by rw[hsz];exact le_succ _
 have L:H1 (B.heap.push { cls:=.type "dict_items",data:=.fields #[.ref a] }).objs.size=none:=I1.hok.fresh ad
 obtain⟨f0,f1,f2,f3,f4,f5⟩:=I1.fpOk ad L;exact⟨by rw[ai (λz=>by rw[z,hq] at L;cases L)];exact L,f1,f2,f3,f4,f5⟩
def lp (m:Nat) (x:Nat × Nat):Nat × Nat:=((x.1 * 5+1+x.2 / 32) % (m+1),x.2 / 32)
section
variable {t:SetTable}
theorem Jq {P:Nat->Prop} [DecidablePred P] : ∀n,P n->∃k,k<=n/\P k/\∀m,m < k->¬ P m
 | 0,h=>⟨0,h_ _,h,λm z=>absurd z (Nat.not_lt_zero _)⟩
 | n + 1,h=>by
  by_cases F : ∃k,k<=n/\P k
  .obtain⟨k,hk,hp⟩:=F
   obtain⟨l,hl,hp,B⟩:=Jq k hp;exact⟨l,(),hp,B⟩
  .exact⟨n+1,h_ _,h,λm B hp=>F ⟨m,(),hp⟩⟩
end
section
variable {o:Expr}
def GC (td ty:TE):TE:=λσ H Q=>td σ H λx H1=>∃a,x = .ref a/\(∃kvs,H1 a<*kvs)/\ty σ H1 λy H2=>∃b,y = .ref b/\∃kvs,H2 a<*kvs/\∃B,H2 b<*B/\a≠b/\kvs.length+B.length<=1000/\Q .non (upd H2 a (.dK (df kvs B)))
theorem zY (ho:PE X o td) (he:PE X e ty) (m:M1 X o "update" apos e cpos):PE X (.Call (.Attribute o "update" apos) [e] [] cpos) (GC td ty):=by
 intro pins s σ H Q I h;refine wpAny_Call_method m.base m.few m.line PySem.F.plainAttrs_dict PySem.F.slot_dict_update PySem.F.type_dict_update (thn (ho pins s σ H _ I h) λu s1 ⟨x,H1,I1,rx,a,ex,⟨kv0,d⟩,q1⟩=>?_)
 subst ex;obtain rfl:u=i8 a:=rx
 obtain⟨t1,t2,_⟩:=yw I1 (.inl ⟨_,.inl d⟩);refine⟨t1,t2,?_⟩
 rw[m.trees];refine KO rfl (LO (G3 (thn (he pins s1 σ H1 _ I1 q1) λiv s2 ⟨y,H2,I2,ry,b,ey,kvs,ea,more,eb,hab,hl,q2⟩=>I_ ?_)))
 subst ey;obtain rfl:iv=i8 b:=ry
 obtain⟨z,hd,vs,Y,dd⟩:=kR I2.hok ea;obtain⟨z2,Z,rs,B,aa⟩:=kR I2.hok eb;refine call_meetsIn PySem.F.slot_dict_update dd.typeIs PySem.F.entry_dict_update (PySem.F.args_dict_update_2 _ _) (meets_dict_update (ba X.prog X.w) a b hab Z)
  ⟨vs,rs,dd,aa,by rw[<- Y.length,<- B.length];exact y3 (aF hl),λh' L _ hs=>?_⟩
 have hx : ∃q,h'.get? a=some q:=let ⟨q,_,_,hq,_⟩:=L;⟨q,hq⟩
 exact⟨.non,_,lO (t':=s2.toks) I2 (by rw[ea];exact m_) hs hx (yB (ja (dU more kvs) (y3 (aF hl))) hd (B.merge Y) L),rfl,q2⟩
end
open PySem.Builtin PySem.Builtin.Str
def Gy:List V->Hp->VK->Prop:=λxs H Q=>∃x,xs=[.str x]/\∃n,PySem.intText? x=some n/\x.length<=640/\Q (.int n) H
theorem AA:bY X (.type "int") Gy:=by
 intro pins s σ H xs us Q I r h;obtain⟨x,rfl,n,B,hl,q⟩:=h;obtain⟨u,rfl,t,rfl⟩:=cV r;exact PySem.W.KIN.call_text B hl ⟨.int n,H,I.tok _,⟨_,rfl⟩,q⟩
section
variable {t u:TS}
abbrev cS (x:Str) (j:Nat) (p:Pos):Expr:=.Constant (.str x) j p
abbrev l3 (a:Str) (B:Nat) (F:Pos) (b:Str) (jb:Nat) (Y:Pos) (c:Str) (Z:Nat) (L lp:Pos):Expr:=.List [cS a B F,cS b jb Y,cS c Z L] lp
end
abbrev sg (x:Str):List Nat:=x.cps.toList
open PySem.NumText
theorem GN (i:Int):sg (b_ (toString i))=if i < 0 then 45 ::(toDigits 10 i.natAbs).map LP else(toDigits 10 i.natAbs).map LP:=by
 cases i with
 | ofNat m =>
  rw[if_neg (by simp)]
  exact PySem.W.KIN.signs_num m
 | negSucc m =>
  rw[if_pos (Int.negSucc_lt_zero m)]
  show sg (b_ (toString (Int.negSucc m)))=45 ::(toDigits 10 (m+1)).map LP
  unfold sg;rw[signs_ofString]
  show("-" ++ Nat.repr (m+1)).toList.map LP=_
  rw[String.toList_append,Nat.toList_repr];rfl
theorem Gh (m:Nat):AllDigits ((toDigits 10 m).map LP):=λc F=>by
 obtain⟨ch,B,e⟩:=hH.mp F;have r:=digit_range (Nat.isDigit_of_mem_toDigits ∅ ∅ B)
 rw[<- e];exact r
end L2
namespace PySem
noncomputable instance decPD:DecidableEq Ma:=λa b=>Classical.propDecidable (a=b)
end PySem
namespace L2
open PySem PySem.Spec PyProof.Rows
section
variable {g:TG}
theorem tR {Q:VK}
  (a3:X.calm=true) (S:mf X scope N nt js) (hi:PI X tg iter wi)
  (hg : ∀{cl C fp s H xe},PG (dr X scope N cl C fp s H xe) tg g) (aM:C7 g nt)
  (hc : ∀{cl C fp s H xe},PTs (dr X scope N cl C fp s H xe) ifs tc)
  (he : ∀{cl C fp s H xe},PE (dr X scope N cl C fp s H xe) elt te)
  (hs : ∀x,foldedSetIterable iter X.env x=pure x) (I:Inv X pins σ H s) (h:yU nt js wi g tc te σ H Q)
  (aH : ∀{cl C fp F H2 xe H3 s4 D},Inv X pins σ H2 F->(∀b∈fp,ri X pins H2 b)->F.heap.objs.size < C->Inv (dr X scope N cl C fp F H2 xe) [] (fR nt js σ) H3 s4->Q (.ref D) H3 ->
   compPost (model X.prog X.w) X.A X.xe use Qf (.ref D) C (.ok .next) s4) :
  wpAny (model X.prog X.w) X.A (comprehension (.ListComp elt [⟨tg,iter,ifs,0⟩] scope pos) scope X.env pos' (newList []) false (eval iter X.env) use) Qf X.xe s:=by
 obtain⟨cl,a2,a6,_,a7⟩:=lE (env:=X.env) scope.names [] (λx hx hk=>I.ok.has x.1 (S.free x hx hk))
 have aA : ∀x c,cl.lookup x=some c->X.env.cells.lookup x=some c:=λx c e=>(a6 x c e).elim (λz=>by simp at z) λz=>z
 have aj:closureFor scope X.env=pure cl:=by
  unfold closureFor;simp only[];rw[a2];rfl
 refine wpAny_comprehension_free rfl hs aj S.kind S.loc (thn (hi pins s σ H _ I h) λv s1 h1=>thn h1 λaN F h2=>?_)
 obtain⟨it,fp,tn,J,H2,e,I2,T,a1,f2,q2⟩:=h2;subst e;have aa:H2 F.heap.objs.size=none:=I2.hok.fresh (h_ _)
 obtain⟨W,⟨m0,w0⟩,a4⟩:=q2 F.heap.objs.size aa;refine w4 (gj (λB=>?_))
 dsimp only at B ⊢;generalize hG:F.heap.push { cls:=.type "list",dict:=none,data:=.seq ([]:List Value).toArray }=G at B ⊢;have aE:G.objs.size=F.heap.objs.size+1:=by rw[<- hG,n6]
 have ac:=cellsFrom_ok scope.names (G.push { cls:=.type "dict",data:=.dict #[] }) (G.objs.size+1) [] ⟨λ_ _ hm=>(nomatch hm),List.Pairwise.nil⟩ (by rw[n6];exact h_ _)
 rw[n6] at ac;have kp : ∀b o,G.get? b=some o->(pushCells (G.push { cls:=.type "dict",data:=.dict #[] }) scope.names).get? b=some o:=λb o e=>pushCells_keeps _ _ _ _ (c_ _ e)
 generalize aI:pushCells (G.push { cls:=.type "dict",data:=.dict #[] }) scope.names=af at B ac kp ⊢;have Z : ∀b o,F.heap.get? b=some o->af.get? b=some o:=λb o e=>kp b o (hG ▸ c_ _ e)
 have a8:HOk X.prog X.w (upd H2 F.heap.objs.size (.lst [])) af:=I2.hok.laid Z (h_ _) ⟨x5 _,[],0,.nil,kp _ _ (hG ▸ gr _ rfl)⟩
 have ag : ∀b∈fp,b < F.heap.objs.size:=λb L=>by
  obtain⟨o,e,_⟩:=T.obj _ _ a1 b L;exact fi e
 have aL : ∀c,G.objs.size<=c->(upd H2 F.heap.objs.size (.lst [])) c=none:=λc hc=>by
  rw[ai (nH ())]
  exact I2.hok.fresh ()
 have ay:=λxe H3 s4=>@aH (o8 (G.objs.size+1) scope.names cl) G.objs.size fp F H2 xe H3 s4 F.heap.objs.size I2 f2 (by rw[aE];exact D_ _)
 generalize aD:compPost (model X.prog X.w) X.A X.xe use Qf (.ref F.heap.objs.size) G.objs.size=RR at ay
 let Y:=dr X scope N (o8 (G.objs.size+1) scope.names cl) G.objs.size fp F H2 (notedBy (model X.prog X.w) X.A (compEnvC scope (o8 (G.objs.size+1) scope.names cl) G.objs.size X.env) λe s'=>RR (.error e) s')
 have ad : ∀{H':Hp},(∀b∈fp,H' b=none)->∀b∈fp,ri Y [] H' b:=λ{H'} hn b L=>by
  obtain⟨f0,f1,aG,f3,f4,f5⟩:=f2 b L;have h1:=ag b L;refine⟨hn b L,k9 (g7 h1 (by show _<=G.objs.size;omega)),λz=>?_,.inl L,λx c e=>?_,λp hp=>absurd (show p∈([]:List (Addr × Obj)) from hp) (by simp)⟩
  .rcases i6.mp (I2.stkSub b z) with q | q
   .exact f1 q
   .exact aG q
  .have e:(o8 (G.objs.size+1) scope.names cl).lookup x=some c:=e
   rw[bP] at e;rcases qK e with q | q
   .have:=(ac.empty x c (mem_of_lookup q)).2
    exact nH (g7 h1 ())
   .exact f4 x c (aA x c q.2)
 have az:Le (model X.prog X.w) X.A (.compLoop (.ListComp elt [⟨tg,iter,ifs,0⟩] scope pos) 0 (.ref it) (.ref F.heap.objs.size) (compEnvC scope (o8 (G.objs.size+1) scope.names cl) G.objs.size X.env)) RR { F with heap:=af,toks:=F.toks }:=by
  refine uF (λn s'=>∃i ys H',Inv Y [] (fR nt js σ) H' s'/\tn i s'.heap/\(∀b∈fp,H' b=none)/\W i n ys H') ?_ m0
   ⟨0,[],_,vJ S I2 f2 aA a7 (λx c hm=>ac.empty x c hm) ac.apart aL ag () Z (λb o e=>by rw[ai (au e aa)];exact e) (λb n L=>by rw[ai (k9 L)];exact n) a8 B (λ_=>rfl),T.keep _ _ _ a1 λb L o e=>Z b o e,λb L=>by rw[ai (k9 (ag b L))];exact(f2 b L).1,w0⟩
  rintro n s3 ⟨i,ys,H3,J3,a9,aB,w3⟩
  rcases a4 i n ys H3 w3 with⟨a5,qn⟩ | ⟨go,NN,hN,step⟩
  .refine thn (T.done Y rfl rfl rfl a3 i [] s3 (fR nt js σ) H3 _ J3 (ad aB) a9 a5) λr s4 aw=>?_
   obtain⟨hr,I4⟩:=aw;subst hr;exact ay _ _ _ I4 qn
  .refine thn (T.item Y rfl rfl rfl a3 i [] s3 (fR nt js σ) H3 _ J3 (ad aB) a9 go) λr s4 ax=>?_
   obtain⟨u,hr,h4⟩:=ax;subst hr;refine thn h4 λ_ s5 ar=>?_
   obtain⟨x,H5,I5,r5,y5,a0,aJ⟩:=ar;have g5:=aM x (fR nt js σ) H5 _ qQ (step x H5 y5);refine thn (hg _ s5 _ H5 x u _ (I5.pinned (ad aJ) (T.obj _ _ a0)) r5 g5) λ_ s6 ak=>?_
   obtain⟨aq,H6,I6,aK,q6⟩:=ak;refine thn (hc _ s6 aq H6 _ I6 q6) λok s7 ah=>?_
   obtain⟨H7,I7,q7⟩:=ah;have ab : ∀{s8:Shared} {H8:Hp} {ao:List V},Inv Y ([]++qu fp s5.heap) aq H8 s8->NN ao H8 ->
     ∃m,m < n/\∃i ys H',Inv Y [] (fR nt js σ) H' s8/\tn i s8.heap/\(∀b∈fp,H' b=none)/\W i m ys H':=λ{s8 H8 ao} I8 n8=>by
    obtain⟨m',hm,w8⟩:=hN ao H8 n8;have k8:=λb L o e=>I8.pin (b,o) (o_ _ (o_ _ (ld L e)))
    refine⟨m',hm,i+1,ao,H8,(I8.unpinned).wk aK,T.keep _ _ _ a0 λb L o e=>(k8 b L o e).1,λb L=>?_,w8⟩
    obtain⟨o,e,d⟩:=T.obj _ _ a0 b L;exact(k8 b L o e).2.1
   cases ok with
   | false =>
    rw[if_neg i_] at q7 ⊢;exact ab I7 q7
   | true =>
    rw[if_pos rfl] at q7 ⊢;refine thn (he _ s7 aq H7 _ I7 q7) λy s8 am=>?_
    obtain⟨yv,H8,I8,r8,aF,aC,q8⟩:=am;refine thn (tY (X:=Y) _ s8 aq H8 (.ref F.heap.objs.size) [yv] (.ref F.heap.objs.size) [y] (λ_ H9=>NN (ys++[yv]) H9) I8 rfl (.cons r8 .nil) ⟨_,ys,yv,rfl,rfl,aF,aC,q8⟩) λv9 s9 an=>?_
    obtain⟨x9,H9,I9,r9,q9⟩:=an;exact ab I9 q9
 subst aD;exact codeAny_compStart_list az (T.self _ 0 _ _ _ (T.keep _ _ _ a1 λb L o e=>Z b o e) az)
theorem aV (S:mf X scope N nt js) (hi:PI X tg iter wi)
  (hg : ∀{cl C fp s H xe},PG (dr X scope N cl C fp s H xe) tg g) (ac:C7 g nt)
  (hc : ∀{cl C fp s H xe},PTs (dr X scope N cl C fp s H xe) ifs tc)
  (he : ∀{cl C fp s H xe},PE (dr X scope N cl C fp s H xe) elt te)
  (hs : ∀x,foldedSetIterable iter X.env x=pure x:=by intro _;rfl) (ab:X.calm=true:=by exact rfl) :
  PE X (.ListComp elt [⟨tg,iter,ifs,0⟩] scope pos) (yU nt js wi g tc te):=by
 intro pins s σ H Q I h;rw[eval_ListComp];refine tR ab S hi hg ac hc he hs I h λ{cl C fp s2 H2 xe H3 s4 D} I2 f2 hC I4 qn=>?_
 obtain⟨mC,ad,_⟩:=id I4.loc;refine⟨mC,ad,λF Z=>?_⟩
 have B : ∀b o,b≠C->s4.heap.get? b=some o->F.get? b=some o:=λb o L e=>Z.extBut b o L e
 have lC : ∀{b o},s2.heap.get? b=some o->b≠C:=λe=>k9 (lt_trans (fi e) hC)
 have un:Un (frs X.stack) fp H2 H3 s2.heap F:=by
  have u:=I4.base;refine⟨λb o e n L Y=>B b o (lC e) (u.keep b o e n L Y),λb o e n L Y=>?_,u.free,λb o e Y=>?_,u.tups,u.frzs,u.tbls⟩
  .obtain⟨sl,e1⟩:=u.slot b o e n L Y
   exact⟨sl,B b _ (lC e) e1⟩
  .obtain⟨o',e1⟩:=u.there b o e Y
   exact⟨o',B b _ (lC e) e1⟩
 have aa:HOk X.prog X.w H3 F:=λb u e=>(I4.hok b u e).stay (λc v hc q=>B c v (by
   have cf:H3 C=none:=I4.free
   rintro rfl
   rcases hc with z | z
   .rw[z] at cf;rw[cf] at e;cases e
   .rw[cf] at z;cases z) q) (λ_ q=>q) λ_ _ q=>q
 exact⟨.ref D,H3,I2.call' (s':={ s4 with heap:=F }) I4.os un aa I4.bare (λb L=>by
  obtain⟨f0,f1,af,f3,f4,f5⟩:=f2 b L;exact⟨f3,f1,f4,f5⟩),rfl,qn⟩
theorem iy (i:Nat) {y:Str} {py F:Pos} (S:mf X scope N nt js) (hi:PI X tg iter wi)
  (hg : ∀{cl C fp s H xe},PG (dr X scope N cl C fp s H xe) tg g) (af:C7 g nt)
  (hc : ∀{cl C fp s H xe},PTs (dr X scope N cl C fp s H xe) ifs tc)
  (he : ∀{cl C fp s H xe},PE (dr X scope N cl C fp s H xe) elt te)
  (hs : ∀x,foldedSetIterable iter X.env x=pure x:=by intro _;rfl) (ab:X.calm=true:=by exact rfl) (hN:X.N.Nodup:=by assumption) (ac:X.N[i]? = some y:=by exact rfl) (hy:Loc X.env.scope y:=by first | exact Or.inl rfl | exact Or.inr rfl)
  (ag:L9 (.ListComp elt [⟨tg,iter,ifs,0⟩] scope pos) (some (.Name y py)) F.line X.env=pure true:=by rfl)
  (hf:X.fn y=true\/X.env.scope.names.lookup y=some .local:=by first | exact .inl rfl | exact .inr rfl | assumption) :
  PS X (.Assign [.Name y py] (.ListComp elt [⟨tg,iter,ifs,0⟩] scope pos) F) (BH (yU nt js wi g tc te) (eR i)):=by
 intro pins s σ H D I h;rw[exec_Assign_Name_used _ _ _ _ ag];refine a_ (wpAny_standAt (a_ ?_))
 show wpAny _ X.A (do let _ <- comprehension (.ListComp elt [⟨tg,iter,ifs,0⟩] scope pos) scope X.env _ (newList []) false (eval iter X.env) (some (assign (.Name y py) X.env))) _ _ s
 refine a_ (FV (tR (Qf:=λ_ s'=>SP X pins D .next s') ab S hi hg af hc he hs I h λ{cl C fp s2 H2 xe H3 s4 D'} I2 f2 hC I4 qn=>?_) (λ_ s' hq=>e_ (e_ hq)) λ_ _ e=>e)
 obtain⟨mC,ah,_⟩:=id I4.loc;have I5:Inv X pins σ H3 s4:=I2.call' (s':=s4) I4.os I4.base I4.hok I4.bare (λb hb=>by
  obtain⟨f0,f1,ak,f3,f4,f5⟩:=f2 b hb;exact⟨f3,f1,f4,f5⟩)
 show wpAny _ X.A (assign (.Name y py) X.env (.ref D')) _ _ s4
 have Z:C≠X.env.locals:=nH (lt_trans I2.lt hC)
 have L : ∀x c,X.env.cells.lookup x=some c->c≠C:=λx c e z=>by
  obtain⟨v,q⟩:=I2.cell x c e;exact n_ _ (lt_trans (z ▸ q.lt) hC)
 refine wpAny_assign_Name (tw I5 hN ac hy (v:=.ref D') rfl (λs6 I6 B=>?_) hf)
 obtain⟨ad,sb,ai⟩:=B;have Y:C≠ad:=by
  rcases ai with z | z
  .rw[z];exact Z
  .exact λe=>L _ _ z e.symm
 refine⟨mC,ah.sameBut sb Y,λaj aa=>⟨_,H3,Inv.turned (t':=s6.toks) (it:=C) I6 (λb o hb e=>aa.extBut b o hb e) I4.free Z (.inr (ja I2.sz (y3 hC))) L (λp hp z=>?_),qn⟩⟩
 exact n_ _ (lt_trans (z ▸ fi (I2.pin p hp).1) hC)
end
end L2
namespace PySem
theorem wY:H_ (.type "zip") "keys" = pure none:=by rw[x3,p8];kernel_rfl
theorem nE:H_ (.type "zip") "__getattr__" = pure none:=by rw[x3,p8];kernel_rfl
theorem iK:entryFor table "zip.__getattribute__" = some Builtin.«object.__getattribute__» :=
 entryFor_alias (id' := "object.__getattribute__") (by kernel_rfl) (by decide+kernel) (by decide+kernel) (by kernel_rfl)
theorem jB (a:Addr) (fs:Array Value) (name:Str) (u:Tok) (L:H_ (.type "zip") name=pure none) (B:(["__module__","__name__","__qualname__","__doc__","__annotations__"]:List Str).contains name=false) (hsz:name.length+100<=g9:=by size_fits) :
  Meets (Builtin.«object.__getattribute__» ⟨[.ref a,.str name u],[]⟩) (λA R s=>s.heap.get? a=some { cls:=.type "zip",dict:=none,data:=.fields fs,slots := #[] }/\raisesAttr (.ref a) name A R s) :=
 Meets.of_wp λprog w A R s F=>by
  obtain⟨hp,g,d,tk,Z⟩:=s;obtain⟨Y,F⟩:=F;have hT:(⟨hp,g,d,tk,Z⟩:Shared).TypeIs (.ref a) "zip" :=⟨_,Y,rfl⟩
  unfold Builtin.«object.__getattribute__»
  repeat (any_goals (first | assumption | wp_step))
  simp only[B,i9,if_false]
  repeat (any_goals (first | assumption | wp_step))
  exact wpAny_raiseAttrError F.1 F.2 (attrMsg_fits (by decide+kernel) hsz)
section
theorem qE {fs:Array Value} {Q:Option Value->Shared->Prop} (hx:s.heap.get? a=some { cls:=.type "zip",dict:=none,data:=.fields fs,slots := #[] }) (B:H_ (.type "zip") name=pure none) (L:(["__module__","__name__","__qualname__","__doc__","__annotations__"]:List Str).contains name=false) (hA:A.handled=none)
  (h : ∀h' tk,(∀b u,s.heap.get? b=some u->h'.get? b=some u)->Q none { s with heap:=h',toks:=tk }) (hsz:name.length+100<=g9:=by size_fits) :
  wpAny (model prog w) A (getAttr? (.ref a) name) Q E s:=by
 obtain⟨hp,g,d,tk,os⟩:=s;have hT : ∀Z,(⟨hp,g,d,Z,os⟩:Shared).TypeIs (.ref a) "zip" := λ_=>⟨_,hx,rfl⟩
 have f1:=sub_AttributeError;have f3:=F.slot_zip_getattribute.lookup;have f4:=F.slot_zip_getattribute.bind (.ref a);have f5:=nE;unfold getAttr? getAttrBy? getAttrBy
 repeat (any_goals (first | assumption | exact hT _ | ((with_reducible show wpAny _ _ (call (Value.builtin "zip.__getattribute__") _ _) _ _ _);refine call_meets F.slot_zip_getattribute (hT _) iK (F.args_zip_getattribute_2 _ _) (jB a fs name _ B L hsz) ⟨hx,hA,λh' Z e Y=>?_⟩) | wp_step))
 obtain⟨t',u',he⟩:=Y.there
 show wpAny _ _ (getattributeRaised _ _ _ _ _ _ _) _ _ _
 unfold getattributeRaised
 repeat (any_goals (first | assumption | wp_step))
 exact h _ _ Y.keeps
def ZW (g:Heap) (z P O I J S T:Addr) (i n0:Nat):Prop:=ox g z P O I J S T i .none (.bool false)\/∃B o0 f1,n0<=B/\g.get? B=some o0/\(f1 = .bool false\/f1 = .bool true)/\ox g z P O I J S T i (x4 B) f1
theorem EV {P:Addr} {xs:Array Value} {x y:Value} {Q:Option Value->Shared->Prop} (D:KH z P O I J S T) (Z:ZW s.heap z P O I J S T i n0) (hn:n0<=s.heap.objs.size) (hz : ∀b∈[z,P,O,I,J],b < n0) (hS:s.heap.IsTuple S xs) (hT:s.heap.IsTuple T ys) (hx:xs[i]? = some x) (hy:ys[i]? = some y)
  (k : ∀g,ZW g z P O I J S T (i+1) n0->LC g s.heap.objs.size x y->g.objs.size=s.heap.objs.size+1->(∀c o,c≠z->c≠O->c≠I->c≠J->s.heap.get? c=some o->g.get? c=some o)->Q (some (.ref s.heap.objs.size)) { s with heap:=g }) :
  wpAny (model prog w) A (G2 (.ref z)) Q E s:=by
 rcases Z with Z | ⟨t0,o0,f1,l0,h0,hf1,Z⟩ <;> (have B:s.TypeIs (.ref z) "zip" :=⟨_,Z.zz,rfl⟩;unfold G2)
 .refine a_ (w9 (k4 (name:=b_ "__next__") B mu (li mu B x6 (uE D Z hS hT hx hy λg Z1 hp Y L=>e_ ?_) (w5 _))))
  exact k g (.inr ⟨_,_,_,hn,hp,.inl rfl,Z1⟩) hp Y L
 .refine a_ (w9 (k4 (name:=b_ "__next__") B mu (li mu B x6 (zJ D Z h0 hf1 hS hT hx hy λg Z1 hp Y L=>e_ ?_) (w5 _))))
  have ne : ∀b∈[z,P,O,I,J],t0≠b:=λb hb=>nH (g7 (hz b hb) l0)
  exact k g (.inr ⟨t0,o0,_,l0,L t0 o0 (ne z (by simp)) (ne O (by simp)) (ne I (by simp)) (ne J (by simp)) h0,.inr rfl,Z1⟩) hp Y L
theorem Hi {P:Addr} {xs:Array Value} {Q:Option Value->Shared->Prop} (hd:A.handled=none) (D:KH z P O I J S T) (Z:ZW s.heap z P O I J S T i n0) (hS:s.heap.IsTuple S xs) (hT:s.heap.IsTuple T ys) (L:xs[i]? = none\/ys[i]? = none)
  (k : ∀g,(∀c o,c≠z->c≠O->c≠I->c≠J->s.heap.get? c=some o->g.get? c=some o)->Q none { s with heap:=g }) :
  wpAny (model prog w) A (G2 (.ref z)) Q E s:=by
 rcases Z with Z | ⟨t0,o0,f1,l0,h0,hf1,Z⟩ <;> (have B:s.TypeIs (.ref z) "zip" :=⟨_,Z.zz,rfl⟩;unfold G2)
 .refine a_ (w9 (k4 (name:=b_ "__next__") B mu (li mu B x6 (yp hd D Z hS hT L λg e kg he=>?_) (w5 _))))
  obtain⟨o,ho,Y⟩:=he;exact a_ (G1 (T := "StopIteration") (b:=true) ⟨o,ho,Y⟩ LD (e_ (k g kg)))
 .refine a_ (w9 (k4 (name:=b_ "__next__") B mu (li mu B x6 (zg hd D Z h0 hf1 hS hT L λg e kg he=>?_) (w5 _))))
  obtain⟨o,ho,Y⟩:=he;exact a_ (G1 (T := "StopIteration") (b:=true) ⟨o,ho,Y⟩ LD (e_ (k g kg)))
variable {K:Type} [DecidableEq K] {knd:KeyKind prog w K}
theorem su (hd:A.handled=none) {z P O I J S T L:Addr} {xs ys:Array Value} {n0:Nat} {key:Nat->K} {val:Nat->Value} {kv:Nat->List (K × Value)} (D:KH z P O I J S T) (hL:L < n0) (hb : ∀b∈[z,P,O,I,J],b < n0) (ab : ∀b∈[z,P,O,I,J],L≠b) (ak:L≠S) (am:L≠T)
  (hp : ∀(i:Nat) (x y:Value),xs[i]? = some x->ys[i]? = some y->knd.is (key i) x=true/\y=val i)
  (ai : ∀i,i < min xs.size ys.size->kv (i+1)=stored (kv i) (key i) (val i)) (hsz : ∀i,i<=min xs.size ys.size->(kv i).length<=g9) :
  ∀(k i:Nat) (s:Shared) (tok:Tok),min xs.size ys.size - i=k->i<=min xs.size ys.size->n0<=s.heap.objs.size->ZW s.heap z P O I J S T i n0->s.heap.IsTuple S xs->s.heap.IsTuple T ys->s.heap.DictOf knd L (kv i) ->
  (∀g tk,(∀b o,b≠L->b∉[z,P,O,I,J]->s.heap.get? b=some o->g.get? b=some o)->g.DictOf knd L (kv (min xs.size ys.size))->R (.ok (.ret .none)) { s with heap:=g,toks:=tk }) ->
  Le (model prog w) A (.builtin "dict.update.loop" ⟨[.ref L,.ref z,.int i tok,.none],[]⟩) R s:=by
 have n4 : ∀b,b∉[z,P,O,I,J]->b≠z/\b≠O/\b≠I/\b≠J:=λb h=>by
  simp only[i6,k_,or_false,not_or] at h;exact⟨h.1,h.2.2.1,h.2.2.2.1,h.2.2.2.2⟩
 have Z:=n4 L λh=>ab L h rfl
 intro k
 induction k with
 | zero =>
  intro i s tok hk af hn aa hS hT hD hR;have ar:i=min xs.size ys.size:=()
  have ag:xs[i]? = none\/ys[i]? = none:=by
   rcases le_total xs.size ys.size with h | h
   .exact .inl (v_ ())
   .exact .inr (v_ ())
  refine L5 F.entry_dict_update_loop ?_
  rw[LQ F.plain_dict_update_loop _]
  show wpAny _ A.in1 (G2 (.ref z) >>= _) _ _ s
  refine a_ (Hi hd D aa hS hT ag λg kg=>?_)
  show wpAny _ A.in1 (do Builtin.Dict.addKeywords L [];ret u9) _ _ _
  refine a_ (e_ (e_ (hR g s.toks (λb o b1 b2 e=>?_) ?_)))
  .obtain⟨c1,c2,c3,c4⟩:=n4 b b2
   exact kg b o c1 c2 c3 c4 e
  .rw[<- ar]
   obtain⟨o,es,ep,ho,rest⟩:=hD;exact⟨o,es,ep,kg L _ Z.1 Z.2.1 Z.2.2.1 Z.2.2.2 ho,rest⟩
 | succ k ih =>
  intro i s tok hk af hn aa hS hT hD hR;have ac:i < min xs.size ys.size:=()
  have hx:xs[i]? = some (xs[i]'()):=y8 ()
  have hy:ys[i]? = some (ys[i]'()):=y8 ()
  generalize xs[i]'()=x at hx
  generalize ys[i]'()=y at hy
  obtain⟨aq,rfl⟩:=hp i x y hx hy;refine L5 F.entry_dict_update_loop ?_
  rw[LQ F.plain_dict_update_loop _]
  show wpAny _ A.in1 (G2 (.ref z) >>= _) _ _ s
  refine a_ (EV D aa hn hb hS hT hx hy λg Z1 ah hg kg=>?_)
  have aj:g.DictOf knd L (kv i):=by
   obtain⟨o,es,ep,ho,rest⟩:=hD;exact⟨o,es,ep,kg L _ Z.1 Z.2.1 Z.2.2.1 Z.2.2.2 ho,rest⟩
  have hq:g.get? s.heap.objs.size=some { cls:=.type "tuple",data:=.seq #[x,val i] }:=ah
  have ao:({ s with heap:=g }:Shared).TypeIs (.ref s.heap.objs.size) "tuple" :=⟨_,hq,rfl⟩
  dsimp only;refine a_ (t7 (a_ ?_))
  refine wpAny_tryCatch ?_
  unfold Builtin.Dict.pairItems;refine a_ (Lx ao ?_)
  rw[if_pos ∅]
  refine a_ (u8 hq rfl ?_)
  refine e_ ?_
  show wpAny _ _ (holding [x,val i] (dictSet L x (val i))) _ _ _
  refine t7 (wpAny_dictSet_pairs aq aj (λh' an ad=>?_) (hsz i af))
  have B : ∀b o,b≠L->g.get? b=some o->h'.get? b=some o:=λb o Y e=>(ad.2 b Y).trans e
  refine e_ ⟨plainId_quiet F.plain_dict_update_loop _,ih (i+1) _ _ () ac ?_ ?_ ?_ ?_ (by rw[ai i ac];exact an) λg' tk k' d'=>?_⟩
  .show n0<=h'.objs.size
   rw[ad.1]
   show n0<=g.objs.size
   omega
  .rcases Z1 with Z1 | ⟨t0,o0,f1,l0,h0,hf1,Z1⟩
   .exact .inl (Z1.keep λb Y o e=>B b o (p7 (ab b Y)) e)
   .exact .inr ⟨t0,o0,f1,l0,B _ _ (nH (g7 hL l0)) h0,hf1,Z1.keep λb Y o e=>B b o (p7 (ab b Y)) e⟩
  .exact hS.at λo e=>B S o (p7 ak) (kg S o D.l1z D.l1TO D.l1i1 D.l1i2 e)
  .exact hT.at λo e=>B T o (p7 am) (kg T o D.l2z D.l2TO D.l2i1 D.l2i2 e)
  .refine hR g' tk (λb o b1 b2 e=>?_) d'
   obtain⟨c1,c2,c3,c4⟩:=n4 b b2;exact k' b o b1 b2 (B b o b1 (kg b o c1 c2 c3 c4 e))
theorem call_dict_zip (hh:A.handled=none) {z P O I J S T:Addr} {xs ys:Array Value} {key:Nat->K} {val:Nat->Value} {kv:Nat->List (K × Value)} (D:KH z P O I J S T) (Z:ox s.heap z P O I J S T 0 .none (.bool false)) (hS:s.heap.IsTuple S xs) (hT:s.heap.IsTuple T ys)
  (hp : ∀(i:Nat) (x y:Value),xs[i]? = some x->ys[i]? = some y->knd.is (key i) x=true/\y=val i) (h0:kv 0=[])
  (ac : ∀i,i < min xs.size ys.size->kv (i+1)=stored (kv i) (key i) (val i)) (hsz : ∀i,i<=min xs.size ys.size->(kv i).length<=g9)
  (h : ∀g tk,g.DictOf knd s.heap.objs.size (kv (min xs.size ys.size))->(∀b o,b∉[z,P,O,I,J]->s.heap.get? b=some o->g.get? b=some o)->Q (.ref s.heap.objs.size) { s with heap:=g,toks:=tk }) :
  wpAny (model prog w) A (call (.type "dict") [.ref z]) Q E s:=by
 refine callType_codes (Q₁:=λobj s₁=>obj = .ref s.heap.objs.size/\s₁={ s with heap:=s.heap.push { cls:=.type "dict",data:=.dict #[] } }) F.kt_called_dict (F.kt_typeCall_dict_1 _) F.entry_dict_init (kt_code_dict_new _ ⟨rfl,rfl⟩) ?_
 rintro obj s₁ ⟨rfl,rfl⟩
 have B:(s.heap.push { cls:=.type "dict",data:=.dict #[] }).DictOf knd s.heap.objs.size []:=Heap.DictOf.new s.heap
 have lt : ∀b∈[z,P,O,I,J],b < s.heap.objs.size:=λb L=>by
  obtain⟨u,v,oo⟩:=Z.oo;obtain⟨oi,i1,_⟩:=Z.ii;obtain⟨oj,j1,_⟩:=Z.jj;simp only[i6,k_,or_false] at L;rcases L with rfl | rfl | rfl | rfl | rfl
  .exact fi Z.zz
  .exact fi Z.pp
  .exact fi oo
  .exact fi i1
  .exact fi j1
 have ab:S < s.heap.objs.size:=by obtain⟨o,e,_⟩:=hS;exact fi e
 have ag:T < s.heap.objs.size:=by obtain⟨o,e,_⟩:=hT;exact fi e
 refine⟨B.typeIs,F.args_dict_init_2 _ _,?_⟩
 unfold Builtin.«dict.__init__»;refine a_ ?_
 unfold Builtin.Dict.selfAndRest;refine a_ (wpAny_notOrdered_dict B.typeIs ?_)
 show wpAny _ _ (pure (s.heap.objs.size,[i8 z])) _ _ _
 refine e_ ?_
 show wpAny _ _ (Builtin.Dict.updateFrom "dict.__init__" s.heap.objs.size (.ref z) [] .none) _ _ _
 unfold Builtin.Dict.updateFrom;have Y:=c_ { cls:=.type "dict",data:=.dict #[] } Z.zz;have af:Shared.TypeIs { s with heap:=s.heap.push { cls:=.type "dict",data:=.dict #[] } } (.ref z) "zip" :=⟨_,Y,rfl⟩
 refine a_ (Lx af ?_)
 have ah:A.in1.in1.handled=none:=by simp[hh]
 rw[if_pos ∅]
 refine a_ (qE Y wY (by decide+kernel) ah (λh1 ai k1=>?_))
 rw[if_pos (show(Option.isNone (none:Option Value))=true from rfl)]
 refine a_ (LN ?_)
 have up : ∀b o,s.heap.get? b=some o->h1.get? b=some o:=λb o e=>k1 b o (c_ _ e)
 refine a_ (dk (k1 _ _ Y) ?_)
 have aa:h1.DictOf knd s.heap.objs.size (kv 0):=by
  rw[h0];obtain⟨o,es,ep,ho,rest⟩:=B;exact⟨o,es,ep,k1 _ _ ho,rest⟩
 have ad:s.heap.objs.size+1<=h1.objs.size:=by obtain⟨o,es,ep,ho,rest⟩:=aa;exact fi ho
 refine e_ ⟨plainId_quiet F.plain_dict_update_loop _,su (knd:=knd) (n0:=s.heap.objs.size+1) (key:=key) (val:=val) (kv:=kv) (show A.in1.handled=none by simp[hh]) D (D_ _) (λb L=>Ld (lt b L)) (λb L=>nH (lt b L)) (nH ab) (nH ag) hp ac hsz _ 0 _ 0 rfl (x5 _) ad (.inl (Z.keep λb L o e=>up b o e)) (hS.at λo e=>up S o e) (hT.at λo e=>up T o e) aa λg tk kg dg=>⟨rfl,h g tk dg λb o L e=>kg b o (k9 (fi e)) L (up b o e)⟩⟩
end
end PySem
namespace L2
open PySem PySem.Spec PyProof.Rows
def wW (ta:TA):TE:=λσ H Q=>ta σ H λvs H1=>∃a b,vs=[.ref a,.ref b]/\∃ks:List Key,H1 a>>(ks.map kV)/\∃ys,H1 b>>ys/\ks.length<=g9/\∀d,H1 d=none->Q (.ref d) (upd H1 d (.dK (df [] (ks.zip ys))))
section
variable {ta:TA} {p:Pos}
theorem qa (hc:X.calm=true) (hg:Gl X "dict") (hm:X.mg "dict" = none) (aj:Gl X "zip") (am:X.mg "zip" = none) (ha:PA X [e1,e2] ta) (hs:jc [e1,e2] X.env=[(false,eval e1 X.env),(false,eval e2 X.env)]:=by rfl) (ac:jc [e2] X.env=[(false,eval e2 X.env)]:=by rfl) :
  PE X (.Call (.Name "dict" p) [.Call (.Name "zip" p2) [e1,e2] [] pos2] [] pos) (wW ta):=by
 intro pins s σ H Q I h;refine t5 (eJ I hg hm (by decide+kernel:x_ "dict" = some (.type "dict")) ?_)
 refine k7 (G3 ?_) rfl rfl
 refine t5 (eJ I aj am mV ?_)
 refine k7 (thn (ha pos2 pins s σ H _ I h) λus Y ⟨vs,H1,I1,r1,q1⟩=>?_) (by rw[hs,ac]) (by rw[ac];rfl)
 obtain⟨a,b,e,ks,af,ys,ah,ad,q⟩:=q1;subst e;obtain⟨u,u2,rfl,ru,ai⟩:=tX r1;cases ru;cases ai;obtain⟨its,rv,pl,hz⟩:=I1.tuple (SqT.of af);obtain⟨B,aa,L,an⟩:=I1.tuple (SqT.of ah);have n1:=rv.length;have n2:=aa.length;simp only[d_] at n1;refine nh (q:=false) (show Y.heap.IsTuple a its.toArray from pl) (show Y.heap.IsTuple b B.toArray from L) λg z P O II J Z D l1 l2 l3 l4 l5 kg=>?_
 refine I_ ?_
 have pg:g.IsTuple a its.toArray:=(show Y.heap.IsTuple a its.toArray from pl).at λo e=>kg a o e
 have ab:g.IsTuple b B.toArray:=(show Y.heap.IsTuple b B.toArray from L).at λo e=>kg b o e
 have kv:KV (ks.zip ys) (ks.zip B):=by
  clear n1 n2 ad af ah q pl L pg ab hz an rv
  induction aa generalizing ks with
  | nil=>cases ks <;> exact .nil
  | cons r _ ih =>
   cases ks with
   | nil=>exact .nil
   | cons k ks=>exact .cons ⟨rfl,r⟩ (ih ks)
 have ag:(ks.zip B).length=min its.toArray.size B.toArray.size:=by simp[n1]
 refine PySem.call_dict_zip (s:={ Y with heap:=g }) (knd:=ba X.prog X.w) (key:=λi=>(ks[i]?).getD (i4 0)) (val:=λi=>(B[i]?).getD .none) (kv:=λi=>merged [] ((ks.zip B).take i)) (I.ok.hd hc) D Z pg ab (λi x y ex ey=>?_) rfl (λi hi=>?_) (λi hi=>?_) λg2 tk dg k2=>?_
 .simp only[G5] at ex ey
  have hi:i < ks.length:=by rw[n1];exact(g_.mp ex).1
  obtain⟨v,hv,rr⟩:=rv.get (i:=i) (x:=kV ks[i]) (by simp[hi])
  rw[ex] at hv;cases hv;simp only[ki hi,getD_some,ey];exact⟨oO rr,trivial⟩
 .have hi1:i < (ks.zip B).length:=by rw[ag];exact hi
  have e:=ki hi1;rw[xj _ i _ e];simp only[length_zip] at hi1;have i1:i < ks.length:=()
  have i2:i < B.length:=()
  simp[i1,i2]
 .have hg : ∀(ms ks:List (Key × Value)),(merged ks ms).length<=ks.length+ms.length:=by
   intro ms
   induction ms with
   | nil=>intro ks;simp[merged]
   | cons y ms ih =>
    intro ks;have h1:=ih (stored ks y.1 y.2);have h2:(stored ks y.1 y.2).length<=ks.length+1:=by unfold stored;split <;> simp
    show(merged (stored ks y.1 y.2) ms).length<=_
    simp only[t4];omega
  have h1:=hg ((ks.zip B).take i) [];simp only[length_nil,KJ,length_zip] at h1;omega
 .have kk : ∀b o,Y.heap.get? b=some o->g2.get? b=some o:=λb o e=>by
   refine k2 b o (λhm=>?_) (kg b o e)
   have hb:=fi e;simp only[i6,k_,or_false] at hm;rcases hm with rfl | rfl | rfl | rfl | rfl
   .exact absurd (g7 hb l1) (n_ _)
   .exact absurd (g7 hb l2) (n_ _)
   .exact absurd (g7 hb l3) (n_ _)
   .exact absurd (g7 hb l4) (n_ _)
   .exact absurd (g7 hb l5) (n_ _)
  have F:Y.heap.objs.size<=g.objs.size:=by have:=fi Z.zz;exact y3 (p_ l1 this)
  dsimp only at dg;rw[<- ag,la] at dg;have ak:=dU (ks.zip ys) [];simp only[length_nil,length_zip] at ak;refine⟨.ref g.objs.size,_,I1.laid (a:=g.objs.size) (o:=.dK (df [] (ks.zip ys))) (t':=tk) kk F ⟨(),beq_eq_false_iff_ne.mpr (p7 (k9 (g7 I1.big F))),_,KV.merge kv .nil,dg⟩,rfl,q _ (I1.hok.fresh F)⟩
end
end L2
namespace Lw
open PySem L2
local macro_rules | `(tactic| ctx_has c) => `(tactic| exact ⟨rfl, rfl, rfl, by decide +kernel, rfl, by decide +kernel, by decide +kernel⟩)
local macro_rules | `(tactic| ctx_has z $S:ident) => do
  let i:=Lean.mkIdent
  let nd:=i `nd
  let hu:=i `hu
  let L:=i `L
  let vs:=i `vs
  let H:=i `H
  let Q:=i `Q
  let E:=i `E
  let h:=i `h
  let f:=i `f
  let cdv:=i `cdv
  let A:=i `A
  let outer:=i `outer
  let s:=i `s
  let hr:=i `hr
  `(tactic| (have $nd:ident:=ax.nd $S;refine($L).ok $S (λ$vs $H $Q $E $h=>?_) (λ$f $cdv $A $outer $s $H $vs $Q $E $hr $h=>?_);rotate_left;have $hu:ident:=GB $hr;rotate_left))
local macro_rules
 | `(tactic| ctx_has v $ids*) => do
  let ns := "true_and dj yq cxK Kg BU FZ GG GT GJ G0 Option.join_some yK GW DU Cq Io IsB Iv IB DW gI jM qH Hz Bq BH eR E4 tC tOp tUn hU tB Hq tOr GR Cv Iq BW yH tCB tI kQ yk Em EB tDG sDP Jg IY rI0 rI rU rEq rNe uC Ed F6 EX F8 Ei DL Bt rIL rIT rIS rSL rSQ rST EY iL iT tML tMS xA pO rCT GM ET Co BY xG yc xH Dz vD uq DO Dr xX vq iZ qt Cb Bv Dp C1 yg ipM HV iE iV iD yx tDI Iy xc rc Bk IA JV J5 Ke Ki eA qx qJ BV rCL C3 DX xJ Bz rCS Da pY BC qq HO.dK.injEq HO.lst.injEq HO.tup.injEq HO.ins.injEq CT CM tSl mq wc L2.ju List.map_cons List.map_nil List.length_cons List.length_nil List.replicate List.cons_append List.nil_append List.append_nil List.getElem?_cons_zero List.getElem?_cons_succ List.set_cons_zero List.set_cons_succ Option.some.injEq V.int.injEq V.ref.injEq V.str.injEq V.bl.injEq V.ty.injEq List.cons.injEq and_assoc and_true and_self exists_eq_left exists_eq_left' exists_eq_right exists_eq_right' exists_and_left exists_eq exists_eq' reduceCtorEq false_and and_false false_or or_false exists_false decide_eq_true_eq String.reduceEq String.reduceBEq Bool.or_true Bool.true_or Bool.or_false Bool.false_or or_true true_or if_true if_false Bool.not_eq_true' Nat.reduceAdd Nat.reduceSub Nat.zero_add List.map List.append_eq List.set Nat.add_zero".splitOn " "
  let xs : Array Lean.Ident := (ns.map fun x => Lean.mkIdent x.toName).toArray ++ ids
  let s ← `(tactic| simp only [$[$xs:ident],*])
  let d : Lean.TSyntax `tactic := ⟨((s.raw.setKind `Lean.Parser.Tactic.dsimp).setArg 0 (Lean.mkAtom "dsimp")).modifyArg 4 fun o => o.modifyArg 0 fun a => a.modifyArg 1 fun l => Lean.mkNullNode (l.getArgs.extract 0 (2 * ns.length - 1))⟩
  `(tactic| ((try $d:tactic); (try $s:tactic)))
 | `(tactic| kpf_say ($H:ident, $q:ident, $hq:ident, $hh:ident, $ss:ident) al $G:ident $o) => `(tactic| (refine ⟨by decide, λ$q $hq => ?_⟩; have $hh : upd $H $q $o $q = some $o := ae; have $ss : ap $H (upd $H $q $o) := ap.upd0 $hq; generalize upd $H $q $o = $G at $hh:ident $ss:ident ⊢))
local macro_rules | `(tactic| ctx_has o) => `(tactic| first | exact Or.inl rfl | exact Or.inr rfl)
local macro_rules | `(tactic| ctx_has m) => `(tactic| first | decide | omega)
variable {P:Program} {w:World} {K:fy} {mg:Str->Option Value} {base:Heap}
abbrev jl:Stmt:=top 1
abbrev iP:Stmt:=top 3
abbrev lR:Stmt:=top 4
abbrev ic:Stmt:=top 5
abbrev io:Stmt:=top 6
abbrev gV:Stmt:=top 7
abbrev kX:Stmt:=top 8
abbrev iJ:Stmt:=top 9
abbrev kZ:Stmt:=top 10
abbrev fO:Stmt:=top 11
abbrev jY:Stmt:=top 12
abbrev gW:Stmt:=top 14
abbrev bD:Stmt:=aT (top 16) 0
abbrev fh:Stmt:=aT (top 18) 0
abbrev ik:Stmt:=aT (top 18) 1
abbrev di:Stmt:=aT (top 18) 2
abbrev cR:Stmt:=aT (top 18) 3
abbrev fU:Stmt:=aT (top 20) 0
abbrev jG:Stmt:=aT (top 20) 1
abbrev cX:Stmt:=aT (top 20) 2
abbrev eS:Stmt:=aT (top 20) 3
abbrev fZ:Stmt:=aT (top 20) 4
abbrev fw:Stmt:=aT (top 20) 5
abbrev gG:Stmt:=aT (top 22) 0
abbrev lF:Stmt:=aT (top 22) 1
abbrev dS:Stmt:=aT (top 22) 2
abbrev fk:Stmt:=aT (top 22) 3
abbrev eV:Stmt:=aT (top 22) 4
abbrev eB:Stmt:=aT (top 22) 5
abbrev iW:Stmt:=top 24
abbrev lG:Stmt:=top 25
abbrev gS:Stmt:=aT (top 26) 0
abbrev lu:Stmt:=aT (top 26) 1
abbrev eM:Stmt:=aT (top 26) 2
abbrev gf:Stmt:=aT (top 26) 3
abbrev fT:Stmt:=aT (top 26) 4
abbrev gR:Stmt:=aT (top 26) 5
abbrev fW:Stmt:=aT (top 26) 6
abbrev fz:Stmt:=aT (top 28) 0
abbrev iM:Stmt:=aT (top 28) 1
abbrev dH:Stmt:=aT (top 28) 2
abbrev eC:Stmt:=aT (top 28) 3
abbrev fK:Stmt:=aT (top 28) 4
abbrev fc:Stmt:=aT (top 28) 5
abbrev db:Stmt:=top 30
abbrev fj:Stmt:=aT (top 31) 0
abbrev im:Stmt:=aT (top 31) 1
abbrev eT:Stmt:=aT (top 31) 2
abbrev eO:Stmt:=aT (top 31) 3
abbrev fS:Stmt:=top 33
abbrev ga:Stmt:=aT (top 34) 0
abbrev jH:Stmt:=aT (top 34) 1
abbrev cK:Stmt:=aT (top 34) 2
abbrev bR:Stmt:=aT (top 34) 3
abbrev gc:Stmt:=aT (top 34) 4
abbrev fv:Stmt:=aT (top 34) 5
abbrev nO:Stmt:=top 36
abbrev nU:Stmt:=top 37
abbrev iq:Stmt:=top 38
abbrev fY:Stmt:=top 39
abbrev gZ:Stmt:=top 41
abbrev jN:Stmt:=top 42
abbrev gq:Stmt:=top 43
abbrev jC:Stmt:=top 44
abbrev cm:Stmt:=top 45
abbrev fN:Stmt:=top 46
abbrev gm:Stmt:=top 47
abbrev gO:Stmt:=top 48
abbrev jn:Stmt:=top 49
abbrev eX:Stmt:=top 50
abbrev gz:Stmt:=top 51
abbrev hZ:Stmt:=top 52
abbrev cT:Stmt:=top 53
abbrev lI:Stmt:=top 54
abbrev cw:Stmt:=top 55
abbrev lB:Stmt:=top 56
abbrev ku:Stmt:=top 57
abbrev gl:Stmt:=top 58
abbrev il:Stmt:=top 59
abbrev qV:Stmt:=top 60
theorem rY:ax ["things"] ["things"] (ak jl):=by ctx_has c
theorem si:ax ["number","low","high"] ["number","low","high"] (ak iP):=by ctx_has c
theorem AV:ax ["terms","filling"] ["terms","filling"] (ak lR):=by ctx_has c
theorem vi:ax ["cells","filling"] ["cells","filling"] (ak ic):=by ctx_has c
theorem qb:ax ["wish","filling"] ["wish","filling"] (ak io):=by ctx_has c
theorem vB:ax ["wish","filling","hits"] ["wish","filling"] (ak gV):=by ctx_has c
theorem xq:ax ["wish","filling"] ["wish","filling"] (ak kX):=by ctx_has c
theorem sk:ax ["wish","filling"] ["wish","filling"] (ak iJ):=by ctx_has c
theorem xm:ax ["wish","filling","leads","step","state","value"] ["wish","filling"] (ak kZ):=by ctx_has c
theorem qL:ax ["wish","filling","found"] ["wish","filling"] (ak fO):=by ctx_has c
theorem uZ:ax ["wish","filling"] ["wish","filling"] (ak jY):=by ctx_has c
theorem vj:ax ["wish","filling"] ["wish","filling"] (ak gW):=by ctx_has c
theorem bX:ax ["self","wish"] ["self","wish"] (ak bD):=by ctx_has c
theorem kT:ax ["self","wish"] ["self","wish"] (ak fh):=by ctx_has c
theorem qi:ax ["self","filling"] ["self","filling"] (ak ik):=by ctx_has c
theorem lv:ax ["self","rooms","least","cell","enough"] ["self","rooms"] (ak di):=by ctx_has c
theorem kO:ax ["self","rooms","pairs"] ["self","rooms"] (ak cR):=by ctx_has c
theorem nk:ax ["self","wish"] ["self","wish"] (ak fU):=by ctx_has c
theorem vC:ax ["self","filling"] ["self","filling"] (ak jG):=by ctx_has c
theorem qv:ax ["self","rooms"] ["self","rooms"] (ak cX):=by ctx_has c
theorem uc:ax ["self","rooms"] ["self","rooms"] (ak eS):=by ctx_has c
theorem mT:ax ["self","rooms"] ["self","rooms"] (ak fZ):=by ctx_has c
theorem ma:ax ["self","rooms"] ["self","rooms"] (ak fw):=by ctx_has c
theorem pB:ax ["self","wish","step"] ["self","wish"] (ak gG):=by ctx_has c
theorem vW:ax ["self","filling"] ["self","filling"] (ak lF):=by ctx_has c
theorem kb:ax ["self","states","room","behind","state","value"] ["self","states","room"] (ak dS):=by ctx_has c
theorem ls:ax ["self","rooms","states","cell"] ["self","rooms"] (ak fk):=by ctx_has c
theorem pE:ax ["self","rooms"] ["self","rooms"] (ak eV):=by ctx_has c
theorem oh:ax ["self","rooms"] ["self","rooms"] (ak eB):=by ctx_has c
theorem wU:ax ["term","rooms"] ["term","rooms"] (ak iW):=by ctx_has c
theorem vT:ax ["terms","rooms","spans","term","parts"] ["terms","rooms"] (ak lG):=by ctx_has c
theorem pj:ax ["self","wish"] ["self","wish"] (ak gS):=by ctx_has c
theorem xr:ax ["self","filling"] ["self","filling"] (ak lu):=by ctx_has c
theorem kK:ax ["self","reached","behind","may_rise_to_low","may_fall_to_high"] ["self","reached","behind"] (ak eM):=by ctx_has c
theorem oA:ax ["self","reached","parts","behind","further","part","earlier"] ["self","reached","parts","behind"] (ak gf):=by ctx_has c
theorem mW:ax ["self","rooms","spans","reached","number","term"] ["self","rooms"] (ak fT):=by ctx_has c
theorem pJ:ax ["self","rooms"] ["self","rooms"] (ak gR):=by ctx_has c
theorem nG:ax ["self","rooms","span"] ["self","rooms"] (ak fW):=by ctx_has c
theorem mt:ax ["self","wish"] ["self","wish"] (ak fz):=by ctx_has c
theorem rO:ax ["self","filling"] ["self","filling"] (ak iM):=by ctx_has c
theorem mO:ax ["self","row","rooms"] ["self","row","rooms"] (ak dH):=by ctx_has c
theorem om:ax ["self","rooms"] ["self","rooms"] (ak eC):=by ctx_has c
theorem mK:ax ["self","rooms"] ["self","rooms"] (ak fK):=by ctx_has c
theorem lg:ax ["self","rooms","fillings","cell"] ["self","rooms"] (ak fc):=by ctx_has c
theorem kl:ax ["cell","rooms","holders","tried","value"] ["cell","rooms","holders","tried"] (ak db):=by ctx_has c
theorem lf:ax ["self","wish"] ["self","wish"] (ak fj):=by ctx_has c
theorem rz:ax ["self","filling"] ["self","filling"] (ak im):=by ctx_has c
theorem lD:ax ["self","rooms","holders","cell"] ["self","rooms"] (ak eT):=by ctx_has c
theorem kG:ax ["self","rooms","seen","cell","value"] ["self","rooms"] (ak eO):=by ctx_has c
theorem mX:ax ["wish"] ["wish"] (ak fS):=by ctx_has c
theorem nv:ax ["self","wish"] ["self","wish"] (ak ga):=by ctx_has c
theorem uz:ax ["self","filling"] ["self","filling"] (ak jH):=by ctx_has c
theorem jL:ax ["self","rooms"] ["self","rooms"] (ak cK):=by ctx_has c
theorem gn:ax ["self","rooms"] ["self","rooms"] (ak bR):=by ctx_has c
theorem mR:ax ["self","rooms"] ["self","rooms"] (ak gc):=by ctx_has c
theorem me:ax ["self","rooms"] ["self","rooms"] (ak fv):=by ctx_has c
theorem xB:ax ["wish"] ["wish"] (ak nO):=by ctx_has c
theorem yT:ax ["wish","filling"] ["wish","filling"] (ak nU):=by ctx_has c
theorem pZ:ax ["wish","rooms"] ["wish","rooms"] (ak iq):=by ctx_has c
theorem nW:ax ["wish","rooms"] ["wish","rooms"] (ak fY):=by ctx_has c
theorem uG:ax ["_law_script","_law_start","_law_cells_here","_law_number","_law_cell"] ["_law_script","_law_start"] (ak gZ):=by ctx_has c
theorem uw:ax ["_law_deal_here","_law_many","_law_number","_law_one","_law_other"] ["_law_deal_here","_law_many"] (ak jN):=by ctx_has c
theorem sx:ax ["_law_deal_here","_law_many","_law_letters","_law_names_here","_law_k","_law_word","_law_place"] ["_law_deal_here","_law_many"] (ak gq):=by ctx_has c
theorem uh:ax ["_law_deal_here","_law_things","_law_least","_law_left","_law_found","_law_k"] ["_law_deal_here","_law_things","_law_least"] (ak jC):=by ctx_has c
theorem mN:ax ["_law_wish_here","_law_filling_here","_law_total","_law_values_here","_law_state","_law_value","_law_after"] ["_law_wish_here","_law_filling_here"] (ak cm):=by ctx_has c
theorem pX:ax ["_law_deal_here","_law_begin","_law_step"] ["_law_deal_here"] (ak fN):=by ctx_has c
theorem rQ:ax ["_law_deal_here","_law_names_here","_law_pool","_law_most","_law_rooms_here","_law_name","_law_bits","_law_some_here"] ["_law_deal_here","_law_names_here","_law_pool","_law_most"] (ak gm):=by ctx_has c
theorem pG:ax ["_law_deal_here","_law_rooms_here","_law_filling_here","_law_name","_law_room"] ["_law_deal_here","_law_rooms_here"] (ak gO):=by ctx_has c
theorem wM:ax ["_law_deal_here","_law_some_here","_law_rooms_here","_law_pool","_law_terms","_law_name","_law_a","_law_filling_here","_law_total","_law_low","_law_high"] ["_law_deal_here","_law_some_here","_law_rooms_here","_law_pool"] (ak jn):=by ctx_has c
theorem rH:ax ["_law_deal_here","_law_some_here","_law_rooms_here","_law_pool","_law_rows","_law_filling_here","_law_k","_law_cell","_law_row"] ["_law_deal_here","_law_some_here","_law_rooms_here","_law_pool"] (ak eX):=by ctx_has c
theorem xf:ax ["_law_deal_here","_law_some_here","_law_pool","_law_many","_law_states","_law_steps","_law_state","_law_value","_law_cell"] ["_law_deal_here","_law_some_here","_law_pool"] (ak gz):=by ctx_has c
theorem vm:ax ["_law_deal_here","_law_names_here","_law_rooms_here","_law_pool","_law_sort","_law_some_here","_law_low","_law_inner"] ["_law_deal_here","_law_names_here","_law_rooms_here","_law_pool","_law_sort"] (ak hZ):=by ctx_has c
theorem kS:ax ["_law_wish_here"] ["_law_wish_here"] (ak cT):=by ctx_has c
theorem ww:ax ["_law_wish_here","_law_rooms_here","_law_way_here"] ["_law_wish_here","_law_rooms_here","_law_way_here"] (ak lI):=by ctx_has c
theorem jy:ax ["_law_wish_here","_law_rooms_here","_law_filling_here","_law_some_here","_law_row","_law_other"] ["_law_wish_here","_law_rooms_here","_law_filling_here"] (ak cw):=by ctx_has c
theorem wp:ax ["_law_wish_here","_law_rooms_here","_law_way_here","_law_here","_law_name","_law_good","_law_value"] ["_law_wish_here","_law_rooms_here","_law_way_here"] (ak lB):=by ctx_has c
theorem ue:ax ["_law_rooms_here","_law_filling_here","_law_name","_law_room"] ["_law_rooms_here"] (ak ku):=by ctx_has c
theorem rJ:ax ["_law_wish_here","_law_rooms_here","_law_fillings","_law_way_here","_law_may_here"] ["_law_wish_here","_law_rooms_here","_law_fillings","_law_way_here"] (ak gl):=by ctx_has c
theorem qF:ax ["_law_wish_here","_law_rooms_here","_law_name","_law_at","_law_way_here","_law_one","_law_other"] ["_law_wish_here","_law_rooms_here","_law_name","_law_at","_law_way_here"] (ak il):=by ctx_has c
theorem CN:ax ["_law_script","_law_deal_here","_law_names_here","_law_pool","_law_sort","_law_rooms_here","_law_wish_here","_law_seen","_law_name","_law_fillings","_law_copied","_law_filling_here","_law_alone","_law_due","_law_at"] ["_law_script"] (ak qV):=by ctx_has c
structure Txt (w:World) (K:fy) (mg:Str->Option Value):Prop where
 b_len:mg "len" = none
 b_max:mg "max" = none
 b_min:mg "min" = none
 b_sum:mg "sum" = none
 b_list:mg "list" = none
 b_reversed:mg "reversed" = none
 b_range:mg "range" = none
 b_isinstance:mg "isinstance" = none
 b_all:mg "all" = none
 b_any:mg "any" = none
 b_sorted:mg "sorted" = none
 b_dict:mg "dict" = none
 b_tuple:mg "tuple" = none
 b_bool:mg "bool" = none
 b_zip:mg "zip" = none
 b_set:mg "set" = none
 b_int:mg "int" = none
 b_enumerate:mg "enumerate" = none
 b_str:mg "str" = none
 at_Unlike:mg "Unlike" = some (.ref (ao mg "Unlike"))
 cl_Unlike:Cls K (ao mg "Unlike")
 no_Unlike_wish:aP K (ao mg "Unlike") "wish"
 no_Unlike_cells:aP K (ao mg "Unlike") "cells"
 at_Many:mg "Many" = some (.ref (ao mg "Many"))
 cl_Many:Cls K (ao mg "Many")
 no_Many_wish:aP K (ao mg "Many") "wish"
 no_Many_among:aP K (ao mg "Many") "among"
 no_Many_cells:aP K (ao mg "Many") "cells"
 no_Many_low:aP K (ao mg "Many") "low"
 no_Many_high:aP K (ao mg "Many") "high"
 at_Sum:mg "Sum" = some (.ref (ao mg "Sum"))
 cl_Sum:Cls K (ao mg "Sum")
 no_Sum_wish:aP K (ao mg "Sum") "wish"
 no_Sum_terms:aP K (ao mg "Sum") "terms"
 no_Sum_low:aP K (ao mg "Sum") "low"
 no_Sum_high:aP K (ao mg "Sum") "high"
 at_Table:mg "Table" = some (.ref (ao mg "Table"))
 cl_Table:Cls K (ao mg "Table")
 no_Table_wish:aP K (ao mg "Table") "wish"
 no_Table_cells:aP K (ao mg "Table") "cells"
 no_Table_rows:aP K (ao mg "Table") "rows"
 at_Way:mg "Way" = some (.ref (ao mg "Way"))
 cl_Way:Cls K (ao mg "Way")
 no_Way_wish:aP K (ao mg "Way") "wish"
 no_Way_cells:aP K (ao mg "Way") "cells"
 no_Way_ends:aP K (ao mg "Way") "ends"
 no_Way_leads:aP K (ao mg "Way") "leads"
 at_Behind:mg "Behind" = some (.ref (ao mg "Behind"))
 cl_Behind:Cls K (ao mg "Behind")
 no_Behind_wish:aP K (ao mg "Behind") "wish"
 no_Behind_cells:aP K (ao mg "Behind") "cells"
 no_Behind_gap:aP K (ao mg "Behind") "gap"
 at_Same:mg "Same" = some (.ref (ao mg "Same"))
 cl_Same:Cls K (ao mg "Same")
 no_Same_wish:aP K (ao mg "Same") "wish"
 no_Same_cell:aP K (ao mg "Same") "cell"
 no_Same_among:aP K (ao mg "Same") "among"
 no_Same_inner:aP K (ao mg "Same") "inner"
 at_Wish:mg "Wish" = some (.ref (ao mg "Wish"))
 at_KEEPERS:mg "KEEPERS" = some (.ref (ao mg "KEEPERS"))
 tb_KEEPERS:Gw w K (ao mg "KEEPERS")
def bE (m B n:Int) (l:Addr):List (Key × V):=[(g6 "mixed",.int m),(g6 "seed",.int B),(g6 "number",.int n),(g6 "left",.ref l)]
structure aO (H:Hp) (d l:Addr):Prop where
 ex : ∃(m sd n:Int) (xs:List Int),H d<*(bE m sd n l)/\H l*>(xs.map V.int)/\0<=n/\(∀x∈xs,0<=x)/\0<=sd/\sd < 2147483648/\xs.length<=63
def But (d l:Addr) (H H':Hp):Prop:=∀b o,b≠d->b≠l->H b=some o->H' b=some o
theorem G9 : ¬ ((g6 (b_ "mixed"):Key)=g6 (b_ "seed")):=by decide+kernel
theorem Ia : ¬ ((g6 (b_ "mixed"):Key)=g6 (b_ "number")):=by decide+kernel
theorem Jh : ¬ ((g6 (b_ "mixed"):Key)=g6 (b_ "left")):=by decide+kernel
theorem Gb : ¬ ((g6 (b_ "seed"):Key)=g6 (b_ "number")):=by decide+kernel
theorem Ij : ¬ ((g6 (b_ "seed"):Key)=g6 (b_ "left")):=by decide+kernel
theorem Hg : ¬ ((g6 (b_ "number"):Key)=g6 (b_ "left")):=by decide+kernel
theorem sW (m B n:Int) (l:Addr):bM (bE m B n l) (g6 "mixed")=some (.int m):=by unfold bE;rw[bJ rfl]
theorem xt (m B n:Int) (l:Addr):bM (bE m B n l) (g6 "seed")=some (.int B):=by unfold bE;rw[aX G9,bJ rfl]
theorem ll (m B n:Int) (l:Addr):bM (bE m B n l) (g6 "number")=some (.int n):=by unfold bE;rw[aX Ia,aX Gb,bJ rfl]
theorem vS (m B n:Int) (l:Addr):bM (bE m B n l) (g6 "left")=some (.ref l):=by unfold bE;rw[aX Jh,aX Ij,aX Hg,bJ rfl]
theorem qY (m B n y:Int) (l:Addr):bu (bE m B n l) (g6 "number") (.int y)=bE m B y l:=by
 unfold bu;rw[gK,ll];simp only[isSome_some,if_true,bE,j8,map_nil,if_neg Ia,if_neg Gb,if_neg (p7 Hg)]
theorem Di (m B n y:Int) (l:Addr):bu (bE m B n l) (g6 "seed") (.int y)=bE m y n l:=by
 unfold bu;rw[gK,xt];simp only[isSome_some,if_true,bE,j8,map_nil,if_neg G9,if_neg (p7 Gb),if_neg (p7 Ij)]
theorem wO (m B n:Int) (l:Addr):(bE m B n l).length < g9:=by show 4 < g9;decide
theorem fH {i j:Int} (B:0<=i) (h1:i < 4294967296):Du i j:=.inl ⟨(),()⟩
def vt:Sp:=λvs H Q _=>∃(d l:Addr) (m:Int),vs=[.ref d,.int m]/\aO H d l/\0 < m/\m < 18446744073709551616/\∀(r:Int) (H':Hp),0<=r->r < m->aO H' d l->But d l H H'->Q (.int r) H'
theorem yf (m B n:Int) (l:Addr):df [] (bE m B n l)=bE m B n l:=by
 have e1:bu ([]:List (Key × V)) (g6 (b_ "mixed")) (.int m)=[(g6 (b_ "mixed"),.int m)]:=eU _ fg
 have e2:bu [((g6 (b_ "mixed"):Key),V.int m)] (g6 (b_ "seed")) (.int B)=[(g6 (b_ "mixed"),.int m),(g6 (b_ "seed"),.int B)]:=eU _ (by rw[aX G9,fg])
 have L:bu [((g6 (b_ "mixed"):Key),V.int m),(g6 (b_ "seed"),.int B)] (g6 (b_ "number")) (.int n)=[(g6 (b_ "mixed"),.int m),(g6 (b_ "seed"),.int B),(g6 (b_ "number"),.int n)]:=eU _ (by rw[aX Ia,aX Gb,fg])
 have F:bu [((g6 (b_ "mixed"):Key),V.int m),(g6 (b_ "seed"),.int B),(g6 (b_ "number"),.int n)] (g6 (b_ "left")) (.ref l)=bE m B n l:=eU _ (by rw[aX Jh,aX Ij,aX Hg,fg])
 show bu (bu (bu (bu ([]:List (Key × V)) (g6 (b_ "mixed")) (.int m)) (g6 (b_ "seed")) (.int B)) (g6 (b_ "number")) (.int n)) (g6 (b_ "left")) (.ref l)=_
 rw[e1,e2,L,F]
theorem wK (ns:List Int) (lo hi:Option Int) : ∃ms:List Int,fQ (ns.map V.int) lo hi=ms.map V.int/\ms.length<=ns.length:=by
 unfold fQ;refine⟨(ns.drop (HT.sIx (ns.map V.int).length 0 lo)).take (HT.sIx (ns.map V.int).length (ns.map V.int).length hi - HT.sIx (ns.map V.int).length 0 lo),by simp[map_take,map_drop],?_⟩
 rw[KJ,length_drop];omega
theorem int_at {x:V} (h:(ms.map V.int)[i]? = some x) : ∃v,x = .int v:=by
 rw[f_] at h;cases e:ms[i]? with
 | none=>rw[e] at h;cases h
 | some z=>rw[e] at h;exact⟨z,(ge h).symm⟩
def GV (K:fy):Sp:=λvs H Q _=>∃(a:Addr) (ns:List Int) (st:Int),vs=[.ref a,.int st]/\SqL K H a (ns.map V.int)/\ns.length<=63/\0<=st/\st<=63/\∀(d l:Addr) (H':Hp),H d=none->H l=none->aO H' d l->ap H H'->Q (.ref d) H'
theorem bm {Q:VK} {E:XK} (D:aO H d l) (B:0 < m) (F:m < 18446744073709551616) (h : ∀(r:Int) (H':Hp),0<=r->r < m->aO H' d l->But d l H H'->Q (.int r) H'):vt [.ref d,.int m] H Q E:=⟨d,l,m,rfl,D,B,F,h⟩
theorem But.refl (H:Hp):But d l H H:=λ_ _ _ _ e=>e
theorem But.trans (a:But d l H H1) (b:But d l H1 H2):But d l H H2:=λc o h1 h2 e=>b c o h1 h2 (a c o h1 h2 e)
theorem But.new (a:But d l H H1) (hp:H1 p=none):But d l H (upd H1 p o):=λc u h1 h2 e=>by
 have e1:=a c u h1 h2 e;rw[ai (au e1 hp)];exact e1
theorem But.same (a:But d l H H1) (s:ap H1 H2):But d l H H2:=λc u h1 h2 e=>s c u (a c u h1 h2 e)
theorem aO.ne (D:aO H d l) (hp:H p=none):p≠d/\p≠l:=by
 obtain⟨m,F,n,xs,B,hl,_⟩:=D.ex;exact⟨(au B hp).symm,(au hl hp).symm⟩
theorem aO.same (D:aO H d l) (s:ap H H'):aO H' d l:=by
 obtain⟨m,F,n,xs,B,hl,r⟩:=D.ex;exact⟨m,F,n,xs,s _ _ B,s _ _ hl,r⟩
theorem aO.new (D:aO H d l) (hp:H p=none):aO (upd H p o) d l:=D.same (ap.upd0 hp)
theorem aO.put (D:aO H d l) (h1:p≠d) (h2:p≠l):aO (upd H p o) d l:=by
 obtain⟨m,F,n,xs,B,hl,r⟩:=D.ex;exact⟨m,F,n,xs,by rw[ai h1.symm];exact B,by rw[ai h2.symm];exact hl,r⟩
theorem But.put (a:But d l H H1) (hp:H p=none):But d l H (upd H1 p o):=λc u h1 h2 e=>by
 rw[ai (au e hp)];exact a c u h1 h2 e
theorem But.free (a:But d l H H1) (D:aO H1 d l) (hp:H1 p=none):H p=none:=by
 obtain⟨h1,h2⟩:=D.ne hp;cases e:H p with
 | none=>rfl
 | some o=>rw[a p o h1 h2 e] at hp;cases hp
theorem Go {xs:List α} {i:Int} (F:0<=i) (h1:i < (xs.length:Int)) : ∃v,atI xs i=some v/\v∈xs:=by
 obtain⟨n,rfl⟩:=u6 F;have B:n < xs.length:=()
 exact⟨xs[n],bc (by simp[B]),K9 B⟩
theorem pN {Q:VK} {E:XK} (D:aO H d l) (hp:H p=none) (L:0 < m) (m1:m < 18446744073709551616) (hm:m=(vs.length:Int)) (h : ∀(r:Int) (v:V) (H':Hp),v∈vs->atI vs r=some v->aO H' d l->But d l H H'->H' p*>vs->Q (.int r) H'):vt [.ref d,.int m] (upd H p (.lst vs)) Q E :=
 bm (D.new hp) L m1 λr H' Y r1 F B=>by
  obtain⟨v,e,Z⟩:=Go (xs:=vs) Y ()
  exact h r v H' Z e F (((But.refl H).new hp).trans B) (B p _ (D.ne hp).1 (D.ne hp).2 ae)
abbrev Dz0:=Fn P w K mg base "_law_draw" 1 ["_law_deal_here","_law_many"] (vt)
theorem vz (T:Txt w K mg) (L:FnL K mg "_law_draw" jN ["_law_deal_here","_law_many"]) : @Dz0 P w K mg base:=by
 ctx_has z uw <;> obtain⟨d,l,m,rfl,D,m0,m1,k⟩:=h
 .rfl
 refine⟨_,(ag (vV PassesOwn.never (PW.pt (uV (aJ bz (bC hu (pvM 0) aS) ah) (uV (aJ qZ (aE cC T.b_len (ac (bC hu (pvM 0) aS) af)) ah) (vo (aJ bz (bC hu (pvM 0) aS) ah))))) (aj (fu hu (pvM 0) aS (GH PySem.F.slot_list_pop PySem.F.type_list_pop Hf (bC hu (pvM 0) aS)) rfl)))
  (ag (aC 2 (bC hu (pvM 0) aS))
  (ag (bg (aJ qZ (pvM 2) ah) (ag (fu hu (pvM 0) aS (aM xl (pvM 2) (pvM 1)) rfl)
  (aj (aw (aM gA (pvM 2) (pvM 1))))) aL)
  (ag (aC 3 (aM gA (aM bp (aM dR (bC hu (pvM 0) aS) ah) ah) ah))
  (ag (fu hu (pvM 0) aS (aM gA (aM bp (aM dR (pvM 3) ah) ah) ah) rfl)
  (ag (aC 4 (aM gA (aM dR (bC hu (pvM 0) aS) (bC hu (pvM 0) aS)) ah))
  (aj (aw (aM gA (aM bp (aM dR (aM gA (aM dR (pvM 3) (pvM 3)) ah) ah) (pvM 4)) (pvM 1)))))))))),?_⟩
 obtain⟨Y,sd,n,xs,hd,hl,n0,hx,s0,s1,aa⟩:=D.ex;have dl:d≠l:=aZ hd hl (by intro z;cases z)
 refine vM (λμ σ H'=>∃(n:Int) (xs:List Int),σ=[-d,some (.int m),none,none,none]/\H' d<*(bE Y sd n l)/\H' l*>(xs.map V.int)/\0<=n/\(∀x∈xs,0<=x)/\xs.length<=63/\But d l H H'/\μ=xs.length)
  (λσ H'=>∃(n:Int) (xs:List Int),σ=[-d,some (.int m),none,none,none]/\H' d<*(bE Y sd n l)/\H' l*>(xs.map V.int)/\0<=n/\(∀x∈xs,0<=x)/\xs.length<=63/\But d l H H')
  ⟨_,n,xs,rfl,hd,hl,n0,hx,aa,λb o _ _ e=>e,rfl⟩ ?_ ?_
 .rintro R hR μ σ H1 ⟨n1,xs1,rfl,hd1,hl1,n01,hx1,hlen1,bt,rfl⟩
  have hr:=hR _ _ ⟨n1,xs1,rfl,hd1,hl1,n01,hx1,hlen1,bt⟩;ctx_has v hd1 hl1 ll vS sW
  refine dC (λh1=>?_) (λ_=>hr)
  refine dC (λh2=>?_) (λ_=>hr)
  refine dC (λh3=>?_) (λ_=>hr)
  rcases LI xs1 with rfl | ⟨ys,z,rfl⟩
  .simp at h2
  refine⟨λσ' H'=>σ'=[-d,some (.int m),none,none,none]/\H'=upd (upd H1 l (.lst (ys.map V.int))) d (.dK (bE Y sd z l)),?_,V.int z,by simp,bE Y sd n1 l,by rw[ai dl];exact hd1,wO _ _ _ _,by rw[qY];simp⟩
  rintro _ _ ⟨rfl,rfl⟩
  refine⟨ys.length,by simp,rfl,z,ae,ys,by rw[ai dl.symm,ae],hx1 z (by simp),λx hx=>hx1 x (by simp[hx]),by simp at hlen1;omega,λb o h1 h2 e=>?_,rfl⟩
  rw[ai h1,ai h2];exact bt b o h1 h2 e
 .rintro σ H1 ⟨n1,xs1,rfl,hd1,hl1,n01,hx1,hlen1,bt⟩
  ctx_has v hd1 hl1 ll vS sW xt wO qY Di ae
  have Z : ∀(r B n':Int),0<=r->r < m->0<=n'->0<=B->B < 2147483648->Q (.int r) (upd H1 d (HO.dK (bE Y B n' l))):=λr B n' r0 r1 ad h0 h1 =>
   k r _ r0 r1 ⟨Y,B,n',xs1,ae,by rw[ai dl.symm];exact hl1,ad,hx1,h0,h1,hlen1⟩ λb o h1 h2 e=>by rw[ai h1];exact bt b o h1 h2 e
  refine dC (λh1=>?_) (λh1=>?_)
  .exact⟨⟨m0,m1⟩,m0,Z _ _ _ (Int.emod_nonneg _ ()) (Int.emod_lt_of_pos _ m0) (Int.ediv_nonneg () ()) s0 s1⟩
  .generalize hone:(sd * 48271+7919) % 2147483647=one
   have o0:0<=one:=()
   have o1:one < 2147483647:=()
   generalize ak:(one * 40692+104729) % 2147483399=ab;have p0:0<=ab:=()
   have p1:ab < 2147483399:=()
   have q0:=Int.emod_nonneg (one * one) (show(2147483629:Int)≠0 by decide)
   have q1:=Int.emod_lt_of_pos (one * one) (show(0:Int) < 2147483629 by decide)
   exact⟨fH s0 (),∅,fH o0 (),∅,fH p0 (),∅,fH o0 (),∅,fH q0 (),m0,
    Z _ _ _ (Int.emod_nonneg _ ()) (Int.emod_lt_of_pos _ m0) n01 p0 ()⟩
abbrev Dz1:=Fn P w K mg base "_law_deal" 1 ["_law_script","_law_start"] (GV K)
theorem ve (T:Txt w K mg) (L:FnL K mg "_law_deal" gZ ["_law_script","_law_start"]) : @Dz1 P w K mg base:=by
 ctx_has z uG <;> obtain⟨a,ns,st,rfl,hS,ax,az,a1,k⟩:=h
 .rfl
 refine⟨_,(ag (iy 2 (N:=["_law_cell"]) (nt:=1) (js:=[]) (aG ["_law_script","_law_start","_law_cells_here","_law_number","_law_cell"] (ak gZ).names) (hV K (bL JH (pvM 0) (bW (pvM 1)) (bW ah))) (ay 0) aU bv (aE (tm rfl) T.b_max (ac (pvM 0) (ac (aM fV ah (pvM 0)) af))))
  (ag (aC 3 (aM bp ah (pvM 1)))
  (ag (bx (hV K (pvM 2)) (ay 4) (aj (aC 3 (aM gA (aM bp (aM dR (pvM 3) ah) (pvM 4)) ah))))
  (aj (aw (vc (iB aS (aM gA (aE (iR rfl) T.b_sum (ac (bL JH (pvM 0) cA (bW ah)) af)) ah) (iB aS (pvM 3) (iB aS ah (iB aS (pT rfl rfl T.b_list rfl T.b_reversed (pvM 2)) uO)))) rfl rfl (by nofun) ∅)))))),?_⟩
 ctx_has v
 refine⟨_,hS,λp hp=>⟨_,ae,λD hD=>?_⟩⟩
 have pD:D≠p:=by rintro rfl;rw[ae] at hD;cases hD
 obtain⟨ms,am,a0⟩:=wK ns (some st) (some 63);rw[am] at hD ⊢;rw[ai pD] at hD;refine eD cD (λi ys H2=>∃cs:List Int,ys=cs.map V.int/\cs.length=i/\(∀x∈cs,0<=x)/\H2 p*>(ms.map V.int)/\H2 D*>ys/\ap H H2)
  ⟨[],rfl,rfl,by simp,by rw[ai pD.symm,ae],ae,(ap.upd0 hp).upd_new (by rw[ai pD];exact hD)⟩ (λi ys H2 ab=>by obtain⟨_,_,_,_,h,_⟩:=ab;exact(.of h)) ?_ ?_
 .rintro i x ys H2 hi F ⟨cs,rfl,rfl,hc,h1,h2,sm⟩
  obtain⟨v,rfl⟩:=int_at F;ctx_has v h2
  have hi:cs.length < 63:=by simp at hi;omega
  refine⟨by simp;exact aF (),cs++[if 0 - v > v then 0 - v else v],by simp,by simp,λx F=>?_,by rw[ai pD.symm];exact h1,ae,λb o e=>?_⟩
  .rcases j9.mp F with q | q
   .exact hc x q
   .rw[fx.mp q];split <;> omega
  .rw[ai (au e hD)];exact sm b o e
 .rintro ys H2 ⟨cs,rfl,hc,hpos,h1,h2,sm⟩
  have an:cs.length<=63:=by simp at hc;omega
  ctx_has v h2
  refine cu cD (λi σ H3=>∃(z:Int) (v:Option V),σ=[-a,some (.int st),-D,some (.int z),v]/\0<=z/\z < 2147483648/\H3=H2)
   ⟨_,_,rfl,(),(),rfl⟩ (λi σ H3 aa=>by obtain⟨_,_,_,_,_,h⟩:=aa;exact(by rw[h];exact .of h2)) ?_ ?_
  .rintro i x σ H3 hi F ⟨z,v,rfl,z0,z1,rfl⟩
   obtain⟨y,rfl⟩:=int_at F;ctx_has v
   exact⟨fH z0 (),∅,(),()⟩
  .rintro σ H3 ⟨z,v,rfl,z0,z1,rfl⟩
   ctx_has v h2 DW
   intro d hd;refine⟨_,(sm.upd_new hd).seq hS,λp2 Z=>?_⟩
   have Y:p2≠d:=by rintro rfl;rw[ae] at Z;cases Z
   have B:H3 p2=none:=by rwa [ai Y] at Z
   obtain⟨xs,aq,_⟩:=wK ns none (some 1);rw[aq];have ao:D≠p2:=au h2 B
   have ar:D≠d:=au h2 hd
   refine⟨xs,.of ae,∅,_,by rw[ai ao,ai ar];exact h2,λl hl=>?_⟩
   have l1:l≠p2:=by rintro rfl;rw[ae] at hl;cases hl
   have l2:l≠d:=by rintro rfl;rw[ai Y.symm,ae] at hl;cases hl
   have ad:H3 l=none:=by rwa [ai l1,ai l2] at hl
   refine⟨by rw[ai l2.symm,ai Y.symm,ae],bE (xs.sum % 2) z 0 l,rfl,by show 4<=15;decide,?_⟩
   rw[yf];refine k d l _ (sm.free hd) (sm.free ad) ⟨_,z,0,cs.reverse,ae,by rw[ai l2,ae,List.map_reverse],(),λx F=>hpos x (List.mem_reverse.mp F),z0,z1,by simpa using an⟩ λb o e=>?_
   have e3:=sm b o e;rw[ai (au e3 hd),ai (au e3 ad),ai (au e3 B),ai (au e3 hd)];exact e3
def E6:Sp:=λvs H Q _=>∃(d l:Addr) (m:Int),vs=[.ref d,.int m]/\aO H d l/\0<=m/\m<=20/\∀(p:Addr) (ws:List Str) (H':Hp),H p=none->gX ws->ws.length=m.toNat->H' p*>(ws.map V.str)->aO H' d l->But d l H H'->Q (.ref p) H'
theorem Ch {B:Str} (Y:iu B) {P:Str->Prop} (h:P (qm B)):B.length<=g9/\∃c,atI B.cps.toList 0=some c/\∃i rest,Lc (b_ "abcdefghijklmnopqrstuvwxyz") { cps := #[c] } 0 (b_ "abcdefghijklmnopqrstuvwxyz").length 1=i :: rest/\(0:Int) < 26 /\
  (b_ "abcdefghijklmnopqrstuvwxyz").length<=g9/\∃c,atI (b_ "abcdefghijklmnopqrstuvwxyz").cps.toList (((i:Nat)+1:Int) % 26)=some c/\B.length<=g9/\(Str.mk #[c]).length+(KG B (some 1) none).length<=g9/\P ((Str.mk #[c])++KG B (some 1) none):=by
 obtain⟨c,cs,e,hc,aa,hl⟩:=Y.cons;have F:B.length<=g9:=y3 (aF (ja Y.le ∅))
 have hs:=LB B (some 1) none;have hw:=Y.le;refine⟨F,c,by rw[e];exact vG _ _,_,_,rP hc,∅,oN,_,qp () (),F,y3 (aF (by show 1+_<=1000;omega)),?_⟩
 have L:=hc;simp only[eF,l_,decide_eq_true_eq] at L;have Z:B.length=cs.length+1:=by rw[<- mr,e];rfl
 have key:(Str.mk #[97+((((c - 97:Nat):Int)+1) % 26).toNat])++KG B (some 1) none=qm B:=by
  apply Gm
  rw[lJ,kB,e,Z];have e1:97+((((c - 97:Nat):Int)+1) % 26).toNat=vH c:=by unfold vH;omega
  have e2:HT.sIx (cs.length+1) 0 (some 1)=1:=by
   show(if (1:Int) < 0 then((1:Int)+((cs.length+1:Nat):Int)).toNat else min (1:Int).toNat (cs.length+1))=1
   rw[if_neg ∅]
   show min 1 (cs.length+1)=1
   omega
  rw[e1,e2,HT.sIx_none];simp[qm,e,Ee]
 rw[key];exact h
theorem jV {Dn:pk} {Y Z L:Option V} {wd:Str} (hw:iu wd) (ag:ws.length<=20) (hp:H p*>(ws.map V.str))
  (ab : ∀(B:Str) (H':Hp),iu B->B∉ws->B∉fX->ap H H'->Dn.nx [-d,Y,some (.str (b_ "abcdefghijklmnopqrstuvwxyz")),-p,Z,some (.str B),L] H') :
  yl
   (tOr (hU (tOp (C3 false) (dj 5) (dj 3)))
    (hU (tOp (C3 false) (dj 5) (Em (kQ (tC (V.str "in")) (kQ (tC (V.str "from")) (kQ (tC (V.str "to")) (kQ (tC (V.str "end")) yk))))))))
   (BH (tOp rCS (tOp rIS (dj 2) (tOp (rI (λx j=>0 < j) λi j=>V.int (i % j)) (tOp (rI0 λi j=>V.int (i+j)) (tMS pO (dj 2) (kQ (tOp rIS (dj 5) (tC (V.int 0))) yk)) (tC (V.int 1))) (tC (V.int 26))))
     (tSl EY (dj 5) (wc (tC (V.int 1))) mq)) (eR 5))
   Dn [-d,Y,some (.str (b_ "abcdefghijklmnopqrstuvwxyz")),-p,Z,some (.str wd),L] H:=by
 obtain⟨ad,h0⟩:=Bd hw (F:=ws++fX) (by simp[fX];omega)
 refine vM (λμ σ H'=>∃B:Str,σ=[-d,Y,some (.str (b_ "abcdefghijklmnopqrstuvwxyz")),-p,Z,some (.str B),L]/\iu B/\qA μ B∉ws++fX/\ap H H')
  (λσ H'=>∃B:Str,σ=[-d,Y,some (.str (b_ "abcdefghijklmnopqrstuvwxyz")),-p,Z,some (.str B),L]/\iu B/\B∉ws/\B∉fX/\ap H H')
  ⟨ad,wd,rfl,hw,h0,ap.refl _⟩ ?_ ?_
 .rintro R hR μ σ H1 ⟨w1,rfl,n1,f1,sm⟩
  have ac:=sm _ _ hp;have step : ∀H2,ap H H2->w1∈ws++fX->∀ σ' H',(σ'=[-d,Y,some (.str (b_ "abcdefghijklmnopqrstuvwxyz")),-p,Z,some (.str (qm w1)),L]/\H'=H2)->∃m',m' < μ/\∃B:Str,σ'=[-d,Y,some (.str (b_ "abcdefghijklmnopqrstuvwxyz")),-p,Z,some (.str B),L]/\iu B/\qA m' B∉ws++fX/\ap H H':=λH2 aa af=>by
   rintro _ _ ⟨rfl,rfl⟩
   cases μ with
   | zero=>exact absurd af f1
   | succ μ=>exact⟨μ,D_ _,qm w1,rfl,Gn n1,f1,aa⟩
  ctx_has v ac
  refine⟨rfl,AU _,?_⟩
  rw[wt];refine dC (λh=>?_) (λh=>?_)
  .exact⟨_,step H1 sm (m9 _ (by simpa using h)),Ch n1 (P:=λz=>[some (V.ref d),Y,some (.str (b_ "abcdefghijklmnopqrstuvwxyz")),-p,Z,some (.str z),L]=[some (V.ref d),Y,some (.str (b_ "abcdefghijklmnopqrstuvwxyz")),-p,Z,some (.str (qm w1)),L]/\H1=H1) ⟨rfl,rfl⟩⟩
  .refine⟨∅,λq hq=>⟨_,ae,rfl,by decide+kernel,?_⟩⟩
   have aa:ap H (upd H1 q (.lst (fX.map V.str))):=sm.upd_new hq
   show(if inV (V.str w1) (fX.map V.str)=true then _ else _)
   rw[wt];refine dC (λh2=>?_) (λh2=>?_)
   .exact⟨_,step _ aa (o_ _ (by simpa using h2)),Ch n1 (P:=λz=>[some (V.ref d),Y,some (.str (b_ "abcdefghijklmnopqrstuvwxyz")),-p,Z,some (.str z),L]=[some (V.ref d),Y,some (.str (b_ "abcdefghijklmnopqrstuvwxyz")),-p,Z,some (.str (qm w1)),L]/\_=_) ⟨rfl,rfl⟩⟩
   .exact hR _ _ ⟨w1,rfl,n1,by simpa using h,by simpa using h2,aa⟩
 .rintro σ H1 ⟨w1,rfl,n1,f1,f2,sm⟩
  exact ab w1 H1 n1 f1 f2 sm
abbrev Dz2:=Fn P w K mg base "_law_names" 2 ["_law_deal_here","_law_many"] (E6)
theorem sj (T:Txt w K mg) (L:FnL K mg "_law_names" gq ["_law_deal_here","_law_many"]) (Fa : @Dz0 P w K mg base) : @Dz2 P w K mg base:=by
 ctx_has z sx <;> obtain⟨d,l,m,rfl,D,m0,m1,k⟩:=h
 .rfl
 refine⟨_,(ag (aC 2 aS)
  (ag (aC 3 (cG af))
  (ag (bx (fG rfl T.b_range (ac (pvM 1) af)) (ay 4) (ag (aC 5 (GE PySem.F.slot_str_join PySem.F.type_str_join Gi aS (ac (aV (N:=["_law_j","_law_letters","_law_deal_here"]) (nt:=1) (js:=[2,0]) (aG ["_law_deal_here","_law_many","_law_letters","_law_names_here","_law_k","_law_word","_law_place"] (ak gq).names) (fG rfl T.b_range (ac (aM bp ah (aq Fa (ac (pvM 0) (ac ah af)))) af)) (ay 0) aU bv (az Ga (pvM 1) (aq Fa (ac (pvM 2) (ac ah af))))) af)))
  (ag (bg (PW.pt (uV (aJ qZ (pvM 4) ah) (vo (aJ bz (aq Fa (ac (pvM 0) (ac ah af))) ah)))) (ag (aC 6 (aq Fa (ac (pvM 0) (ac (aE Bc T.b_len (ac (az gb (pvM 3) (rE lm ah)) af)) af))))
  (aj (aC 5 (aM uH (aM uH (bL ub (az gb (pvM 3) (rE lm ah)) cA (bW (pvM 6))) (az Ga (pvM 5) ah)) (bL ub (az gb (pvM 3) (rE lm ah)) (bW (aM bp (pvM 6) ah)) cA))))) aL)
  (ag (vV PassesOwn.never (PW.pt (rB (aJ CI (pvM 5) (pvM 3)) (qg (aJ CI (pvM 5) (cG (ac aS (ac aS (ac aS (ac aS af))))))))) (aj (aC 5 (aM uH (az Ga (pvM 2) (aM gA (aM bp (GE PySem.F.slot_str_index PySem.F.type_str_index CV (pvM 2) (ac (az Ga (pvM 5) ah) af)) ah) ah)) (bL ub (pvM 5) (bW ah) cA)))))
  (aj (ci (jw pb p6 cY (pvM 3) (ac (pvM 5) af))))))))
  (aj (aw (pvM 3)))))),?_⟩
 ctx_has v
 refine⟨∅,λp hp=>⟨(),(),?_⟩⟩
 have Y:=D.ne hp;refine cu dJ (λi σ H'=>∃(ws:List Str) (vk vw vp:Option V),σ=[-d,some (.int m),some (.str (b_ "abcdefghijklmnopqrstuvwxyz")),-p,vk,vw,vp]/\gX ws/\ws.length=i/\H' p*>(ws.map V.str)/\aO H' d l/\But d l H H')
  ⟨[],_,_,_,rfl,.nil,rfl,ae,D.new hp,(But.refl H).new hp⟩ (λ_ _ _ _=>m_) ?_ ?_
 .rintro i x σ H2 hi hx ⟨ws,vk,vw,vp,rfl,ok,hlen,h2,D2,B2⟩
  rw[bi] at hi;rw[xo hi] at hx;obtain rfl:=ge hx
  ctx_has v
  refine bm D2 ∅ ∅ λr H3 r0 r1 D3 B3=>?_
  ctx_has v
  refine⟨(),(),λq hq=>?_⟩
  have h3:=B3 p _ Y.1 Y.2 h2;have nq:=D3.ne hq;have a0:p≠q:=au h3 hq
  refine eD dJ (λj ys H4=>∃cs:List Nat,ys=cs.map (λc=>V.str ⟨#[c]⟩)/\cs.length=j/\(∀c∈cs,eF c=true)/\H4 q*>ys/\H4 p*>(ws.map V.str)/\aO H4 d l/\But d l H H4)
   ⟨[],rfl,rfl,by simp,ae,by rw[ai a0];exact h3,D3.new hq,(B2.trans B3).new hq⟩ (λ_ _ _ _=>m_) ?_ ?_
  .rintro j x ys H4 hj hx ⟨cs,rfl,hcl,hcs,h4,h4p,D4,B4⟩
   ctx_has v
   rw[bi] at hj;refine bm D4 ∅ ∅ λr5 H5 ao ax D5 Z=>?_
   have h5:=Z q _ nq.1 nq.2 h4;have a3:=Z p _ Y.1 Y.2 h4p;refine⟨r5,rfl,oN,_,qp ao ax,h5,by simp;exact aF (),cs++[97+r5.toNat],by simp,by simp;omega,λc hc=>?_,ae,by rw[ai a0];exact a3,D5.put nq.1 nq.2,(B4.trans Z).put (B2.free D2 ((B3.free D3 hq)))⟩
   rcases j9.mp hc with z | z
   .exact hcs c z
   .rw[fx.mp z]
    unfold eF;rw[l_,decide_eq_true_eq,decide_eq_true_eq];omega
  .rintro ys H4 ⟨cs,rfl,hcl,hcs,h4,h4p,D4,B4⟩
   rw[bi] at hcl;ctx_has v
   refine⟨cs.map λc=>⟨#[c]⟩,by rw[h4];simp,by rw[CC,show(b_ "").length=0 by decide+kernel];omega,?_⟩
   have hj:=xw cs;generalize Txt.join (b_ "") (cs.map λc=>Str.mk #[c])=wd at hj ⊢
   obtain⟨c0,cs',rfl⟩ : ∃c0 cs',cs=c0 :: cs':=by
    cases cs with
    | nil=>simp at hcl;omega
    | cons a b=>exact⟨a,b,rfl⟩
   have ab:iu wd:=.of hj (hcs c0 (by simp)) (λx hx=>hcs x (by simp[hx])) (by simp at hcl;omega)
   have aa : ∀{w:Str},iu w->w.length<=g9:=λh=>y3 (aF (ja h.le ∅))
   have ad:ws.length<=20:=()
   have am : ∀(B:Str) (H5 H6:Hp),aO H5 d l->But d l H H5->ap H5 H6->iu B->B∉ws->B∉fX->∃an,gX an/\an.length=i+1/\upd H6 p (HO.lst (ws.map V.str++[V.str B])) p=some (HO.lst (an.map V.str))/\aO (upd H6 p (HO.lst (ws.map V.str++[V.str B]))) d l/\But d l H (upd H6 p (HO.lst (ws.map V.str++[V.str B]))) :=
    λB H5 H6 D5 Z sm n f1 f2=>⟨ws++[B],ok.snoc n f1 f2,by simp[hlen],by rw[ae];simp,(D5.same sm).put Y.1 Y.2,(Z.same sm).put hp⟩
   refine dC (λh=>?_) (λh=>?_)
   .refine bm D4 ∅ ∅ λr5 H5 ao ax D5 Z=>?_
    ctx_has v
    have h5:=Z p _ Y.1 Y.2 h4p;refine dC (λh6=>?_) (λh6=>?_)
    .rcases LI ws with rfl | ⟨ws0,z,rfl⟩
     .simp at hlen;omega
     have nz:iu z:=ok.nm z (by simp)
     refine⟨_,h5,_,by rw[K6,r_];exact qB _ _,z,rfl,aa nz,?_⟩
     refine bm D5 (by have:=nz.pos;omega) (by have:=nz.le;omega) λr7 H7 a2 a1 D7 B7=>?_
     have h7:=B7 p _ Y.1 Y.2 h5;ctx_has v h7
     have ar:atI (List.map V.str (ws0.concat z)) (-1)=some (V.str z):=by rw[K6,r_];exact qB _ _
     have l1:=LB z none (some r7);have l2:=LB z (some (r7+1)) none;have l3:=nz.le;refine⟨_,ar,z,rfl,aa nz,aa ab,c0,by rw[hj];exact vG _ _,y3 (aF (by show _+1<=1000;omega)),_,ar,z,rfl,aa nz,y3 (aF (by rw[qj];show _+1+_<=1000;omega)),?_⟩
     refine jV (E7 nz (hcs c0 (by simp)) a2 a1) ad h7 λB H8 n f1 f2 sm=>?_
     have h8:=sm _ _ h7;ctx_has v h8
     exact⟨by simp only[d_];exact aF (),am B H7 H8 D7 ((B4.trans Z).trans B7) sm n f1 f2⟩
    .refine jV ab ad h5 λB H6 n f1 f2 sm=>?_
     have h6:=sm _ _ h5;ctx_has v h6
     exact⟨by simp;exact aF (),am B H5 H6 D5 (B4.trans Z) sm n f1 f2⟩
   .refine jV ab ad h4p λB H6 n f1 f2 sm=>?_
    have h6:=sm _ _ h4p;ctx_has v h6
    exact⟨by simp;exact aF (),am B H4 H6 D4 B4 sm n f1 f2⟩
 .rintro σ H2 ⟨ws,vk,vw,vp,rfl,ok,hlen,h2,D2,B2⟩
  ctx_has v
  rw[bi] at hlen;exact k p ws H2 hp ok hlen h2 D2 B2
def gE (p:Addr) (H H':Hp):Prop:=∀b o,b≠p->H b=some o->H' b=some o
def bQ (H:Hp) (kvs:List (Key × V)) (cs:List Str) (rm:Str->List Int):Prop:=∀c∈cs,∃a,bM kvs (g6 c)=some (.ref a)/\H a>>((rm c).map V.int)
structure gL (H H':Hp):Prop where
 tup : ∀a vs,H a>>vs->H' a>>vs
 ins : ∀a C dx fs,H a=some (.ins C dx fs)->H' a=some (.ins C dx fs)
 dt : ∀a ks,H a=some (.dT ks)->H' a=some (.dT ks)
theorem ap.keepTI (s:ap H H'):gL H H':=⟨λa vs e=>s _ _ e,λa C dx fs e=>s _ _ e,λa ks e=>s _ _ e⟩
theorem But.keepTI (B:But d l H H') (D:aO H d l):gL H H':=by
 obtain⟨m,L,n,xs,F,hl,_⟩:=D.ex;exact⟨λa vs e=>B a _ (aZ e F (by intro z;cases z)) (aZ e hl (by intro z;cases z)) e,λa C dx fs e=>B a _ (aZ e F (by intro z;cases z)) (aZ e hl (by intro z;cases z)) e,λa ks e=>B a _ (aZ e F (by intro z;cases z)) (aZ e hl (by intro z;cases z)) e⟩
theorem bQ.same (h:bQ H kvs cs rm) (s : ∀a vs,H a>>vs->H' a>>vs):bQ H' kvs cs rm:=λc B=>by
 obtain⟨a,e1,e2⟩:=h c B;exact⟨a,e1,s _ _ e2⟩
def bO {α:Type} (f:Str->α) (c:Str) (v:α):Str->α:=λx=>if x=c then v else f x
def okF (rm:Str->List Int) (cs:List Str) (g:Str->Int):Prop:=∀c∈cs,g c∈rm c
theorem bK (g:Str->α) (c:Str) (v:α):bO g c v c=v:=by unfold bO;rw[if_pos rfl]
theorem du (g:Str->α) {c x:Str} (v:α) (h:x≠c):bO g c v x=g x:=by unfold bO;rw[if_neg h]
def H0:Sp:=λvs H Q _=>∃(d l a:Addr) (m:Int) (xs:List V),vs=[.ref d,.ref a,.int m]/\aO H d l/\JI H a xs/\0<=m/\m<=xs.length/\xs.length<=60 /\
 ∀(p:Addr) (B rest:List V) (H':Hp),H p=none->(B++rest).Perm xs->m<=B.length->H' p>>B->aO H' d l->But d l H H'->Q (.ref p) H'
theorem lay_ints : ∀ns:List Int,B_ (ns.map Gt)=true
 | []=>rfl
 | n :: ns=>by
  rw[j8];unfold B_;rw[lay_ints ns];rfl
theorem depth_ints : ∀ns:List Int,PyData.depthAll (ns.map Gt)=0
 | []=>rfl
 | n :: ns=>by
  rw[j8];unfold PyData.depthAll;rw[depth_ints ns];rfl
theorem wB (ns:List Int):KN (.list (ns.map Gt)) (.list [])=decide (ns=[]):=by
 cases ns with
 | nil=>rfl
 | cons n ns=>simp[KN,LU]
theorem bQ.putG {cs':List Str} {t:Addr} (h:bQ H kvs cs rm) (s : ∀a vs,H a>>vs->H' a>>vs) (B:H' t>>(ns.map V.int)) (sub : ∀x∈cs',x=c\/x∈cs) :
  bQ H' (bu kvs (g6 c) (.ref t)) cs' (bO rm c ns):=λx F=>by
 by_cases e:x=c
 .subst e
  exact⟨t,by rw[gC,if_pos rfl],by unfold bO;rw[if_pos rfl];exact B⟩
 .obtain⟨a,e1,e2⟩:=h x ((sub x F).resolve_left e)
  exact⟨a,by rw[gC,if_neg (λz=>e (Sum.inr.inj z))];exact e1,by unfold bO;rw[if_neg e];exact s _ _ e2⟩
theorem rD (f:α->V) (B:V->α) (hi : ∀x,B (f x)=x) {F rest:List V} {xs:List α} (h:(F++rest).Perm (xs.map f)) : ∃ys zs:List α,F=ys.map f/\(ys++zs).Perm xs:=by
 refine⟨F.map B,rest.map B,?_,?_⟩
 .rw[k6]
  have : ∀v∈F,f (B v)=v:=λv L=>by
   obtain⟨x,_,rfl⟩:=hH.mp (h.mem_iff.mp (m9 _ L));rw[hi]
  conv=>lhs;rw[<- map_id F]
  exact nL λv L=>(this v L).symm
 .have:=h.map B
  rw[r_,k6] at this;have e:xs.map (B ∘ f)=xs:=by
   conv=>rhs;rw[<- map_id xs]
   exact nL λx _=>hi x
  rw[e] at this;exact this
def JW:V->Str | .str s=>s | _ => ""
def EU:V->Int | .int i=>i | _=>0
abbrev Dz3:=Fn P w K mg base "_law_some" 2 ["_law_deal_here","_law_things","_law_least"] (H0)
theorem vg (T:Txt w K mg) (L:FnL K mg "_law_some" jC ["_law_deal_here","_law_things","_law_least"]) (Fa : @Dz0 P w K mg base) : @Dz3 P w K mg base:=by
 ctx_has z uh <;> obtain⟨d,l,a,m,xs,rfl,D,ha,m0,m1,ar,k⟩:=h
 .rfl
 refine⟨_,(ag (aC 3 (aW yu T.b_list (ac (pvM 1) af)))
  (ag (aC 4 (cG af))
  (ag (bx (fG rfl T.b_range (ac (aM bp (pvM 2) (aq Fa (ac (pvM 0) (ac (aM bp (aM fV (aE cC T.b_len (ac (pvM 3) af)) (pvM 2)) ah) af)))) af)) (ay 5) (aj (ci (jw pb p6 cY (pvM 4) (ac (jw PySem.F.slot_list_pop PySem.F.type_list_pop De (pvM 3) (ac (aq Fa (ac (pvM 0) (ac (aE cC T.b_len (ac (pvM 3) af)) af))) af)) af)))))
  (aj (aw (aW cZ T.b_tuple (ac (pvM 4) af))))))),?_⟩
 ctx_has v
 refine⟨xs,ha,λu Y=>?_⟩
 have nu:=D.ne Y;refine⟨∅,λg hg=>?_⟩
 have ug:u≠g:=by rintro rfl;rw[ae] at hg;cases hg
 have ab:H g=none:=by rwa [ai ug.symm] at hg
 have ng:=D.ne ab;have D1:=(D.new (o:=.lst xs) Y).new (o:=.lst []) hg;have Z:upd (upd H u (.lst xs)) g (.lst []) u*>xs:=by rw[ai ug];exact ae
 have aa:upd (upd H u (.lst xs)) g (.lst []) g*>[]:=ae
 have B1:But d l H (upd (upd H u (.lst xs)) g (.lst [])):=((But.refl H).new Y).new hg
 generalize upd (upd H u (.lst xs)) g (.lst [])=H1 at D1 Z aa B1 ⊢;ctx_has v Z
 refine bm D1 () () λr H2 r0 r1 D2 B2=>?_
 refine⟨_,rfl,(),(),?_⟩
 refine cu dJ (λi σ H'=>∃(B rest:List V) (v5:Option V),σ=[-d,-a,some (.int m),-u,-g,v5]/\B.length=i/\(B++rest).Perm xs/\H' g*>B/\H' u*>rest/\aO H' d l/\But d l H H')
  ⟨[],xs,_,rfl,rfl,.refl _,B2 g _ ng.1 ng.2 aa,B2 u _ nu.1 nu.2 Z,D2,B1.trans B2⟩ (λ_ _ _ _=>m_) ?_ ?_
 .rintro j y σ H5 hj hy ⟨B,rest,v5,rfl,hgl,hperm,h5g,h5u,D5,B5⟩
  rw[bi] at hj;have au:B.length+rest.length=xs.length:=by rw[<- q_];exact hperm.length_eq
  ctx_has v h5g h5u
  refine bm D5 () () λr6 H6 ao am D6 B6=>?_
  have an:=B6 u _ nu.1 nu.2 h5u;have ad:=B6 g _ ng.1 ng.2 h5g;ctx_has v an
  refine⟨ao,am,(),λz hz=>?_⟩
  have ak:r6.toNat < rest.length:=(g_.mp hz).1
  refine⟨_,by rw[ai ug.symm];exact ad,aF (),B++[z],by simp;omega,rest.eraseIdx r6.toNat,?_,ae,by rw[ai ug];exact ae,(D6.put nu.1 nu.2).put ng.1 ng.2,((B5.trans B6).put Y).put ab⟩
  refine List.Perm.trans ?_ hperm
  rw[append_assoc];refine List.Perm.append_left B ?_
  rw[(g_.mp hz).2.symm];exact qc ak
 .rintro σ H5 ⟨B,rest,v5,rfl,hgl,hperm,h5g,h5u,D5,B5⟩
  rw[bi] at hgl;ctx_has v h5g
  intro t ht;exact k t B rest _ (B5.free D5 ht) hperm () ae (D5.new ht) (B5.new ht)
def chB (gap:Int) (vs:List Int):Bool:=(LV (λa b=>decide (a+gap<=b)) vs (vs.drop 1)).all id
theorem gH (gap a b:Int) (r:List Int):chB gap (a :: b :: r)=(decide (a+gap<=b) && chB gap (b :: r)):=by simp[chB]
theorem wC {a B:Int} {r:List Int} (h:B<=a) (F:chB gap (a :: r)=true):chB gap (B :: r)=true:=by
 cases r with
 | nil=>rfl
 | cons b r =>
  rw[gH,l_,decide_eq_true_eq] at F ⊢;exact⟨(),F.2⟩
theorem Af (gap:Int) (vs:List Int):((range (vs.length - 1)).map λk=>decide (vs.getD k 0+gap<=vs.getD (k+1) 0)).all id=chB gap vs:=by
 unfold chB
 congr 1
 apply List.ext_getElem
 .simp
 .intro i h1 h2
  simp at h1 h2 ⊢
  have B:i < vs.length:=()
  have F:i+1 < vs.length:=()
  rw[ki B,ki F];simp[add_comm]
def bV:Option Int->V | none=>.non | some i=>.int i
def dW (n:Int) (lo hi:Option Int):Bool:=(match lo with | none=>true | some a=>decide (a<=n)) && (match hi with | none=>true | some b=>decide (n<=b))
structure dz (H:Hp) (f:Addr) (cs:List Str) (g:Str->Int):Prop where
 ex : ∃kvs,H f<*kvs/\(∀c∈cs,bM kvs (g6 c)=some (.int (g c)))/\(∀x∈kvs,pV x.2=true)/\kvs.length<=40
 bd : ∀c∈cs,-2000000<=g c/\g c<=2000000
theorem dz.same (h:dz H f cs g) (s:ap H H'):dz H' f cs g:=by
 obtain⟨kvs,h1,r⟩:=h.ex;exact⟨⟨kvs,s _ _ h1,r⟩,h.bd⟩
theorem dz.sub {ds:List Str} (h:dz H f cs g) (s : ∀c∈ds,c∈cs):dz H f ds g:=by
 obtain⟨kvs,h1,h2,r⟩:=h.ex;exact⟨⟨kvs,h1,λc B=>h2 c (s c B),r⟩,λc B=>h.bd c (s c B)⟩
def GD:Sp:=λvs H Q _=>∃(t:Addr) (ns:List Int),vs=[.ref t]/\H t>>(ns.map V.int)/\ns.length<=20/\∀H',ap H H'->Q (.bl (decide ns.Nodup)) H'
def JK:Sp:=λvs H Q _=>∃(n:Int) (lo hi:Option Int),vs=[.int n,bV lo,bV hi]/\∀H',ap H H'->Q (.bl (dW n lo hi)) H'
def ia (H:Hp) (t:Addr) (ts:List (Int × Str)):Prop:=∃as:List (Addr × Int × Str),H t>>(as.map λx=>V.ref x.1)/\as.map (·.2)=ts/\∀x∈as,H x.1>>[.int x.2.1,.str x.2.2]
theorem ia.keep {t:Addr} (h:ia H t ts) (k : ∀a xs,H a>>xs->H' a>>xs):ia H' t ts:=by
 obtain⟨as,h1,h2,B⟩:=h;exact⟨as,k _ _ h1,h2,λx F=>k _ _ (B x F)⟩
def mF (H:Hp) (vs:List V) (ps:List (Int × Int × Int)):Prop:=∃as:List (Addr × Int × Int × Int),vs=as.map (λx=>V.ref x.1)/\as.map (·.2)=ps/\∀x∈as,H x.1>>[.int x.2.1,.int x.2.2.1,.int x.2.2.2]
theorem mF.keep {ps:List (Int × Int × Int)} (h:mF H vs ps) (k : ∀a xs,H a>>xs->H' a>>xs):mF H' vs ps:=by
 obtain⟨as,h1,h2,B⟩:=h;exact⟨as,h1,h2,λx F=>k _ _ (B x F)⟩
def gk (ps:List (Int × Int × Int)) (st:Option Int) (vs:List Int):Option Int:=vs.foldl (λst v=>kr ps st v) st
def uX (es:List Int):Option Int->Bool | none=>false | some s=>decide (s∈es)
inductive Wi | un (cs:List Str) | mn (av:List Int) (cs:List Str) (lo hi:Int) | sm (ts:List (Int × Str)) (lo hi:Option Int) | tb (cs:List Str) (rows:List (List Int)) | wy (cs:List Str) (ps:List (Int × Int × Int)) (es:List Int) | bh (cs:List Str) (gap:Int)
inductive Wx | pl (W:Wi) | sa (c:Str) (vs:List Int) (W:Wi)
def WS (H:Hp) (w:Addr):Wi->Prop
 | .un cs=>∃c,H w>>[.str "unlike",.ref c]/\H c>>(cs.map V.str)
 | .mn av cs lo hi=>∃a c,H w>>[.str "many",.ref a,.ref c,.int lo,.int hi]/\H a>>(av.map V.int)/\H c>>(cs.map V.str)
 | .sm ts lo hi=>∃t,H w>>[.str "sum",.ref t,bV lo,bV hi]/\ia H t ts
 | .tb cs rows=>∃c t vs,H w>>[.str "table",.ref c,.ref t]/\H c>>(cs.map V.str)/\H t>>vs/\eo H vs rows
 | .wy cs ps es=>∃c t e vs,H w>>[.str "way",.ref c,.ref t,.ref e]/\H c>>(cs.map V.str)/\H t>>vs/\mF H vs ps/\H e>>(es.map V.int)
 | .bh cs gap=>∃c,H w>>[.str "behind",.ref c,.int gap]/\H c>>(cs.map V.str)
def WX (H:Hp) (w:Addr):Wx->Prop
 | .pl W=>WS H w W
 | .sa c vs W=>∃t u,H w>>[.str "same",.str c,.ref t,.ref u]/\H t>>(vs.map V.int)/\WS H u W
theorem cF {w:Addr} {W:Wi} (h:WS H w W) (k : ∀a xs,H a>>xs->H' a>>xs):WS H' w W:=by
 cases W with
 | un cs=>obtain⟨c,h1,h2⟩:=h;exact⟨c,k _ _ h1,k _ _ h2⟩
 | mn av cs lo hi=>obtain⟨a,c,h1,h2,B⟩:=h;exact⟨a,c,k _ _ h1,k _ _ h2,k _ _ B⟩
 | sm ts lo hi=>obtain⟨t,h1,h2⟩:=h;exact⟨t,k _ _ h1,h2.keep k⟩
 | tb cs rows=>obtain⟨c,t,vs,h1,h2,B,F⟩:=h;exact⟨c,t,vs,k _ _ h1,k _ _ h2,k _ _ B,F.keep k⟩
 | wy cs ps es=>obtain⟨c,t,e,vs,h1,h2,B,F,L⟩:=h;exact⟨c,t,e,vs,k _ _ h1,k _ _ h2,k _ _ B,F.keep k,k _ _ L⟩
 | bh cs gap=>obtain⟨c,h1,h2⟩:=h;exact⟨c,k _ _ h1,k _ _ h2⟩
theorem eZ {w:Addr} {W:Wx} (h:WX H w W) (k : ∀a xs,H a>>xs->H' a>>xs):WX H' w W:=by
 cases W with
 | pl W=>exact cF h k
 | sa c vs W=>obtain⟨t,u,h1,h2,B⟩:=h;exact⟨t,u,k _ _ h1,k _ _ h2,cF B k⟩
def bw:Wi->List Str
 | .un cs=>cs
 | .mn _ cs _ _=>cs
 | .sm ts _ _=>ts.map (·.2)
 | .tb cs _=>cs
 | .wy cs _ _=>cs
 | .bh cs _=>cs
def aB:Wx->List Str
 | .pl W=>bw W
 | .sa c _ W=>c :: bw W
def szW:Wi->Prop
 | .un cs=>cs.length<=12
 | .mn av cs _ _=>av.length<=20/\cs.length<=12
 | .sm ts _ _=>ts.length<=12
 | .tb cs _=>cs.length<=12
 | .wy cs ps es=>cs.length<=12/\(ps.map λx=>(x.1,x.2.1)).Nodup/\ps.length<=60
 | .bh cs _=>cs≠[]/\cs.length<=12
def szX:Wx->Prop
 | .pl W=>szW W
 | .sa _ _ W=>szW W
def bT (W:Wi) (g:Str->Int):Bool:=match W with
 | .un cs=>decide (cs.map g).Nodup
 | .mn av cs lo hi=>dW ((cs.filter λc=>decide (g c∈av)).length:Nat) (some lo) (some hi)
 | .sm ts lo hi=>dW ((ts.map λx=>x.1 * g x.2).sum) lo hi
 | .tb cs rows=>decide (cs.map g∈rows)
 | .wy cs ps es=>uX es (gk ps (some 0) (cs.map g))
 | .bh cs gap=>chB gap (cs.map g)
def cq (W:Wx) (g:Str->Int):Bool:=match W with
 | .pl W=>bT W g
 | .sa c vs W=>decide (decide (g c∈vs)=bT W g)
def mH:Wi->Str
 | .un _ => "unlike"
 | .mn _ _ _ _ => "many"
 | .sm _ _ _ => "sum"
 | .tb _ _ => "table"
 | .wy _ _ _ => "way"
 | .bh _ _ => "behind"
def Ix:Sp:=λvs H Q _=>∃(c f:Addr) (cs:List Str) (g:Str->Int),vs=[.ref c,.ref f]/\H c>>(cs.map V.str)/\cs.length<=12/\dz H f cs g/\∀p H',ap H H'->H' p>>((cs.map g).map V.int)->Q (.ref p) H'
def zW:Sp:=λvs H Q _=>∃(t f:Addr) (ts:List (Int × Str)) (g:Str->Int),vs=[.ref t,.ref f]/\ia H t ts/\ts.length<=12/\dz H f (ts.map (·.2)) g/\∀H',ap H H'->Q (.int (ts.map λx=>x.1 * g x.2).sum) H'
def ml (x:Str):Sp:=λvs H Q _=>∃(w f:Addr) (W:Wi) (g:Str->Int),vs=[.ref w,.ref f]/\mH W=x/\WS H w W/\szW W/\dz H f (bw W) g/\∀H',ap H H'->Q (.bl (bT W g)) H'
def ux:Sp:=λvs H Q _=>∃(w f:Addr) (c:Str) (us:List Int) (W:Wi) (g:Str->Int),vs=[.ref w,.ref f]/\WX H w (.sa c us W)/\szW W/\dz H f (c :: bw W) g/\∀H',ap H H'->Q (.bl (cq (.sa c us W) g)) H'
def mG:Sp:=λvs H Q _=>∃(w f:Addr) (W:Wi) (g:Str->Int),vs=[.ref w,.ref f]/\WS H w W/\szW W/\dz H f (bw W) g/\∀H',ap H H'->Q (.bl (bT W g)) H'
def qG:List Str:=["unlike","many","sum","table","way","behind"]
theorem tW (W:Wi):mH W∈qG:=by cases W <;> simp[qG,mH]
theorem Kx {W:Wi} (h:mH W = "unlike") : ∃cs,W = .un cs:=by
 cases W with
 | un cs=>exact⟨_,rfl⟩
 | _=>exact absurd h (show ¬ (b_ _=b_ _) by decide+kernel)
theorem JY {W:Wi} (h:mH W = "many") : ∃av cs lo hi,W = .mn av cs lo hi:=by
 cases W with
 | mn=>exact⟨_,_,_,_,rfl⟩
 | _=>exact absurd h (show ¬ (b_ _=b_ _) by decide+kernel)
theorem Ku {W:Wi} (h:mH W = "sum") : ∃ts lo hi,W = .sm ts lo hi:=by
 cases W with
 | sm=>exact⟨_,_,_,rfl⟩
 | _=>exact absurd h (show ¬ (b_ _=b_ _) by decide+kernel)
theorem Kl {W:Wi} (h:mH W = "table") : ∃cs rows,W = .tb cs rows:=by
 cases W with
 | tb=>exact⟨_,_,rfl⟩
 | _=>exact absurd h (show ¬ (b_ _=b_ _) by decide+kernel)
theorem Kp {W:Wi} (h:mH W = "way") : ∃cs ps es,W = .wy cs ps es:=by
 cases W with
 | wy=>exact⟨_,_,_,rfl⟩
 | _=>exact absurd h (show ¬ (b_ _=b_ _) by decide+kernel)
theorem J7 {W:Wi} (h:mH W = "behind") : ∃cs gap,W = .bh cs gap:=by
 cases W with
 | bh=>exact⟨_,_,rfl⟩
 | _=>exact absurd h (show ¬ (b_ _=b_ _) by decide+kernel)
theorem rX (T:Txt w K mg) (L:FnL K mg "are_unlike" jl ["things"]):Fn P w K mg base "are_unlike" 1 ["things"] (GD):=by
 ctx_has z rY <;> obtain⟨t,ns,rfl,h,hl,k⟩:=h
 .rfl
 refine⟨_,(aj (aw (aQ bz (aE oE T.b_len (ac (aW (Bb rfl) T.b_set (ac (pvM 0) af)) af)) (aE fA T.b_len (ac (pvM 0) af))))),?_⟩
 ctx_has v h
 refine⟨ns,rfl,(),λq S F=>?_⟩
 have B:ap H (upd H q (.set S (ij ns))):=ap.upd0 F
 refine⟨S,_,ae,_,B _ _ h,?_⟩
 have:=k _ B
 rw[d_];have e:decide ((ij ns:Int)=(ns.length:Int))=decide ns.Nodup:=by
  rw[o7,decide_eq_true_eq,decide_eq_true_eq,<- tJ];omega
 rw[e];exact this
abbrev Dz4:=Fn P w K mg base "is_between" 1 ["number","low","high"] (JK)
theorem rS (T:Txt w K mg) (L:FnL K mg "is_between" iP ["number","low","high"]) : @Dz4 P w K mg base:=by
 ctx_has z si <;> obtain⟨n,lo,hi,rfl,k⟩:=h
 .rfl
 refine⟨_,(aj (aw (jq (jF (nZ (nj (pvM 1))) (cL (aQ jU (pvM 1) (pvM 0)))) (cL (jF (nZ (nj (pvM 2))) (cL (aQ jU (pvM 0) (pvM 2)))))))),?_⟩
 have B:=k H (ap.refl _);cases lo with
 | none =>
  cases hi with
  | none=>ctx_has v yx bV decide_true decide_false i9;exact B
  | some b=>ctx_has v yx bV decide_true decide_false i9;simpa [dW] using B
 | some a =>
  cases hi with
  | none =>
   ctx_has v yx bV decide_true decide_false i9
   refine dC (λh=>?_) (λh=>?_)
   .simpa [dW,h] using B
   .simpa [dW,h] using B
  | some b =>
   ctx_has v yx bV decide_true decide_false i9
   refine dC (λh=>?_) (λh=>?_)
   .simpa [dW,h] using B
   .simpa [dW,h] using B
theorem AR (T:Txt w K mg) (L:FnL K mg "sum_of" lR ["terms","filling"]):Fn P w K mg base "sum_of" 1 ["terms","filling"] (zW):=by
 ctx_has z AV <;> obtain⟨t,f,ts,g,rfl,hT,hl,F,k⟩:=h
 .rfl
 refine⟨_,(aj (aw (aE (iR rfl) T.b_sum (ac (aV (N:=["term","filling"]) (nt:=1) (js:=[1]) (aG ["terms","filling"] (ak lR).names) (cg K (pvM 0)) (ay 0) aU bv (aM dR (az aR (pvM 0) ah) (bC hu (pvM 1) (az aR (pvM 0) ah)))) af)))),?_⟩
 obtain⟨as,h1,rfl,Z⟩:=hT;obtain⟨kvs,f1,f2,f3,f4⟩:=F.ex;ctx_has v h1
 intro q hq;refine bS aY (λv=>match v with | .ref a=>(match H a with | some (.tup [.int i,.str c])=>.int (i * g c) | _=>.non) | _=>.non) hq (λH' s=>.of (s _ _ h1)) (by simp at hl ⊢;omega) ?_ ?_
 .intro x H2 Q2 Y sm q2
  obtain⟨y,B,rfl⟩:=hH.mp Y;have e1:=sm _ _ (Z y B);have e2:=sm _ _ f1;have e3:=f2 y.2.2 (hH.mpr ⟨y.2,hH.mpr ⟨y,B,rfl⟩,rfl⟩);simp only[Z y B] at q2;ctx_has v e1 e2 e3
  have b:=F.bd y.2.2 (hH.mpr ⟨y.2,hH.mpr ⟨y,B,rfl⟩,rfl⟩);exact⟨.inr ⟨(),()⟩,q2 H2 (ap.refl _)⟩
 .intro H2 sm h2
  ctx_has v
  refine⟨(as.map (·.2)).map λx=>x.1 * g x.2,.of ?_,k H2 sm⟩
  rw[h2,k6,k6,k6]
  congr 2
  refine nL λx Y=>?_
  simp only[Function.comp_apply,Z x Y]
abbrev Dz5:=Fn P w K mg base "values_at" 1 ["cells","filling"] (Ix)
theorem uP (T:Txt w K mg) (L:FnL K mg "values_at" ic ["cells","filling"]) : @Dz5 P w K mg base:=by
 ctx_has z vi <;> obtain⟨c,f,cs,g,rfl,B,hl,F,k⟩:=h
 .rfl
 refine⟨_,(aj (aw (aW cZ T.b_tuple (ac (aV (N:=["cell","filling"]) (nt:=1) (js:=[1]) (aG ["cells","filling"] (ak ic).names) (cg K (pvM 0)) (ay 0) aU bv (bC hu (pvM 1) (pvM 0))) af)))),?_⟩
 obtain⟨kvs,f1,f2,f3,f4⟩:=F.ex;ctx_has v B
 intro q Z;refine bS aY (λv=>match v with | .str c=>.int (g c) | _=>.non) Z (λH' s=>.of (s _ _ B)) (by simp;omega) ?_ ?_
 .intro x H2 Q2 hx sm q2
  obtain⟨y,Y,rfl⟩:=hH.mp hx;have e2:=sm _ _ f1;have e3:=f2 y Y;ctx_has v e2 e3
  exact q2 H2 (ap.refl _)
 .intro H2 sm h2
  ctx_has v h2
  intro t ht;refine k t _ (sm.upd_new ht) ?_
  rw[ae,k6,k6];rfl
abbrev Dz6:=Fn P w K mg base "unlike_kept" 2 ["wish","filling"] (ml "unlike")
theorem qS (T:Txt w K mg) (L:FnL K mg "unlike_kept" io ["wish","filling"]) (Z:Fn P w K mg base "are_unlike" 1 ["things"] (GD)) (Fc : @Dz5 P w K mg base) : @Dz6 P w K mg base:=by
 ctx_has z qb <;> obtain⟨w,f,W,g,rfl,hS,hW,Y,F,k⟩:=h
 .rfl
 refine⟨_,(aj (aw (aq Z (ac (aq Fc (ac (az aR (pvM 0) ah) (ac (pvM 1) af))) af)))),?_⟩
 obtain⟨cs,rfl⟩:=Kx hS;obtain⟨c,h1,h2⟩:=hW;have B:cs.length<=12:=Y
 ctx_has v h1
 refine⟨c,f,cs,g,rfl,h2,B,F,λp H1 s1 e1=>?_⟩
 exact⟨p,cs.map g,rfl,e1,by rw[d_];omega,λH2 s2=>k H2 (s1.trans s2)⟩
abbrev Dz7:=Fn P w K mg base "many_kept" 2 ["wish","filling"] (ml "many")
theorem uB (T:Txt w K mg) (L:FnL K mg "many_kept" gV ["wish","filling"]) (Fe : @Dz4 P w K mg base) : @Dz7 P w K mg base:=by
 ctx_has z vB <;> obtain⟨w,f,W,g,rfl,hS,hW,hk,F,k⟩:=h
 .rfl
 refine⟨_,(ag (iy 2 (N:=["cell","filling","wish"]) (nt:=1) (js:=[1,0]) (aG ["wish","filling","hits"] (ak gV).names) (cg K (az aR (pvM 0) ah)) (ay 0) aU (gs (aJ ft (bC hu (pvM 1) (pvM 0)) (az aR (pvM 2) ah))) (pvM 0))
  (aj (aw (aq Fe (ac (aE cC T.b_len (ac (pvM 2) af)) (ac (az aR (pvM 0) ah) (ac (az aR (pvM 0) ah) af))))))),?_⟩
 obtain⟨av,cs,lo,hi,rfl⟩:=JY hS;obtain⟨a,c,h1,h2,B⟩:=hW;obtain⟨kvs,f1,f2,f3,f4⟩:=F.ex;ctx_has v h1 B
 intro q hq;refine dM aY (λv=>match v with | .str c=>decide (g c∈av) | _=>false) id hq (λH' s=>.of (s _ _ B)) (by simp;have:=hk.2;omega) ?_ ?_ ?_
 .intro x H2 Q2 hx sm q2
  obtain⟨y,Z,rfl⟩:=hH.mp hx;have e1:=sm _ _ h1;have e2:=sm _ _ f1;have e3:=f2 y Z;have Y:=sm _ _ h2;ctx_has v e1 e2 e3 Y
  refine⟨rfl,cj _,?_⟩
  rw[cE];exact q2 H2 (ap.refl _)
 .intro x H2 Q2 hx _ sm q2
  ctx_has v
  exact q2 H2 (ap.refl _)
 .intro H2 sm h2'
  have e1:=sm _ _ h1;ctx_has v h2' e1
  refine⟨_,some lo,some hi,rfl,λH3 s3=>?_⟩
  have:=k H3 (sm.trans s3)
  rw[d_,LJ,d_];exact this
abbrev Dz8:=Fn P w K mg base "sum_kept" 2 ["wish","filling"] (ml "sum")
theorem wT (T:Txt w K mg) (L:FnL K mg "sum_kept" kX ["wish","filling"]) (Fe : @Dz4 P w K mg base) (Z:Fn P w K mg base "sum_of" 1 ["terms","filling"] (zW)) : @Dz8 P w K mg base:=by
 ctx_has z xq <;> obtain⟨w,f,W,g,rfl,hS,hW,Y,F,k⟩:=h
 .rfl
 refine⟨_,(aj (aw (aq Fe (ac (aq Z (ac (az aR (pvM 0) ah) (ac (pvM 1) af))) (ac (az aR (pvM 0) ah) (ac (az aR (pvM 0) ah) af)))))),?_⟩
 obtain⟨ts,lo,hi,rfl⟩:=Ku hS;obtain⟨t,h1,h2⟩:=hW;ctx_has v h1
 refine⟨t,f,ts,g,rfl,h2,Y,F,λH1 B=>?_⟩
 have e1:=B _ _ h1;ctx_has v e1
 exact⟨_,lo,hi,rfl,λH2 s2=>k H2 (B.trans s2)⟩
abbrev Dz9:=Fn P w K mg base "table_kept" 2 ["wish","filling"] (ml "table")
theorem sE (T:Txt w K mg) (L:FnL K mg "table_kept" iJ ["wish","filling"]) (Fc : @Dz5 P w K mg base) : @Dz9 P w K mg base:=by
 ctx_has z sk <;> obtain⟨w,f,W,g,rfl,hS,hW,hk,F,k⟩:=h
 .rfl
 refine⟨_,(aj (aw (aQ (zE (CA hr)) (aq Fc (ac (az aR (pvM 0) ah) (ac (pvM 1) af))) (az aR (pvM 0) ah)))),?_⟩
 obtain⟨cs,rows,rfl⟩:=Kl hS;obtain⟨c,tr,vs,h1,h2,h3,Z⟩:=hW;ctx_has v h1
 refine⟨c,f,cs,g,rfl,h2,hk,F,λp H1 B e1=>?_⟩
 have Y:=B _ _ h1;ctx_has v Y
 exact zK e1 (B _ _ h3) (Z.keep λa xs e=>B _ _ e) (k _ B)
theorem yW {s v:Int} : ∀{ps:List (Int × Int × Int)},(∀y∈ps,(y.1,y.2.1)≠(s,v))->bM (cN ps) [i4 s,i4 v]=none
 | [],_=>rfl
 | p :: ps,h=>by
  have F:=yW (ps:=ps) λy L=>h y (i7 _ L)
  have B:([i4 p.1,i4 p.2.1]:List Key)≠[i4 s,i4 v]:=λz=>h p (m6) (by cases z;rfl)
  unfold cN at F ⊢;rw[j8];simpa [bM,B] using F
theorem uS (s v:Int) : ∀ps:List (Int × Int × Int),bM (cN ps) [i4 s,i4 v]=(kr ps (some s) v).map V.int
 | []=>rfl
 | p :: ps=>by
  have F:=uS s v ps;unfold cN kr at F ⊢;dsimp only at F ⊢;rw[j8,K0]
  by_cases h:p.1=s/\p.2.1=v
  .rw[decide_eq_true h]
   obtain⟨rfl,rfl⟩:=h;simp[bM]
  .rw[decide_eq_false h]
   have B:([i4 p.1,i4 p.2.1]:List Key)≠[i4 s,i4 v]:=λz=>h (by cases z;exact⟨rfl,rfl⟩)
   simpa [bM,B] using F
theorem sU (ps:List (Int × Int × Int)) : ∀l:List Int,gk ps none l=none
 | []=>rfl
 | v :: l=>sU ps l
theorem mE (ps:List (Int × Int × Int)) (st:Option Int) (a b:List Int):gk ps st (a++b)=gk ps (gk ps st a) b:=by unfold gk;rw[L6]
theorem tQ {ps:List (Int × Int × Int)} {l:List Int} {st:Int} (B:l[i]? = some v) (h:gk ps (some 0) (l.take i)=some st):gk ps (some 0) (l.take (i+1))=kr ps (some st) v:=by
 rw[j6,B,mE,h];rfl
theorem tO {ps:List (Int × Int × Int)} {l:List Int} (h:gk ps (some 0) (l.take i)=none):gk ps (some 0) l=none:=by
 rw[<- List.take_append_drop i l,mE,h,sU]
theorem ro {ps:List (Int × Int × Int)} {x:Int × Int × Int} (L:(ps.map λx=>(x.1,x.2.1)).Nodup) (Z:ps[i]? = some x):bu (cN (ps.take i)) [i4 x.1,i4 x.2.1] (.int x.2.2)=cN (ps.take (i+1)):=by
 have F:ps.take (i+1)=ps.take i++[x]:=by rw[j6,Z];rfl
 have B:((ps.take i++[x]).map λx=>(x.1,x.2.1)).Nodup:=by
  rw[<- F,map_take];exact L.sublist (x8 _ _)
 rw[r_,t9] at B;rw[eU _ (yW λy Y e=>B.2.2 _ (hH.mpr ⟨y,Y,rfl⟩) _ (by simp) e),F]
 unfold cN;rw[r_];rfl
abbrev JB:=Fn P w K mg base "way_kept" 2 ["wish","filling"] (ml "way")
theorem xg (T:Txt w K mg) (L:FnL K mg "way_kept" kZ ["wish","filling"]) (Fc : @Dz5 P w K mg base) : @JB P w K mg base:=by
 ctx_has z xm <;> obtain⟨w,f,W,g,rfl,hS,hW,hk,F,k⟩:=h
 .rfl
 refine⟨_,(ag (aC 2 vQ)
  (ag (bx (cg K (az aR (pvM 0) ah)) (ay 3) (aj (zS hu (pvM 2) (bL mL (pvM 3) cA (bW ah)) (az aR (pvM 3) ah) rfl)))
  (ag (aC 4 ah)
  (ag (bx (cg K (aq Fc (ac (az aR (pvM 0) ah) (ac (pvM 1) af)))) (ay 5) (ag (bg (oB (AB hu (cp (ac (pvM 4) (ac (pvM 5) af))) (pvM 2))) (aj (aw dm)) aL)
  (aj (aC 4 (ES hu (pvM 2) (cp (ac (pvM 4) (ac (pvM 5) af))))))))
  (aj (aw (aQ ft (pvM 4) (az aR (pvM 0) ah)))))))),?_⟩
 obtain⟨cs,ps,es,rfl⟩:=Kp hS;obtain⟨c,t,e,vs,h1,h2,h3,h4,h5⟩:=hW;obtain⟨as,rfl,rfl,ar⟩:=h4;ctx_has v xS zB h1
 intro p hp;have am:=hk.2.1;have an:=hk.2.2;refine⟨_,(ap.upd0 hp) _ _ h1,_,rfl,t,rfl,_,(ap.upd0 hp) _ _ h3,?_⟩
 refine cu aY (λi σ H'=>∃v3,σ=[-w,-f,-p,v3,none,none]/\ap H H'/\H' p=some (.dT (cN ((as.map (·.2)).take i)))) ⟨_,rfl,ap.upd0 hp,ae⟩ (λi σ H' ad=>by obtain⟨_,_,sm,_⟩:=ad;exact(.of (sm _ _ h3))) ?_ ?_
 .rintro i x σ H' hi hx ⟨v3,rfl,sm,hd⟩
  obtain⟨y,hy,rfl⟩ : ∃y,as[i]? = some y/\V.ref y.1=x:=by
   rw[f_] at hx;cases e:as[i]? with
   | none=>rw[e] at hx;cases hx
   | some nm=>rw[e] at hx;exact⟨nm,rfl,ge hx⟩
  have a1:=sm _ _ (ar y (gt hy));ctx_has v zB a1
  intro q H2 hq Z;have ao:(as.map (·.2))[i]? = some y.2:=by rw[f_,hy];rfl
  refine⟨_,xZ.t (k:=[i4 y.2.1,i4 y.2.2.1]) (Z _ _ hd) hq ?_,λb o e=>?_,by rw[ae,ro am ao]⟩
  .unfold cN
   rw[d_];exact p_ (p9 _ _) (g7 (show(as.map (·.2)).length < 1000 by have:(as.map (·.2)).length<=60:=an;omega) ∅)
  .rw[ai (au e hp)]
   exact Z _ _ (sm b o e)
 .rintro σ H' ⟨v3,rfl,sm,hd⟩
  rw[d_,show(as.map (·.2)).take as.length=as.map (·.2) from o6 (by simp)] at hd
  have ab:=sm _ _ h1;ctx_has v ab
  refine⟨c,f,cs,g,rfl,sm _ _ h2,hk.1,F.same sm,λq H2 Z hq=>⟨q,rfl,_,hq,?_⟩⟩
  refine cu aY (λi σ H3=>∃v5 st,σ=[-w,-f,-p,v3,some (.int st),v5]/\gk (as.map (·.2)) (some 0) ((cs.map g).take i)=some st/\ap H2 H3) ⟨_,0,rfl,rfl,ap.refl _⟩ (λi σ H' aa=>by obtain⟨_,_,_,_,B⟩:=aa;exact(.of (B _ _ hq))) ?_ ?_
  .rintro i x σ H3 hi hx ⟨v5,st,rfl,hrun,B⟩
   obtain⟨v,hv,rfl⟩ : ∃v,(cs.map g)[i]? = some v/\V.int v=x:=by
    rw[f_] at hx;cases e:(cs.map g)[i]? with
    | none=>rw[e] at hx;cases hx
    | some nm=>rw[e] at hx;exact⟨nm,rfl,ge hx⟩
   have ak:=B _ _ (Z _ _ hd);ctx_has v zZ Gp
   refine⟨∅,λr g1=>⟨_,lc.t (k:=[i4 st,i4 v]) ((ap.upd0 g1) _ _ ak) ae,?_⟩⟩
   rw[uS];have Y:=tQ hv hrun;cases eg:kr (as.map (·.2)) (some st) v with
   | none =>
    rw[eg] at Y;have ax:bT (.wy cs (as.map (·.2)) es) g=false:=by unfold bT;dsimp only;rw[show gk (as.map (·.2)) (some 0) (cs.map g)=none from tO Y];rfl
    have:=k _ (sm.trans (Z.trans (B.trans (ap.upd0 (o:=.tup [.int st,.int v]) g1))))
    rw[ax] at this;exact this
   | some n =>
    rw[eg] at Y;refine⟨∅,λr2 g2=>⟨V.int n,?_,_,n,rfl,rfl,Y,B.trans ((ap.upd0 g1).upd_new g2)⟩⟩
    have:=lc.t (k:=[i4 st,i4 v]) ((ap.upd0 g1).upd_new (o:=.tup [.int st,.int v]) g2 _ _ ak) ae
    rw[uS,eg] at this;exact this
  .rintro σ H3 ⟨v5,st,rfl,hrun,B⟩
   have a0:=B _ _ (Z _ _ ab);ctx_has v a0
   rw[show(cs.map g).take ((cs.map g).map V.int).length=cs.map g from o6 (by simp)] at hrun
   refine⟨_,B _ _ (Z _ _ (sm _ _ h5)),rfl,cj es,?_⟩
   have a2:bT (.wy cs (as.map (·.2)) es) g=decide (st∈es):=by unfold bT;dsimp only;rw[show gk (as.map (·.2)) (some 0) (cs.map g)=some st from hrun];rfl
   rw[show inV (V.int st) (es.map V.int)=decide (st∈es) from cE st es,<- a2]
   exact k _ (sm.trans (Z.trans B))
abbrev JQ:=Fn P w K mg base "behind_kept" 2 ["wish","filling"] (ml "behind")
theorem qU (T:Txt w K mg) (L:FnL K mg "behind_kept" fO ["wish","filling"]) (Fc : @Dz5 P w K mg base) : @JQ P w K mg base:=by
 ctx_has z qL <;> obtain⟨w,f,W,g,rfl,hS,hW,hk,F,k⟩:=h
 .rfl
 refine⟨_,(ag (aC 2 (aq Fc (ac (az aR (pvM 0) ah) (ac (pvM 1) af))))
  (aj (aw (aE (fC rfl) T.b_all (ac (aV (N:=["ahead","later","wish"]) (nt:=2) (js:=[0]) (aG ["wish","filling","found"] (ak fO).names) (uR (K:=K) rfl rfl T.b_zip (ac (pvM 2) (ac (bL mL (pvM 2) (bW ah) cA) af))) (dI (n:=2) rfl (bj (ay 0) (bj (ay 1) dO))) cJ bv (aQ jU (aM bp (pvM 0) (az aR (pvM 2) ah)) (pvM 1))) af))))),?_⟩
 obtain⟨cs,gap,rfl⟩:=J7 hS;obtain⟨c,h1,h2⟩:=hW;ctx_has v h1
 refine⟨c,f,cs,g,rfl,h2,hk.2,F,λp H1 s1 e1=>?_⟩
 ctx_has v e1
 intro p2 H2 e2 s2;rw[show fQ ((cs.map g).map V.int) (some 1) none=((cs.map g).drop 1).map V.int from fe V.int (cs.map g) 1] at e2
 have B:=s2 _ _ e1;have Y:=s2 _ _ (s1 _ _ h1);ctx_has v B e2
 intro q hq;refine oq (λx y=>match x,y with | .int a,.int b=>.bl (decide (a+gap<=b)) | _,_=>.non) hq B e2 (by have:=hk.2;simp at this ⊢;omega) ?_ ?_
 .intro x y H3 Q3 hx hy sm q3
  obtain⟨x,_,rfl⟩:=hH.mp hx;obtain⟨y,_,rfl⟩:=hH.mp hy;have Z:=sm _ _ Y;ctx_has v Z
  exact q3 H3 (ap.refl _)
 .intro H3 sm Z
  ctx_has v
  refine⟨LV (λa b=>decide (a+gap<=b)) (cs.map g) ((cs.map g).drop 1),?_,k H3 ((s1.trans s2).trans sm)⟩
  rw[Z,map_zipWith,zipWith_map]
theorem rK (B : ∀y∈qG,FnT P w K mg base (ao mg "KEEPERS") y 3 ["wish","filling"] (ml y)) (T:Txt w K mg) (L:FnL K mg "wish_kept" gW ["wish","filling"]):Fn P w K mg base "wish_kept" 4 ["wish","filling"] (mG):=by
 ctx_has z vj <;> obtain⟨w,f,W,g,rfl,Y,Z,F,k⟩:=h
 .rfl
 refine⟨_,(aj (aw (Cn T.tb_KEEPERS B T.at_KEEPERS (az aR (pvM 0) ah) (ac (pvM 0) (ac (pvM 1) af))))),?_⟩
 cases W with
 | un cs=>obtain⟨c,h1,h2⟩:=id Y;ctx_has v lh h1;exact⟨tW (.un cs),w,f,_,g,rfl,rfl,Y,Z,F,k⟩
 | mn av cs lo hi=>obtain⟨a,c,h1,h2,h3⟩:=id Y;ctx_has v lh h1;exact⟨tW (.mn av cs lo hi),w,f,_,g,rfl,rfl,Y,Z,F,k⟩
 | sm ts lo hi=>obtain⟨t,h1,h2⟩:=id Y;ctx_has v lh h1;exact⟨tW (.sm ts lo hi),w,f,_,g,rfl,rfl,Y,Z,F,k⟩
 | tb cs rows=>obtain⟨c,t,vs,h1,h2,h3,h4⟩:=id Y;ctx_has v lh h1;exact⟨tW (.tb cs rows),w,f,_,g,rfl,rfl,Y,Z,F,k⟩
 | wy cs ps es=>obtain⟨c,t,e,vs,h1,h2,h3,h4,h5⟩:=id Y;ctx_has v lh h1;exact⟨tW (.wy cs ps es),w,f,_,g,rfl,rfl,Y,Z,F,k⟩
 | bh cs gap=>obtain⟨c,h1,h2⟩:=id Y;ctx_has v lh h1;exact⟨tW (.bh cs gap),w,f,_,g,rfl,rfl,Y,Z,F,k⟩
theorem uA (T:Txt w K mg) (L:FnL K mg "same_kept" jY ["wish","filling"]) (B:Fn P w K mg base "wish_kept" 4 ["wish","filling"] (mG)):Fn P w K mg base "same_kept" 5 ["wish","filling"] (ux):=by
 ctx_has z uZ <;> obtain⟨w,f,c,us,W,g,rfl,hW,Z,F,k⟩:=h
 .rfl
 refine⟨_,(aj (aw (aQ bz (aQ ft (bC hu (pvM 1) (az aR (pvM 0) ah)) (az aR (pvM 0) ah)) (aq B (ac (az aR (pvM 0) ah) (ac (pvM 1) af)))))),?_⟩
 obtain⟨t,u,h1,h2,h3⟩:=hW;obtain⟨kvs,f1,Y,f3,f4⟩:=F.ex;have e2:=Y c m6;ctx_has v h1 f1 e2 h2
 refine⟨rfl,cj _,?_⟩
 rw[cE];refine⟨u,f,W,g,rfl,h3,Z,F.sub λc hc=>i7 _ hc,λH' s=>⟨rfl,by rw[show decide (V.bl (decide (g c∈us))=V.bl (bT W g))=cq (.sa c us W) g by simp[cq]];exact k H' s⟩⟩
def qM (st v:Int) (x:Int × Int × Int):Option Int:=if x.1=st/\x.2.1=v then some x.2.2 else none
theorem vO (st v:Int) : ∀ps:List (Int × Int × Int),(ps.filterMap (qM st v)).head? = kr ps (some st) v
 | []=>rfl
 | p :: ps=>by
  have B:=vO st v ps;unfold kr at B ⊢;dsimp only at B ⊢;rw[K0]
  by_cases h:p.1=st/\p.2.1=v
  .rw[List.filterMap_cons_some (b:=p.2.2) (by simp[qM,h]),decide_eq_true h]
   rfl
  .rw[List.filterMap_cons_none (by simp[qM,h]),decide_eq_false h]
   exact B
theorem D0 {t D:Addr} {st:Int} {Qf:VK} (h3:H' t>>(as.map λx=>V.ref x.1)) (Y : ∀x∈as,H' x.1>>[.int x.2.1,.int x.2.2.1,.int x.2.2.2]) (hl:as.length<=60) (Z:H' D=none)
  (hQ : ∀H1 (zs:List Int),ap H' H1->H1 D*>(zs.map V.int)->zs.head? = kr (as.map (·.2)) (some st) v->Qf (.ref D) H1) :
  oP (Itt K t) [none,some (V.int st),some (V.int v)] (eR 0) (hU (tOp (E2 K) (tSl ET (dj 0) mq (wc (tC (V.int 2)))) (EB (kQ (dj 1) (kQ (dj 2) yk))))) (tOp rIT (dj 0) (tC (V.int 2))) Qf H' D:=by
 refine eD aY (λj zs H1=>zs=(((as.map (·.2)).take j).filterMap (qM st v)).map V.int/\ap H' H1/\H1 D*>zs) ⟨rfl,ap.upd0 Z,ae⟩ (λi ys H1 h=>.of (h.2.1 _ _ h3)) ?_ ?_
 .rintro j x ys H1 hj hx ⟨rfl,sm,hd⟩
  obtain⟨y,hy,rfl⟩ : ∃y,as[j]? = some y/\V.ref y.1=x:=by
   rw[f_] at hx;cases e:as[j]? with
   | none=>rw[e] at hx;cases hx
   | some nm=>rw[e] at hx;exact⟨nm,rfl,ge hx⟩
  have hc:=sm _ _ (Y y (gt hy));have et:(as.map (·.2)).take (j+1)=(as.map (·.2)).take j++[y.2]:=by rw[j6,f_,hy];rfl
  rw[et,List.filterMap_append,r_];have L:((((as.map (·.2)).take j).filterMap (qM st v)).map V.int).length < g9:=by
   rw[d_];refine p_ (List.length_filterMap_le _ _) (p_ (p9 _ _) ?_)
   exact g7 (show(as.map (·.2)).length < 1000 by simp;omega) ∅
  ctx_has v hc
  intro p H2 hp s2;refine⟨∅,λp2 F=>?_⟩
  have B:=s2.trans (ap.upd0 (o:=.tup [.int st,.int v]) F);refine⟨ke [y.2.1,y.2.2.1],ke [st,v],.tup (.of ((ap.upd0 F) _ _ hp)) (jK.ints [y.2.1,y.2.2.1]),.tup (.of ae) (jK.ints [st,v]),lN _,lN _,ja (on _) ∅,?_⟩
  rw[zm];refine⟨_,rfl,?_⟩
  by_cases h:y.2.1=st/\y.2.2.1=v
  .rw[decide_eq_true (show[y.2.1,y.2.2.1]=[st,v] by rw[h.1,h.2]),if_pos rfl]
   refine⟨_,B _ _ hc,_,rfl,B _ _ hd,L,by simp[qM,h],λb o e=>?_,ae⟩
   rw[ai (au e Z)];exact B _ _ (sm b o e)
  .rw[decide_eq_false (show ¬ [y.2.1,y.2.2.1]=[st,v] from λz=>h (by cases z;exact⟨rfl,rfl⟩)),if_neg i_]
   exact⟨by simp[qM,h],sm.trans B,B _ _ hd⟩
 .rintro zs H1 ⟨rfl,sm,hd⟩
  rw[d_,show(as.map (·.2)).take as.length=as.map (·.2) from o6 (by simp)] at hd
  exact hQ H1 _ sm hd (vO st v _)
theorem aK {a rest:TS} (h : ∀R:TS,R=rest->gI a R D σ H):gI a rest D σ H:=h rest rfl
local macro_rules | `(tactic| ctx_has s $ids*) => `(tactic| (refine aK λR hR => ?_; ctx_has v $ids*; subst hR))
theorem br {R:TS} {w:Addr} {y:Str} (F:σ[0]? = some (-w)) (L:H w>>(.str x :: vs)) (B:x≠y) (h:R D σ H):gI (qH (hU (tOp rEq (tOp rIT (dj 0) (tC (V.int 0))) (tC (V.str y)))) tb jM) R D σ H:=by
 simp only[gI,qH,hU,tOp,rEq,rIT,dj,tC,F,jM];refine⟨w,rfl,0,rfl,_,L,V.str x,IA _ _,rfl,_,rfl,?_⟩
 rw[if_neg (by simpa using B)]
 exact h
theorem iz {R:TS} {w:Addr} {y:Str} (B:σ[0]? = some (-w)) (F:H w>>(.str y :: vs)) (h : ∀R:TS,gI tb R D σ H):gI (qH (hU (tOp rEq (tOp rIT (dj 0) (tC (V.int 0))) (tC (V.str y)))) tb jM) R D σ H:=by
 simp only[gI,qH,hU,tOp,rEq,rIT,dj,tC,B,jM];refine⟨w,rfl,0,rfl,_,F,V.str y,IA _ _,rfl,_,rfl,?_⟩
 rw[if_pos (by simp)]
 exact h R
abbrev CD:=Fn P w K mg base "_law_kept" 3 ["_law_wish_here","_law_filling_here"] (mG)
abbrev nz0:List Str:=["_law_wish_here","_law_filling_here","_law_total","_law_values_here","_law_state","_law_value","_law_after"]
theorem rW (T:Txt w K mg) (L:FnL K mg "_law_kept" cm ["_law_wish_here","_law_filling_here"]) : @CD P w K mg base:=by
 ctx_has z mN <;> obtain⟨w,f,W,g,rfl,hW,Y,F,k⟩:=h
 .rfl
 refine⟨_,(ag (bg (aJ bz (az aR (pvM 0) ah) aS) (aj dX) aL)
  (ag (bg (aJ bz (az aR (pvM 0) ah) aS) (ag (aC 2 (aE (iR rfl) T.b_sum (ac (aV (N:=["_law_a","_law_name","_law_filling_here"]) (nt:=2) (js:=[1]) (aG nz0 (ak cm).names) (cg K (az aR (pvM 0) ah)) (dI (n:=2) rfl (bj (ay 0) (bj (ay 1) dO))) cJ bv (aM dR (pvM 0) (bC hu (pvM 2) (pvM 1)))) af)))
  (aj (aw (jq (jF (nZ (nj (az aR (pvM 0) ah))) (cL (aQ Je (pvM 2) (az aR (pvM 0) ah)))) (cL (jF (nZ (nj (az aR (pvM 0) ah))) (cL (aQ jU (pvM 2) (az aR (pvM 0) ah))))))))) aL)
  (ag (bg (aJ bz (az aR (pvM 0) ah) aS) (aj (aw (DI jU jU (az aR (pvM 0) ah) (aE cC T.b_len (ac (aV (N:=["_law_name","_law_filling_here","_law_wish_here"]) (nt:=1) (js:=[1,0]) (aG nz0 (ak cm).names) (cg K (az aR (pvM 0) ah)) (ay 0) aU (gs (aJ ft (bC hu (pvM 1) (pvM 0)) (az aR (pvM 2) ah))) (pvM 0)) af)) (az aR (pvM 0) ah)))) aL)
  (ag (aC 3 (aV (N:=["_law_name","_law_filling_here"]) (nt:=1) (js:=[1]) (aG nz0 (ak cm).names) (cg K (az aR (pvM 0) ah)) (ay 0) aU bv (bC hu (pvM 1) (pvM 0))))
  (ag (bg (aJ bz (az aR (pvM 0) ah) aS) (aj (aw (aQ bz (aE oE T.b_len (ac (aW (A4 rfl) T.b_set (ac (pvM 3) af)) af)) (aE cC T.b_len (ac (pvM 3) af))))) aL)
  (ag (bg (aJ bz (az aR (pvM 0) ah) aS) (aj (aw (aQ (zE (CA hr)) (aW cZ T.b_tuple (ac (pvM 3) af)) (az aR (pvM 0) ah)))) aL)
  (ag (bg (aJ bz (az aR (pvM 0) ah) aS) (aj (aw (aE (fC rfl) T.b_all (ac (aV (N:=["_law_k","_law_values_here","_law_wish_here"]) (nt:=1) (js:=[3,0]) (aG nz0 (ak cm).names) (fG rfl T.b_range (ac (aM fV (aE cC T.b_len (ac (pvM 3) af)) ah) af)) (ay 0) aU bv (aQ jU (aM bp (az gb (pvM 1) (pvM 0)) (az aR (pvM 2) ah)) (az gb (pvM 1) (aM bp (pvM 0) ah)))) af)))) aL)
  (ag (aC 4 ah)
  (ag (bx (hV K (pvM 3)) (ay 5) (ag (iy 6 (N:=["_law_step","_law_state","_law_value"]) (nt:=1) (js:=[4,5]) (aG nz0 (ak cm).names) (cg K (az aR (pvM 0) ah)) (ay 0) aU (gs (aJ (uo (K:=K) rfl (zt hr)) (bL mL (pvM 0) cA (bW ah)) (cp (ac (pvM 1) (ac (pvM 2) af))))) (az aR (pvM 0) ah))
  (ag (bg (aJ (Dl (zt hr)) (pvM 6) (cG af)) (aj (aw dm)) aL)
  (aj (aC 4 (az gb (pvM 6) ah))))))
  (aj (aw (aQ ft (pvM 4) (az aR (pvM 0) ah))))))))))))),?_⟩
 obtain⟨kvs,f1,f2,f3,f4⟩:=F.ex;cases W with
 | un cs =>
  obtain⟨c,h1,h2⟩:=hW;have aO:cs.length<=12:=Y
  refine br rfl h1 (by decide+kernel) (br rfl h1 (by decide+kernel) (br rfl h1 (by decide+kernel) (aK λR hR=>?_)))
  ctx_has v h1 h2
  intro q hq;refine bS aY (λv=>match v with | .str c=>.int (g c) | _=>.non) hq (λH' s=>.of (s _ _ h2)) (by simp;omega) ?_ ?_
  .intro x H2 Q2 Z sm q2
   obtain⟨y,hy,rfl⟩:=hH.mp Z;have e2:=sm _ _ f1;have e3:=f2 y hy;ctx_has v e2 e3
   exact q2 H2 (ap.refl _)
  .intro H2 sm e2
   have aa:H2 q*>((cs.map g).map V.int):=by rw[e2,k6,k6];rfl
   have B:=sm _ _ h1;subst hR;refine iz rfl B λR=>?_
   ctx_has v B
   refine⟨cs.map g,aa,by simp;omega,λy S hy=>?_⟩
   refine⟨S,_,ae,_,by rw[ai (au aa hy)];exact aa,?_⟩
   have Y:=k _ (sm.upd_new (o:=.set S (ij (cs.map g))) hy);have e3:bT (.un cs) g=decide ((ij (cs.map g):Int)=(((cs.map g).map V.int).length:Int)):=by
    unfold bT;dsimp only;rw[o7,decide_eq_true_eq,decide_eq_true_eq,<- tJ,d_ (as:=cs.map g)];omega
   rw[e3] at Y;exact Y
 | mn av cs lo hi =>
  obtain⟨am,ce,ab,aI,a5⟩:=hW;have aN:cs.length<=12:=Y.2
  refine br rfl ab (by decide+kernel) (br rfl ab (by decide+kernel) (iz rfl ab λR=>?_))
  ctx_has v ab a5
  intro q hq;refine dM aY (λv=>match v with | .str c=>decide (g c∈av) | _=>false) id hq (λH' s=>.of (s _ _ a5)) (by simp;omega) ?_ ?_ ?_
  .intro x H2 Q2 Z sm q2
   obtain⟨c,aH,rfl⟩:=hH.mp Z;have ad:=sm _ _ ab;have aP:=sm _ _ f1;have a7:=sm _ _ aI;have hv:=f2 c aH;ctx_has v aP hv ad a7
   refine⟨rfl,cj _,?_⟩
   rw[cE];exact q2 H2 (ap.refl _)
  .intro x H2 Q2 Z _ sm q2
   ctx_has v
   exact q2 H2 (ap.refl _)
  .intro H2 sm h2
   have ad:=sm _ _ ab;ctx_has v h2 ad
   have Y:=k H2 sm;unfold bT dW at Y;dsimp only at Y;have el:(List.map id (List.filter (λv=>match v with | .str c=>decide (g c∈av) | _=>false) (cs.map V.str))).length=(cs.filter λc=>decide (g c∈av)).length:=by
    rw[d_,LJ,d_];rfl
   rw[el];refine dC (λh=>?_) (λh=>?_)
   .rw[decide_eq_true h,Bool.true_and] at Y;exact Y
   .rw[decide_eq_false h,Bool.false_and] at Y;exact Y
 | sm ts lo hi =>
  obtain⟨t,ab,as,a4,rfl,ao⟩:=hW;have aN:as.length<=12:=by have:(as.map (·.2)).length<=12:=Y;simpa using this
  refine br rfl ab (by decide+kernel) (iz rfl ab λR=>?_)
  ctx_has v ab a4
  intro q hq;refine eD aY (λj ys H2=>ys=((as.take j).map λx=>x.2.1 * g x.2.2).map V.int/\H2 q*>ys/\ap H H2) ⟨by simp,ae,ap.upd0 hq⟩ (λj ys H2 a0=>by obtain⟨_,_,sm⟩:=a0;exact(.of (sm _ _ a4))) ?_ ?_
  .rintro j x ys H2 hj Z ⟨rfl,h2,sm⟩
   rw[d_] at hj;obtain⟨y,hy,rfl⟩ : ∃y,as[j]? = some y/\V.ref y.1=x:=by
    rw[f_] at Z;cases e:as[j]? with
    | none=>rw[e] at Z;cases Z
    | some nm=>rw[e] at Z;exact⟨nm,rfl,ge Z⟩
   have aq:y∈as:=gt hy
   have e3:=sm _ _ (ao y aq);have e4:=sm _ _ f1;have e5:=f2 y.2.2 (hH.mpr ⟨y.2,hH.mpr ⟨y,aq,rfl⟩,rfl⟩);have e6:=F.bd y.2.2 (hH.mpr ⟨y.2,hH.mpr ⟨y,aq,rfl⟩,rfl⟩);ctx_has v e3 e4 e5
   refine⟨.inr ⟨(),()⟩,h2,by simp;exact aF (),?_,ae,λb o e=>?_⟩
   .rw[j6,hy];simp
   .rw[ai (au e hq)];exact sm _ _ e
  .rintro ys H2 ⟨rfl,h2,sm⟩
   rw[d_,la] at h2;have ad:=sm _ _ ab;have ek:(((as.map (·.2)).map λx=>x.1 * g x.2).sum)=(as.map λx=>x.2.1 * g x.2.2).sum:=by rw[k6];rfl
   have Y:=k H2 sm;unfold bT at Y;dsimp only at Y;rw[ek] at Y;ctx_has v
   refine⟨as.map λx=>x.2.1 * g x.2.2,.of h2,?_⟩
   generalize (as.map λx=>x.2.1 * g x.2.2).sum=aX at Y ⊢
   cases lo with
   | none =>
    cases hi with
    | none=>ctx_has v ad bV decide_true decide_false i9;exact Y
    | some b=>ctx_has v ad bV decide_true decide_false i9;simpa [dW] using Y
   | some a =>
    cases hi with
    | none =>
     ctx_has v ad bV decide_true decide_false i9
     refine dC (λh=>?_) (λh=>?_)
     .simpa [dW,h] using Y
     .simpa [dW,h] using Y
    | some b =>
     ctx_has v ad bV decide_true decide_false i9
     refine dC (λh=>?_) (λh=>?_)
     .simpa [dW,h] using Y
     .simpa [dW,h] using Y
 | tb cs rows =>
  obtain⟨c,tr,vs,h1,h2,h3,h4⟩:=hW;have aO:cs.length<=12:=Y
  refine br rfl h1 (by decide+kernel) (br rfl h1 (by decide+kernel) (br rfl h1 (by decide+kernel) (aK λR hR=>?_)))
  ctx_has v h1 h2
  intro q hq;refine bS aY (λv=>match v with | .str c=>.int (g c) | _=>.non) hq (λH' s=>.of (s _ _ h2)) (by simp;omega) ?_ ?_
  .intro x H2 Q2 Z sm q2
   obtain⟨y,hy,rfl⟩:=hH.mp Z;have e2:=sm _ _ f1;have e3:=f2 y hy;ctx_has v e2 e3
   exact q2 H2 (ap.refl _)
  .intro H2 sm e2
   have aa:H2 q*>((cs.map g).map V.int):=by rw[e2,k6,k6];rfl
   have B:=sm _ _ h1;subst hR;refine br rfl B (by decide+kernel) (iz rfl B λR=>?_)
   ctx_has v aa B
   intro tt a8;have s3:ap H2 (upd H2 tt (.tup ((cs.map g).map V.int))):=ap.upd0 a8
   refine⟨_,s3 _ _ B,?_⟩
   ctx_has v
   exact zK ae (s3 _ _ (sm _ _ h3)) (h4.keep λa xs e=>s3 _ _ (sm _ _ e)) (k _ (sm.trans s3))
 | wy cs ps es =>
  obtain⟨c,t,e,vs,h1,h2,h3,h4,h5⟩:=hW;obtain⟨as,rfl,rfl,ao⟩:=h4;refine br rfl h1 (by decide+kernel) (br rfl h1 (by decide+kernel) (br rfl h1 (by decide+kernel) (aK λR hR=>?_)))
  ctx_has v h1 h2
  intro q hq;refine bS aY (λv=>match v with | .str c=>.int (g c) | _=>.non) hq (λH' s=>.of (s _ _ h2)) (by have:=Y.1;simp;omega) ?_ ?_
  .intro x H2 Q2 Z sm q2
   obtain⟨y,hy,rfl⟩:=hH.mp Z;have e2:=sm _ _ f1;have e3:=f2 y hy;ctx_has v e2 e3
   exact q2 H2 (ap.refl _)
  .intro H2 sm e2
   have aa:H2 q*>((cs.map g).map V.int):=by rw[e2,k6,k6];rfl
   have B:=sm _ _ h1;subst hR;refine br rfl B (by decide+kernel) (br rfl B (by decide+kernel) (br rfl B (by decide+kernel) ?_))
   ctx_has v aa B
   have aB:=Y.2.2;refine cu cD (λi σ H3=>∃v5 v6 st,σ=[-w,-f,none,-q,some (.int st),v5,v6]/\gk (as.map (·.2)) (some 0) ((cs.map g).take i)=some st/\ap H2 H3) ⟨_,_,0,rfl,rfl,ap.refl _⟩ (λi σ H' ax=>by obtain⟨_,_,_,_,_,s3⟩:=ax;exact(.of (s3 _ _ aa))) ?_ ?_
   .rintro i x σ H3 hi Z ⟨v5,v6,st,rfl,hrun,s3⟩
    obtain⟨v,hv,rfl⟩ : ∃v,(cs.map g)[i]? = some v/\V.int v=x:=by
     rw[f_] at Z;cases e:(cs.map g)[i]? with
     | none=>rw[e] at Z;cases Z
     | some nm=>rw[e] at Z;exact⟨nm,rfl,ge Z⟩
    have ar:=s3 _ _ B;have a3:=s3 _ _ (sm _ _ h3);ctx_has v ar a3
    intro D hD;refine D0 a3 (λx Z=>s3 _ _ (sm _ _ (ao x Z))) (by simpa using aB) hD λH4 zs s4 hz hh=>?_
    have an:=tQ hv hrun;refine⟨∅,λp5 a6=>?_⟩
    have s5:=ap.upd0 (o:=.lst []) a6;refine⟨.list (zs.map Gt),.list [],.lst (.of (s5 _ _ hz)) (jK.ints zs),.lst (.of ae) .nil,by unfold PyData.canLay0;exact lay_ints zs,rfl,by unfold PyData.depth;rw[depth_ints];decide,_,rfl,?_⟩
    cases zs with
    | nil =>
     rw[show KN (.list (([]:List Int).map Gt)) (.list [])=true by rfl,if_pos rfl]
     rw[<- hh] at an;have aD:bT (.wy cs (as.map (·.2)) es) g=false:=by unfold bT;dsimp only;rw[show gk (as.map (·.2)) (some 0) (cs.map g)=none from tO an];rfl
     have:=k _ (sm.trans (s3.trans (s4.trans s5)))
     rw[aD] at this;exact this
    | cons n zs =>
     rw[show KN (.list ((n :: zs).map Gt)) (.list [])=false by simp[KN,LU],if_neg i_]
     rw[<- hh] at an;exact⟨D,rfl,_,s5 _ _ hz,V.int n,bc (j:=0) (by simp),_,_,n,rfl,rfl,rfl,an,s3.trans (s4.trans s5)⟩
   .rintro σ H3 ⟨v5,v6,st,rfl,hrun,s3⟩
    have ar:=s3 _ _ B;ctx_has v ar
    rw[show(cs.map g).take ((cs.map g).map V.int).length=cs.map g from o6 (by simp)] at hrun
    refine⟨_,s3 _ _ (sm _ _ h5),rfl,cj es,?_⟩
    have aA:bT (.wy cs (as.map (·.2)) es) g=decide (st∈es):=by unfold bT;dsimp only;rw[show gk (as.map (·.2)) (some 0) (cs.map g)=some st from hrun];rfl
    rw[show inV (V.int st) (es.map V.int)=decide (st∈es) from cE st es,<- aA]
    exact k _ (sm.trans s3)
 | bh cs gap =>
  obtain⟨c,h1,h2⟩:=hW;have hl:cs≠[]/\cs.length<=12:=Y
  refine br rfl h1 (by decide+kernel) (br rfl h1 (by decide+kernel) (br rfl h1 (by decide+kernel) (aK λR hR=>?_)))
  ctx_has v h1 h2
  intro q hq;refine bS aY (λv=>match v with | .str c=>.int (g c) | _=>.non) hq (λH' s=>.of (s _ _ h2)) (by have:=hl.2;simp;omega) ?_ ?_
  .intro x H2 Q2 Z sm q2
   obtain⟨y,hy,rfl⟩:=hH.mp Z;have e2:=sm _ _ f1;have e3:=f2 y hy;ctx_has v e2 e3
   exact q2 H2 (ap.refl _)
  .intro H2 sm e2
   have aa:H2 q*>((cs.map g).map V.int):=by rw[e2,k6,k6];rfl
   have B:=sm _ _ h1;have lp:=K4.mpr hl.1;subst hR;refine br rfl B (by decide+kernel) (br rfl B (by decide+kernel) (iz rfl B λR=>?_))
   ctx_has v aa B
   refine⟨by simp;omega,by simp;omega,λq2 a9=>?_⟩
   refine bS dJ (λv=>match v with | .int i=>.bl (decide ((cs.map g).getD i.toNat 0+gap<=(cs.map g).getD (i.toNat+1) 0)) | _=>.non) a9 (λ_ _=>m_) (by rw[bi];simp;omega) ?_ ?_
   .intro x H3 Q3 Z sm3 q3
    obtain⟨i,hi,rfl⟩ : ∃i:Nat,i < cs.length - 1/\x=V.int i:=by
     simp only[ql,hH,LG] at Z;obtain⟨i,hi,e⟩:=Z;refine⟨i,by simp at hi;omega,by rw[<- e];simp⟩
    have h3:=sm3 _ _ aa;have aT:=sm3 _ _ B;have a1:atI ((cs.map g).map V.int) (i:Int)=some (.int ((cs.map g).getD i 0)):=bc (by simp[show i < cs.length by omega])
    have a2:atI ((cs.map g).map V.int) ((i:Int)+1)=some (.int ((cs.map g).getD (i+1) 0)):=bc (j:=i+1) (by simp[show i+1 < cs.length by omega])
    ctx_has v h3 aT a1 a2
    exact q3 H3 (ap.refl _)
   .intro H3 sm3 h3
    ctx_has v
    refine⟨(range ((cs.map g).length - 1)).map λk=>decide ((cs.map g).getD k 0+gap<=(cs.map g).getD (k+1) 0),?_,?_⟩
    .rw[h3]
     congr 2
     simp only[ql,k6];rw[show(((cs.map (V.int ∘ g)).length:Int) - 1).toNat=(cs.map g).length - 1 by simp]
     refine nL λi _=>?_
     simp
    .rw[Af]
     exact k H3 (sm.trans sm3)
section
variable {k2:Nat} {ps2:List Str} {sp2:Sp} {p:Pos} {t:TA}
theorem fD (F:Fn X.prog X.w X.K X.mg X.base x k ps sp) (G:Fn X.prog X.w X.K X.mg X.base x k2 ps2 sp2) (ha:PA X (e :: es) t) (hr:cU k X.A:=by exact cU.mono (by assumption) (by ctx_has m)) (Y:cU k2 X.A:=by exact cU.mono (by assumption) (by ctx_has m)) (hg:Gl X x:=by exact rfl) (L:(x ==("__debug__" : Str))=false:=by decide)
  (he:jc (e :: es) X.env=(false,eval e X.env) :: jc es X.env:=by rfl) (B:(y_ pos (jc es X.env)).any (·.1)=false:=by rfl) :
  PE X (.Call (.Name x p) (e :: es) [] pos) (tI (λvs H Q E=>sp vs H Q E\/sp2 vs H Q E) [] E0 t):=by
 obtain⟨f,fd,F,m,kp,b⟩:=F;obtain⟨f2,ab,G,Z,aa,b2⟩:=G;have ef:f2=f:=by rw[m] at Z;cases Z;rfl
 subst ef;intro pins s σ H Q I h;refine t5 (lY I hg m ?_ L)
 refine LL (h₀:=X.base) I.ok.mod.kin kp (thn (ha pos pins s σ H _ I h) λus s1 ⟨vs,H1,I1,r,q⟩=>⟨I1.kIn,?_⟩) he B
 rcases q with q | q
 .exact lz F hr b .nil oW I1 r q
 .exact lz G Y b2 .nil oW I1 r q
theorem Bu (L:FnL K mg x st ps):Fn P w K mg base x k ps (λ_ _ _ _=>False):=by
 obtain⟨f,fd,F,m,b⟩:=L;exact⟨f,fd,⟨λ_ _ _ _ h=>h.elim,λ_ _ _ _ _ _ _ _ _ _ _ _ _ h=>h.elim⟩,m,F.kp,b⟩
end
abbrev Ev:=Fn P w K mg base "_law_kept" 4 ["_law_wish_here","_law_filling_here"] (ux)
theorem rV (T:Txt w K mg) (L:FnL K mg "_law_kept" cm ["_law_wish_here","_law_filling_here"]) (FW : @CD P w K mg base) : @Ev P w K mg base:=by
 ctx_has z mN <;> obtain⟨w,f,c,us,W,g,rfl,hW,Y,F,k⟩:=h
 .rfl
 refine⟨_,(ag (bg (aJ bz (az aR (pvM 0) ah) aS) (aj (aw (aQ bz (aQ ft (bC hu (pvM 1) (az aR (pvM 0) ah)) (az aR (pvM 0) ah)) (aq FW (ac (az aR (pvM 0) ah) (ac (pvM 1) af)))))) aL)
  (ag dX
  (ag dX
  (ag dX
  (ag dX
  (ag dX
  (ag dX
  (ag dX
  (ag dX
  (aj dX)))))))))),?_⟩
 obtain⟨t,u,h1,h2,h3⟩:=hW;obtain⟨kvs,f1,B,f3,f4⟩:=F.ex;have e2:=B c m6;ctx_has v h1 f1 e2 h2
 refine⟨rfl,cj _,?_⟩
 rw[cE];refine⟨u,f,W,g,rfl,h3,Y,F.sub λc Z=>i7 _ Z,λH' s=>⟨rfl,by rw[show decide (V.bl (decide (g c∈us))=V.bl (bT W g))=cq (.sa c us W) g by simp[cq]];exact k H' s⟩⟩
theorem aO.tupN (D:aO H d l) (h:H a>>vs):a≠d/\a≠l:=by
 obtain⟨Y,Z,n',L,F,B,_⟩:=D.ex;exact⟨aZ h F (by intro z;cases z),aZ h B (by intro z;cases z)⟩
theorem But.tup {H H':Hp} {d l a:Addr} {vs:List V} (B:But d l H H') (D:aO H d l) (h:H a>>vs):H' a>>vs:=B a _ (D.tupN h).1 (D.tupN h).2 h
theorem ut {xs:List α} {r:Int} (F:0<=r) (L:r < (xs.length:Int)) (f:α->V) : ∃x∈xs,atI (xs.map f) r=some (f x):=by
 obtain⟨n,rfl⟩:=u6 F;have B:n < xs.length:=()
 exact⟨xs[n],K9 B,bc (by simp[B])⟩
def Gv (x:Addr × Int × Int × Int):Int × Int:=(x.2.1,x.2.2.1)
def GS (H:Hp) (as:List (Addr × Int × Int × Int)):Prop:=∀x∈as,H x.1>>[.int x.2.1,.int x.2.2.1,.int x.2.2.2]
def okC (ws cs:List Str):Prop:=cs≠[]/\cs.Nodup/\(∀c∈cs,c∈ws)/\cs.length<=12
def okV (ns vs:List Int):Prop:=vs.Nodup/\(∀v∈vs,v∈ns)/\vs.length<=20
def okW (ws:List Str) (ns:List Int):Wi->Prop
 | .un cs=>okC ws cs
 | .mn av cs _ _=>okC ws cs/\okV ns av
 | .sm ts _ _=>okC ws (ts.map (·.2))/\∀x∈ts,-1000000<=x.1/\x.1<=1000000/\x.1≠0
 | .tb cs rows=>okC ws cs/\rows.Nodup/\(∀r∈rows,r.length=cs.length)/\rows.length<=60
 | .wy cs ps es=>okC ws cs/\(ps.map λx=>(x.1,x.2.1)).Nodup/\ps.length<=60/\es.length<=60
 | .bh cs _=>okC ws cs
def okX (ws:List Str) (ns:List Int):Wx->Prop
 | .pl W=>okW ws ns W
 | .sa c vs W=>c∈ws/\okV ns vs/\okW ws ns W/\c∉bw W
theorem Db {F:List Str} (h : ∀c∈ws,c∈F) : ∀{W:Wi},okW ws ns W->okW F ns W
 | .un _,⟨a,b,c,d⟩=>⟨a,b,λx B=>h x (c x B),d⟩
 | .mn _ _ _ _,⟨⟨a,b,c,d⟩,r⟩=>⟨⟨a,b,λx B=>h x (c x B),d⟩,r⟩
 | .sm _ _ _,⟨⟨a,b,c,d⟩,r⟩=>⟨⟨a,b,λx B=>h x (c x B),d⟩,r⟩
 | .tb _ _,⟨⟨a,b,c,d⟩,r⟩=>⟨⟨a,b,λx B=>h x (c x B),d⟩,r⟩
 | .wy _ _ _,⟨⟨a,b,c,d⟩,r⟩=>⟨⟨a,b,λx B=>h x (c x B),d⟩,r⟩
 | .bh _ _,⟨a,b,c,d⟩=>⟨a,b,λx B=>h x (c x B),d⟩
theorem nK : ∀{W:Wi},okW ws ns W->∀c∈bw W,c∈ws
 | .un _,⟨_,_,c,_⟩=>c
 | .mn _ _ _ _,⟨⟨_,_,c,_⟩,_⟩=>c
 | .sm _ _ _,⟨⟨_,_,c,_⟩,_⟩=>c
 | .tb _ _,⟨⟨_,_,c,_⟩,_⟩=>c
 | .wy _ _ _,⟨⟨_,_,c,_⟩,_⟩=>c
 | .bh _ _,⟨_,_,c,_⟩=>c
theorem Cf : ∀{W:Wi},okW ws ns W->szW W
 | .un _,⟨_,_,_,d⟩=>d
 | .mn _ _ _ _,⟨⟨_,_,_,d⟩,_,_,e⟩=>⟨e,d⟩
 | .sm ts _ _,⟨⟨_,_,_,d⟩,_⟩=>by simpa [szW] using d
 | .tb _ _,⟨⟨_,_,_,d⟩,_⟩=>d
 | .wy _ _ _,⟨⟨_,_,_,d⟩,e,f,_⟩=>⟨d,e,f⟩
 | .bh _ _,⟨a,_,_,d⟩=>⟨a,d⟩
theorem A3 : ∀{W:Wx},okX ws ns W->∀c∈aB W,c∈ws
 | .pl _,h=>nK h
 | .sa _ _ _,h=>λc B=>by
  rcases i6.mp B with rfl | z
  .exact h.1
  .exact nK h.2.2.1 c z
theorem Ho {zs:List Str} (hp:(cs++zs).Perm ws) (h1:1<=cs.length) (F:ws.Nodup) (Y:ws.length<=12):okC ws cs:=by
 have B:=hp.nodup_iff.mpr F;refine⟨λe=>by rw[e] at h1;simp at h1,(t9.mp B).1,λc L=>hp.mem_iff.mp (m9 _ L),?_⟩
 have:=hp.length_eq
 rw[q_] at this;omega
theorem Cd (h:okF rm cs g) (ne : ∀c∈ws,rm c≠[]) : ∃g',okF rm ws g'/\∀c∈cs,g' c=g c:=by
 refine⟨λc=>if c∈cs then g c else(rm c).headD 0,λc F=>?_,λc F=>if_pos F⟩
 by_cases B:c∈cs
 .show(if c∈cs then g c else(rm c).headD 0)∈rm c
  rw[if_pos B];exact h c B
 .show(if c∈cs then g c else(rm c).headD 0)∈rm c
  rw[if_neg B];cases e:rm c with
  | nil=>exact absurd e (ne c F)
  | cons x xs=>simp
theorem dE (h:n<=4):n < 1000:=()
theorem A2 (a b c d:Str) (x y z u:V):(cy a x []).length<=4:=by have:=er a x [];simp at this;omega
theorem Ap (a b c d:Str) (x y z u:V):(cy b y (cy a x [])).length<=4:=by have:=er a x [];have:=er b y (cy a x []);simp at *;omega
theorem EW (a b c d:Str) (x y z u:V):(cy c z (cy b y (cy a x []))).length<=4:=by have:=er a x [];have:=er b y (cy a x []);have:=er c z (cy b y (cy a x []));simp at *;omega
theorem J8 (a b c d:Str) (x y z u:V):(cy d u (cy c z (cy b y (cy a x [])))).length<=4:=by have:=er a x [];have:=er b y (cy a x []);have:=er c z (cy b y (cy a x []));have:=er d u (cy c z (cy b y (cy a x [])));simp at *;omega
def dq (mg:Str->Option Value) (C:Str):Sp:=λvs H Q _=>∃(p dx:Addr) (fs:List (Str × V)) (w:V),vs=[.ref p,w]/\H p=some (.ins (ao mg C) dx fs)/\fs.length < 1000/\Q .non (upd H p (.ins (ao mg C) dx (cy "wish" w fs)))
def HW (mg:Str->Option Value) (C:Str) (H:Hp) (p w:Addr):Prop:=∃dx fs,H p=some (.ins (ao mg C) dx fs)/\fs.lookup (b_ "wish")=some (.ref w)/\fs.lookup (b_ "kept")=none
abbrev rT:=List Str × Int
def kF (dat:rT):List Str:=dat.1
def GX (dat:rT):Prop:=dat.1≠[]/\dat.1.Nodup/\dat.1.length<=12
def BL (dat:rT) (g:Str->Int):Bool:=chB dat.2 (dat.1.map g)
def WSB (H:Hp) (w:Addr) (dat:rT):Prop:=∃c,H w>>[.str "behind",.ref c,.int dat.2]/\H c>>(dat.1.map V.str)
def OBB (mg:Str->Option Value) (H:Hp) (p:Addr) (dat:rT):Prop:=∃dx fs w c,H p=some (.ins (ao mg "Behind") dx fs)/\WSB H w dat/\H c>>(dat.1.map V.str)/\fs.lookup (b_ "wish")=some (.ref w)/\fs.lookup (b_ "cells")=some (.ref c)/\fs.lookup (b_ "gap")=some (.int dat.2) /\
 fs.lookup (b_ "kept")=none/\fs.lookup (b_ "may_keep")=none/\fs.lookup (b_ "may_break")=none
theorem yY {dat:rT} (h:OBB mg H p dat) : ∃dx fs,H p=some (.ins (ao mg "Behind") dx fs)/\fs.lookup (b_ "kept")=none/\fs.lookup (b_ "may_keep")=none/\fs.lookup (b_ "may_break")=none:=by
 obtain⟨dx,fs,w,c,h1,h2,B,_,_,_,r⟩:=h;exact⟨dx,fs,h1,r⟩
structure Bo (mg:Str->Option Value) (H:Hp) (p r:Addr) (dat:rT) (kvs:List (Key × V)) (rm:Str->List Int):Prop where
 ob:OBB mg H p dat
 rd:H r<*kvs
 rf:bQ H kvs (kF dat) rm
 ok:GX dat
 ne : ∀c∈kF dat,rm c≠[]/\(rm c).length<=10/\(rm c).Pairwise (· < ·)
def eE (mg:Str->Option Value):Sp:=λvs H Q _=>∃(p r:Addr) (dat:rT) (kvs:List (Key × V)) (rm:Str->List Int),vs=[.ref p,.ref r]/\Bo mg H p r dat kvs rm/\∀(b:Bool) H',(b=true↔∃g,okF rm (kF dat) g/\BL dat g=true)->ap H H'->Q (.bl b) H'
def dD (mg:Str->Option Value):Sp:=λvs H Q _=>∃(p r:Addr) (dat:rT) (kvs:List (Key × V)) (rm:Str->List Int),vs=[.ref p,.ref r]/\Bo mg H p r dat kvs rm/\∀(b:Bool) H',(b=true↔∃g,okF rm (kF dat) g/\BL dat g=false)->ap H H'->Q (.bl b) H'
def zD (mg:Str->Option Value) (C:Str):Sp:=λvs H Q _=>∃(p dx w:Addr) (dat:rT),vs=[.ref p,.ref w]/\H p=some (.ins (ao mg C) dx [])/\WSB H w dat/\∀H',OBB mg H' p dat->gE p H H'->Q .non H'
theorem CL {L:Int} (B:(c :: cs).Nodup) (Z:m∈rm c) (hL:L+gap<=m) (Y : ∀v∈rm c,L+gap<=v->m<=v) :
  (∃g,okF rm (c :: cs) g/\chB gap (L ::(c :: cs).map g)=true)↔∃g,okF rm cs g/\chB gap (m :: cs.map g)=true:=by
 rw[m7] at B
 constructor
 .rintro⟨g,h1,h2⟩
  rw[j8,gH,l_,decide_eq_true_eq] at h2;exact⟨g,λx F=>h1 x (i7 _ F),wC (Y _ (h1 c (by simp)) h2.1) h2.2⟩
 .rintro⟨g,h1,h2⟩
  have e:cs.map (bO g c m)=cs.map g:=nL λx F=>du _ _ (λz=>B.1 (z ▸ F))
  refine⟨bO g c m,λx F=>?_,?_⟩
  .by_cases z:x=c
   .subst z;rw[bK];exact Z
   .rw[du _ _ z];exact h1 x ((i6.mp F).resolve_left z)
  .rw[j8,bK,e,gH,l_,decide_eq_true_eq]
   exact⟨hL,h2⟩
theorem An (B:(c :: cs).Nodup) (Y:m∈rm c) (L : ∀v∈rm c,m<=v) :
  (∃g,okF rm (c :: cs) g/\chB gap ((c :: cs).map g)=true)↔∃g,okF rm cs g/\chB gap (m :: cs.map g)=true:=by
 rw[m7] at B
 constructor
 .rintro⟨g,h1,h2⟩
  exact⟨g,λx F=>h1 x (i7 _ F),wC (L _ (h1 c (by simp))) h2⟩
 .rintro⟨g,h1,h2⟩
  have e:cs.map (bO g c m)=cs.map g:=nL λx F=>du _ _ (λz=>B.1 (z ▸ F))
  refine⟨bO g c m,λx F=>?_,?_⟩
  .by_cases z:x=c
   .subst z;rw[bK];exact Y
   .rw[du _ _ z];exact h1 x ((i6.mp F).resolve_left z)
  .rw[j8,bK,e]
   exact h2
def GQ (rm:Str->List Int) (gap:Int) (cs:List Str) (j:Nat):Prop:=∃i,i < j/\∃c B,cs[i]? = some c/\cs[i+1]? = some B/\∃M∈rm c,∃m∈rm B,m < M+gap
theorem qh {gap:Int} : ∀{vs:List Int},chB gap vs=false->∃i,∃a b,vs[i]? = some a/\vs[i+1]? = some b/\b < a+gap
 | [],h=>by cases h
 | [a],h=>by cases h
 | a :: b :: r,h=>by
  rw[gH,LF] at h;rcases h with h | h
  .exact⟨0,a,b,rfl,rfl,by simpa using h⟩
  .obtain⟨i,x,y,h1,h2,h3⟩:=qh h
   exact⟨i+1,x,y,by simpa using h1,by simpa using h2,h3⟩
theorem zp {gap:Int} : ∀{vs:List Int} {i:Nat} {a b:Int},vs[i]? = some a->vs[i+1]? = some b->b < a+gap->chB gap vs=false
 | [],i,a,b,h,_,_=>by simp at h
 | [x],i,a,b,_,h,_=>by simp at h
 | x :: y :: r,0,a,b,h1,h2,h3=>by
  simp at h1 h2
  subst h1;subst h2;rw[gH,LF];exact .inl (by simpa using h3)
 | x :: y :: r,i+1,a,b,h1,h2,h3=>by
  rw[gH,LF];exact .inr (zp (vs:=y :: r) (i:=i) (by simpa using h1) (by simpa using h2) h3)
theorem Az (L:cs.Nodup) (Y : ∀c∈cs,rm c≠[]) :
  (∃i c B,cs[i]? = some c/\cs[i+1]? = some B/\∃M∈rm c,∃m∈rm B,m < M+gap)↔∃g,okF rm cs g/\chB gap (cs.map g)=false:=by
 constructor
 .rintro⟨i,c,B,h1,h2,M,hM,m,hm,hlt⟩
  have Z:c≠B:=λe=>by
   subst e;have:=gD L h1 h2
   omega
  obtain⟨g,F,_⟩:=Cd (rm:=rm) (cs:=[]) (g:=λ_=>0) (λc hc=>by simp at hc) Y
  refine⟨bO (bO g c M) B m,λx hx=>?_,?_⟩
  .by_cases e:x=B
   .subst e;rw[bK];exact hm
   .rw[du _ _ e]
    by_cases e2:x=c
    .subst e2;rw[bK];exact hM
    .rw[du _ _ e2];exact F x hx
  .refine zp (i:=i) (a:=M) (b:=m) ?_ ?_ hlt
   .rw[f_,h1,Lo,du _ _ Z,bK]
   .rw[f_,h2,Lo,bK]
 .rintro⟨g,F,hb⟩
  obtain⟨i,a,b,h1,h2,h3⟩:=qh hb;rw[f_] at h1 h2;cases e1:cs[i]? with
  | none=>rw[e1] at h1;cases h1
  | some c =>
   cases e2:cs[i+1]? with
   | none=>rw[e2] at h2;cases h2
   | some B =>
    rw[e1] at h1;rw[e2] at h2;have h1:=ge h1;have h2:=ge h2;exact⟨i,c,B,e1,e2,g c,F c (gt e1),g B,F B (gt e2),()⟩
theorem mD (T:Txt w K mg) (L:ck K (gJ K (ao mg "Wish") "__init__") "__init__" "Wish.__init__" bD ["self","wish"]):FnR P w K mg base (gJ K (ao mg "Wish") "__init__") 1 ["self","wish"] (dq mg "Behind"):=by
 ctx_has z bX <;> obtain⟨p,dx,fs,w,rfl,hp,B,k⟩:=h
 .rfl
 refine⟨_,(aj (bF T.cl_Behind T.no_Behind_wish (pvM 0) (pvM 1) rfl)),?_⟩
 ctx_has v hp
 exact⟨B,k⟩
theorem lH (T:Txt w K mg) (L:ck K (Mk K (ao mg "Behind")) "__init__" "Behind.__init__" fh ["self","wish"]) (B:FnR P w K mg base (gJ K (ao mg "Wish") "__init__") 1 ["self","wish"] (dq mg "Behind")):FnR P w K mg base (Mk K (ao mg "Behind")) 2 ["self","wish"] (zD mg "Behind"):=by
 ctx_has z kT <;> obtain⟨p,dx,w,dat,rfl,hp,hW,k⟩:=h
 .rfl
 refine⟨_,(ag (ci (iO B (hr.mono (by ctx_has m)) rfl T.at_Wish (ac (pvM 0) (ac (pvM 1) af))))
  (ag (bF T.cl_Behind T.no_Behind_cells (pvM 0) (az aR (pvM 1) ah) rfl)
  (aj (bF T.cl_Behind T.no_Behind_gap (pvM 0) (az aR (pvM 1) ah) rfl)))),?_⟩
 obtain⟨cs,gap⟩:=dat;obtain⟨c,Z,h2⟩:=hW;ctx_has v Z
 have Y:w≠p:=aZ Z hp (by intro z;cases z)
 have F:c≠p:=aZ h2 hp (by intro z;cases z)
 refine⟨p,dx,[],.ref w,rfl,hp,∅,?_⟩
 ctx_has v ae
 refine⟨_,by rw[ai Y];exact Z,?_⟩
 ctx_has v
 refine⟨dE (A2 _ "" "" "" _ .non .non .non),_,by rw[ai Y,ai Y];exact Z,?_⟩
 ctx_has v
 refine⟨dE (Ap _ _ "" "" _ _ .non .non),k _ ⟨dx,_,w,c,ae,⟨c,by rw[ai Y,ai Y,ai Y];exact Z,by rw[ai F,ai F,ai F];exact h2⟩,by rw[ai F,ai F,ai F];exact h2,?_⟩ ?_⟩
 .simp only[bA,eA,String.reduceEq,if_true,if_false,true_and,KL,and_self]
 .intro b o hb e
  rw[ai hb,ai hb,ai hb];exact e
theorem ly (T:Txt w K mg) (L:ck K (aD K (ao mg "Behind") "may_keep") "may_keep" "Behind.may_keep" di ["self","rooms"]):FnR P w K mg base (aD K (ao mg "Behind") "may_keep") 22 ["self","rooms"] (eE mg):=by
 ctx_has z lv <;> obtain⟨p,r,dat,kvs,rm,rfl,M,k⟩:=h
 .rfl
 refine⟨_,(ag (aC 2 (aE (tT rfl) T.b_min (ac (bC hu (pvM 1) (az aR (aN T.cl_Behind T.no_Behind_cells (pvM 0)) ah)) af)))
  (ag (bx (cg K (bL mL (aN T.cl_Behind T.no_Behind_cells (pvM 0)) (bW ah) cA)) (ay 3) (ag (iy 4 (N:=["value","least","self"]) (nt:=1) (js:=[2,0]) (aG ["self","rooms","least","cell","enough"] (ak di).names) (cg K (bC hu (pvM 1) (pvM 3))) (ay 0) aU (gs (aJ jU (aM bp (pvM 1) (aN T.cl_Behind T.no_Behind_gap (pvM 2))) (pvM 0))) (pvM 0))
  (ag (bg (aJ bz (aE cC T.b_len (ac (pvM 4) af)) ah) (aj (aw dm)) aL)
  (aj (aC 2 (aE (nY rfl) T.b_min (ac (pvM 4) af)))))))
  (aj (aw dm)))),?_⟩
 obtain⟨dx,fs,w,c,h1,h2,h3,l1,l2,l3,l4⟩:=M.ob;obtain⟨cs,gap⟩:=dat;have F:=M.ok;have ai:=M.ne;have Z:=M.rf;simp only[kF,GX] at F ai Z h3 l2 l3 k;cases cs with
 | nil=>exact absurd rfl F.1
 | cons Y cs =>
  obtain⟨a0,aA,a3⟩:=Z Y (by simp)
  have ab:=M.rd;ctx_has v h1 l2 l3 h3 ab aA a3
  refine⟨rm Y,rfl,(ai Y (by simp)).1,λm0 a6 aa=>?_⟩
  ctx_has v h1 l2 l3 h3 ab
  intro p2 H2 e2 s2
  replace e2:H2 p2>>(cs.map V.str):=by
   rw[e2];exact congrArg (λz=>some (HO.tup z)) (fe V.str (Y :: cs) 1)
  ctx_has v e2
  refine cu aY (λi σ H3=>∃(L:Int) (v3 v4:Option V),σ=[-p,-r,some (.int L),v3,v4]/\ap H2 H3/\((∃g,okF rm (Y :: cs) g/\chB gap ((Y :: cs).map g)=true)↔∃g,okF rm (cs.drop i) g/\chB gap (L ::(cs.drop i).map g)=true))
   ⟨m0,_,_,rfl,ap.refl _,An F.2.1 a6 aa⟩ (λi σ H' aq=>by obtain⟨_,_,_,_,sm,_⟩:=aq;exact(.of (sm _ _ e2))) ?_ ?_
  .rintro i x σ H3 hi hx ⟨L,v3,v4,rfl,sm3,hiff⟩
   rw[d_] at hi;obtain⟨B,ad,rfl⟩ : ∃B,cs[i]? = some B/\V.str B=x:=by
    rw[f_] at hx;cases e:cs[i]? with
    | none=>rw[e] at hx;cases hx
    | some nm=>rw[e] at hx;exact⟨nm,rfl,ge hx⟩
   have au:B∈Y :: cs:=i7 _ (gt ad)
   have ed:cs.drop i=B :: cs.drop (i+1):=by
    rw[List.drop_eq_getElem_cons hi];rw[ki hi] at ad;rw[ge ad]
   have an:(B :: cs.drop (i+1)).Nodup:=by rw[<- ed];exact(m7.mp F.2.1).2.sublist (List.drop_sublist _ _)
   obtain⟨a1,a4,aB⟩:=Z B au;have a2:=sm3 _ _ (s2 _ _ h1);have a8:=sm3 _ _ (s2 _ _ ab);have ar:=sm3 _ _ (s2 _ _ aB);ctx_has v a8 a4 ar
   intro q hq;refine dM aY (λv=>match v with | .int v=>decide (L+gap<=v) | _=>false) id hq (λH' s=>.of (s _ _ ar)) (by have:=ai B au;simp;omega) ?_ ?_ ?_
   .intro x H4 Q4 hx sm q4
    obtain⟨y,hy,rfl⟩:=hH.mp hx;have e1:=sm _ _ a2;ctx_has v e1 l3
    exact q4 H4 (ap.refl _)
   .intro x H4 Q4 hx _ sm q4
    ctx_has v
    exact q4 H4 (ap.refl _)
   .intro H4 sm4 h4
    have a9:H4 q*>(((rm B).filter λv=>decide (L+gap<=v)).map V.int):=by
     rw[h4,LJ,k6];rfl
    ctx_has v a9
    refine dC (λh0=>?_) (λh0=>?_)
    .refine k false H4 ?_ ((s2.trans sm3).trans sm4)
     simp only[i9,false_iff];intro hg;obtain⟨g,g1,g2⟩:=hiff.mp hg;rw[ed,j8,gH,l_,decide_eq_true_eq] at g2;have:g B∈(rm B).filter λv=>decide (L+gap<=v):=G_.mpr ⟨g1 B (by rw[ed];simp),by simpa using g2.1⟩
     have:=KY this
     simp only[d_] at h0;omega
    .refine⟨_,rfl,λhn=>h0 (by rw[hn];rfl),λm hm am=>?_⟩
     obtain⟨ax,a7⟩:=G_.mp hm;refine⟨sm3.trans sm4,?_⟩
     refine Iff.trans hiff ?_
     rw[ed];exact CL an ax (by simpa using a7) λv hv a5=>am v (G_.mpr ⟨hv,by simpa using a5⟩)
  .rintro σ H3 ⟨L,v3,v4,rfl,sm3,hiff⟩
   rw[d_,List.drop_length] at hiff;ctx_has v
   refine k true H3 ?_ (s2.trans sm3)
   simp only[true_iff];exact hiff.mpr ⟨λ_=>0,λc hc=>by simp at hc,rfl⟩
theorem kJ (T:Txt w K mg) (L:ck K (aD K (ao mg "Behind") "may_break") "may_break" "Behind.may_break" cR ["self","rooms"]):FnR P w K mg base (aD K (ao mg "Behind") "may_break") 22 ["self","rooms"] (dD mg):=by
 ctx_has z kO <;> obtain⟨p,r,dat,kvs,rm,rfl,M,k⟩:=h
 .rfl
 refine⟨_,(ag (aC 2 (xy rfl rfl T.b_list rfl T.b_zip (ac (aN T.cl_Behind T.no_Behind_cells (pvM 0)) (ac (bL mL (aN T.cl_Behind T.no_Behind_cells (pvM 0)) (bW ah) cA) af))))
  (aj (aw (aE (gv rfl) T.b_any (ac (aV (N:=["ahead","later","rooms","self"]) (nt:=2) (js:=[1,0]) (aG ["self","rooms","pairs"] (ak cR).names) (hV K (pvM 2)) (dI (n:=2) rfl (bj (ay 0) (bj (ay 1) dO))) cJ bv (aQ qZ (aM bp (aE (AW rfl) T.b_max (ac (bC hu (pvM 2) (pvM 0)) af)) (aN T.cl_Behind T.no_Behind_gap (pvM 3))) (aE (tT rfl) T.b_min (ac (bC hu (pvM 2) (pvM 1)) af)))) af))))),?_⟩
 obtain⟨dx,fs,w,c,h1,h2,h3,l1,l2,l3,l4⟩:=M.ob;obtain⟨cs,gap⟩:=dat;have az:=M.ok;have Z:=M.ne;have ad:=M.rf;have a7:=M.rd;simp only[kF,GX] at az Z ad h3 l2 l3 k;ctx_has v h1 l2 h3
 intro p2 H2 e2 s2;rw[show fQ (cs.map V.str) (some 1) none=(cs.drop 1).map V.str from fe V.str cs 1] at e2
 have a6:=s2 _ _ h3;ctx_has v a6 e2
 refine⟨by rw[d_];omega,λpl ts H3 s3 aP an hp=>?_⟩
 have B:=s2.trans s3;have aA:=B _ _ h1;have aI:=B _ _ a7;ctx_has v an
 intro q hq;have aO:ts.length=cs.length - 1:=by rw[hp.1];simp
 refine eD cD (λj ys H4=>∃bs:List Bool,ys=bs.map V.bl/\bs.length=j/\(true∈bs↔GQ rm gap cs j)/\H4 q*>ys/\ap H3 H4)
  ⟨[],rfl,rfl,⟨λh=>by simp at h,λa0=>by obtain⟨i,hi,_⟩:=a0;exact(absurd hi ())⟩,ae,ap.upd0 hq⟩ (λj ys H' am=>by obtain⟨_,_,_,_,_,sm⟩:=am;exact(.of (sm _ _ an))) ?_ ?_
 .rintro j x ys H4 hj hx ⟨bs,rfl,hbl,hiff,h4,sm4⟩
  rw[d_] at hj;obtain⟨t,aJ,rfl⟩ : ∃t,ts[j]? = some t/\V.ref t=x:=by
   rw[f_] at hx;cases e:ts[j]? with
   | none=>rw[e] at hx;cases hx
   | some nm=>rw[e] at hx;exact⟨nm,rfl,ge hx⟩
  obtain⟨ca,F⟩ : ∃ca,cs[j]? = some ca:=⟨cs[j]'(),by simp⟩
  obtain⟨cb,Y⟩ : ∃cb,cs[j+1]? = some cb:=⟨cs[j+1]'(),by simp⟩
  have ht:=hp.2 j t (.str ca) (.str cb) aJ (by rw[f_,F];rfl) (by rw[f_,List.getElem?_drop,add_comm,Y];rfl)
  have a9:=sm4 _ _ ht;have ar:ca∈cs:=gt F
  have a1:cb∈cs:=gt Y
  obtain⟨aa,a3,aK⟩:=ad ca ar;obtain⟨ab,a5,a8⟩:=ad cb a1;have aL:=sm4 _ _ aI;have a4:=sm4 _ _ (B _ _ aK);have aB:=sm4 _ _ (B _ _ a8);have a2:=sm4 _ _ aA;ctx_has v a9 aL a3 a5 a4 aB a2 l3
  refine⟨rm ca,rfl,(Z ca ar).1,λM hM aq=>⟨rm cb,rfl,(Z cb a1).1,λm hm ax=>?_⟩⟩
  refine⟨h4,by rw[d_];exact aF (),bs++[decide (M+gap > m)],by simp,by simp;omega,?_,ae,λb o e=>by rw[ai (au e hq)];exact sm4 _ _ e⟩
  constructor
  .intro hb
   rcases j9.mp hb with z | z
   .obtain⟨i,hi,r⟩:=hiff.mp z
    exact⟨i,(),r⟩
   .exact⟨j,(),ca,cb,F,Y,M,hM,m,hm,by simpa using (fx.mp z).symm⟩
  .rintro⟨i,hi,c1,c2,e1,e2,M',hM',m',hm',hlt⟩
   by_cases aH:i=j
   .subst aH
    rw[F] at e1;rw[Y] at e2;cases e1;cases e2;have:=aq M' hM'
    have:=ax m' hm'
    exact o_ _ (fx.mpr (by simp;omega))
   .exact m9 _ (hiff.mpr ⟨i,(),c1,c2,e1,e2,M',hM',m',hm',hlt⟩)
 .rintro ys H4 ⟨bs,rfl,hbl,hiff,h4,sm4⟩
  rw[d_] at hbl hiff;ctx_has v
  refine⟨bs,h4,k _ H4 ?_ (B.trans sm4)⟩
  refine Iff.trans ?_ (Az (gap:=gap) az.2.1 λc hc=>(Z c hc).1)
  have:bs.any id=true↔true∈bs:=by simp
  rw[this,hiff]
  constructor
  .rintro⟨i,hi,r⟩
   exact⟨i,r⟩
  .rintro⟨i,c1,c2,e1,e2,r⟩
   refine⟨i,?_,c1,c2,e1,e2,r⟩
   have:=(g_.mp e2).1
   omega
def dw (rm:Str->List Int) (cs:List Str):List (List Int):=cs.foldl (λps c=>ps.flatMap λp=>(rm c).map λv=>p++[v]) [[]]
theorem qW (rm:Str->List Int):dw rm []=[[]]:=rfl
theorem jQ (rm:Str->List Int) (cs:List Str) (c:Str):dw rm (cs++[c])=(dw rm cs).flatMap λp=>(rm c).map λv=>p++[v]:=by simp[dw,L6]
def Ai (rm:Str->List Int) (cs:List Str) (p:List Int):Prop:=p.length=cs.length/\∀(i:Nat) c v,cs[i]? = some c->p[i]? = some v->v∈rm c
theorem oa {P:List α->Prop} (F:P []) (B : ∀l a,P l->P (l++[a])) (l:List α):P l:=by
 rw[<- List.reverse_reverse l]
 induction l.reverse with
 | nil=>exact F
 | cons a r L=>rw[List.reverse_cons];exact B _ _ L
theorem lx (cs:List Str) : ∀{p:List Int},p∈dw rm cs↔Ai rm cs p:=by
 refine oa (P:=λcs=>∀{p:List Int},p∈dw rm cs↔Ai rm cs p) ?_ ?_ cs
 .intro p
  rw[qW,fx]
  constructor
  .rintro rfl;exact⟨rfl,λi c v e=>by simp at e⟩
  .intro h;exact List.length_eq_zero_iff.mp h.1
 .intro cs c ih p
  rw[jQ,mem_flatMap]
  constructor
  .rintro⟨q,hq,hp⟩
   obtain⟨v,F,rfl⟩:=hH.mp hp;obtain⟨h1,h2⟩:=ih.mp hq;refine⟨by simp[h1],λi x u e1 e2=>?_⟩
   by_cases hi:i < cs.length
   .rw[t3 hi] at e1
    rw[t3 (by rw[h1];exact hi)] at e2
    exact h2 i x u e1 e2
   .have hl:=(g_.mp e1).1
    have B:i=cs.length:=by simp at hl;omega
    subst B;rw[u7 (h_ _),sub_self] at e1;rw[<- h1,u7 (h_ _),sub_self] at e2;cases e1;cases e2;exact F
  .rintro⟨h1,h2⟩
   rcases LI p with rfl | ⟨q,v,rfl⟩
   .simp at h1
   .have hql:q.length=cs.length:=by simpa using h1
    refine⟨q,ih.mpr ⟨hql,λi x u e1 e2=>h2 i x u ?_ ?_⟩,hH.mpr ⟨v,?_,by simp⟩⟩
    .rw[t3 (g_.mp e1).1];exact e1
    .rw[K6,t3 (g_.mp e2).1];exact e2
    .exact h2 cs.length c v (by simp) (by rw[K6,<- hql];simp)
theorem mi (cs:List Str):(dw rm cs).length=(cs.map λc=>(rm c).length).foldl (· * ·) 1:=by
 refine oa (P:=λcs=>(dw rm cs).length=(cs.map λc=>(rm c).length).foldl (· * ·) 1) ?_ ?_ cs
 .rfl
 .intro cs c ih
  rw[jQ,r_,L6,<- ih];have F : ∀ps:List (List Int),(ps.flatMap λp=>(rm c).map λv=>p++[v]).length=ps.length * (rm c).length:=λps=>by
   induction ps with
   | nil=>simp
   | cons p ps B=>rw[List.flatMap_cons,q_,d_,t4,Nat.succ_mul,B];omega
  rw[F];rfl
theorem uK (cs:List Str):(∀c∈cs,(rm c).Nodup)->(dw rm cs).Nodup:=by
 refine oa (P:=λcs=>(∀c∈cs,(rm c).Nodup)->(dw rm cs).Nodup) ?_ ?_ cs
 .intro _;rw[qW];simp
 .intro cs c ih h
  rw[jQ];have h1:=ih λx Z=>h x (m9 _ Z)
  have h2:=h c (by simp)
  generalize dw rm cs=ps at h1
  induction ps with
  | nil=>simp
  | cons p ps B =>
   rw[m7] at h1;rw[List.flatMap_cons,t9];refine⟨?_,B h1.2,λa ha b F e=>?_⟩
   .clear B
    generalize rm c=vs at h2
    induction vs with
    | nil=>simp
    | cons v vs L =>
     rw[m7] at h2;rw[j8,m7];refine⟨λY=>?_,L h2.2⟩
     obtain⟨u,hu,e⟩:=hH.mp Y;have:=List.append_inj_right' e rfl
     simp at this
     exact h2.1 (this ▸ hu)
   .obtain⟨v,_,rfl⟩:=hH.mp ha
    obtain⟨q,hq,F⟩:=mem_flatMap.mp F;obtain⟨u,_,rfl⟩:=hH.mp F;have:=List.append_inj_left' e rfl
    exact h1.1 (this ▸ hq)
theorem xb (h:okF rm cs g):Ai rm cs (cs.map g):=⟨by simp,λi c v e1 e2=>by
 rw[f_,e1] at e2;cases e2;exact h c (gt e1)⟩
theorem wZ {p:List Int} (F:cs.Nodup) (h:Ai rm cs p) : ∃g,okF rm cs g/\cs.map g=p:=by
 refine⟨λc=>p.getD (cs.idxOf c) 0,λc L=>?_,?_⟩
 .have hl:=List.idxOf_lt_length_iff.mpr L
  have hp:cs.idxOf c < p.length:=by rw[h.1];exact hl
  have e1:cs[cs.idxOf c]? = some c:=by rw[ki hl];simp
  have e2:p[cs.idxOf c]? = some (p.getD (cs.idxOf c) 0):=by simp[ki hp]
  exact h.2 _ c _ e1 e2
 .apply List.ext_getElem?
  intro i;rw[f_]
  by_cases hi:i < cs.length
  .rw[ki hi,Lo]
   have B:cs.idxOf cs[i]=i:=by
    have hl:=List.idxOf_lt_length_iff.mpr (K9 hi);have e1:cs[cs.idxOf cs[i]]? = some cs[i]:=by rw[ki hl];simp
    exact gD F e1 (by simp)
   rw[B];have hp:i < p.length:=by rw[h.1];exact hi
   simp[ki hp]
  .rw[List.getElem?_eq_none (),List.getElem?_eq_none (by rw[h.1];omega)]
   rfl
abbrev jz:=List Str × List (List Int)
def iS (dat:jz):List Str:=dat.1
def E9 (dat:jz):Prop:=dat.1≠[]/\dat.1.Nodup/\dat.1.length<=12/\dat.2.Nodup/\(∀r∈dat.2,r.length=dat.1.length)/\dat.2.length<=60
def jW (dat:jz) (g:Str->Int):Bool:=decide (dat.1.map g∈dat.2)
def WST (H:Hp) (w:Addr) (dat:jz):Prop:=∃c t vs,H w>>[.str "table",.ref c,.ref t]/\H c>>(dat.1.map V.str)/\H t>>vs/\eo H vs dat.2
theorem Cm {w:Addr} {dat:jz} (h:WST H w dat) (k:gL H H'):WST H' w dat:=by
 obtain⟨c,t,vs,h1,h2,B,F⟩:=h;exact⟨c,t,vs,k.tup _ _ h1,k.tup _ _ h2,k.tup _ _ B,F.keep k.tup⟩
def OBT (mg:Str->Option Value) (H:Hp) (p:Addr) (dat:jz):Prop:=∃dx fs w c t vs,H p=some (.ins (ao mg "Table") dx fs)/\WST H w dat/\H c>>(dat.1.map V.str)/\H t>>vs/\eo H vs dat.2/\fs.lookup (b_ "wish")=some (.ref w)/\fs.lookup (b_ "cells")=some (.ref c)/\fs.lookup (b_ "rows")=some (.ref t) /\
 fs.lookup (b_ "kept")=none/\fs.lookup (b_ "may_keep")=none/\fs.lookup (b_ "may_break")=none/\fs.lookup (b_ "has_room")=none/\fs.lookup (b_ "rows_in")=none
theorem Bl {dat:jz} (h:OBT mg H p dat) (k:gL H H'):OBT mg H' p dat:=by
 obtain⟨dx,fs,w,c,t,vs,h1,h2,B,L,F,r⟩:=h;exact⟨dx,fs,w,c,t,vs,k.ins _ _ _ _ h1,Cm h2 k,k.tup _ _ B,k.tup _ _ L,F.keep k.tup,r⟩
theorem zV {dat:jz} (h:OBT mg H p dat) : ∃dx fs,H p=some (.ins (ao mg "Table") dx fs)/\fs.lookup (b_ "kept")=none/\fs.lookup (b_ "may_keep")=none/\fs.lookup (b_ "may_break")=none:=by
 obtain⟨dx,fs,w,c,t,vs,h1,h2,Y,h4,Z,_,_,_,B,L,F,_⟩:=h;exact⟨dx,fs,h1,B,L,F⟩
structure kU (mg:Str->Option Value) (H:Hp) (p r:Addr) (dat:jz) (kvs:List (Key × V)) (rm:Str->List Int):Prop where
 ob:OBT mg H p dat
 rd:H r<*kvs
 rf:bQ H kvs (iS dat) rm
 ok:E9 dat
 ne : ∀c∈iS dat,rm c≠[]/\(rm c).length<=10/\(rm c).Pairwise (· < ·)
theorem kU.same {mg:Str->Option Value} {H H':Hp} {p r:Addr} {dat:jz} {kvs:List (Key × V)} {rm:Str->List Int} (h:kU mg H p r dat kvs rm) (s:ap H H'):kU mg H' p r dat kvs rm :=
 ⟨Bl h.ob (ap.keepTI s),s _ _ h.rd,h.rf.same (λa vs e=>s _ _ e),h.ok,h.ne⟩
def eL (mg:Str->Option Value):Sp:=λvs H Q _=>∃(p r:Addr) (dat:jz) (kvs:List (Key × V)) (rm:Str->List Int),vs=[.ref p,.ref r]/\kU mg H p r dat kvs rm/\∀(b:Bool) H',(b=true↔∃g,okF rm (iS dat) g/\jW dat g=true)->ap H H'->Q (.bl b) H'
def dA (mg:Str->Option Value):Sp:=λvs H Q _=>∃(p r:Addr) (dat:jz) (kvs:List (Key × V)) (rm:Str->List Int),vs=[.ref p,.ref r]/\kU mg H p r dat kvs rm/\∀(b:Bool) H',(b=true↔∃g,okF rm (iS dat) g/\jW dat g=false)->ap H H'->Q (.bl b) H'
def zX (mg:Str->Option Value) (C:Str):Sp:=λvs H Q _=>∃(p dx w:Addr) (dat:jz),vs=[.ref p,.ref w]/\H p=some (.ins (ao mg C) dx [])/\WST H w dat/\∀H',OBT mg H' p dat->gE p H H'->Q .non H'
theorem wo (l:List Int):l.map (EU ∘ V.int)=l:=(nL (g:=id) λ_ _=>rfl).trans (map_id l)
def gQ (rm:Str->List Int) (cs:List Str) (r:List Int):Bool:=(LV (λc v=>decide (v∈rm c)) cs r).all id
theorem iA {rm:Str->List Int} : ∀{cs:List Str} {r:List Int},r.length=cs.length->(gQ rm cs r=true↔Ai rm cs r)
 | [],[],_=>by simp[gQ,Ai]
 | [],_ :: _,h=>by simp at h
 | _ :: _,[],h=>by simp at h
 | c :: cs,v :: r,h=>by
  have B:=iA (rm:=rm) (cs:=cs) (r:=r) (by simpa using h)
  have e:gQ rm (c :: cs) (v :: r)=(decide (v∈rm c) && gQ rm cs r):=by simp[gQ]
  rw[e,l_,decide_eq_true_eq,B]
  constructor
  .rintro⟨h1,h2,h3⟩
   refine⟨by simp[h2],λi x u e1 e2=>?_⟩
   cases i with
   | zero=>simp at e1 e2;subst e1;subst e2;exact h1
   | succ i=>exact h3 i x u (by simpa using e1) (by simpa using e2)
  .rintro⟨h2,h3⟩
   exact⟨h3 0 c v rfl rfl,by simpa using h2,λi x u e1 e2=>h3 (i+1) x u (by simpa using e1) (by simpa using e2)⟩
def Ci (mg:Str->Option Value):Sp:=λvs H Q _=>∃(p t r:Addr) (dat:jz) (kvs:List (Key × V)) (rm:Str->List Int) (B:List Int),vs=[.ref p,.ref t,.ref r]/\kU mg H p r dat kvs rm/\H t>>(B.map V.int)/\∀H',ap H H'->Q (.bl (gQ rm (iS dat) B)) H'
def nI (mg:Str->Option Value):Sp:=λvs H Q _=>∃(p r:Addr) (dat:jz) (kvs:List (Key × V)) (rm:Str->List Int),vs=[.ref p,.ref r]/\kU mg H p r dat kvs rm/\∀(l:Addr) (vs:List V) H',ap H H'->H' l*>vs->vs.length=(dat.2.filter (gQ rm dat.1)).length->Q (.ref l) H'
theorem yA {dat:jz} (B:E9 dat):0 < (dat.2.filter (gQ rm dat.1)).length↔∃g,okF rm dat.1 g/\jW dat g=true:=by
 constructor
 .intro h
  obtain⟨r,Y⟩:=List.exists_mem_of_length_pos h;obtain⟨h1,h2⟩:=G_.mp Y;obtain⟨g,F,L⟩:=wZ B.2.1 ((iA (B.2.2.2.2.1 r h1)).mp h2);exact⟨g,F,by unfold jW;rw[L];simpa using h1⟩
 .rintro⟨g,F,L⟩
  have Z:dat.1.map g∈dat.2:=by simpa [jW] using L
  exact KY (G_.mpr ⟨Z,(iA (by simp)).mpr (xb F)⟩)
theorem wX {dat:jz} (F:E9 dat) (aa : ∀c∈dat.1,(rm c).Nodup):(dat.2.filter (gQ rm dat.1)).length < (dw rm dat.1).length↔∃g,okF rm dat.1 g/\jW dat g=false:=by
 have ac:(dat.2.filter (gQ rm dat.1)).Nodup:=F.2.2.2.1.sublist List.filter_sublist
 have ad : ∀r∈dat.2.filter (gQ rm dat.1),r∈dw rm dat.1:=λr L=>by
  obtain⟨h1,h2⟩:=G_.mp L;exact(lx dat.1).mpr ((iA (F.2.2.2.2.1 r h1)).mp h2)
 constructor
 .intro h
  have : ∃p∈dw rm dat.1,p∉dat.2.filter (gQ rm dat.1):=by
   refine o9 λaf=>?_
   have Y : ∀p∈dw rm dat.1,p∈dat.2.filter (gQ rm dat.1):=λp hp=>o9 λhn=>af ⟨p,hp,hn⟩
   have:=dY (uK dat.1 aa) Y
   omega
  obtain⟨p,hp,ab⟩:=this;have B:=(lx dat.1).mp hp;obtain⟨g,g1,g2⟩:=wZ F.2.1 B;refine⟨g,g1,?_⟩
  unfold jW;rw[g2,decide_eq_false_iff_not];exact λhm=>ab (G_.mpr ⟨hm,(iA B.1).mpr B⟩)
 .rintro⟨g,g1,g2⟩
  have hm:dat.1.map g∉dat.2:=by simpa [jW] using g2
  have hp:dat.1.map g∈dw rm dat.1:=(lx dat.1).mpr (xb g1)
  have Z:(dat.1.map g :: dat.2.filter (gQ rm dat.1)).Nodup:=m7.mpr ⟨λhx=>hm (G_.mp hx).1,ac⟩
  have:=dY Z (λr L=>by
   rcases i6.mp L with rfl | L
   .exact hp
   .exact ad r L)
  simp at this
  omega
theorem lW (T:Txt w K mg) (L:ck K (gJ K (ao mg "Wish") "__init__") "__init__" "Wish.__init__" bD ["self","wish"]):FnR P w K mg base (gJ K (ao mg "Wish") "__init__") 1 ["self","wish"] (dq mg "Table"):=by
 ctx_has z bX <;> obtain⟨p,dx,fs,w,rfl,hp,B,k⟩:=h
 .rfl
 refine⟨_,(aj (bF T.cl_Table T.no_Table_wish (pvM 0) (pvM 1) rfl)),?_⟩
 ctx_has v hp
 exact⟨B,k⟩
theorem mj (T:Txt w K mg) (L:ck K (Mk K (ao mg "Table")) "__init__" "Table.__init__" fz ["self","wish"]) (B:FnR P w K mg base (gJ K (ao mg "Wish") "__init__") 1 ["self","wish"] (dq mg "Table")):FnR P w K mg base (Mk K (ao mg "Table")) 2 ["self","wish"] (zX mg "Table"):=by
 ctx_has z mt <;> obtain⟨p,dx,w,dat,rfl,hp,hW,k⟩:=h
 .rfl
 refine⟨_,(ag (ci (iO B (hr.mono (by ctx_has m)) rfl T.at_Wish (ac (pvM 0) (ac (pvM 1) af))))
  (ag (bF T.cl_Table T.no_Table_cells (pvM 0) (az aR (pvM 1) ah) rfl)
  (aj (bF T.cl_Table T.no_Table_rows (pvM 0) (az aR (pvM 1) ah) rfl)))),?_⟩
 obtain⟨cs,rows⟩:=dat;obtain⟨c,tr,vs,Y,h2,h3,h4⟩:=hW;ctx_has v Y
 have Z:w≠p:=aZ Y hp (by intro z;cases z)
 have pt : ∀b xs,H b>>xs->b≠p:=λb xs e=>aZ e hp (by intro z;cases z)
 refine⟨p,dx,[],.ref w,rfl,hp,∅,?_⟩
 ctx_has v ae
 refine⟨_,by rw[ai Z];exact Y,?_⟩
 ctx_has v
 refine⟨dE (A2 _ "" "" "" _ .non .non .non),_,by rw[ai Z,ai Z];exact Y,?_⟩
 ctx_has v
 have F : ∀b xs o1 o2 o3,H b>>xs->upd (upd (upd H p o1) p o2) p o3 b>>xs:=λb xs o1 o2 o3 e=>by rw[ai (pt b xs e),ai (pt b xs e),ai (pt b xs e)];exact e
 refine⟨dE (Ap _ _ "" "" _ _ .non .non),k _ ⟨dx,_,w,c,tr,vs,ae,⟨c,tr,vs,F _ _ _ _ _ Y,F _ _ _ _ _ h2,F _ _ _ _ _ h3,h4.keep λa xs e=>F _ _ _ _ _ e⟩,F _ _ _ _ _ h2,F _ _ _ _ _ h3,h4.keep λa xs e=>F _ _ _ _ _ e,?_⟩ ?_⟩
 .simp only[bA,eA,String.reduceEq,if_true,if_false,true_and,KL,and_self]
 .intro b o hb e
  rw[ai hb,ai hb,ai hb];exact e
theorem lK (T:Txt w K mg) (L:ck K (aD K (ao mg "Table") "has_room") "has_room" "Table.has_room" dH ["self","row","rooms"]):FnR P w K mg base (aD K (ao mg "Table") "has_room") 1 ["self","row","rooms"] (Ci mg):=by
 ctx_has z mO <;> obtain⟨p,t,r,dat,kvs,rm,Y,rfl,M,ht,k⟩:=h
 .rfl
 refine⟨_,(aj (aw (aE (fC rfl) T.b_all (ac (aV (N:=["cell","value","rooms"]) (nt:=2) (js:=[2]) (aG ["self","row","rooms"] (ak dH).names) (uR (K:=K) rfl rfl T.b_zip (ac (aN T.cl_Table T.no_Table_cells (pvM 0)) (ac (pvM 1) af))) (dI (n:=2) rfl (bj (ay 0) (bj (ay 1) dO))) cJ bv (aQ ft (pvM 1) (bC hu (pvM 2) (pvM 0)))) af)))),?_⟩
 obtain⟨dx,fs,w,c,tr,vs,h1,h2,h3,h4,h5,l1,l2,l3,l4⟩:=M.ob;obtain⟨cs,rows⟩:=dat;have B:=M.rf;have Z:=M.rd;have F:=M.ok;simp only[iS,E9] at F B h3 l2 k;ctx_has v h1 l2 h3 ht
 intro q hq;refine oq (λx y=>match x,y with | .str c,.int v=>.bl (decide (v∈rm c)) | _,_=>.non) hq h3 ht (by rw[d_];omega) ?_ ?_
 .intro x y H3 Q3 hx hy sm q3
  obtain⟨cx,aa,rfl⟩:=hH.mp hx;obtain⟨y,_,rfl⟩:=hH.mp hy;obtain⟨a1,ab,ad⟩:=B cx aa;have e1:=sm _ _ Z;have e2:=sm _ _ ad;ctx_has v e1 ab e2
  refine⟨rfl,cj _,?_⟩
  rw[cE];exact q3 H3 (ap.refl _)
 .intro H3 sm h3'
  ctx_has v
  refine⟨LV (λc v=>decide (v∈rm c)) cs Y,?_,k H3 sm⟩
  rw[h3',map_zipWith,zipWith_map]
theorem ow (T:Txt w K mg) (L:ck K (aD K (ao mg "Table") "rows_in") "rows_in" "Table.rows_in" eC ["self","rooms"]) (B:FnR P w K mg base (aD K (ao mg "Table") "has_room") 1 ["self","row","rooms"] (Ci mg)):FnR P w K mg base (aD K (ao mg "Table") "rows_in") 2 ["self","rooms"] (nI mg):=by
 ctx_has z om <;> obtain⟨p,r,dat,kvs,rm,rfl,M,k⟩:=h
 .rfl
 refine⟨_,(aj (aw (aV (N:=["row","self","rooms"]) (nt:=1) (js:=[0,1]) (aG ["self","rooms"] (ak eC).names) (cg K (aN T.cl_Table T.no_Table_rows (pvM 0))) (ay 0) aU (gs (fo (bZ T.cl_Table B (hr.mono (by ctx_has m)) (pvM 1) (ac (pvM 0) (ac (pvM 2) af))))) (pvM 0)))),?_⟩
 obtain⟨dx,fs,w,c,tr,vs,h1,h2,h3,h4,h5,l1,l2,l3,l4,l5,l6,l7,l8⟩:=M.ob;have Y:=M.ok;ctx_has v h1 l3 h4
 intro q hq;obtain⟨as,rfl,e2,Z⟩:=h5;refine dM aY (λv=>match v with | .ref a=>(match H a with | some (.tup xs)=>gQ rm dat.1 (xs.map EU) | _=>false) | _=>false) id hq (λH' s=>.of (s _ _ h4)) (by have:=Y.2.2.2.2.2;rw[e2] at this;simp at this ⊢;omega) ?_ ?_ ?_
 .intro x H4 Q4 F sm q4
  obtain⟨y,hy,rfl⟩:=hH.mp F;have g1:=sm _ _ h1;ctx_has v g1 l7
  refine⟨p,y.1,r,dat,kvs,rm,y.2,rfl,M.same sm,sm _ _ (Z y hy),λH5 s5=>?_⟩
  have:=q4 H5 s5
  simp only[Z y hy,k6] at this;rw[wo] at this;exact⟨_,rfl,this⟩
 .intro x H4 Q4 F _ sm q4
  ctx_has v
  exact q4 H4 (ap.refl _)
 .intro H4 sm h4'
  refine k q _ H4 sm h4' ?_
  rw[d_,LJ,d_,e2,LJ,d_]
  congr 1
  refine List.filter_congr λx F=>?_
  simp only[Function.comp_apply,Z x F,k6];rw[wo]
theorem mh (T:Txt w K mg) (L:ck K (aD K (ao mg "Table") "may_keep") "may_keep" "Table.may_keep" fK ["self","rooms"]) (B:FnR P w K mg base (aD K (ao mg "Table") "rows_in") 2 ["self","rooms"] (nI mg)):FnR P w K mg base (aD K (ao mg "Table") "may_keep") 22 ["self","rooms"] (eL mg):=by
 ctx_has z mK <;> obtain⟨p,r,dat,kvs,rm,rfl,M,k⟩:=h
 .rfl
 refine⟨_,(aj (aw (aQ qZ (aE cC T.b_len (ac (bZ T.cl_Table B (hr.mono (by ctx_has m)) (pvM 0) (ac (pvM 1) af)) af)) ah))),?_⟩
 obtain⟨dx,fs,w,c,tr,vs,h1,h2,h3,h4,h5,Z,l2,l3,l4,l5,l6,l7,F⟩:=M.ob;ctx_has v h1 F
 refine⟨p,r,dat,kvs,rm,rfl,M,λl vs H1 Y e1 hl=>?_⟩
 ctx_has v e1
 refine k _ H1 ?_ Y
 refine Iff.trans ?_ (yA M.ok)
 rw[decide_eq_true_eq,hl];omega
theorem lq (T:Txt w K mg) (L:ck K (aD K (ao mg "Table") "may_break") "may_break" "Table.may_break" fc ["self","rooms"]) (B:FnR P w K mg base (aD K (ao mg "Table") "rows_in") 2 ["self","rooms"] (nI mg)):FnR P w K mg base (aD K (ao mg "Table") "may_break") 22 ["self","rooms"] (dA mg):=by
 ctx_has z lg <;> obtain⟨p,r,dat,kvs,rm,rfl,M,k⟩:=h
 .rfl
 refine⟨_,(ag (aC 2 ah)
  (ag (bx (cg K (aN T.cl_Table T.no_Table_cells (pvM 0))) (ay 3) (aj (Ib 2 (aE fA T.b_len (ac (bC hu (pvM 1) (pvM 3)) af)) Il)))
  (aj (aw (aQ wQ (aE cC T.b_len (ac (bZ T.cl_Table B (hr.mono (by ctx_has m)) (pvM 0) (ac (pvM 1) af)) af)) (pvM 2)))))),?_⟩
 obtain⟨dx,fs,w,c,tr,vs,h1,h2,h3,h4,h5,l1,l2,l3,l4,l5,l6,l7,l8⟩:=M.ob;have aq:=M.ok;have Y:=M.ne;have aa:=M.rf;have ak:=M.rd;simp only[iS] at Y aa;ctx_has v h1 l2 h3
 refine cu aY (λi σ H2=>∃(v3:Option V),σ=[-p,-r,some (.int ((dw rm (dat.1.take i)).length:Int)),v3]/\H2=H) ⟨_,by rfl,rfl⟩ (λi σ H2 ab=>by obtain⟨_,_,e⟩:=ab;exact(by rw[e];exact .of h3)) ?_ ?_
 .rintro i x σ H2 hi hx ⟨v3,rfl,rfl⟩
  obtain⟨F,Z,rfl⟩ : ∃F,dat.1[i]? = some F/\V.str F=x:=by
   rw[f_] at hx;cases e:dat.1[i]? with
   | none=>rw[e] at hx;cases hx
   | some nm=>rw[e] at hx;exact⟨nm,rfl,ge hx⟩
  have ad:F∈dat.1:=gt Z
  obtain⟨a1,an,ai⟩:=aa F ad;have am:dat.1.take (i+1)=dat.1.take i++[F]:=by rw[j6,Z];rfl
  ctx_has v ak an ai
  have ar:=(Y F ad).2.1;refine⟨.inr ⟨by rw[d_];omega,by rw[d_];omega⟩,?_⟩
  rw[am,mi,mi,r_,L6,d_];simp
 .rintro σ H2 ⟨v3,rfl,rfl⟩
  rw[d_,la];ctx_has v h1 l8
  refine⟨p,r,dat,kvs,rm,rfl,M,λl vs H1 s1 e1 hl=>?_⟩
  ctx_has v e1
  refine k _ H1 ?_ s1
  refine Iff.trans ?_ (wX M.ok λc hc=>(Y c hc).2.2.imp λh=>by omega)
  rw[decide_eq_true_eq,hl];omega
abbrev mm:=List Str × List (Int × Int × Int) × List Int
def gY (dat:mm):List Str:=dat.1
def Iz (dat:mm):Prop:=dat.1≠[]/\dat.1.Nodup/\dat.1.length<=12/\(dat.2.1.map λx=>(x.1,x.2.1)).Nodup/\dat.2.1.length<=60/\dat.2.2.length<=60
def vF (dat:mm) (g:Str->Int):Bool:=uX dat.2.2 (gk dat.2.1 (some 0) (dat.1.map g))
def WSW (H:Hp) (w:Addr) (dat:mm):Prop:=∃c t e vs,H w>>[.str "way",.ref c,.ref t,.ref e]/\H c>>(dat.1.map V.str)/\H t>>vs/\mF H vs dat.2.1/\H e>>(dat.2.2.map V.int)
theorem BK {w:Addr} {dat:mm} (h:WSW H w dat) (k:gL H H'):WSW H' w dat:=by
 obtain⟨c,t,e,vs,h1,h2,B,L,F⟩:=h;exact⟨c,t,e,vs,k.tup _ _ h1,k.tup _ _ h2,k.tup _ _ B,L.keep k.tup,k.tup _ _ F⟩
def OBW (mg:Str->Option Value) (H:Hp) (p:Addr) (dat:mm):Prop:=∃dx fs w c e l,H p=some (.ins (ao mg "Way") dx fs)/\WSW H w dat/\H c>>(dat.1.map V.str)/\H e>>(dat.2.2.map V.int)/\H l=some (.dT (cN dat.2.1))/\fs.lookup (b_ "wish")=some (.ref w)/\fs.lookup (b_ "cells")=some (.ref c)/\fs.lookup (b_ "ends")=some (.ref e)/\fs.lookup (b_ "leads")=some (.ref l) /\
 fs.lookup (b_ "kept")=none/\fs.lookup (b_ "may_keep")=none/\fs.lookup (b_ "may_break")=none/\fs.lookup (b_ "states_behind")=none/\fs.lookup (b_ "last_states")=none
theorem BI {dat:mm} (h:OBW mg H p dat) (k:gL H H'):OBW mg H' p dat:=by
 obtain⟨dx,fs,w,c,e,l,h1,h2,B,L,F,r⟩:=h;exact⟨dx,fs,w,c,e,l,k.ins _ _ _ _ h1,BK h2 k,k.tup _ _ B,k.tup _ _ L,k.dt _ _ F,r⟩
theorem zk {dat:mm} (h:OBW mg H p dat) : ∃dx fs,H p=some (.ins (ao mg "Way") dx fs)/\fs.lookup (b_ "kept")=none/\fs.lookup (b_ "may_keep")=none/\fs.lookup (b_ "may_break")=none:=by
 obtain⟨dx,fs,w,c,e,l,h1,h2,Y,h4,Z,_,_,_,_,B,L,F,_⟩:=h;exact⟨dx,fs,h1,B,L,F⟩
structure xx (mg:Str->Option Value) (H:Hp) (p r:Addr) (dat:mm) (kvs:List (Key × V)) (rm:Str->List Int):Prop where
 ob:OBW mg H p dat
 rd:H r<*kvs
 rf:bQ H kvs (gY dat) rm
 ok:Iz dat
 ne : ∀c∈gY dat,rm c≠[]/\(rm c).length<=10/\(rm c).Pairwise (· < ·)
def eI (mg:Str->Option Value):Sp:=λvs H Q _=>∃(p r:Addr) (dat:mm) (kvs:List (Key × V)) (rm:Str->List Int),vs=[.ref p,.ref r]/\xx mg H p r dat kvs rm/\∀(b:Bool) H',(b=true↔∃g,okF rm (gY dat) g/\vF dat g=true)->ap H H'->Q (.bl b) H'
def dv (mg:Str->Option Value):Sp:=λvs H Q _=>∃(p r:Addr) (dat:mm) (kvs:List (Key × V)) (rm:Str->List Int),vs=[.ref p,.ref r]/\xx mg H p r dat kvs rm/\∀(b:Bool) H',(b=true↔∃g,okF rm (gY dat) g/\vF dat g=false)->ap H H'->Q (.bl b) H'
def wP (mg:Str->Option Value) (C:Str):Sp:=λvs H Q _=>∃(p dx w:Addr) (dat:mm),vs=[.ref p,.ref w]/\H p=some (.ins (ao mg C) dx [])/\WSW H w dat/\Iz dat/\∀H',OBW mg H' p dat->gE p H H'->Q .non H'
theorem lw (ps:List (Int × Int × Int)) (st:Option Int) (v:Int):kr ps st v∈none :: ps.map λx=>some x.2.2:=by
 cases st with
 | none=>exact m6
 | some s =>
  show(ps.find? λx=>decide (x.1=s/\x.2.1=v)).map (λx=>x.2.2)∈none :: ps.map λx=>some x.2.2
  cases e:ps.find? λx=>decide (x.1=s/\x.2.1=v) with
  | none=>exact m6
  | some x=>exact i7 _ (hH.mpr ⟨x,List.mem_of_find?_eq_some e,rfl⟩)
theorem wA {k:Option Int} (h:ks.Nodup):(rG ks k).Nodup:=by
 unfold rG
 split
 .exact h
 .rename_i hk
  rw[t9];exact⟨h,by simp,λa ha b B=>by rw[fx.mp B];rintro rfl;exact hk ha⟩
theorem Bh {k x:Option Int}:x∈rG ks k↔x∈ks\/x=k:=by
 unfold rG
 split
 .rename_i hk
  exact⟨.inl,λh=>h.elim id λe=>e ▸ hk⟩
 .rw[j9,fx]
def C9 (P:Program) (w:World) (mg:Str->Option Value):Sp:=λvs H Q _=>∃(p d r:Addr) (dat:mm) (o:Obj) (ks:List (Option Int)) (L:List Int),vs=[.ref p,.ref d,.ref r]/\OBW mg H p dat/\Iz dat/\H d=some (fm P w d o ks)/\H r>>(L.map V.int) /\
 ∀(q:Addr) (o':Obj) (B:List (Option Int)) H',ap H H'->H' q=some (fm P w q o' B)->B.length<=100->(∀F,F∈B↔∃k∈ks,∃v∈L,kr dat.2.1 k v=F)->Q (.ref q) H'
def uW (P:Program) (w:World) (mg:Str->Option Value):Sp:=λvs H Q _=>∃(p r:Addr) (dat:mm) (kvs:List (Key × V)) (rm:Str->List Int),vs=[.ref p,.ref r]/\xx mg H p r dat kvs rm /\
 ∀(q:Addr) (o:Obj) (ks:List (Option Int)) H',ap H H'->H' q=some (fm P w q o ks)->ks.length<=100->(∀B,B∈ks↔∃g,okF rm (gY dat) g/\gk dat.2.1 (some 0) ((gY dat).map g)=B)->Q (.ref q) H'
theorem Be {ps:List (Int × Int × Int)} (hn:cs.Nodup) (hc:cs[i]? = some c) {ks F:List (Option Int)} (h : ∀B,B∈ks↔∃g,okF rm cs g/\gk ps (some 0) ((cs.map g).take i)=B) (h' : ∀B,B∈F↔∃k∈ks,∃v∈rm c,kr ps k v=B) :
  ∀B,B∈F↔∃g,okF rm cs g/\gk ps (some 0) ((cs.map g).take (i+1))=B:=λB=>by
 have aa:c∈cs:=gt hc
 have et : ∀g:Str->Int,(cs.map g).take (i+1)=(cs.map g).take i++[g c]:=λg=>by rw[j6,f_,hc];rfl
 have Z:c∉cs.take i:=λhm=>by
  have e2:cs.take (i+1)=cs.take i++[c]:=by rw[j6,hc];rfl
  have hd:(cs.take i++[c]).Nodup:=by rw[<- e2];exact hn.sublist (x8 _ _)
  rw[t9] at hd;exact hd.2.2 _ hm _ (by simp) rfl
 rw[h']
 constructor
 .rintro⟨k,hk,v,hv,rfl⟩
  obtain⟨g,L,rfl⟩:=(h k).mp hk;refine⟨λx=>if x=c then v else g x,λx Y=>?_,?_⟩
  .by_cases e:x=c
   .subst e;simpa using hv
   .simpa [e] using L x Y
  .rw[et,mE]
   have e1:(cs.map λx=>if x=c then v else g x).take i=(cs.map g).take i:=by
    rw[<- map_take,<- map_take]
    apply nL
    intro x Y;have:x≠c:=λe=>Z (e ▸ Y)
    simp[this]
   rw[e1];simp[gk]
 .rintro⟨g,L,rfl⟩
  refine⟨_,(h _).mpr ⟨g,L,rfl⟩,g c,L c aa,?_⟩
  rw[et,mE];rfl
theorem Bn (es:List Int) (k:Option Int):inV (oV k) (es.map V.int)=uX es k:=by
 cases k with
 | some s=>exact cE s es
 | none =>
  show inV .non (es.map V.int)=false
  induction es with
  | nil=>rfl
  | cons a es B=>rw[j8];unfold inV at B ⊢;rw[any_cons,B];rfl
theorem lT (T:Txt w K mg) (L:ck K (gJ K (ao mg "Wish") "__init__") "__init__" "Wish.__init__" bD ["self","wish"]):FnR P w K mg base (gJ K (ao mg "Wish") "__init__") 1 ["self","wish"] (dq mg "Way"):=by
 ctx_has z bX <;> obtain⟨p,dx,fs,w,rfl,hp,B,k⟩:=h
 .rfl
 refine⟨_,(aj (bF T.cl_Way T.no_Way_wish (pvM 0) (pvM 1) rfl)),?_⟩
 ctx_has v hp
 exact⟨B,k⟩
theorem pI (T:Txt w K mg) (L:ck K (Mk K (ao mg "Way")) "__init__" "Way.__init__" gG ["self","wish"]) (F:FnR P w K mg base (gJ K (ao mg "Wish") "__init__") 1 ["self","wish"] (dq mg "Way")):FnR P w K mg base (Mk K (ao mg "Way")) 2 ["self","wish"] (wP mg "Way"):=by
 ctx_has z pB <;> obtain⟨p,dx,w,dat,rfl,hp,hW,aa,k⟩:=h
 .rfl
 refine⟨_,(ag (ci (iO F (hr.mono (by ctx_has m)) rfl T.at_Wish (ac (pvM 0) (ac (pvM 1) af))))
  (ag (bF T.cl_Way T.no_Way_cells (pvM 0) (az aR (pvM 1) ah) rfl)
  (ag (bF T.cl_Way T.no_Way_ends (pvM 0) (az aR (pvM 1) ah) rfl)
  (ag (bF T.cl_Way T.no_Way_leads (pvM 0) vQ rfl)
  (aj (bx (cg K (az aR (pvM 1) ah)) (ay 2) (aj (zS hu (aN T.cl_Way T.no_Way_leads (pvM 0)) (bL mL (pvM 2) cA (bW ah)) (az aR (pvM 2) ah) rfl)))))))),?_⟩
 obtain⟨cs,ps,es⟩:=dat;obtain⟨c,t,e,vs,hw,h2,h3,h4,h5⟩:=hW;obtain⟨as,rfl,rfl,ak⟩:=h4;have am:=aa.2.2.2.1;have an:=aa.2.2.2.2.1;have pt : ∀b xs,H b>>xs->b≠p:=λb xs e=>aZ e hp (by intro z;cases z)
 have pw:=pt _ _ hw;ctx_has v hw
 refine⟨p,dx,[],.ref w,rfl,hp,∅,?_⟩
 ctx_has v ae
 refine⟨_,by rw[ai pw];exact hw,?_⟩
 ctx_has v
 refine⟨dE (A2 _ "" "" "" _ .non .non .non),_,by rw[ai pw,ai pw];exact hw,?_⟩
 ctx_has v xS
 refine⟨dE (Ap _ _ "" "" _ _ .non .non),λl hl=>?_⟩
 simp only[my] at hl ⊢;have lp:l≠p:=λz=>by rw[z,ae] at hl;cases hl
 have Y:H l=none:=by rw[ai lp] at hl;exact hl
 refine⟨dx,_,by rw[ai (p7 lp)];exact ae,dE (EW _ _ _ "" _ _ _ .non),_,by rw[ai pw,ai (au hw Y),ai pw];exact hw,_,rfl,t,rfl,_,by rw[ai (pt _ _ h3),ai (au h3 Y),ai (pt _ _ h3)];exact h3,?_⟩
 have lk:(cy "leads" (.ref l) (cy "ends" (.ref e) (cy "cells" (.ref c) (cy "wish" (.ref w) [])))).lookup (b_ "leads")=some (.ref l):=by simp only[bA,if_true]
 have B5 : ∀o1 o2,gE p H (upd (upd (upd H p o1) l (.dT [])) p o2):=λo1 o2 b o hb e=>by rw[ai hb,ai (au e Y),ai hb];exact e
 refine cu aY (λi σ H'=>∃v2,σ=[-p,-w,v2]/\gE p H H'/\H' p=some (.ins (ao mg "Way") dx (cy "leads" (.ref l) (cy "ends" (.ref e) (cy "cells" (.ref c) (cy "wish" (.ref w) [])))))/\H' l=some (.dT (cN ((as.map (·.2)).take i)))) ⟨_,rfl,B5 _ _,ae,by rw[ai lp];exact ae⟩ (λi σ H' ad=>by obtain⟨_,_,B,_⟩:=ad;exact(.of (B _ _ (pt _ _ h3) h3))) ?_ ?_
 .rintro i x σ H' hi Z ⟨v2,rfl,B,hpp,hd⟩
  obtain⟨y,hy,rfl⟩ : ∃y,as[i]? = some y/\V.ref y.1=x:=by
   rw[f_] at Z;cases e:as[i]? with
   | none=>rw[e] at Z;cases Z
   | some nm=>rw[e] at Z;exact⟨nm,rfl,ge Z⟩
  have ab:=ak y (gt hy);have ar:=B _ _ (pt _ _ ab) ab;ctx_has v zB ar hpp lk
  intro q H2 hq s2;have aq:(as.map (·.2))[i]? = some y.2:=by rw[f_,hy];rfl
  refine⟨_,xZ.t (k:=[i4 y.2.1,i4 y.2.2.1]) (s2 _ _ hd) hq ?_,λb o hb e=>?_,by rw[ai (p7 lp)];exact s2 _ _ hpp,by rw[ae,ro am aq]⟩
  .unfold cN
   rw[d_];exact p_ (p9 _ _) (g7 (show(as.map (·.2)).length < 1000 by have:(as.map (·.2)).length<=60:=an;omega) ∅)
  .rw[ai (au e Y)]
   exact s2 _ _ (B b o hb e)
 .rintro σ H' ⟨v2,rfl,B,hpp,hd⟩
  rw[d_,show(as.map (·.2)).take as.length=as.map (·.2) from o6 (by simp)] at hd
  have kt : ∀b xs,H b>>xs->H' b>>xs:=λb xs e=>B _ _ (pt _ _ e) e
  ctx_has v
  refine k _ ⟨dx,_,w,c,e,l,hpp,⟨c,t,e,_,kt _ _ hw,kt _ _ h2,kt _ _ h3,⟨as,rfl,rfl,λx Z=>kt _ _ (ak x Z)⟩,kt _ _ h5⟩,kt _ _ h2,kt _ _ h5,hd,?_⟩ B
  simp only[bA,eA,String.reduceEq,if_true,if_false,true_and,KL,and_self]
theorem jZ (T : Txt w K mg) (L:ck K (aD K (ao mg "Way") "states_behind") "states_behind" "Way.states_behind" dS ["self","states","room"]):FnR P w K mg base (aD K (ao mg "Way") "states_behind") 1 ["self","states","room"] (C9 P w mg):=by
  ctx_has z kb <;> obtain⟨p,d,r,dat,o,ks,rs,rfl,hO,a2,hd,az,k⟩:=h
  . rfl
  refine⟨_,(ag (aC 3 (zR (P:=P) (w:=w) rfl rfl eh))
    (ag (bx (BS (P:=P) (w:=w) rfl rfl (pvM 1)) (ay 4) (aj (bx (cg K (pvM 2)) (ay 5) (aj (DT (P:=P) (w:=w) rfl rfl hu (pvM 3) (DS hu (aN T.cl_Way T.no_Way_leads (pvM 0)) (cp (ac (pvM 4) (ac (pvM 5) af))) ⟨rfl,rfl,rfl,rfl⟩) dm rfl)))))
    (aj (aw (pvM 3))))),?_⟩
  obtain⟨cs,ps,es⟩:=dat;obtain⟨dx,fs,wa,c,e,l,h1,h2,h3,h4,h5,l1,l2,l3,l4,l5⟩:=hO;have a4:ps.length<=60:=a2.2.2.2.2.1
  ctx_has v EN uq
  intro q hq;refine⟨[],ae,∅,λo1=>?_⟩
  rw[my];ctx_has v iN
  refine⟨o,ks,(ap.upd0 hq) _ _ hd,?_⟩
  refine cu BB (λi σ H'=>∃o' Z v4 v5,σ=[-p,-d,-r,-q,v4,v5]/\ap H H'/\H' q=some (fm P w q o' Z)/\Z.Nodup/\(∀k',k'∈Z↔∃k∈ks.take i,∃v∈rs,kr ps k v=k')) ⟨_,[],_,_,rfl,ap.upd0 hq,ae,by simp,by simp⟩ (λi σ H' ax=>by obtain⟨_,_,_,_,_,sm,_⟩:=ax;exact(sm _ _ hd)) ?_ ?_
  . rintro i x σ H' hi hx ⟨o',Z,v4,v5,rfl,sm,ad,ah,B⟩
    obtain⟨kk,a0,rfl⟩ : ∃y,ks[i]? = some y/\oV y=x:=by
      rw[f_] at hx;cases e:ks[i]? with
      | none=>rw[e] at hx;cases hx
      | some nm=>rw[e] at hx;exact⟨nm,rfl,ge hx⟩
    have a1:=sm _ _ az;ctx_has v a1
    refine cu aY (λj σ H3=>∃o2 F v5,σ=[-p,-d,-r,-q,some (oV kk),v5]/\ap H H3/\H3 q=some (fm P w q o2 F)/\F.Nodup/\(∀k',k'∈F↔(∃k∈ks.take i,∃v∈rs,kr ps k v=k')\/∃v∈rs.take j,kr ps kk v=k')) ⟨_,_,_,rfl,sm,ad,ah,λk'=>by rw[B];simp⟩ (λi σ H' aq=>by obtain⟨_,_,_,_,s3,_⟩:=aq;exact(.of (s3 _ _ az))) ?_ ?_
    . rintro j x σ H3 hj hx ⟨o2,F,v5,rfl,s3,am,aa,ab⟩
      obtain⟨v,hv,rfl⟩ : ∃v,rs[j]? = some v/\V.int v=x:=by
        rw[f_] at hx;cases e:rs[j]? with
        | none=>rw[e] at hx;cases hx
        | some nm=>rw[e] at hx;exact⟨nm,rfl,ge hx⟩
      have a3:=s3 _ _ h1;have ar:=s3 _ _ h5;have ak:F.length < 1000:=by
        have:=dY (ys:=none :: ps.map λx=>some x.2.2) aa λk' an=>by
          rcases (ab k').mp an with⟨k0,_,v0,_,rfl⟩ | ⟨v0,_,rfl⟩
          . exact lw _ _ _
          . exact lw _ _ _
        simp at this
        omega
      ctx_has v BX C2 a3 l4
      refine⟨ps,ar,∅,λtp g1=>⟨(ap.upd0 g1) _ _ ar,kk,v,ae,_,rfl,o2,F,(ap.upd0 g1) _ _ am,ak,λo'=>⟨λb o e=>?_,o',_,ae,wA aa,λk'=>?_⟩⟩⟩
      . rw[ai (au e hq)]
        exact(ap.upd0 g1) _ _ (s3 b o e)
      . rw[Bh,ab,j6,hv]
        constructor
        . rintro((z | ⟨v0,Y,z⟩) | rfl)
          . exact .inl z
          . exact .inr ⟨v0,m9 _ Y,z⟩
          . exact .inr ⟨v,o_ _ (by simp),rfl⟩
        . rintro(z | ⟨v0,Y,z⟩)
          . exact .inl (.inl z)
          . rcases j9.mp Y with Y | Y
            . exact .inl (.inr ⟨v0,Y,z⟩)
            . have e0:v0=v:=by simpa using Y
              subst e0;exact .inr z.symm
    . rintro σ H3 ⟨o2,F,v5,rfl,s3,am,aa,ab⟩
      rw[d_,la] at ab;refine⟨o2,F,_,_,rfl,s3,am,aa,λk'=>?_⟩
      rw[ab,j6,a0]
      constructor
      . rintro(⟨k0,Y,z⟩ | z)
        . exact⟨k0,m9 _ Y,z⟩
        . exact⟨kk,o_ _ (by simp),z⟩
      . rintro⟨k0,Y,z⟩
        rcases j9.mp Y with Y | Y
        . exact .inl ⟨k0,Y,z⟩
        . have e0:k0=kk:=by simpa using Y
          subst e0;exact .inr z
  . rintro σ H' ⟨o',Z,v4,v5,rfl,sm,ad,ah,B⟩
    ctx_has v
    rw[d_,la] at B;have ak:Z.length<=100:=by
      have:=dY (ys:=none :: ps.map λx=>some x.2.2) ah λk' an=>by
        obtain⟨k0,_,v0,_,rfl⟩:=(B k').mp an;exact lw _ _ _
      simp at this
      omega
    exact k q o' Z H' sm ad ak B
theorem ln (T:Txt w K mg) (L:ck K (aD K (ao mg "Way") "last_states") "last_states" "Way.last_states" fk ["self","rooms"]) (B:FnR P w K mg base (aD K (ao mg "Way") "states_behind") 1 ["self","states","room"] (C9 P w mg)):FnR P w K mg base (aD K (ao mg "Way") "last_states") 2 ["self","rooms"] (uW P w mg):=by
 ctx_has z ls <;> obtain⟨p,r,dat,kvs,rm,rfl,M,k⟩:=h
 .rfl
 refine⟨_,(ag (aC 2 (zR (P:=P) (w:=w) rfl rfl (vc (iB ah dm uO) rfl rfl (by nofun) ∅)))
  (ag (bx (cg K (aN T.cl_Way T.no_Way_cells (pvM 0))) (ay 3) (aj (aC 2 (bZ T.cl_Way B (hr.mono (by ctx_has m)) (pvM 0) (ac (pvM 2) (ac (bC hu (pvM 1) (pvM 3)) af))))))
  (aj (aw (pvM 2))))),?_⟩
 obtain⟨dx,fs,wa,c,e,l,h1,h2,h3,h4,h5,l1,l2,l3,l4,l5,l6,l7,l8,l9⟩:=id M.ob;have F:=M.ok;have aa:=F.2.1;obtain⟨cs,ps,es⟩:=dat;ctx_has v EN
 intro q hq;have em:df ([]:List (Key × V)) [(i4 0,.bl true)]=[(i4 0,.bl true)]:=eU _ fg
 refine⟨ae,[(i4 0,.bl true)],rfl,∅,[0],by rw[ae,em];rfl,∅,λo=>?_⟩
 simp only[my];refine⟨dx,fs,(ap.upd0 hq) _ _ h1,_,l2,c,rfl,_,(ap.upd0 hq) _ _ h3,?_⟩
 refine cu aY (λi σ H'=>∃q o ks v3,σ=[-p,-r,-q,v3]/\ap H H'/\H' q=some (fm P w q o ks)/\ks.length<=100/\(∀k',k'∈ks↔∃g,okF rm cs g/\gk ps (some 0) ((cs.map g).take i)=k')) ⟨q,o,[some 0],_,rfl,ap.upd0 hq,ae,∅,λk'=>?_⟩ (λi σ H' Y=>by obtain⟨_,_,_,_,_,s3,_⟩:=Y;exact(.of (s3 _ _ h3))) ?_ ?_
 .constructor
  .intro z
   refine⟨λc=>(rm c).headD 0,λc hc=>?_,(fx.mp z).symm⟩
   have:=(M.ne c hc).1
   show(rm c).headD 0∈rm c
   cases e:rm c with
   | nil=>exact absurd e this
   | cons a b=>simp
  .rintro⟨g,_,rfl⟩
   exact fx.mpr rfl
 .rintro i x σ H' hi hx ⟨q1,o1,ks,v3,rfl,sm,hq1,hkl,hmem⟩
  obtain⟨cc,Z,rfl⟩ : ∃y,cs[i]? = some y/\V.str y=x:=by
   rw[f_] at hx;cases e:cs[i]? with
   | none=>rw[e] at hx;cases hx
   | some nm=>rw[e] at hx;exact⟨nm,rfl,ge hx⟩
  have am:=sm _ _ h1;have an:=sm _ _ M.rd;obtain⟨ad,hv,ar⟩:=M.rf cc (gt Z);ctx_has v am an
  exact⟨l8,_,hv,p,q1,ad,(cs,ps,es),o1,ks,rm cc,rfl,BI M.ob (ap.keepTI sm),F,hq1,sm _ _ ar,λq2 o2 ak H2 s2 aq ab ai=>⟨q2,rfl,sm.trans s2,o2,ak,aq,ab,Be aa Z hmem ai⟩⟩
 .rintro σ H' ⟨q1,o1,ks,v3,rfl,sm,hq1,hkl,hmem⟩
  ctx_has v
  rw[d_] at hmem;refine k q1 o1 ks H' sm hq1 hkl λk'=>?_
  rw[hmem]
  constructor
  .rintro⟨g,hg,z⟩
   exact⟨g,hg,by rw[o6 (by simp)] at z;exact z⟩
  .rintro⟨g,hg,z⟩
   exact⟨g,hg,by rw[o6 (by simp)];exact z⟩
theorem px (T:Txt w K mg) (L:ck K (aD K (ao mg "Way") "may_keep") "may_keep" "Way.may_keep" eV ["self","rooms"]) (B:FnR P w K mg base (aD K (ao mg "Way") "last_states") 2 ["self","rooms"] (uW P w mg)):FnR P w K mg base (aD K (ao mg "Way") "may_keep") 22 ["self","rooms"] (eI mg):=by
 ctx_has z pE <;> obtain⟨p,r,dat,kvs,rm,rfl,M,k⟩:=h
 .rfl
 refine⟨_,(aj (aw (aE (gv rfl) T.b_any (ac (aV (N:=["state","self"]) (nt:=1) (js:=[0]) (aG ["self","rooms"] (ak eV).names) (BS (P:=P) (w:=w) rfl rfl (bZ T.cl_Way B (hr.mono (by ctx_has m)) (pvM 0) (ac (pvM 1) af))) (ay 0) aU bv (aQ ft (pvM 0) (aN T.cl_Way T.no_Way_ends (pvM 1)))) af)))),?_⟩
 obtain⟨dx,fs,wa,c,e,l,h1,h2,h3,h4,h5,l1,l2,l3,l4,l5,l6,l7,l8,l9⟩:=id M.ob;obtain⟨cs,ps,es⟩:=dat;ctx_has v h1 iN
 refine⟨l9,p,r,(cs,ps,es),kvs,rm,rfl,M,λq o ks H1 s1 hq hl hm=>⟨q,rfl,o,ks,hq,λD hD=>?_⟩⟩
 refine bS BB (λv=>.bl (inV v (es.map V.int))) hD (λH' s'=>s' _ _ hq) (by rw[d_];omega) ?_ ?_
 .intro x H2 Q2 hx s2 q2
  obtain⟨kk,_,rfl⟩:=hH.mp hx;have aa:=s2 _ _ (s1 _ _ h1);have Y:=s2 _ _ (s1 _ _ h4);ctx_has v aa l3
  exact⟨_,Y,by cases kk <;> rfl,cj es,q2 H2 (ap.refl _)⟩
 .intro H2 s2 hd2
  refine⟨D,rfl,ks.map (λk=>uX es k),?_,k _ H2 ?_ (s1.trans s2)⟩
  .rw[hd2,k6,k6]
   refine congrArg (λz=>some (HO.lst z)) (nL λF _=>?_)
   show V.bl (inV (oV F) (es.map V.int))=V.bl (uX es F)
   rw[Bn]
  .rw[v9]
   constructor
   .rintro⟨b,hb,e⟩
    obtain⟨F,ab,rfl⟩:=hH.mp hb;obtain⟨g,Z,rfl⟩:=(hm F).mp ab;exact⟨g,Z,e⟩
   .rintro⟨g,Z,e⟩
    exact⟨_,hH.mpr ⟨_,(hm _).mpr ⟨g,Z,rfl⟩,rfl⟩,e⟩
theorem nN (T:Txt w K mg) (L:ck K (aD K (ao mg "Way") "may_break") "may_break" "Way.may_break" eB ["self","rooms"]) (B:FnR P w K mg base (aD K (ao mg "Way") "last_states") 2 ["self","rooms"] (uW P w mg)):FnR P w K mg base (aD K (ao mg "Way") "may_break") 22 ["self","rooms"] (dv mg):=by
 ctx_has z oh <;> obtain⟨p,r,dat,kvs,rm,rfl,M,k⟩:=h
 .rfl
 refine⟨_,(aj (aw (aE (gv rfl) T.b_any (ac (aV (N:=["state","self"]) (nt:=1) (js:=[0]) (aG ["self","rooms"] (ak eB).names) (BS (P:=P) (w:=w) rfl rfl (bZ T.cl_Way B (hr.mono (by ctx_has m)) (pvM 0) (ac (pvM 1) af))) (ay 0) aU bv (aQ tx (pvM 0) (aN T.cl_Way T.no_Way_ends (pvM 1)))) af)))),?_⟩
 obtain⟨dx,fs,wa,c,e,l,h1,h2,h3,h4,h5,l1,l2,l3,l4,l5,l6,l7,l8,l9⟩:=id M.ob;obtain⟨cs,ps,es⟩:=dat;ctx_has v h1 iN
 refine⟨l9,p,r,(cs,ps,es),kvs,rm,rfl,M,λq o ks H1 s1 hq hl hm=>⟨q,rfl,o,ks,hq,λD hD=>?_⟩⟩
 refine bS BB (λv=>.bl (!inV v (es.map V.int))) hD (λH' s'=>s' _ _ hq) (by rw[d_];omega) ?_ ?_
 .intro x H2 Q2 hx s2 q2
  obtain⟨kk,_,rfl⟩:=hH.mp hx;have aa:=s2 _ _ (s1 _ _ h1);have Y:=s2 _ _ (s1 _ _ h4);ctx_has v aa l3
  exact⟨_,Y,by cases kk <;> rfl,cj es,q2 H2 (ap.refl _)⟩
 .intro H2 s2 hd2
  refine⟨D,rfl,ks.map (λk=>!uX es k),?_,k _ H2 ?_ (s1.trans s2)⟩
  .rw[hd2,k6,k6]
   refine congrArg (λz=>some (HO.lst z)) (nL λF _=>?_)
   show V.bl (!inV (oV F) (es.map V.int))=V.bl (!uX es F)
   rw[Bn]
  .rw[v9]
   constructor
   .rintro⟨b,hb,e⟩
    obtain⟨F,ab,rfl⟩:=hH.mp hb;obtain⟨g,Z,rfl⟩:=(hm F).mp ab;exact⟨g,Z,(by simpa [vF,gY] using e)⟩
   .rintro⟨g,Z,e⟩
    exact⟨_,hH.mpr ⟨_,(hm _).mpr ⟨g,Z,rfl⟩,rfl⟩,(by simpa [vF,gY] using e)⟩
abbrev mS:=List (Int × Str) × Option Int × Option Int
def WSS (H:Hp) (w:Addr) (dat:mS) (cs:List Str):Prop:=∃t,H w>>[.str "sum",.ref t,bV dat.2.1,bV dat.2.2]/\ia H t dat.1
def Ih (dat:mS) (cs:List Str):Prop:=dat.1.map (·.2)=cs/\cs≠[]/\∀x∈dat.1,-1000000<=x.1/\x.1<=1000000
def OBS (mg:Str->Option Value) (H:Hp) (t:Addr) (dat:mS) (cs:List Str):Prop:=∃dx fs te,H t=some (.ins (ao mg "Sum") dx fs)/\ia H te dat.1/\fs.lookup (b_ "terms")=some (.ref te)/\fs.lookup (b_ "low")=some (bV dat.2.1)/\fs.lookup (b_ "high")=some (bV dat.2.2) /\
 fs.lookup (b_ "may_keep")=none/\fs.lookup (b_ "may_break")=none/\fs.lookup (b_ "may_end_well")=none/\fs.lookup (b_ "sums_with")=none/\fs.lookup (b_ "sums_kept")=none
theorem zu {t:Addr} {dat:mS} (h:OBS mg H t dat cs) : ∃dx fs,H t=some (.ins (ao mg "Sum") dx fs)/\fs.lookup (b_ "may_keep")=none/\fs.lookup (b_ "may_break")=none:=by
 obtain⟨dx,fs,te,h1,h2,L,Z,Y,B,F,_⟩:=h;exact⟨dx,fs,h1,B,F⟩
theorem wI {t:Addr} {dat:mS} (h:OBS mg H t dat cs) (k:gL H H'):OBS mg H' t dat cs:=by
 obtain⟨dx,fs,te,h1,h2,B⟩:=h;exact⟨dx,fs,te,k.ins _ _ _ _ h1,h2.keep k.tup,B⟩
def fF (ts:List (Int × Str)) (g:Str->Int):Int:=(ts.map λx=>x.1 * g x.2).sum
def vA (dat:mS) (cs:List Str) (g:Str->Int):Bool:=dW (fF dat.1 g) dat.2.1 dat.2.2
def yV (mg:Str->Option Value):Sp:=λvs H Q _=>∃(p dx w:Addr) (dat:mS) (cs:List Str),vs=[.ref p,.ref w]/\H p=some (.ins (ao mg "Sum") dx [])/\WSS H w dat cs/\∀H',OBS mg H' p dat cs->HW mg "Sum" H' p w->gE p H H'->Q .non H'
structure yj (mg:Str->Option Value) (H:Hp) (p r:Addr) (dat:mS) (cs:List Str) (kvs:List (Key × V)) (rm:Str->List Int):Prop where
 ob:OBS mg H p dat cs
 rd:H r<*kvs
 rf:bQ H kvs cs rm
 ok:Ih dat cs
 nd:cs.Nodup
 cl:cs.length<=6
 gd : ∀c∈cs,1<=(rm c).length/\(rm c).length<=4/\(rm c).Nodup
def eG (mg:Str->Option Value):Sp:=λvs H Q _=>∃(p r:Addr) (dat:mS) (cs:List Str) (kvs:List (Key × V)) (rm:Str->List Int),vs=[.ref p,.ref r]/\yj mg H p r dat cs kvs rm/\∀(b:Bool) H',(b=true↔∃g,okF rm cs g/\vA dat cs g=true)->ap H H'->Q (.bl b) H'
def dG (mg:Str->Option Value):Sp:=λvs H Q _=>∃(p r:Addr) (dat:mS) (cs:List Str) (kvs:List (Key × V)) (rm:Str->List Int),vs=[.ref p,.ref r]/\yj mg H p r dat cs kvs rm/\∀(b:Bool) H',(b=true↔∃g,okF rm cs g/\vA dat cs g=false)->ap H H'->Q (.bl b) H'
structure dh (rm:Str->List Int) (ts:List (Int × Str)) (lo hi:Int):Prop where
 bd : ∀g,okF rm (ts.map (·.2)) g->lo<=fF ts g/\fF ts g<=hi
 lo' : ∃g,okF rm (ts.map (·.2)) g/\fF ts g=lo
 hi' : ∃g,okF rm (ts.map (·.2)) g/\fF ts g=hi
theorem dh.nil (rm:Str->List Int):dh rm [] 0 0:=⟨λg _=>⟨Int.le_refl _,Int.le_refl _⟩,⟨λ_=>0,λc B=>by simp at B,rfl⟩,⟨λ_=>0,λc B=>by simp at B,rfl⟩⟩
theorem dh.zero {hi:Int} (h:dh rm [] lo hi):lo=0/\hi=0:=by
 obtain⟨g,_,e⟩:=h.lo';obtain⟨g',_,B⟩:=h.hi';exact⟨e.symm,B.symm⟩
theorem kY (a:Int) (c:Str) (ts:List (Int × Str)) (g:Str->Int):fF ((a,c) :: ts) g=a * g c+fF ts g:=by simp[fF]
theorem lb (h:c∉ts.map (·.2)):fF ts (bO g c v)=fF ts g:=by
 unfold fF;rw[nL (f:=λx:Int × Str=>x.1 * bO g c v x.2) (g:=λx:Int × Str=>x.1 * g x.2) λx B=>by rw[du _ _ (λe=>h (hH.mpr ⟨x,B,e⟩))]]
theorem tf (h:okF rm cs g) (F:v∈rm c):okF rm (c :: cs) (bO g c v):=λx B=>by
 by_cases e:x=c
 .subst e;rw[bK];exact F
 .rw[du _ _ e];exact h x ((i6.mp B).resolve_left e)
theorem dh.cons {hi a M:Int} (h:dh rm ts lo hi) (Z:c∉ts.map (·.2)) (hm:m∈(rm c).map (a * ·)) (L : ∀x∈(rm c).map (a * ·),m<=x) (hM:M∈(rm c).map (a * ·)) (B : ∀x∈(rm c).map (a * ·),x<=M):dh rm ((a,c) :: ts) (lo+m) (hi+M):=by
 refine⟨λg Y=>?_,?_,?_⟩
 .have h1:=h.bd g λx hx=>Y x (i7 _ hx)
  have h2:a * g c∈(rm c).map (a * ·):=hH.mpr ⟨g c,Y c (by simp),rfl⟩
  have h3:=L _ h2;have h4:=B _ h2;rw[kY];omega
 .obtain⟨g,g1,g2⟩:=h.lo'
  obtain⟨v,F,e⟩:=hH.mp hm;exact⟨bO g c v,tf g1 F,by rw[kY,bK,lb Z];have e:a * v=_:=e;omega⟩
 .obtain⟨g,g1,g2⟩:=h.hi'
  obtain⟨v,F,e⟩:=hH.mp hM;exact⟨bO g c v,tf g1 F,by rw[kY,bK,lb Z];have e:a * v=_:=e;omega⟩
def DV:Sp:=λvs H Q _=>∃(t r F:Addr) (a:Int) (c:Str) (kvs:List (Key × V)) (B:List Int),vs=[.ref t,.ref r]/\H t>>[.int a,.str c]/\H r<*kvs/\bM kvs (g6 c)=some (.ref F)/\H F>>(B.map V.int)/\(-1000000<=a/\a<=1000000)/\B.length<=10/\∀l H',ap H H'->H l=none->H' l*>((B.map (a * ·)).map V.int)->Q (.ref l) H'
def Cr:Sp:=λvs H Q _=>∃(t r:Addr) (ts:List (Int × Str)) (kvs:List (Key × V)) (rm:Str->List Int),vs=[.ref t,.ref r]/\ia H t ts/\H r<*kvs/\bQ H kvs (ts.map (·.2)) rm/\(ts.map (·.2)).Nodup/\ts.length<=12/\(∀x∈ts,-1000000<=x.1/\x.1<=1000000)/\(∀c∈ts.map (·.2),rm c≠[]/\(rm c).length<=10) /\
 ∀(l:Addr) (zs:List (Addr × Int × Int)) H',ap H H'->H' l*>(zs.map λx=>V.ref x.1)->zs.length=ts.length+1->(∀x∈zs,H' x.1>>[.int x.2.1,.int x.2.2])->(∀(i:Nat) z,zs[i]? = some z->dh rm (ts.drop i) z.2.1 z.2.2)->Q (.ref l) H'
def gi (s mn B:Int) (lo hi:Option Int):Bool:=(match lo with | none=>true | some a=>decide (a<=s+B)) && (match hi with | none=>true | some b=>decide (s+mn<=b))
def BP (mg:Str->Option Value):Sp:=λvs H Q _=>∃(p b:Addr) (s mn B:Int) (dat:mS) (cs:List Str),vs=[.ref p,.int s,.ref b]/\OBS mg H p dat cs/\H b>>[.int mn,.int B]/\Q (.bl (gi s mn B dat.2.1 dat.2.2)) H
def oQ (kvs:List (Key × V)):Prop:=∀x∈kvs,∃i:Int,x.1=i4 i
def gg (kvs:List (Key × V)) (s:Int):Prop:=(bM kvs (i4 s)).isSome=true
def Ac (mg:Str->Option Value):Sp:=λvs H Q _=>∃(p r l b:Addr) (kvs:List (Key × V)) (ps:List Int) (mn B:Int) (dat:mS) (cs:List Str),vs=[.ref p,.ref r,.ref l,.ref b]/\OBS mg H p dat cs/\H r<*kvs/\oQ kvs/\H l*>(ps.map V.int)/\H b>>[.int mn,.int B]/\kvs.length * ps.length<=100000 /\
 ∀(q:Addr) (kv:List (Key × V)) H',ap H H'->H' q<*kv->oQ kv->kv.length<=kvs.length * ps.length->(∀s,gg kv s↔∃e,gg kvs e/\∃x∈ps,s=e+x/\gi s mn B dat.2.1 dat.2.2=true)->Q (.ref q) H'
theorem nR {s:Int} (F:(∃v,(i4 s,v)∈kvs)):gg kvs s:=by
 obtain⟨v,B⟩:=F;unfold gg
 induction kvs with
 | nil=>simp at B
 | cons x kvs L =>
  by_cases e:x.1=i4 s
  .obtain⟨x1,x2⟩:=x
   simp only at e;subst e;rw[bJ rfl];rfl
  .obtain⟨x1,x2⟩:=x
   rw[aX e];exact L ((i6.mp B).resolve_left λz=>e (congrArg Prod.fst z).symm)
theorem nA {s:Int} (h:gg kvs s) : ∃v,(i4 s,v)∈kvs:=by
 unfold gg at h
 induction kvs with
 | nil=>rw[fg] at h;cases h
 | cons x kvs L =>
  obtain⟨x1,B⟩:=x
  by_cases e:x1=i4 s
  .subst e;exact⟨B,by simp⟩
  .rw[aX e] at h
   obtain⟨v,F⟩:=L h;exact⟨v,i7 _ F⟩
theorem AX {s t:Int} {v:V}:gg (bu kvs (i4 t) v) s↔s=t\/gg kvs s:=by
 unfold gg;rw[gC]
 by_cases e:s=t
 .subst e;simp
 .rw[if_neg (λz=>e (K2 z))];simp[e]
theorem oQ.put {t:Int} {v:V} (h:oQ kvs):oQ (bu kvs (i4 t) v):=by
 intro x B;unfold bu at B
 split at B
 .obtain⟨y,hy,rfl⟩:=hH.mp B
  split
  .rename_i e;exact⟨t,e⟩
  .exact h y hy
 .rcases j9.mp B with q | q
  .exact h x q
  .rw[fx.mp q];exact⟨t,rfl⟩
theorem je (as bs:List (Int × Str)) (g:Str->Int):fF (as++bs) g=fF as g+fF bs g:=by simp[fF]
theorem vL (ts:List (Int × Str)) (i:Nat) (g:Str->Int):fF ts g=fF (ts.take i) g+fF (ts.drop i) g:=by rw[<- je,List.take_append_drop]
theorem Ge {mn F:Int} {lo:Option Int} (h:dh rm (ts.drop i) mn F) (Y:okF rm (ts.map (·.2)) g) (L:dW (fF ts g) lo hi=true):gi (fF (ts.take i) g) mn F lo hi=true:=by
 have h1:=h.bd g λc B=>Y c (by rw[map_drop] at B;exact L1 B)
 have h2:=vL ts i g;cases lo <;> cases hi <;> simp[dW,gi] at L ⊢
 .omega
 .omega
 .omega
theorem DP {s mn B:Int} {lo:Option Int} (h:dh rm [] mn B):gi s mn B lo hi=dW s lo hi:=by
 obtain⟨rfl,rfl⟩:=h.zero;cases lo <;> cases hi <;> simp[dW,gi]
theorem wN {a b:Int} {lo:Option Int} (h:dh rm ts a b):(!dW a lo hi || !dW b lo hi)=true↔∃g,okF rm (ts.map (·.2)) g/\dW (fF ts g) lo hi=false:=by
 constructor
 .intro hb
  rw[Bool.or_eq_true,Bool.not_eq_true',Bool.not_eq_true'] at hb;rcases hb with hb | hb
  .obtain⟨g,g1,g2⟩:=h.lo'
   exact⟨g,g1,by rw[g2];exact hb⟩
  .obtain⟨g,g1,g2⟩:=h.hi'
   exact⟨g,g1,by rw[g2];exact hb⟩
 .rintro⟨g,g1,g2⟩
  have:=h.bd g g1
  refine o9 λB=>?_
  have B:dW a lo hi=true/\dW b lo hi=true:=by
   cases e1:dW a lo hi <;> cases e2:dW b lo hi <;> simp[e1,e2] at B ⊢
  obtain⟨h1,h2⟩:=B;rw[Bool.eq_false_iff] at g2;refine g2 ?_
  cases lo <;> cases hi <;> simp[dW] at h1 h2 ⊢
  .omega
  .omega
  .omega
def xp (mg:Str->Option Value):Sp:=λvs H Q _=>∃(p r:Addr) (dat:mS) (cs:List Str) (kvs:List (Key × V)) (rm:Str->List Int),vs=[.ref p,.ref r]/\yj mg H p r dat cs kvs rm/\∀(q:Addr) (kv:List (Key × V)) H',H' q<*kv->(0 < kv.length↔∃g,okF rm cs g/\vA dat cs g=true)->ap H H'->Q (.ref q) H'
theorem GO (h:i<=6):4 ^ i<=4096:=ja (LR ∅ h) ∅
theorem Aq (h : ∀c∈cs,1<=(rm c).length) : ∃g,okF rm cs g:=by
 refine⟨λc=>(rm c).headD 0,λc B=>?_⟩
 show(rm c).headD 0∈rm c
 have:=h c B
 cases e:rm c with
 | nil=>rw[e] at this;simp at this
 | cons a b=>simp
theorem EZ (h:okF rm cs g) (F:v∈rm c):okF rm cs (bO g c v):=λx B=>by
 by_cases e:x=c
 .subst e;rw[bK];exact F
 .rw[du _ _ e];exact h x B
theorem lV (T:Txt w K mg) (L:ck K (gJ K (ao mg "Wish") "__init__") "__init__" "Wish.__init__" bD ["self","wish"]):FnR P w K mg base (gJ K (ao mg "Wish") "__init__") 1 ["self","wish"] (dq mg "Sum"):=by
 ctx_has z bX <;> obtain⟨p,dx,fs,w,rfl,hp,B,k⟩:=h
 .rfl
 refine⟨_,(aj (bF T.cl_Sum T.no_Sum_wish (pvM 0) (pvM 1) rfl)),?_⟩
 ctx_has v hp
 exact⟨B,k⟩
theorem pF (T:Txt w K mg) (L:ck K (Mk K (ao mg "Sum")) "__init__" "Sum.__init__" gS ["self","wish"]) (B:FnR P w K mg base (gJ K (ao mg "Wish") "__init__") 1 ["self","wish"] (dq mg "Sum")):FnR P w K mg base (Mk K (ao mg "Sum")) 2 ["self","wish"] (yV mg):=by
 ctx_has z pj <;> obtain⟨p,dx,w,dat,cs,rfl,hp,W,k⟩:=h
 .rfl
 refine⟨_,(ag (ci (iO B (hr.mono (by ctx_has m)) rfl T.at_Wish (ac (pvM 0) (ac (pvM 1) af))))
  (ag (bF T.cl_Sum T.no_Sum_terms (pvM 0) (az aR (pvM 1) ah) rfl)
  (ag (bF T.cl_Sum T.no_Sum_low (pvM 0) (az aR (pvM 1) ah) rfl)
  (aj (bF T.cl_Sum T.no_Sum_high (pvM 0) (az aR (pvM 1) ah) rfl))))),?_⟩
 obtain⟨ts,lo,hi⟩:=dat;obtain⟨t,Y,h2⟩:=W;ctx_has v Y
 have F:w≠p:=aZ Y hp (by intro z;cases z)
 have pt : ∀b xs,H b>>xs->b≠p:=λb xs e=>aZ e hp (by intro z;cases z)
 refine⟨p,dx,[],.ref w,rfl,hp,∅,?_⟩
 ctx_has v ae
 refine⟨_,by rw[ai F];exact Y,?_⟩
 ctx_has v
 refine⟨dE (A2 _ "" "" "" _ .non .non .non),_,by rw[ai F,ai F];exact Y,?_⟩
 ctx_has v
 refine⟨dE (Ap _ _ "" "" _ _ .non .non),_,by rw[ai F,ai F,ai F];exact Y,?_⟩
 ctx_has v
 refine⟨dE (EW _ _ _ "" _ _ _ .non),k _ ⟨dx,_,t,ae,h2.keep λa xs e=>by rw[ai (pt a xs e),ai (pt a xs e),ai (pt a xs e),ai (pt a xs e)];exact e,?_⟩ ⟨dx,_,ae,?_⟩ ?_⟩
 .simp only[bA,eA,String.reduceEq,if_true,if_false,true_and,KL,and_self]
 .simp only[bA,eA,String.reduceEq,if_true,if_false,true_and,KL,and_self]
 .intro b o hb e
  rw[ai hb,ai hb,ai hb,ai hb];exact e
abbrev Hc:=Fn P w K mg base "parts_of" 1 ["term","rooms"] (DV)
theorem xn (T:Txt w K mg) (L:FnL K mg "parts_of" iW ["term","rooms"]) : @Hc P w K mg base:=by
 ctx_has z wU <;> obtain⟨t,r,ad,a,c,kvs,rs,rfl,Z,F,hv,B,ha,hl,k⟩:=h
 .rfl
 refine⟨_,(aj (aw (aV (N:=["value","term"]) (nt:=1) (js:=[0]) (aG ["term","rooms"] (ak iW).names) (cg K (bC hu (pvM 1) (az aR (pvM 0) ah))) (ay 0) aU bv (aM dR (az aR (pvM 1) ah) (pvM 0))))),?_⟩
 ctx_has v Z F hv B
 intro q Y;refine bS aY (λv=>match v with | .int v=>.int (a * v) | _=>.non) Y (λH' s=>.of (s _ _ B)) (by rw[d_];omega) ?_ ?_
 .intro x H2 Q2 hx sm q2
  obtain⟨y,hy,rfl⟩:=hH.mp hx;have e1:=sm _ _ Z;ctx_has v e1
  exact⟨.inl ⟨(),()⟩,q2 H2 (ap.refl _)⟩
 .intro H2 sm h2
  refine k q H2 sm Y ?_
  rw[h2,k6,k6];rfl
abbrev G8:=Fn P w K mg base "spans_of" 2 ["terms","rooms"] (Cr)
theorem wq (T:Txt w K mg) (L:FnL K mg "spans_of" lG ["terms","rooms"]) (Fr : @Hc P w K mg base) : @G8 P w K mg base:=by
 ctx_has z vT <;> obtain⟨t,r,ts,kvs,rm,rfl,hT,aA,a8,a9,hl,aB,a0,k⟩:=h
 .rfl
 refine⟨_,(ag (aC 2 (cG (ac (cp (ac ah (ac ah af))) af)))
  (ag (bx (E5 (K:=K) rfl rfl T.b_reversed (ac (pvM 0) af)) (ay 3) (ag (aC 4 (aq Fr (ac (pvM 3) (ac (pvM 1) af))))
  (aj (ci (jw pb p6 cY (pvM 2) (ac (cp (ac (aM bp (az aR (az gb (pvM 2) (rE lm ah)) ah) (aE (nY rfl) T.b_min (ac (pvM 4) af))) (ac (aM bp (az aR (az gb (pvM 2) (rE lm ah)) ah) (aE (sX rfl) T.b_max (ac (pvM 4) af))) af))) af))))))
  (aj (aw (pT rfl rfl T.b_list rfl T.b_reversed (pvM 2)))))),?_⟩
 obtain⟨as,ht,rfl,aI⟩:=hT;ctx_has v
 refine⟨∅,λz0 a2=>⟨∅,λq hq=>?_⟩⟩
 have s1:ap H (upd (upd H z0 (.tup [.int 0,.int 0])) q (.lst [.ref z0])):=(ap.upd0 a2).upd_new hq
 have zq:z0≠q:=by rintro rfl;rw[ae] at hq;cases hq
 have a7:H q=none:=(ap.upd0 a2).free hq
 refine⟨_,s1 _ _ ht,?_⟩
 have B:(as.map λx=>V.ref x.1).length=as.length:=by simp
 have aL:as.length<=12:=by simpa using hl
 refine cu Eb (λi σ H'=>∃(zs:List (Addr × Int × Int)) (v3 v4:Option V),σ=[-t,-r,-q,v3,v4]/\H' q*>(zs.map λx=>V.ref x.1)/\zs.length=i+1/\(∀x∈zs,H' x.1>>[.int x.2.1,.int x.2.2])/\(∀(j:Nat) z,zs[j]? = some z->dh rm ((as.map (·.2)).drop (as.length - j)) z.2.1 z.2.2)/\ap H H')
  ⟨[(z0,0,0)],_,_,rfl,ae,rfl,λx hx=>?_,λj z Z=>?_,s1⟩ (λi σ H' a3=>by obtain⟨_,_,_,_,_,_,_,_,sm⟩:=a3;exact(.of (sm _ _ ht))) ?_ ?_
 .rw[fx.mp hx,ai zq];exact ae
 .have hj0:j=0:=by have:=(g_.mp Z).1;simp at this;omega
  subst hj0;simp at Z
  subst Z;rw[sub_zero,List.drop_of_length_le (by simp)]
  exact dh.nil rm
 .rintro i x σ H2 hi hx ⟨zs,v3,v4,rfl,h2,hzl,hzt,hzo,sm2⟩
  rw[List.length_reverse,B] at hi;have Y:(as.map λx=>V.ref x.1)[as.length - 1 - i]? = some x:=by
   rw[LA (by rw[B];exact hi),B] at hx;exact hx
  have ab:as.length - 1 - i < as.length:=()
  obtain⟨y,hy,rfl⟩ : ∃y,as[as.length - 1 - i]? = some y/\V.ref y.1=x:=by
   rw[f_] at Y;cases e:as[as.length - 1 - i]? with
   | none=>rw[e] at Y;cases Y
   | some nm=>rw[e] at Y;exact⟨nm,rfl,ge Y⟩
  have an:y∈as:=gt hy
  have am:y.2.2∈(as.map (·.2)).map (·.2):=hH.mpr ⟨y.2,hH.mpr ⟨y,an,rfl⟩,rfl⟩
  obtain⟨ad,hv,aG⟩:=a8 _ am;ctx_has v
  refine⟨y.1,r,ad,y.2.1,y.2.2,kvs,rm y.2.2,rfl,sm2 _ _ (aI y an),sm2 _ _ aA,hv,sm2 _ _ aG,aB y.2 (hH.mpr ⟨y,an,rfl⟩),(a0 _ am).2,λpl H3 s3 ax h3=>?_⟩
  have a4:=s3 _ _ h2;have aN:pl≠q:=λe=>by rw[e,h2] at ax;cases ax
  rcases LI zs with rfl | ⟨zs',zl,ezs⟩
  .simp at hzl
  rw[K6] at ezs;have ao:atI (zs.map λx=>V.ref x.1) (-1)=some (V.ref zl.1):=by rw[ezs,r_];exact qB _ _
  have ar:zl∈zs:=by rw[ezs];simp
  have a6:=s3 _ _ (hzt zl ar);have a5:(rm y.2.2).map (y.2.1 * ·)≠[]:=λe=>(a0 _ am).1 (List.map_eq_nil_iff.mp e)
  ctx_has v a4 ao a6 h3
  refine⟨_,rfl,a5,λm hm aD=>⟨_,rfl,a5,λM hM aH=>?_⟩⟩
  refine⟨∅,λzn aJ=>?_⟩
  have s4:ap H3 (upd H3 zn (.tup [.int (zl.2.1+m),.int (zl.2.2+M)])):=ap.upd0 aJ
  have a1:=s4 _ _ a4;have kt : ∀a xs,upd H3 zn (.tup [.int (zl.2.1+m),.int (zl.2.2+M)]) a>>xs->upd (upd H3 zn (.tup [.int (zl.2.1+m),.int (zl.2.2+M)])) q (.lst ((zs.map λx=>V.ref x.1)++[V.ref zn])) a>>xs:=λa xs e=>by rw[ai (aZ e a1 (by intro z;cases z))];exact e
  refine⟨_,a1,by rw[d_];exact aF (),zs++[(zn,zl.2.1+m,zl.2.2+M)],by rw[ae];simp,by simp[hzl],λx hx=>?_,λj z Z=>?_,λb o e=>?_⟩
  .rcases j9.mp hx with w | w
   .exact kt _ _ (s4 _ _ (s3 _ _ (hzt x w)))
   .rw[fx.mp w];exact kt _ _ ae
  .by_cases hjl:j < zs.length
   .rw[t3 hjl] at Z
    exact hzo j z Z
   .have hjn:j=zs.length:=by have:=(g_.mp Z).1;simp at this;omega
    subst hjn;rw[u7 (h_ _),sub_self] at Z;simp at Z
    subst Z;have ak:=hzo i zl (by rw[ezs,u7 (by rw[ezs] at hzl;simp at hzl;omega)];rw[ezs] at hzl;simp at hzl;simp[hzl])
    have ed:(as.map (·.2)).drop (as.length - zs.length)=(y.2.1,y.2.2) ::(as.map (·.2)).drop (as.length - i):=by
     rw[hzl,show as.length - (i+1)=as.length - 1 - i by omega,List.drop_eq_getElem_cons (by simp;omega),show as.length - 1 - i+1=as.length - i by omega]
     congr 1
     rw[List.getElem_map];rw[ki ab] at hy;rw[ge hy]
    rw[ed];refine ak.cons ?_ hm aD hM aH
    have aa:(((as.map (·.2)).drop (as.length - zs.length)).map (·.2)).Nodup:=a9.sublist ((List.drop_sublist _ _).map _)
    rw[ed,j8,m7] at aa;exact aa.1
  .rw[ai (au e a7)];exact s4 _ _ (s3 _ _ (sm2 _ _ e))
 .rintro σ H2 ⟨zs,v3,v4,rfl,h2,hzl,hzt,hzo,sm2⟩
  rw[List.length_reverse,B] at hzl;ctx_has v h2
  intro lr aK;have s3:ap H2 (upd H2 lr (.lst (zs.map λx=>V.ref x.1).reverse)):=ap.upd0 aK
  refine k lr zs.reverse _ (sm2.trans s3) (by rw[ae,List.map_reverse]) (by simp[hzl]) (λx hx=>s3 _ _ (hzt x (List.mem_reverse.mp hx))) λi z hz=>?_
  have ab:i < zs.length:=by have:=(g_.mp hz).1;simpa using this
  rw[LA ab] at hz;have:=hzo _ z hz
  rw[show as.length - (zs.length - 1 - i)=i by omega] at this
  exact this
theorem kL (T:Txt w K mg) (L:ck K (aD K (ao mg "Sum") "may_end_well") "may_end_well" "Sum.may_end_well" eM ["self","reached","behind"]):FnR P w K mg base (aD K (ao mg "Sum") "may_end_well") 1 ["self","reached","behind"] (BP mg):=by
 ctx_has z kK <;> obtain⟨p,b,s,mn,mx,dat,cs,rfl,Y,F,k⟩:=h
 .rfl
 refine⟨_,(ag (aC 3 (jF (nZ (nj (aN T.cl_Sum T.no_Sum_low (pvM 0)))) (cL (aQ jU (aN T.cl_Sum T.no_Sum_low (pvM 0)) (aM bp (pvM 1) (az aR (pvM 2) ah))))))
  (ag (aC 4 (jF (nZ (nj (aN T.cl_Sum T.no_Sum_high (pvM 0)))) (cL (aQ jU (aM bp (pvM 1) (az aR (pvM 2) ah)) (aN T.cl_Sum T.no_Sum_high (pvM 0))))))
  (aj (aw (jq (pvM 3) (cL (pvM 4))))))),?_⟩
 obtain⟨dx,fs,te,h1,h2,Z,B,l3,l4⟩:=Y;obtain⟨ts,lo,hi⟩:=dat;simp only at B l3 k;cases lo with
 | none =>
  cases hi with
  | none=>ctx_has v h1 B l3 F bV decide_true decide_false i9;simpa [gi] using k
  | some h=>ctx_has v h1 B l3 F bV decide_true decide_false i9;simpa [gi] using k
 | some a =>
  cases hi with
  | none =>
   ctx_has v h1 B l3 F bV decide_true decide_false i9
   refine dC (λh=>?_) (λh=>?_)
   .simpa [gi,h] using k
   .simpa [gi,h] using k
  | some c =>
   ctx_has v h1 B l3 F bV decide_true decide_false i9
   refine dC (λh=>?_) (λh=>?_)
   .simpa [gi,h] using k
   .simpa [gi,h] using k
theorem ny (T : Txt w K mg) (L:ck K (aD K (ao mg "Sum") "sums_with") "sums_with" "Sum.sums_with" gf ["self","reached","parts","behind"]) (B:FnR P w K mg base (aD K (ao mg "Sum") "may_end_well") 1 ["self","reached","behind"] (BP mg)):FnR P w K mg base (aD K (ao mg "Sum") "sums_with") 2 ["self","reached","parts","behind"] (Ac mg):=by
  ctx_has z oA <;> obtain⟨p,r,l,b,kvs,ps,mn,mx,dat,cs,rfl,hO,aa,aE,hl,hb,hsz,k⟩:=h
  . rfl
  refine⟨_,(ag (aC 4 eh)
    (ag (bx (hV K (pvM 2)) (ay 5) (aj (pS (bx (IJ (pvM 1)) (ay 6) (aj (bg (fo (bZ T.cl_Sum B (hr.mono (by ctx_has m)) (pvM 0) (ac (aM bp (pvM 6) (pvM 5)) (ac (pvM 3) af)))) (aj (fu hu (pvM 4) (aM bp (pvM 6) (pvM 5)) dm rfl)) aL))))))
    (aj (aw (pvM 4))))),?_⟩
  ctx_has v
  intro q hq;have s0:ap H (upd H q (.dK [])):=ap.upd0 hq
  have rq:r≠q:=au aa hq
  refine⟨_,s0 _ _ hl,?_⟩
  have am : ∀j,j<=ps.length->kvs.length * j<=100000:=λj hj=>ja (Nat.mul_le_mul_left _ hj) hsz
  refine cu cD (λi σ H'=>∃(kv:List (Key × V)) (v5 v6:Option V),σ=[-p,-r,-l,-b,-q,v5,v6]/\H' q<*kv/\oQ kv/\kv.length<=kvs.length * i/\(∀s,gg kv s↔∃e,gg kvs e/\∃x∈ps.take i,s=e+x/\gi s mn mx dat.2.1 dat.2.2=true)/\(∀b o,b≠q->H b=some o->H' b=some o))
    ⟨[],_,_,rfl,ae,λx hx=>by simp at hx,by simp,λs=>⟨λh=>(by unfold gg at h;rw[fg] at h;exact absurd h (by simp)),λa4=>by obtain⟨e,_,x,hx,_⟩:=a4;exact((by simp at hx))⟩,λb o hb e=>by rw[ai hb];exact e⟩ (λi σ H' a7=>by obtain⟨_,_,_,_,_,_,_,_,kk⟩:=a7;exact(.of (kk _ _ (au hl hq) hl))) ?_ ?_
  . rintro i x σ H2 hi hx ⟨kv,v5,v6,rfl,h2,ar,aq,Y,k2⟩
    rw[d_] at hi;obtain⟨y,hy,rfl⟩ : ∃y,ps[i]? = some y/\V.int y=x:=by
      rw[f_] at hx;cases e:ps[i]? with
      | none=>rw[e] at hx;cases hx
      | some nm=>rw[e] at hx;exact⟨nm,rfl,ge hx⟩
    have a9:ps.take (i+1)=ps.take i++[y]:=by rw[j6,hy];rfl
    have a2:=k2 r _ rq aa;have aH:kvs.length * i+kvs.length<=100000:=by rw[<- Nat.mul_succ];exact am (i+1) hi
    have aI:=am i ()
    refine⟨r,kvs,a2,?_⟩
    ctx_has v a2
    intro ob;have az:upd H2 r (.frz ob (.dK kvs)) r=some (.frz ob (.dK kvs)):=ae
    refine cu Dh (λj σ H'=>∃(kv:List (Key × V)) (v6:Option V),σ=[-p,-r,-l,-b,-q,some (.int y),v6]/\H' q<*kv/\oQ kv/\kv.length<=kvs.length * i+j/\(∀s,gg kv s↔(∃e,gg kvs e/\∃x∈ps.take i,s=e+x/\gi s mn mx dat.2.1 dat.2.2=true)\/∃e,(∃v,(i4 e,v)∈kvs.take j)/\s=e+y/\gi s mn mx dat.2.1 dat.2.2=true)/\H' r=some (.frz ob (.dK kvs))/\(∀b o,b≠q->b≠r->H b=some o->H' b=some o))
      ⟨kv,_,rfl,by rw[ai rq.symm];exact h2,ar,(),λs=>⟨λh=>.inl ((Y s).mp h),λh=>(Y s).mpr (h.resolve_right λa3=>by obtain⟨e,⟨v,hv⟩,_⟩:=a3;exact(by simp at hv))⟩,az,λb o hb ab e=>by rw[ai ab];exact k2 b o hb e⟩ (λj σ H' ax=>by obtain⟨_,_,_,_,_,_,_,h,_⟩:=ax;exact(h)) ?_ ?_
    . rintro j z σ H3 hj hz ⟨kv,v6,rfl,h3,ah,ad,F,ak,k3⟩
      rw[d_] at hj;obtain⟨kx,a6,rfl⟩ : ∃kx,kvs[j]? = some kx/\kV kx.1=z:=by
        rw[f_] at hz;cases e:kvs[j]? with
        | none=>rw[e] at hz;cases hz
        | some nm=>rw[e] at hz;exact⟨nm,rfl,ge hz⟩
      obtain⟨e0,a1⟩:=aE kx (gt a6);have an:kx=(i4 e0,kx.2):=by rw[<- a1]
      have a5:kvs.take (j+1)=kvs.take j++[kx]:=by rw[j6,a6];rfl
      have aA:kV kx.1=V.int e0:=by rw[a1];rfl
      rw[aA];obtain⟨dx,fs,te,g1,g2,g3⟩:=hO;have pq:p≠q:=au g1 hq
      have pr:p≠r:=aZ g1 aa (by intro z;cases z)
      have aG:=k3 p _ pq pr g1;have aF:=k3 b _ (au hb hq) (aZ hb aa (by intro z;cases z)) hb
      have a8:gL H H3:=⟨λa vs e=>k3 a _ (au e hq) (aZ e aa (by intro z;cases z)) e,λa C dx fs e=>k3 a _ (au e hq) (aZ e aa (by intro z;cases z)) e,λa ks e=>k3 a _ (au e hq) (aZ e aa (by intro z;cases z)) e⟩
      have aB:OBS mg H3 p dat cs:=wI ⟨dx,fs,te,g1,g2,g3⟩ a8
      ctx_has v aG
      refine⟨g3.2.2.2.2.2.1,p,b,e0+y,mn,mx,dat,cs,rfl,aB,aF,?_⟩
      refine⟨_,rfl,dC (λhm=>?_) (λhm=>?_)⟩
      . ctx_has v h3
        have qr:q≠r:=rq.symm
        refine⟨p_ (show kv.length<=200000 by omega) ∅,_,ae,ah.put,ja (fP _ _ _) (),λs=>?_,by rw[ai rq];exact ak,λb o a0 ab e=>by rw[ai a0];exact k3 b o a0 ab e⟩
        rw[AX,F,a5]
        constructor
        . rintro(rfl | h | ⟨e,⟨v,hv⟩,Z⟩)
          . exact .inr ⟨e0,⟨kx.2,by rw[<- an];simp⟩,rfl,hm⟩
          . exact .inl h
          . exact .inr ⟨e,⟨v,m9 _ hv⟩,Z⟩
        . rintro(h | ⟨e,⟨v,hv⟩,Z⟩)
          . exact .inr (.inl h)
          . rcases j9.mp hv with w | w
            . exact .inr (.inr ⟨e,⟨v,w⟩,Z⟩)
            . rw[fx,an] at w
              have:e=e0:=K2 (congrArg Prod.fst w)
              subst this;exact .inl Z.1
      . refine⟨_,h3,ah,(),λs=>?_,ak,k3⟩
        rw[F,a5]
        constructor
        . rintro(h | ⟨e,⟨v,hv⟩,Z⟩)
          . exact .inl h
          . exact .inr ⟨e,⟨v,m9 _ hv⟩,Z⟩
        . rintro(h | ⟨e,⟨v,hv⟩,Z⟩)
          . exact .inl h
          . rcases j9.mp hv with w | w
            . exact .inr ⟨e,⟨v,w⟩,Z⟩
            . rw[fx,an] at w
              have:e=e0:=K2 (congrArg Prod.fst w)
              subst this;exact absurd (Z.1 ▸ Z.2) hm
    . rintro σ H3 ⟨kv,v6,rfl,h3,ah,ad,F,ak,k3⟩
      rw[d_] at ad F;rw[la] at F;refine⟨⟨ob,ak⟩,kv,_,_,rfl,by rw[ai rq.symm];exact h3,ah,by rw[Nat.mul_succ];exact ad,λs=>?_,λb o hb e=>?_⟩
      . rw[F,a9]
        constructor
        . rintro(⟨e,he,x,hx,Z⟩ | ⟨e,hv,Z⟩)
          . exact⟨e,he,x,m9 _ hx,Z⟩
          . exact⟨e,nR hv,y,by simp,Z⟩
        . rintro⟨e,he,x,hx,Z⟩
          rcases j9.mp hx with w | w
          . exact .inl ⟨e,he,x,w,Z⟩
          . rw[fx.mp w] at Z
            exact .inr ⟨e,nA he,Z⟩
      . by_cases ab:b=r
        . subst ab;rw[aa] at e;rw[ae];exact e
        . rw[ai ab];exact k3 b o hb ab e
  . rintro σ H2 ⟨kv,v5,v6,rfl,h2,ar,aq,Y,k2⟩
    rw[d_] at aq Y;rw[la] at Y;ctx_has v
    exact k q kv H2 (λb o e=>k2 b o (au e hq) e) h2 ar aq Y
theorem mU (T:Txt w K mg) (L:ck K (aD K (ao mg "Sum") "sums_kept") "sums_kept" "Sum.sums_kept" fT ["self","rooms"]) (Fs : @G8 P w K mg base) (Fr : @Hc P w K mg base) (B:FnR P w K mg base (aD K (ao mg "Sum") "sums_with") 2 ["self","reached","parts","behind"] (Ac mg)):FnR P w K mg base (aD K (ao mg "Sum") "sums_kept") 4 ["self","rooms"] (xp mg):=by
 ctx_has z mW <;> obtain⟨p,r,dat,cs,kvs,rm,rfl,M,k⟩:=h
 .rfl
 refine⟨_,(ag (aC 2 (aq Fs (ac (aN T.cl_Sum T.no_Sum_terms (pvM 0)) (ac (pvM 1) af))))
  (ag (aC 3 (vc (iB ah dm uO) rfl rfl (by nofun) ∅))
  (ag (bx (Dj (K:=K) rfl rfl T.b_enumerate (ac (aN T.cl_Sum T.no_Sum_terms (pvM 0)) af)) (dI (n:=2) rfl (bj (ay 4) (bj (ay 5) dO))) (aj (aC 3 (bZ T.cl_Sum B (hr.mono (by ctx_has m)) (pvM 0) (ac (pvM 3) (ac (aq Fr (ac (pvM 5) (ac (pvM 1) af))) (ac (az gb (pvM 2) (aM bp (pvM 4) ah)) af)))))))
  (aj (aw (pvM 3)))))),?_⟩
 obtain⟨dx,fs,te,h1,h2,l1,l2,l3,l4,l5,l6,l7,l8⟩:=M.ob;obtain⟨ts,lo,hi⟩:=dat;have aH:=M.ok;have a9:=M.nd;have aE:=M.rd;simp only[Ih] at aH h2 l2 l3;obtain⟨aQ,a8,aF⟩:=aH;subst aQ;have aJ:=M.cl;rw[d_] at aJ;obtain⟨as,aI,rfl,ba⟩:=id h2;ctx_has v h1 l1
 refine⟨te,r,_,kvs,rm,rfl,h2,aE,M.rf,a9,(),aF,λc hc=>(by have:=M.gd c hc;exact⟨λe=>by rw[e] at this;simp at this,()⟩),λsl zs H1 s1 e1 aT aU aP=>?_⟩
 ctx_has v
 intro q hq;refine⟨ae,[(i4 0,.bl true)],rfl,∅,?_⟩
 have em:df ([]:List (Key × V)) [(i4 0,.bl true)]=[(i4 0,.bl true)]:=eU _ fg
 rw[em];have s2:ap H1 (upd (upd H1 q (.dK [])) q (.dK [(i4 0,.bl true)])):=λb o e=>by rw[ai (au e hq),ai (au e hq)];exact e
 have a6:upd (upd H1 q (.dK [])) q (.dK [(i4 0,.bl true)]) q<*[(i4 0,.bl true)]:=ae
 generalize upd (upd H1 q (.dK [])) q (.dK [(i4 0,.bl true)])=H2 at s2 a6 ⊢;have a0:=s1.trans s2;have g1:=a0 _ _ h1;have g2:=a0 _ _ aI;ctx_has v g1 l1 g2
 have h4:=λi (hi:i<=6)=>GO hi
 have ar : ∀g,vA (as.map (·.2),lo,hi) (((as.map (·.2))).map (·.2)) g=dW (fF (as.map (·.2)) g) lo hi:=λg=>rfl
 simp only[ar] at k;have bf:as.length<=6:=by simpa using aJ
 refine Hu (xs:=as.map λx=>V.ref x.1) (λi σ H'=>∃(q:Addr) (kv:List (Key × V)) (v4 v5:Option V),σ=[-p,-r,-sl,-q,v4,v5]/\H' q<*kv/\oQ kv/\kv.length<=4 ^ i/\(∀s,gg kv s->∃g,okF rm ((as.map (·.2)).map (·.2)) g/\fF ((as.map (·.2)).take i) g=s/\(0 < i->∃mn mx,dh rm ((as.map (·.2)).drop i) mn mx/\gi s mn mx lo hi=true))/\(∀g,okF rm ((as.map (·.2)).map (·.2)) g->dW (fF (as.map (·.2)) g) lo hi=true->gg kv (fF ((as.map (·.2)).take i) g))/\ap H H'/\ap H1 H')
  ⟨q,_,_,_,rfl,a6,λx hx=>⟨0,by rw[fx.mp hx]⟩,by simp,λs hs=>?_,λg _ _=>?_,a0,s2⟩ (λi σ H' aB=>by obtain⟨_,_,_,_,_,_,_,_,_,_,sm,_⟩:=aB;exact(.of (sm _ _ aI))) ?_ ?_
 .obtain⟨v,hv⟩:=nA hs
  have e0:s=0:=K2 (congrArg Prod.fst (fx.mp hv))
  obtain⟨g,hg⟩:=Aq (rm:=rm) (cs:=(as.map (·.2)).map (·.2)) λc hc=>(M.gd c hc).1
  exact⟨g,hg,by rw[e0];rfl,λh=>absurd h ()⟩
 .exact nR ⟨.bl true,fx.mpr rfl⟩
 .rintro i x σ H3 t hx ⟨q,kv,v4,v5,rfl,h3,hik,hkl,hso,hcm,s3,s13⟩ ht
  obtain⟨y,hy,rfl⟩ : ∃y,as[i]? = some y/\V.ref y.1=x:=by
   rw[f_] at hx;cases e:as[i]? with
   | none=>rw[e] at hx;cases hx
   | some nm=>rw[e] at hx;exact⟨nm,rfl,ge hx⟩
  have bg:i < as.length:=(g_.mp hy).1
  have a4:y∈as:=gt hy
  have F:y.2.2∈(as.map (·.2)).map (·.2):=hH.mpr ⟨y.2,hH.mpr ⟨y,a4,rfl⟩,rfl⟩
  obtain⟨ad,hv,aX⟩:=M.rf _ F;have st:ap H3 (upd H3 t (.tup [.int (i:Nat),.ref y.1])):=ap.upd0 ht
  have aa:=s3.trans st;have f1:=aa _ _ h1;have an:upd H3 t (.tup [.int (i:Nat),.ref y.1]) t>>[.int (i:Nat),.ref y.1]:=ae
  ctx_has v an f1
  refine⟨l7,y.1,r,ad,y.2.1,y.2.2,kvs,rm y.2.2,rfl,aa _ _ (ba y a4),aa _ _ aE,hv,aa _ _ aX,aF y.2 (hH.mpr ⟨y,a4,rfl⟩),by have:=(M.gd _ F).2.1;omega,λpl H4 s4 bi bb=>?_⟩
  have a2:=s13.trans st;have aL:=(a2.trans s4) _ _ e1;obtain⟨zn,a3⟩ : ∃zn,zs[i+1]? = some zn:=⟨zs[i+1]'(by rw[aT];simp;omega),by simp⟩
  have aG:zn∈zs:=gt a3
  have a5:atI (zs.map λx=>V.ref x.1) ((i:Int)+1)=some (V.ref zn.1):=bc (j:=i+1) (by rw[f_,a3];rfl)
  ctx_has v aL a5
  have Z:=aP (i+1) zn a3;have aO:=(M.gd _ F).2.1;have bh:=h4 (i+1) ()
  have hb:kv.length * ((rm y.2.2).map (y.2.1 * ·)).length<=4 ^ (i+1):=by
   rw[d_,Nat.pow_succ];exact Nat.mul_le_mul hkl aO
  have aA:=aa.trans s4;refine⟨p,q,pl,zn.1,kv,_,zn.2.1,zn.2.2,(as.map (·.2),lo,hi),(as.map (·.2)).map (·.2),rfl,wI M.ob (ap.keepTI aA),(st.trans s4) _ _ h3,hik,bb,(a2.trans s4) _ _ (aU zn aG),(),λq5 aY H5 s5 h5 a7 be ak=>?_⟩
  have ax:(as.map (·.2)).take (i+1)=(as.map (·.2)).take i++[y.2]:=by rw[j6,f_,hy];rfl
  have aV:y.2.2∉((as.map (·.2)).take i).map (·.2):=λhm=>by
   have aK:(((as.map (·.2)).take (i+1)).map (·.2)).Nodup:=a9.sublist ((x8 _ _).map _)
   rw[ax,r_,t9] at aK;exact aK.2.2 _ hm _ (by simp) rfl
  refine⟨q5,rfl,aY,h5,a7,(),λs hs=>?_,λg hg hk=>?_,aA.trans s5,(a2.trans s4).trans s5⟩
  .obtain⟨e,he,x,hx,rfl,am⟩:=(ak s).mp hs
   obtain⟨g,Y,ab,_⟩:=hso e he;obtain⟨v,bd,rfl⟩:=hH.mp hx;refine⟨bO g y.2.2 v,EZ Y bd,?_,λ_=>⟨_,_,Z,am⟩⟩
   rw[ax,je,lb aV,ab];simp[fF,bK]
  .rw[ak]
   refine⟨_,hcm g hg hk,y.2.1 * g y.2.2,hH.mpr ⟨g y.2.2,hg _ F,rfl⟩,?_,Ge Z hg hk⟩
   rw[ax,je];simp[fF]
 .rintro σ H3 ⟨q,kv,v4,v5,rfl,h3,hik,hkl,hso,hcm,s3,s13⟩
  rw[d_] at hso hcm;have an:(as.map (·.2)).take as.length=as.map (·.2):=o6 (by simp)
  have aR:(as.map (·.2)).drop as.length=[]:=List.drop_of_length_le (by simp)
  rw[an] at hcm;simp only[an,aR] at hso;ctx_has v h3
  refine k _ kv H3 h3 ?_ s3
  have a1:0 < as.length:=by
   rcases as with _ | ⟨y,as⟩
   .exact absurd rfl a8
   .simp
  constructor
  .intro hpos
   rcases kv with _ | ⟨y,kv⟩
   .simp at hpos
   obtain⟨e0,aS⟩:=hik y (by simp)
   obtain⟨g,Y,ab,aZ⟩:=hso e0 (nR ⟨y.2,by rw[<- aS];simp⟩)
   obtain⟨mn,mx,aW,am⟩:=aZ a1;rw[DP aW] at am;exact⟨g,Y,by rw[ab];exact am⟩
  .rintro⟨g,Y,ab⟩
   obtain⟨v,hv⟩:=nA (hcm g Y ab);have:=KY hv
   omega
theorem pK (T:Txt w K mg) (L:ck K (aD K (ao mg "Sum") "may_keep") "may_keep" "Sum.may_keep" gR ["self","rooms"]) (B:FnR P w K mg base (aD K (ao mg "Sum") "sums_kept") 4 ["self","rooms"] (xp mg)):FnR P w K mg base (aD K (ao mg "Sum") "may_keep") 22 ["self","rooms"] (eG mg):=by
 ctx_has z pJ <;> obtain⟨p,r,dat,cs,kvs,rm,rfl,M,k⟩:=h
 .rfl
 refine⟨_,(aj (aw (aQ qZ (aE tL T.b_len (ac (bZ T.cl_Sum B (hr.mono (by ctx_has m)) (pvM 0) (ac (pvM 1) af)) af)) ah))),?_⟩
 obtain⟨dx,fs,te,h1,h2,l1,l2,l3,l4,l5,l6,l7,l8⟩:=id M.ob;ctx_has v h1
 refine⟨l8,p,r,dat,cs,kvs,rm,rfl,M,λq kv Y h3 F Z=>?_⟩
 ctx_has v h3
 refine k _ Y ?_ Z
 rw[decide_eq_true_eq,<- F];omega
theorem nX (T:Txt w K mg) (L:ck K (aD K (ao mg "Sum") "may_break") "may_break" "Sum.may_break" fW ["self","rooms"]) (Fs : @G8 P w K mg base) (Fe : @Dz4 P w K mg base):FnR P w K mg base (aD K (ao mg "Sum") "may_break") 22 ["self","rooms"] (dG mg):=by
 ctx_has z nG <;> obtain⟨p,r,dat,cs,kvs,rm,rfl,M,k⟩:=h
 .rfl
 refine⟨_,(ag (aC 2 (az gb (aq Fs (ac (aN T.cl_Sum T.no_Sum_terms (pvM 0)) (ac (pvM 1) af))) ah))
  (aj (aw (jF (BZ (aq Fe (ac (az aR (pvM 2) ah) (ac (aN T.cl_Sum T.no_Sum_low (pvM 0)) (ac (aN T.cl_Sum T.no_Sum_high (pvM 0)) af))))) (cL (BZ (aq Fe (ac (az aR (pvM 2) ah) (ac (aN T.cl_Sum T.no_Sum_low (pvM 0)) (ac (aN T.cl_Sum T.no_Sum_high (pvM 0)) af)))))))))),?_⟩
 obtain⟨dx,fs,te,h1,h2,l1,l2,l3,l4,l5,l6,l7,l8⟩:=M.ob;obtain⟨ts,lo,hi⟩:=dat;have Z:=M.ok;have ai:=M.nd;have au:=M.rd;simp only[Ih] at Z h2 l2 l3;obtain⟨ax,a0,ay⟩:=Z;subst ax;have ar:=M.cl;rw[d_] at ar;ctx_has v h1 l1
 refine⟨te,r,ts,kvs,rm,rfl,h2,au,M.rf,ai,(),ay,λc hc=>(by have:=M.gd c hc;exact⟨λe=>by rw[e] at this;simp at this,()⟩),λsl zs H1 s1 e1 a1 ak an=>?_⟩
 obtain⟨B,F⟩ : ∃B,zs[0]? = some B:=⟨zs[0]'(),by simp⟩
 have Y:B∈zs:=gt F
 have am:atI (zs.map λx=>V.ref x.1) 0=some (V.ref B.1):=bc (j:=0) (by rw[f_,F];rfl)
 have aa:=an 0 B F;rw[drop_zero] at aa;have ad:=ak B Y;have g1:=s1 _ _ h1;ctx_has v e1 am ad g1 l2 l3
 refine⟨B.2.1,lo,hi,rfl,λH2 s2=>?_⟩
 have g2:=(s1.trans s2) _ _ h1;have ab:=s2 _ _ ad;have key:=wN (lo:=lo) (hi:=hi) aa;cases eb:dW B.2.1 lo hi with
 | false =>
  ctx_has v Bool.not_false
  refine k true H2 ?_ (s1.trans s2)
  refine Iff.trans ?_ key
  rw[eb];simp
 | true =>
  ctx_has v Bool.not_true i9 ab g2 l2 l3
  refine⟨B.2.2,lo,hi,rfl,λH3 s3=>?_⟩
  refine⟨_,rfl,k _ H3 ?_ ((s1.trans s2).trans s3)⟩
  refine Iff.trans ?_ key
  rw[eb];simp
abbrev uT:=List Str
def WSU (H:Hp) (w:Addr) (dat:uT) (cs:List Str):Prop:=∃B,H w>>[.str "unlike",.ref B]/\H B>>(dat.map V.str)
def Kt (dat:uT) (cs:List Str):Prop:=dat.Perm cs
def OBU (mg:Str->Option Value) (H:Hp) (t:Addr) (dat:uT) (cs:List Str):Prop:=∃dx fs B,H t=some (.ins (ao mg "Unlike") dx fs)/\fs.lookup (b_ "cells")=some (.ref B)/\H B>>(dat.map V.str)/\fs.lookup (b_ "may_keep")=none/\fs.lookup (b_ "may_break")=none
theorem zH {t:Addr} {dat:uT} (h:OBU mg H t dat cs) : ∃dx fs,H t=some (.ins (ao mg "Unlike") dx fs)/\fs.lookup (b_ "may_keep")=none/\fs.lookup (b_ "may_break")=none:=by
 obtain⟨dx,fs,L,h1,h2,Y,F,B⟩:=h;exact⟨dx,fs,h1,F,B⟩
def CJ (dat:uT) (cs:List Str) (g:Str->Int):Bool:=decide ((dat.map g).Nodup)
def zP (mg:Str->Option Value):Sp:=λvs H Q _=>∃(p dx w:Addr) (dat:uT) (cs:List Str),vs=[.ref p,.ref w]/\H p=some (.ins (ao mg "Unlike") dx [])/\WSU H w dat cs/\∀H',OBU mg H' p dat cs->HW mg "Unlike" H' p w->gE p H H'->Q .non H'
structure Dv (mg:Str->Option Value) (H:Hp) (p r:Addr) (dat:uT) (cs:List Str) (kvs:List (Key × V)) (rm:Str->List Int):Prop where
 ob:OBU mg H p dat cs
 rd:H r<*kvs
 rf:bQ H kvs cs rm
 ok:Kt dat cs
 nd:cs.Nodup
 cl:cs.length<=12
 gd : ∀c∈cs,1<=(rm c).length/\(rm c).length<=10/\(rm c).Nodup
 un : ∃U:List Int,(∀c∈cs,∀v∈rm c,v∈U)/\U.length<=20
def eK (mg:Str->Option Value):Sp:=λvs H Q _=>∃(p r:Addr) (dat:uT) (cs:List Str) (kvs:List (Key × V)) (rm:Str->List Int),vs=[.ref p,.ref r]/\Dv mg H p r dat cs kvs rm/\∀(b:Bool) H',(b=true↔∃g,okF rm cs g/\CJ dat cs g=true)->ap H H'->Q (.bl b) H'
def dF (mg:Str->Option Value):Sp:=λvs H Q _=>∃(p r:Addr) (dat:uT) (cs:List Str) (kvs:List (Key × V)) (rm:Str->List Int),vs=[.ref p,.ref r]/\Dv mg H p r dat cs kvs rm/\∀(b:Bool) H',(b=true↔∃g,okF rm cs g/\CJ dat cs g=false)->ap H H'->Q (.bl b) H'
theorem eW {dat:List Str} (Z:dat.Nodup) : ¬ (dat.map g).Nodup↔∃c∈dat,∃F∈dat,c≠F/\g c=g F:=by
 constructor
 .intro h
  refine o9 λB=>h ?_
  refine y9.mpr (Is (λ{a b} ha hb q e=>B ⟨a,ha,b,hb,q,e⟩) Z)
 .rintro⟨c,hc,F,hc',hne,e⟩ h
  obtain⟨i,hi,L⟩:=wh hc;obtain⟨j,hj,Y⟩:=wh hc';have e1:(dat.map g)[i]? = some (g c):=by simp[hi,L]
  have e2:(dat.map g)[j]? = some (g c):=by simp[hj,Y,e]
  have:=gD h e1 e2
  subst this;exact hne (L.symm.trans Y)
theorem Im {B:Str} (Y:c≠B) (hv:v∈rm c) (L:v'∈rm B) (F : ∀x∈cs,1<=(rm x).length) : ∃g,okF rm cs g/\g c=v/\g B=v':=by
 refine⟨λx=>if x=c then v else if x=B then v' else(rm x).headD 0,λx Z=>?_,by simp,by simp[p7 Y]⟩
 by_cases e:x=c
 .subst e;simp;exact hv
 .by_cases e':x=B
  .subst e';simp[e];exact L
  .simp[e,e']
   have:=F x Z
   cases h:rm x with
   | nil=>rw[h] at this;simp at this
   | cons a b=>simp
def iH (x:Int × Str):Key × V:=(i4 x.1,.str x.2)
def jx (v:Int):Key × V:=(i4 v,.bl true)
def bH:List (Int × Str)->Int->Option Str
 | [],_=>none
 | (w,x) :: r,v=>if w=v then some x else bH r v
def dP:List (Int × Str)->Int->Str->List (Int × Str)
 | [],v,c=>[(v,c)]
 | (w,x) :: r,v,c=>if w=v then(w,c) :: r else(w,x) :: dP r v c
def eQ:List (Int × Str)->Str->Nat
 | [],_=>0
 | (_,x) :: r,y=>(if x=y then 1 else 0)+eQ r y
theorem nV : ∀(hl:List (Int × Str)) (v:Int),bM (hl.map iH) (i4 v)=(bH hl v).map V.str
 | [],v=>rfl
 | (w,x) :: r,v=>by
  rw[j8]
  by_cases h:w=v
  .subst h
   rw[show iH (w,x)=(i4 w,.str x) from rfl,bJ rfl]
   simp[bH]
  .rw[show iH (w,x)=(i4 w,.str x) from rfl,aX (λz=>h (K2 z)),nV r v]
   simp[bH,h]
theorem xN {k B:Key} {v v':V} {r:List (Key × V)}:bu ((k,v) :: r) B v'=if k=B then(k,v') :: r.map (λkv=>if kv.1=B then(kv.1,v') else kv) else(k,v) :: bu r B v':=by
 unfold bu
 by_cases h:k=B
 .simp[h]
 .simp only[any_cons,decide_eq_false h,Bool.false_or,if_neg h,j8]
  split <;> simp
theorem oH {B:Key} {v':V} : ∀{r:List (Key × V)},bM r B=none->r.map (λkv=>if kv.1=B then(kv.1,v') else kv)=r
 | [],_=>rfl
 | (k,v) :: r,h=>by
  by_cases e:k=B
  .rw[bJ e] at h;cases h
  .rw[aX e] at h
   rw[j8,oH h];simp[e]
theorem yM {hl:List (Int × Str)} (h:v∉hl.map (·.1)):bH hl v=none:=by
 induction hl with
 | nil=>rfl
 | cons p r B =>
  obtain⟨w,x⟩:=p;simp at h
  unfold bH;rw[if_neg (λz=>h.1 z.symm)]
  exact B (by simpa using h.2)
theorem nT : ∀{hl:List (Int × Str)} (v:Int) (c:Str),(hl.map (·.1)).Nodup->bu (hl.map iH) (i4 v) (.str c)=(dP hl v c).map iH
 | [],v,c,_=>rfl
 | (w,x) :: r,v,c,hn=>by
  rw[j8,m7] at hn;rw[j8,show iH (w,x)=(i4 w,.str x) from rfl,xN]
  by_cases h:w=v
  .subst h
   rw[if_pos rfl,oH (by rw[nV,yM hn.1];rfl)]
   simp[dP,iH]
  .rw[if_neg (λz=>h (K2 z)),nT v c hn.2]
   simp[dP,h,iH]
theorem ni (v:Int) (c:Str) (v':Int) : ∀hl:List (Int × Str),bH (dP hl v c) v'=if v'=v then some c else bH hl v'
 | []=>by
  by_cases h:v'=v
  .subst h;simp[dP,bH]
  .simp[dP,bH,h,p7 h]
 | (w, x) :: r=>by
  unfold dP
  by_cases h:w=v
  .subst h
   by_cases h2:v'=w
   .subst h2;simp[bH]
   .simp[bH,h2,p7 h2]
  .rw[if_neg h]
   by_cases h2:w=v'
   .subst h2
    simp[bH,h]
   .simp only[bH,if_neg h2,ni v c v' r]
theorem tU (v:Int) (c:Str) : ∀{hl:List (Int × Str)},(hl.map (·.1)).Nodup->((dP hl v c).map (·.1)).Nodup/\∀w,w∈(dP hl v c).map (·.1)↔w=v\/w∈hl.map (·.1)
 | [],_=>by simp[dP]
 | (w, x) :: r,hn=>by
  rw[j8,m7] at hn;unfold dP
  by_cases h:w=v
  .subst h
   rw[if_pos rfl];refine⟨by simpa using hn,λu=>?_⟩
   simp
  .rw[if_neg h]
   have B:=tU v c hn.2;refine⟨?_,λu=>?_⟩
   .rw[j8,m7]
    refine⟨λz=>?_,B.1⟩
    rcases (B.2 w).mp z with e | e
    .exact h e
    .exact hn.1 e
   .rw[j8,i6,B.2 u,j8,i6]
    constructor
    .rintro(e | e | e)
     .exact .inr (.inl e)
     .exact .inl e
     .exact .inr (.inr e)
    .rintro(e | e | e)
     .exact .inr (.inl e)
     .exact .inl e
     .exact .inr (.inr e)
theorem qN (v:Int) (c y:Str) : ∀{hl:List (Int × Str)},(hl.map (·.1)).Nodup->eQ (dP hl v c) y+(if bH hl v=some y then 1 else 0)=eQ hl y+(if c=y then 1 else 0)
 | [],_=>by simp[dP,eQ,bH]
 | (w,x) :: r,hn=>by
  rw[j8,m7] at hn;unfold dP bH
  by_cases h:w=v
  .subst h
   rw[if_pos rfl,if_pos rfl];simp only[eQ,Option.some.injEq]
   split <;> split <;> omega
  .rw[if_neg h,if_neg h]
   have B:=qN v c y hn.2;simp only[eQ];omega
theorem wv {v:Int} {c:Str} {x:Int × Str} : ∀{hl:List (Int × Str)},x∈dP hl v c->x=(v,c)\/x∈hl
 | [],h=>by simp[dP] at h;exact .inl h
 | (w, z) :: r,h=>by
  unfold dP at h
  by_cases e:w=v
  .subst e
   rw[if_pos rfl] at h;rcases i6.mp h with q | q
   .exact .inl q
   .exact .inr (by simp[q])
  .rw[if_neg e] at h
   rcases i6.mp h with q | q
   .exact .inr (by simp[q])
   .rcases wv q with q | q
    .exact .inl q
    .exact .inr (by simp[q])
theorem gw {v:Int} {x:Str} : ∀{hl:List (Int × Str)},bH hl v=some x->(v,x)∈hl
 | (w,z) :: r,h=>by
  unfold bH at h
  by_cases e:w=v
  .subst e;rw[if_pos rfl] at h;cases h;simp
  .rw[if_neg e] at h;simp[gw h]
theorem nw {v:Int} {x:Str} : ∀{hl:List (Int × Str)},(hl.map (·.1)).Nodup->(v,x)∈hl->bH hl v=some x
 | (w,z) :: r,hn,h=>by
  rw[j8,m7] at hn;rcases i6.mp h with q | q
  .cases q;simp[bH]
  .have hne:w≠v:=λe=>hn.1 (by subst e;exact hH.mpr ⟨_,q,rfl⟩)
   unfold bH;rw[if_neg hne];exact nw hn.2 q
theorem lj:(bM (tl.map jx) (i4 v)).isSome=decide (v∈tl):=by
 induction tl with
 | nil=>rfl
 | cons w r B =>
  rw[j8]
  by_cases h:w=v
  .subst h
   rw[show jx w=(i4 w,.bl true) from rfl,bJ rfl]
   simp
  .rw[show jx w=(i4 w,.bl true) from rfl,aX (λz=>h (K2 z)),B]
   simp[p7 h]
theorem Al (h:v∉tl):bu (tl.map jx) (i4 v) (.bl true)=(tl++[v]).map jx:=by
 rw[eU]
 .simp[jx]
 .have:=lj (tl:=tl) (v:=v)
  rw[decide_eq_false h] at this;cases e:bM (tl.map jx) (i4 v) with
  | none=>rfl
  | some x=>rw[e] at this;cases this
structure dL (H:Hp) (r ha ta:Addr) (CS:List Str) (kvs:List (Key × V)) (rm:Str->List Int) (U:List Int) (hl:List (Int × Str)) (tl:List Int):Prop where
 rd:H r<*kvs
 rf:bQ H kvs CS rm
 hh:H ha<*(hl.map iH)
 ht:H ta<*(tl.map jx)
 ne:r≠ha/\r≠ta/\ha≠ta
 hk:(hl.map (·.1)).Nodup
 hv : ∀x∈hl,x.2∈CS/\x.1∈rm x.2
 tn:tl.Nodup
 tu : ∀v∈tl,v∈U
 ru : ∀x∈CS,∀v∈rm x,v∈U
 ul:U.length<=100
 rl : ∀x∈CS,(rm x).length<=100
def kC (n:Nat):Sp:=λvs H Q _=>∃(r ha ta:Addr) (CS:List Str) (kvs:List (Key × V)) (rm:Str->List Int) (U:List Int) (hl:List (Int × Str)) (tl:List Int) (c:Str),vs=[.str c,.ref r,.ref ha,.ref ta]/\dL H r ha ta CS kvs rm U hl tl/\c∈CS/\(U.filter λv=>decide (v∉tl)).length<=n /\
 ∀ (b:Bool) (F:List (Int × Str)) (B:List Int) (H':Hp),dL H' r ha ta CS kvs rm U F B->(∀v∈tl,v∈B)->(∀a o,a≠ha->a≠ta->H a=some o->H' a=some o) ->
  (b=true->(∀y,eQ F y=eQ hl y+if c=y then 1 else 0)/\∀v∈tl,bH F v=bH hl v)->(b=false->F=hl/\(∀v∈rm c,v∈B)/\∀v∈B,v∉tl->∃x,bH hl v=some x/\∀v'∈rm x,v'∈B)->Q (.bl b) H'
theorem dL.small {ta:Addr} {hl:List (Int × Str)} (k:dL H r ha ta CS kvs rm U hl tl):hl.length<=100/\tl.length<=100:=by
 have h1:=dY k.tn k.tu;have h2:=dY (ys:=U) k.hk λv hv=>by
  obtain⟨x,B,rfl⟩:=hH.mp hv;exact k.ru _ (k.hv x B).1 _ (k.hv x B).2
 rw[d_] at h2;have:=k.ul
 omega
theorem dL.tryV {ta:Addr} {hl:List (Int × Str)} (k:dL H r ha ta CS kvs rm U hl tl) (hv:v∉tl) (hu:v∈U):dL (upd H ta (.dK ((tl++[v]).map jx))) r ha ta CS kvs rm U hl (tl++[v]):=by
 refine⟨by rw[ai k.ne.2.1];exact k.rd,k.rf.same λa vs e=>by rw[ai (aZ e k.ht (by intro z;cases z))];exact e,by rw[ai k.ne.2.2];exact k.hh,ae,k.ne,k.hk,k.hv,?_,λx F=>?_,k.ru,k.ul,k.rl⟩
 .rw[t9]
  exact⟨k.tn,by simp,λa ha b B=>by rw[fx.mp B];rintro rfl;exact hv ha⟩
 .rcases j9.mp F with q | q
  .exact k.tu x q
  .rw[fx.mp q];exact hu
theorem dL.hold {ta:Addr} {hl:List (Int × Str)} (k:dL H r ha ta CS kvs rm U hl tl) (B:c∈CS) (hv:v∈rm c):dL (upd H ha (.dK ((dP hl v c).map iH))) r ha ta CS kvs rm U (dP hl v c) tl:=by
 refine⟨by rw[ai k.ne.1];exact k.rd,k.rf.same λa vs e=>by rw[ai (aZ e k.hh (by intro z;cases z))];exact e,ae,by rw[ai k.ne.2.2.symm];exact k.ht,k.ne,(tU v c k.hk).1,λx F=>?_,k.tn,k.tu,k.ru,k.ul,k.rl⟩
 rcases wv F with q | q
 .rw[q];exact⟨B,hv⟩
 .exact k.hv x q
theorem xC {B:List Int} (h : ∀v∈tl,v∈B):(U.filter λx=>decide (x∉B)).length<=(U.filter λx=>decide (x∉tl)).length:=by
 induction U with
 | nil=>simp
 | cons a r F =>
  rw[w_,w_]
  by_cases h1:a∈tl
  .have h2:=h a h1
   simp[h1,h2];simpa using F
  .by_cases h2:a∈B
   .simp[h1,h2];have:=F;simp at this;omega
   .simp[h1,h2];simpa using F
theorem CZ (hu:v∈U) (L:v∉tl):(U.filter λx=>decide (x∉tl++[v])).length < (U.filter λx=>decide (x∉tl)).length:=by
 induction U with
 | nil=>simp at hu
 | cons a r B =>
  have F : ∀r:List Int,(r.filter λx=>decide (x∉tl++[v])).length<=(r.filter λx=>decide (x∉tl)).length:=by
   intro r
   induction r with
   | nil=>simp
   | cons b r B =>
    rw[w_,w_]
    by_cases h1:b∈tl
    .simp[h1];simpa using B
    .by_cases h2:b=v
     .subst h2;simp[h1];have:=B;simp at this;omega
     .simp[h1,h2];simpa using B
  rw[w_,w_]
  by_cases h2:a=v
  .subst h2
   have:=F r
   simp[L]
   simp at this
   omega
  .have hr:v∈r:=by
    rcases i6.mp hu with q | q
    .exact absurd q.symm h2
    .exact q
   have:=B hr
   by_cases h1:a∈tl
   .simp[h1];simpa using this
   .simp[h1,h2];simpa using this
theorem mJ (T:Txt w K mg) (L:ck K (gJ K (ao mg "Wish") "__init__") "__init__" "Wish.__init__" bD ["self","wish"]):FnR P w K mg base (gJ K (ao mg "Wish") "__init__") 1 ["self","wish"] (dq mg "Unlike"):=by
 ctx_has z bX <;> obtain⟨p,dx,fs,w,rfl,hp,B,k⟩:=h
 .rfl
 refine⟨_,(aj (bF T.cl_Unlike T.no_Unlike_wish (pvM 0) (pvM 1) rfl)),?_⟩
 ctx_has v hp
 exact⟨B,k⟩
theorem lA (T:Txt w K mg) (L:ck K (Mk K (ao mg "Unlike")) "__init__" "Unlike.__init__" fj ["self","wish"]) (B:FnR P w K mg base (gJ K (ao mg "Wish") "__init__") 1 ["self","wish"] (dq mg "Unlike")):FnR P w K mg base (Mk K (ao mg "Unlike")) 2 ["self","wish"] (zP mg):=by
 ctx_has z lf <;> obtain⟨p,dx,w,dat,cs,rfl,hp,W,k⟩:=h
 .rfl
 refine⟨_,(ag (ci (iO B (hr.mono (by ctx_has m)) rfl T.at_Wish (ac (pvM 0) (ac (pvM 1) af))))
  (aj (bF T.cl_Unlike T.no_Unlike_cells (pvM 0) (az aR (pvM 1) ah) rfl))),?_⟩
 obtain⟨Y,F,Z⟩:=W;ctx_has v F
 have pw:w≠p:=aZ F hp (by intro z;cases z)
 have pc:Y≠p:=aZ Z hp (by intro z;cases z)
 refine⟨p,dx,[],.ref w,rfl,hp,∅,?_⟩
 ctx_has v ae
 refine⟨_,by rw[ai pw];exact F,?_⟩
 ctx_has v
 refine⟨p_ (er _ _ _) ∅,k _ ⟨dx,_,Y,ae,?_,by rw[ai pc,ai pc];exact Z,?_⟩ ⟨dx,_,ae,?_⟩ ?_⟩
 .simp only[bA,eA,String.reduceEq,if_true,if_false]
 .simp only[bA,eA,String.reduceEq,if_true,if_false,true_and,KL,and_self]
 .simp only[bA,eA,String.reduceEq,if_true,if_false,true_and,KL,and_self]
 .intro b o hb e
  rw[ai hb,ai hb];exact e
theorem kI (T:Txt w K mg) (L:ck K (aD K (ao mg "Unlike") "may_break") "may_break" "Unlike.may_break" eO ["self","rooms"]):FnR P w K mg base (aD K (ao mg "Unlike") "may_break") 22 ["self","rooms"] (dF mg):=by
  ctx_has z kG <;> obtain⟨p,r,dat,cs,kvs,rm,rfl,M,k⟩:=h
  . rfl
  refine⟨_,(ag (aC 2 eh)
    (ag (bx (cg K (aN T.cl_Unlike T.no_Unlike_cells (pvM 0))) (ay 3) (aj (bx (cg K (bC hu (pvM 1) (pvM 3))) (ay 4) (ag (bg (oB (EI hu (pvM 4) (pvM 2))) (aj (aw dm)) aL)
    (aj (fu hu (pvM 2) (pvM 4) dm rfl))))))
    (aj (aw dm)))),?_⟩
  obtain⟨dx,fs,ce,h1,f1,a6,_,_⟩:=M.ob;have aG:=M.rd;have ar:dat.Nodup:=M.ok.nodup_iff.mpr M.nd
  have aO:dat.length=cs.length:=M.ok.length_eq
  have aP:=M.cl;have ac : ∀c∈dat,c∈cs:=λc hc=>M.ok.mem_iff.mp hc
  ctx_has v
  intro se a5;have s1:ap H (upd H se (.dK [])):=ap.upd0 a5
  refine⟨dx,fs,s1 _ _ h1,_,f1,ce,rfl,_,s1 _ _ a6,?_⟩
  refine cu aY (λi σ H'=>∃(sv:List (Key × V)) (v3 v4:Option V),σ=[-p,-r,-se,v3,v4]/\H' se<*sv/\(∀v:Int,(bM sv (i4 v)).isSome=true↔∃c∈dat.take i,v∈rm c)/\(∀c∈dat.take i,∀Y∈dat.take i,c≠Y->∀v∈rm c,v∉rm Y)/\sv.length<=10 * i/\ap H H')
    ⟨[],_,_,rfl,ae,by simp[bM],by simp,by simp,s1⟩ (λi σ H' a9=>by obtain⟨_,_,_,_,_,_,_,_,sm⟩:=a9;exact(.of (sm _ _ a6))) ?_ ?_
  . rintro i x σ H2 hi hx ⟨sv,v3,v4,rfl,h2,aA,ab,a0,af⟩
    rw[d_] at hi;obtain⟨c,an,rfl⟩ : ∃c,dat[i]? = some c/\V.str c=x:=by
      rw[f_] at hx;cases e:dat[i]? with
      | none=>rw[e] at hx;cases hx
      | some nm=>rw[e] at hx;exact⟨nm,rfl,ge hx⟩
    have a7:c∈dat:=gt an
    have a8:=ac c a7;have a1:dat.take (i+1)=dat.take i++[c]:=by rw[j6,an];rfl
    have aE:c∉dat.take i:=λhm=>by
      obtain⟨j,hj,e⟩:=wh hm;have az:j < i:=by simp at hj;omega
      have e2:dat[j]? = some c:=by rw[<- e,List.getElem_take];simp
      have:=gD ar e2 an
      omega
    obtain⟨ra,aH,a2⟩:=M.rf c a8;obtain⟨g1,g2,g3⟩:=M.gd c a8;have aK:=af _ _ aG;have a4:=af _ _ a2;ctx_has v aK aH a4
    refine cu aY (λj σ H'=>∃(sv:List (Key × V)) (v4:Option V),σ=[-p,-r,-se,some (.str c),v4]/\H' se<*sv/\(∀v:Int,(bM sv (i4 v)).isSome=true↔(∃c∈dat.take i,v∈rm c)\/v∈(rm c).take j)/\(∀v∈(rm c).take j,∀Y∈dat.take i,v∉rm Y)/\sv.length<=10 * i+j/\ap H H')
      ⟨sv,_,rfl,h2,λv=>by rw[aA v];simp,by simp,a0,af⟩ (λi σ H' a3=>by obtain⟨_,_,_,_,_,_,_,sm⟩:=a3;exact(.of (sm _ _ a2))) ?_ ?_
    . rintro j y σ H3 hj hy ⟨sv,v4,rfl,h3,B,ad,ak,ah⟩
      rw[d_] at hj;obtain⟨v,aq,rfl⟩ : ∃v,(rm c)[j]? = some v/\V.int v=y:=by
        rw[f_] at hy;cases e:(rm c)[j]? with
        | none=>rw[e] at hy;cases hy
        | some nm=>rw[e] at hy;exact⟨nm,rfl,ge hy⟩
      have aJ:v∈rm c:=gt aq
      have aB:v∉(rm c).take j:=λhm=>by
        obtain⟨j',az,e⟩:=wh hm;have aM:j' < j:=by simp at az;omega
        have e2:(rm c)[j']? = some v:=by rw[<- e,List.getElem_take];simp
        have:=gD g3 e2 aq
        omega
      have am:(rm c).take (j+1)=(rm c).take j++[v]:=by rw[j6,aq];rfl
      ctx_has v h3
      refine dC (λh=>?_) (λh=>?_)
      . refine k true H3 ⟨λ_=>?_,λ_=>rfl⟩ ah
        rcases (B v).mp h with⟨Y,Z,F⟩ | z
        . have aa:c≠Y:=λe=>aE (e ▸ Z)
          obtain⟨g,hg,e1,e2⟩:=Im aa aJ F (λx hx=>(M.gd x hx).1) (cs:=cs)
          refine⟨g,hg,decide_eq_false ((eW ar).mpr ⟨c,a7,Y,y4 Z,aa,by rw[e1,e2]⟩)⟩
        . exact absurd z aB
      . have aI : ¬ ((∃c∈dat.take i,v∈rm c)\/v∈(rm c).take j):=λz=>h ((B v).mpr z)
        refine⟨aF (),bu sv (i4 v) (.bl true),ae,λv'=>?_,λv' F Y Z ax=>?_,ja (fP _ _ _) (),λb o e=>?_⟩
        . rw[gC]
          by_cases ev:v'=v
          . subst ev
            rw[if_pos rfl,am];simp
          . rw[if_neg (λz=>ev (K2 z)),B v',am]
            simp[ev]
        . rw[am] at F
          rcases j9.mp F with z | z
          . exact ad v' z Y Z ax
          . rw[fx.mp z] at ax
            exact aI (.inl ⟨Y,Z,ax⟩)
        . rw[ai (au e a5)];exact ah b o e
    . rintro σ H3 ⟨sv,v4,rfl,h3,B,ad,ak,ah⟩
      rw[d_,la] at B ad;rw[d_] at ak;refine⟨sv,_,_,rfl,h3,λv=>?_,λx hx y hy aa v hv F=>?_,(),ah⟩
      . rw[B v,a1]
        constructor
        . rintro(⟨Y,h5,h6⟩ | h5)
          . exact⟨Y,m9 _ h5,h6⟩
          . exact⟨c,by simp,h5⟩
        . rintro⟨Y,h5,h6⟩
          rcases j9.mp h5 with z | z
          . exact .inl ⟨Y,z,h6⟩
          . rw[fx.mp z] at h6;exact .inr h6
      . rw[a1] at hx hy
        rcases j9.mp hx with z | z
        . rcases j9.mp hy with z' | z'
          . exact ab x z y z' aa v hv F
          . rw[fx.mp z'] at F
            exact ad v F x z hv
        . rw[fx.mp z] at hv aa
          rcases j9.mp hy with z' | z'
          . exact ad v hv y z' F
          . exact aa (fx.mp z').symm
  . rintro σ H2 ⟨sv,v3,v4,rfl,h2,aA,ab,a0,af⟩
    rw[d_,la] at ab;ctx_has v
    refine k false H2 ⟨λz=>(by cases z),?_⟩ af
    rintro⟨g,hg,hk⟩
    obtain⟨c,hc,Y,Z,aa,e⟩:=(eW ar).mp (of_decide_eq_false hk);exact absurd (e ▸ hg Y (ac Y Z)) (λz=>ab c hc Y Z aa (g c) (hg c (ac c hc)) z)
theorem pA (T : Txt w K mg) (L:FnL K mg "finds_value" db ["cell","rooms","holders","tried"]) (Fo:Fn P w K mg base "finds_value" (n+1) ["cell","rooms","holders","tried"] (kC n)):Fn P w K mg base "finds_value" (n+1+1) ["cell","rooms","holders","tried"] (kC (n+1)):=by
  ctx_has z kl <;> obtain⟨r,ha,ta,CS,kvs,rm,U,hl,tl,c,rfl,k0,hc,hm,k⟩:=h
  . rfl
  refine⟨_,(ag (bx (cg K (bC hu (pvM 1) (pvM 0))) (ay 4) (aj (bg (oB (jh hu (pvM 4) (pvM 3))) (ag (fu hu (pvM 3) (pvM 4) dm rfl)
    (aj (bg (PW.pt (rB (oB (jh hu (pvM 4) (pvM 2))) (qg (fo (aq Fo (ac (bC hu (pvM 2) (pvM 4)) (ac (pvM 1) (ac (pvM 2) (ac (pvM 3) af))))))))) (ag (fu hu (pvM 2) (pvM 4) (pvM 0) rfl)
    (aj (aw dm))) aL))) aL)))
    (aj (aw dm))),?_⟩
  obtain⟨ra,a7,ah⟩:=k0.rf c hc;have a6:=k0.rd;ctx_has v a6 a7 ah
  refine cu aY (λj σ H'=>∃(Y:List Int) (v4:Option V),σ=[some (.str c),-r,-ha,-ta,v4]/\dL H' r ha ta CS kvs rm U hl Y/\(∀v∈tl,v∈Y)/\(∀v∈(rm c).take j,v∈Y)/\(∀v∈Y,v∉tl->∃x,bH hl v=some x/\∀v'∈rm x,v'∈Y)/\∀a o,a≠ha->a≠ta->H a=some o->H' a=some o)
    ⟨tl,_,rfl,k0,λv h=>h,by simp,λv h h'=>absurd h h',λa o _ _ e=>e⟩ (λj σ H' az=>by obtain⟨_,_,_,_,_,_,_,kp⟩:=az;exact(.of (kp _ _ (aZ ah k0.hh (by intro z;cases z)) (aZ ah k0.ht (by intro z;cases z)) ah))) ?_ ?_
  . rintro j y σ H1 hj hy ⟨Y,v4,rfl,k1,F,B,aa,kp⟩
    rw[d_] at hj;obtain⟨v,a0,rfl⟩ : ∃v,(rm c)[j]? = some v/\V.int v=y:=by
      rw[f_] at hy;cases e:(rm c)[j]? with
      | none=>rw[e] at hy;cases hy
      | some nm=>rw[e] at hy;exact⟨nm,rfl,ge hy⟩
    have an:v∈rm c:=gt a0
    have ax:(rm c).take (j+1)=(rm c).take j++[v]:=by rw[j6,a0];rfl
    have a1:=k1.ru c hc v an;have aD:=k1.ht;ctx_has v aD
    rw[lj];refine dC (λh=>?_) (λh=>?_)
    . have ad:v∉Y:=by simpa using h
      have ak:v∉tl:=λz=>ad (F v z)
      rw[Al ad];have k2:=k1.tryV ad a1;have ar:=k2.hh;have am : ∀a o,a≠ha->a≠ta->H a=some o->upd H1 ta (.dK ((Y++[v]).map jx)) a=some o:=λa o h1 h2 e=>by rw[ai h2];exact kp a o h1 h2 e
      generalize upd H1 ta (.dK ((Y++[v]).map jx))=H2 at k2 ar am ⊢;have ab : ∀u∈tl,u∈Y++[v]:=λu hu=>m9 _ (F u hu)
      refine⟨p_ (show(Y.map jx).length<=100 by rw[d_];exact k1.small.2) ∅,?_⟩
      ctx_has v ar
      rw[nV];cases hg:bH hl v with
      | none =>
        ctx_has v Option.map_none
        simp only[Option.isSome_none,Bool.not_false,if_true];refine⟨p_ (show(hl.map iH).length<=100 by rw[d_];exact k2.small.1) ∅,?_⟩
        rw[nT v c k2.hk];refine k true (dP hl v c) (Y++[v]) _ (k2.hold hc an) ab (λa o h1 h2 e=>by rw[ai h1];exact am a o h1 h2 e) (λ_=>⟨λy=>?_,λu hu=>?_⟩) (λz=>by cases z)
        . have h1:=qN v c y k2.hk
          rw[hg,if_neg (by intro z;cases z)] at h1
          exact h1
        . rw[ni,if_neg (show ¬ u=v from λe=>ak (e ▸ hu))]
      | some x =>
        simp only[Lo,isSome_some,Bool.not_true,i9,if_false];rw[if_neg ∅]
        have a9:=gw hg;refine⟨_,rfl,r,ha,ta,CS,kvs,rm,U,hl,Y++[v],x,rfl,k2,(k2.hv _ a9).1,?_,λb2 au a2 H3 k3 Z aA ht hf=>⟨b2,rfl,?_⟩⟩
        . have h1:=CZ a1 ad
          have h2:=xC (U:=U) F;omega
        have a5 : ∀a o,a≠ha->a≠ta->H a=some o->H3 a=some o:=λa o h1 h2 e=>aA a o h1 h2 (am a o h1 h2 e)
        cases b2 with
        | true =>
          rw[if_pos rfl];obtain⟨ao,a4⟩:=ht rfl;refine⟨_,k3.hh,p_ (show(au.map iH).length<=100 by rw[d_];exact k3.small.1) ∅,?_⟩
          rw[nT v c k3.hk];refine k true (dP au v c) a2 _ (k3.hold hc an) (λu hu=>Z u (ab u hu)) (λa o h1 h2 e=>by rw[ai h1];exact a5 a o h1 h2 e) (λ_=>⟨λy=>?_,λu hu=>?_⟩) (λz=>by cases z)
          . have h1:=qN v c y k3.hk
            have h2:=ao y;rw[a4 v (by simp),hg] at h1
            simp only[Option.some.injEq] at h1;omega
          . rw[ni,if_neg (show ¬ u=v from λe=>ak (e ▸ hu))]
            exact a4 u (ab u hu)
        | false =>
          rw[if_neg ∅]
          obtain⟨rfl,a8,a3⟩:=hf rfl;refine⟨a2,k3,λu hu=>Z u (ab u hu),λu hu=>?_,λu hu aB=>?_,a5⟩
          . rw[ax] at hu
            rcases j9.mp hu with q | q
            . exact Z u (m9 _ (B u q))
            . rw[fx.mp q];exact Z v (by simp)
          . by_cases h1:u∈Y
            . obtain⟨x',h2,h3⟩:=aa u h1 aB
              exact⟨x',h2,λv' aC=>Z v' (m9 _ (h3 v' aC))⟩
            . by_cases h2:u=v
              . subst h2;exact⟨x,hg,a8⟩
              . exact a3 u hu (by simp[h1,h2])
    . have ad:v∈Y:=by simpa using h
      refine⟨Y,k1,F,λu hu=>?_,aa,kp⟩
      rw[ax] at hu;rcases j9.mp hu with q | q
      . exact B u q
      . rw[fx.mp q];exact ad
  . rintro σ H1 ⟨Y,v4,rfl,k1,F,B,aa,kp⟩
    rw[d_,la] at B;ctx_has v
    exact k false hl Y H1 k1 F kp (λz=>by cases z) (λ_=>⟨rfl,B,aa⟩)
theorem pi (T:Txt w K mg) (L:FnL K mg "finds_value" db ["cell","rooms","holders","tried"]):Fn P w K mg base "finds_value" (0+1) ["cell","rooms","holders","tried"] (kC 0):=by
 ctx_has z kl <;> obtain⟨r,ha,ta,CS,kvs,rm,U,hl,tl,c,rfl,Z,hc,hm,k⟩:=h
 .rfl
 refine⟨_,(ag (bx (cg K (bC hu (pvM 1) (pvM 0))) (ay 4) (aj (bg (oB (jh hu (pvM 4) (pvM 3))) (ag (fu hu (pvM 3) (pvM 4) dm rfl)
  (aj (bg (PW.pt (rB (oB (jh hu (pvM 4) (pvM 2))) (qg (fo qw)))) (ag (fu hu (pvM 2) (pvM 4) (pvM 0) rfl)
  (aj (aw dm))) aL))) aL)))
  (aj (aw dm))),?_⟩
 obtain⟨ra,ai,F⟩:=Z.rf c hc;have ah:=Z.rd;ctx_has v ah ai F
 refine cu aY (λj σ H'=>∃(B:List Int) (v4:Option V),σ=[some (.str c),-r,-ha,-ta,v4]/\dL H' r ha ta CS kvs rm U hl B/\(∀v∈tl,v∈B)/\(∀v∈(rm c).take j,v∈B)/\(∀v∈B,v∉tl->∃x,bH hl v=some x/\∀v'∈rm x,v'∈B)/\∀a o,a≠ha->a≠ta->H a=some o->H' a=some o)
  ⟨tl,_,rfl,Z,λv h=>h,by simp,λv h h'=>absurd h h',λa o _ _ e=>e⟩ (λj σ H' ad=>by obtain⟨_,_,_,_,_,_,_,Y⟩:=ad;exact(.of (Y _ _ (aZ F Z.hh (by intro z;cases z)) (aZ F Z.ht (by intro z;cases z)) F))) ?_ ?_
 .rintro j y σ H1 hj hy ⟨B,v4,rfl,k1,hsub,hdone,hclo,Y⟩
  rw[d_] at hj;obtain⟨v,ab,rfl⟩ : ∃v,(rm c)[j]? = some v/\V.int v=y:=by
   rw[f_] at hy;cases e:(rm c)[j]? with
   | none=>rw[e] at hy;cases hy
   | some nm=>rw[e] at hy;exact⟨nm,rfl,ge hy⟩
  have am:v∈rm c:=gt ab
  have af:(rm c).take (j+1)=(rm c).take j++[v]:=by rw[j6,ab];rfl
  have ak:=k1.ru c hc v am;have an:=k1.ht;ctx_has v an
  rw[lj];refine dC (λh=>?_) (λh=>?_)
  .have hvn:v∉B:=by simpa using h
   have ac:v∉tl:=λz=>hvn (hsub v z)
   exfalso
   have aa:v∈U.filter (λx=>decide (x∉tl)):=G_.mpr ⟨ak,decide_eq_true ac⟩
   have:=KY aa
   omega
  .have hvn:v∈B:=by simpa using h
   refine⟨B,k1,hsub,λu hu=>?_,hclo,Y⟩
   rw[af] at hu;rcases j9.mp hu with q | q
   .exact hdone u q
   .rw[fx.mp q];exact hvn
 .rintro σ H1 ⟨B,v4,rfl,k1,hsub,hdone,hclo,Y⟩
  rw[d_,la] at hdone;ctx_has v
  exact k false hl B H1 k1 hsub Y (λz=>by cases z) (λ_=>⟨rfl,hdone,hclo⟩)
theorem wS {P:Program} {w:World} {K:fy} {mg:Str->Option Value} {base:Heap} (T:Txt w K mg) (L:FnL K mg "finds_value" db ["cell","rooms","holders","tried"]) : ∀n,Fn P w K mg base "finds_value" (n+1) ["cell","rooms","holders","tried"] (kC n)
 | 0=>pi T L
 | n+1=>pA T L (wS T L n)
theorem pL {v:Int} {x:Str} : ∀{hl:List (Int × Str)},(v,x)∈hl->1<=eQ hl x
 | (w,z) :: r,h=>by
  simp only[eQ];rcases i6.mp h with q | q
  .cases q;rw[if_pos rfl];omega
  .have:=pL q;omega
theorem zM {v v':Int} {x:Str} (B:v≠v') : ∀{hl:List (Int × Str)},(v,x)∈hl->(v',x)∈hl->2<=eQ hl x
 | (w, z) :: r,h,h'=>by
  simp only[eQ];rcases i6.mp h with q | q
  .rcases i6.mp h' with q' | q'
   .cases q;cases q';exact absurd rfl B
   .cases q
    have:=pL q'
    rw[if_pos rfl];omega
  .rcases i6.mp h' with q' | q'
   .cases q'
    have:=pL q
    rw[if_pos rfl];omega
   .have:=zM B q q';omega
theorem ze {x:Str} : ∀{hl:List (Int × Str)},1<=eQ hl x->∃v,(v,x)∈hl
 | [],h=>by simp[eQ] at h
 | (w,z) :: r,h=>by
  by_cases e:z=x
  .subst e;exact⟨w,by simp⟩
  .simp only[eQ,if_neg e] at h
   obtain⟨v,B⟩:=ze (x:=x) (hl:=r) ()
   exact⟨v,by simp[B]⟩
theorem Av {hl:List (Int × Str)} (tn:tl.Nodup) (h0:eQ hl c=0) (h1 : ∀y,eQ hl y<=1) (hc : ∀v∈rm c,v∈tl) (L : ∀v∈tl,∃x,bH hl v=some x/\∀v'∈rm x,v'∈tl)
  (inj : ∀x y,(x=c\/∃v,bH hl v=some x)->(y=c\/∃v,bH hl v=some y)->g x=g y->x=y) (ab:g c∈rm c) (aa : ∀v x,bH hl v=some x->g x∈rm x):False:=by
 have Y : ∀v∈tl,bH hl v=some ((bH hl v).getD c):=λv F=>by obtain⟨x,e,_⟩:=L v F;rw[e];rfl
 have Z:(c :: tl.map λv=>(bH hl v).getD c).Nodup:=by
  rw[m7];refine⟨λz=>?_,y9.mpr (Is (λ{a b} ha hb q e=>?_) tn)⟩
  .obtain⟨v,F,e⟩:=hH.mp z
   have h2:=pL (gw (Y v F));rw[e] at h2;omega
  .have h2:=zM q (gw (Y a ha)) (by rw[e];exact gw (Y b hb))
   have:=h1 ((bH hl a).getD c)
   omega
 have B : ∀y∈(c :: tl.map λv=>(bH hl v).getD c),(y=c\/∃v,bH hl v=some y)/\g y∈tl:=λy hy=>by
  rcases i6.mp hy with q | q
  .subst q;exact⟨.inl rfl,hc _ ab⟩
  .obtain⟨v,F,rfl⟩:=hH.mp q
   obtain⟨x,e,hx⟩:=L v F;have e':=Y v F;refine⟨.inr ⟨v,e'⟩,?_⟩
   have:(bH hl v).getD c=x:=by rw[e];rfl
   rw[this];exact hx _ (aa v x e)
 have hg:((c :: tl.map λv=>(bH hl v).getD c).map g).Nodup:=y9.mpr (Is (λ{a b} ha hb q e=>q (inj a b (B a ha).1 (B b hb).1 e)) Z)
 have:=dY (ys:=tl) hg λv F=>by
  obtain⟨y,hy,rfl⟩:=hH.mp F;exact(B y hy).2
 simp at this
 omega
def Bw (hl:List (Int × Str)) (y:Str):Int:=((hl.find? λx=>decide (x.2=y)).map (·.1)).getD 0
theorem nM {hl:List (Int × Str)} {y:Str} (h:1<=eQ hl y):(Bw hl y,y)∈hl:=by
 obtain⟨v,F⟩:=ze h;unfold Bw;cases e:hl.find? λx=>decide (x.2=y) with
 | none =>
  have:=List.find?_eq_none.mp e (v,y) F
  simp at this
 | some x =>
  have h1:=List.mem_of_find?_eq_some e;have h2:=List.find?_some e;have B:x.2=y:=by simpa using h2
  subst B;exact h1
theorem kW (T:Txt w K mg) (L:ck K (aD K (ao mg "Unlike") "may_keep") "may_keep" "Unlike.may_keep" eT ["self","rooms"]) (Fo:Fn P w K mg base "finds_value" 21 ["cell","rooms","holders","tried"] (kC 20)):FnR P w K mg base (aD K (ao mg "Unlike") "may_keep") 22 ["self","rooms"] (eK mg):=by
 ctx_has z lD <;> obtain⟨p,r,dat,cs,kvs,rm,rfl,M,k⟩:=h
 .rfl
 refine⟨_,(ag (aC 2 eh)
  (ag (bx (cg K (aN T.cl_Unlike T.no_Unlike_cells (pvM 0))) (ay 3) (aj (bg (vf (fo (aq Fo (ac (pvM 3) (ac (pvM 1) (ac (pvM 2) (ac eh af))))))) (aj (aw dm)) aL)))
  (aj (aw dm)))),?_⟩
 obtain⟨dx,fs,ce,h1,f1,ax,_,_⟩:=M.ob;have aa:=M.rd;have ad:dat.Nodup:=M.ok.nodup_iff.mpr M.nd
 have aF:dat.length=cs.length:=M.ok.length_eq
 have ak : ∀c∈dat,c∈cs:=λc hc=>M.ok.mem_iff.mp hc
 obtain⟨U,a2,a4⟩:=M.un;have aG:=M.cl;ctx_has v
 intro ha ah;have s1:ap H (upd H ha (.dK [])):=ap.upd0 ah
 refine⟨dx,fs,s1 _ _ h1,_,f1,ce,rfl,_,s1 _ _ ax,?_⟩
 refine cu aY (λi σ H'=>∃(hl:List (Int × Str)) (v3:Option V),σ=[-p,-r,-ha,v3]/\H' ha<*(hl.map iH)/\(hl.map (·.1)).Nodup/\(∀x∈hl,x.2∈cs/\x.1∈rm x.2)/\(∀y,eQ hl y=if y∈dat.take i then 1 else 0)/\ap H H')
  ⟨[],_,rfl,ae,by simp,by simp,by simp[eQ],s1⟩ (λi σ H' az=>by obtain⟨_,_,_,_,_,_,_,sm⟩:=az;exact(.of (sm _ _ ax))) ?_ ?_
 .rintro i x σ H2 hi F ⟨hl,v3,rfl,h2,hkn,hkv,hcn,sm2⟩
  rw[d_] at hi;obtain⟨c,ab,rfl⟩ : ∃c,dat[i]? = some c/\V.str c=x:=by
   rw[f_] at F;cases e:dat[i]? with
   | none=>rw[e] at F;cases F
   | some nm=>rw[e] at F;exact⟨nm,rfl,ge F⟩
  have a0:c∈dat:=gt ab
  have a1:=ak c a0;have a3:dat.take (i+1)=dat.take i++[c]:=by rw[j6,ab];rfl
  have B:c∉dat.take i:=λhm=>by
   obtain⟨j,hj,e⟩:=wh hm;have aB:j < i:=by simp at hj;omega
   have e2:dat[j]? = some c:=by rw[<- e,List.getElem_take];simp
   have:=gD ad e2 ab
   omega
  ctx_has v
  intro ta Y;have s3:ap H2 (upd H2 ta (.dK [])):=ap.upd0 Y
  have aA:r≠ha:=au aa ah
  have k0:dL (upd H2 ta (.dK [])) r ha ta cs kvs rm U hl []:=⟨s3 _ _ (sm2 _ _ aa),(M.rf.same (λa vs e=>sm2 _ _ e)).same (λa vs e=>s3 _ _ e),s3 _ _ h2,ae,⟨aA,au (sm2 _ _ aa) Y,au h2 Y⟩,hkn,hkv,by simp,by simp,a2,(),λx F=>by have:=(M.gd x F).2.1;omega⟩
  refine⟨r,ha,ta,cs,kvs,rm,U,hl,[],c,rfl,k0,a1,ja (List.length_filter_le _ _) a4,λb Z aE H3 k3 _ kp ht hf=>?_⟩
  have am:ap H H3:=λa o e=>kp a o (au e ah) (au (sm2 _ _ e) Y) (s3 _ _ (sm2 _ _ e))
  ctx_has v
  cases b with
  | true =>
   rw[if_neg ∅]
   obtain⟨a8,_⟩:=ht rfl;refine⟨Z,k3.hh,k3.hk,k3.hv,λy=>?_,am⟩
   rw[a8 y,hcn y,a3]
   by_cases e:c=y
   .subst e;simp[B]
   .simp[e,p7 e]
  | false =>
   rw[if_pos rfl];obtain⟨rfl,a7,an⟩:=hf rfl;refine k false H3 ⟨λz=>(by cases z),?_⟩ am
   rintro⟨g,hg,hk⟩
   exfalso
   have a9:(dat.map g).Nodup:=of_decide_eq_true hk
   have hold : ∀v x,bH Z v=some x->x∈dat/\x∈cs:=λv x e=>by
    have:=(hkv _ (gw e)).1
    exact⟨M.ok.mem_iff.mpr this,this⟩
   have inj : ∀x∈dat,∀y∈dat,g x=g y->x=y:=λx F y hy e=>o9 λai=>(eW ad).mpr ⟨x,F,y,hy,ai,e⟩ a9
   have inD : ∀x,(x=c\/∃v,bH Z v=some x)->x∈dat:=λx h=>by
    rcases h with h | ⟨v,h⟩
    .rw[h];exact a0
    .exact(hold v x h).1
   refine Av (g:=g) k3.tn (by rw[hcn c,if_neg B]) (λy=>by rw[hcn y];split <;> omega) a7 (λv hv=>an v hv (by simp)) (λx y F hy e=>inj x (inD x F) y (inD y hy) e) (hg c a1) (λv x e=>hg x (hold v x e).2)
 .rintro σ H2 ⟨hl,v3,rfl,h2,hkn,hkv,hcn,sm2⟩
  rw[d_,la] at hcn;ctx_has v
  refine k true H2 ⟨λ_=>⟨Bw hl,λc hc=>?_,?_⟩,λ_=>rfl⟩ sm2
  .have hm:=nM (hl:=hl) (y:=c) (by rw[hcn c,if_pos (M.ok.mem_iff.mpr hc)];exact h_ _)
   exact(hkv _ hm).2
  .refine decide_eq_true (o9 λa6=>?_)
   obtain⟨c,hc,c',a5,ai,e⟩:=(eW ad).mp a6;have hm:=nM (hl:=hl) (y:=c) (by rw[hcn c,if_pos hc];exact h_ _)
   have ar:=nM (hl:=hl) (y:=c') (by rw[hcn c',if_pos a5];exact h_ _)
   rw[<- e] at ar;have:=(nw hkn hm).symm.trans (nw hkn ar)
   exact ai (ge this)
structure kA (mg:Str->Option Value) (H:Hp) (p:Addr) (am ce:V) (lo hi:Int):Prop where
 ex : ∃dx fs,H p=some (.ins (ao mg "Many") dx fs)/\fs.lookup (b_ "among")=some am/\fs.lookup (b_ "cells")=some ce/\fs.lookup (b_ "low")=some (.int lo)/\fs.lookup (b_ "high")=some (.int hi) /\
  fs.lookup (b_ "fewest")=none/\fs.lookup (b_ "most")=none/\fs.lookup (b_ "may_keep")=none/\fs.lookup (b_ "may_break")=none
theorem kA.same {F B:V} {hi:Int} (h:kA mg H p F B lo hi) (s:ap H H'):kA mg H' p F B lo hi:=by
 obtain⟨dx,fs,h1,r⟩:=h.ex;exact⟨dx,fs,s _ _ h1,r⟩
def vX (mg:Str->Option Value):Sp:=λvs H Q _=>∃(p dx w:Addr) (F B:V) (lo hi:Int),vs=[.ref p,.ref w]/\H p=some (.ins (ao mg "Many") dx [])/\H w>>[.str "many",F,B,.int lo,.int hi]/\∀H',kA mg H' p F B lo hi->HW mg "Many" H' p w->gE p H H'->Q .non H'
def dZ (av:List Int) (rm:Str->List Int) (cs:List Str):Nat:=(cs.filter λc=>(rm c).all λv=>decide (v∈av)).length
def cM (av:List Int) (rm:Str->List Int) (cs:List Str):Nat:=(cs.filter λc=>(rm c).any λv=>decide (v∈av)).length
structure jm (mg:Str->Option Value) (H:Hp) (p r:Addr) (av:List Int) (cs:List Str) (lo hi:Int) (kvs:List (Key × V)) (rm:Str->List Int):Prop where
 ob : ∃am ce,kA mg H p (.ref am) (.ref ce) lo hi/\H am>>(av.map V.int)/\H ce>>(cs.map V.str)
 rd:H r<*kvs
 rf:bQ H kvs cs rm
 sm:av.length<=20/\cs.length<=20/\∀c∈cs,(rm c).length<=20
def yy (mg:Str->Option Value):Sp:=λvs H Q _=>∃(p r:Addr) (av:List Int) (cs:List Str) (lo hi:Int) (kvs:List (Key × V)) (rm:Str->List Int),vs=[.ref p,.ref r]/\jm mg H p r av cs lo hi kvs rm/\∀H',ap H H'->Q (.int (dZ av rm cs)) H'
def ur (mg:Str->Option Value):Sp:=λvs H Q _=>∃(p r:Addr) (av:List Int) (cs:List Str) (lo hi:Int) (kvs:List (Key × V)) (rm:Str->List Int),vs=[.ref p,.ref r]/\jm mg H p r av cs lo hi kvs rm/\∀H',ap H H'->Q (.int (cM av rm cs)) H'
def iC (lo hi:Int) (a b:Nat):Bool:=decide (lo<=hi) && decide (lo<=b) && decide ((a:Int)<=hi) && decide (a<=b)
def gM (lo hi:Int) (a b:Nat):Bool:=decide ((a:Int) < lo) || decide (hi < (b:Int))
def eP (mg:Str->Option Value):Sp:=λvs H Q _=>∃(p r:Addr) (av:List Int) (cs:List Str) (lo hi:Int) (kvs:List (Key × V)) (rm:Str->List Int),vs=[.ref p,.ref r]/\jm mg H p r av cs lo hi kvs rm/\∀H',ap H H'->Q (.bl (iC lo hi (dZ av rm cs) (cM av rm cs))) H'
def dB (mg:Str->Option Value):Sp:=λvs H Q _=>∃(p r:Addr) (av:List Int) (cs:List Str) (lo hi:Int) (kvs:List (Key × V)) (rm:Str->List Int),vs=[.ref p,.ref r]/\jm mg H p r av cs lo hi kvs rm/\∀H',ap H H'->Q (.bl (gM lo hi (dZ av rm cs) (cM av rm cs))) H'
theorem jm.same {mg:Str->Option Value} {H H':Hp} {p r:Addr} {av:List Int} {cs:List Str} {lo hi:Int} {kvs:List (Key × V)} {rm:Str->List Int} (h:jm mg H p r av cs lo hi kvs rm) (s:ap H H'):jm mg H' p r av cs lo hi kvs rm:=by
 obtain⟨Y,B,h1,h2,L⟩:=h.ob;refine⟨⟨Y,B,h1.same s,s _ _ h2,s _ _ L⟩,s _ _ h.rd,λc F=>?_,h.sm⟩
 obtain⟨a,e1,e2⟩:=h.rf c F;exact⟨a,e1,s _ _ e2⟩
def jt (av:List Int) (cs:List Str) (g:Str->Int):Nat:=(cs.filter λc=>decide (g c∈av)).length
def uf (lo hi:Int) (av:List Int) (cs:List Str) (g:Str->Int):Bool:=decide (lo<=(jt av cs g:Int)) && decide ((jt av cs g:Int)<=hi)
theorem jO {av:List Int} {rm:Str->List Int} {g:Str->Int} : ∀{cs:List Str},okF rm cs g->dZ av rm cs<=jt av cs g/\jt av cs g<=cM av rm cs
 | [],_=>⟨h_ _,h_ _⟩
 | c :: cs,h=>by
  have Y:=jO (av:=av) (cs:=cs) λx L=>h x (by simp[L])
  have F:=h c (by simp)
  unfold dZ jt cM at *;rw[w_,w_,w_]
  by_cases B:g c∈av
  .have h3:(rm c).any (λv=>decide (v∈av))=true:=v9.mpr ⟨g c,F,by simp[B]⟩
   rw[if_pos h3,if_pos (decide_eq_true B)]
   split <;> (try simp only[t4]) <;> omega
  .have h3 : ¬ ((rm c).all (λv=>decide (v∈av))=true):=λz=>B (by simpa using C_.mp z (g c) F)
   rw[if_neg h3,if_neg (by simpa using B)]
   split <;> (try simp only[t4]) <;> omega
theorem CY : ∀{cs:List Str},c∉cs->jt av cs (bO g c v)=jt av cs g:=λ{cs} h=>by
 unfold jt
 congr 1
 refine List.filter_congr λx B=>?_
 rw[du];rintro rfl
 exact h B
theorem jd {av:List Int} {rm:Str->List Int} : ∀{cs:List Str},(∀c∈cs,1<=(rm c).length)->dZ av rm cs<=cM av rm cs
 | [],_=>h_ _
 | c :: cs,h=>by
  have L:=jd (av:=av) (rm:=rm) (cs:=cs) λx F=>h x (by simp[F])
  have B:=h c (by simp)
  unfold dZ cM at *;rw[w_,w_]
  by_cases h1:(rm c).all (λv=>decide (v∈av))=true
  .have h3:(rm c).any (λv=>decide (v∈av))=true:=by
    cases e:rm c with
    | nil=>rw[e] at B;simp at B
    | cons a b=>rw[e] at h1;simp at h1 ⊢;exact .inl h1.1
   rw[if_pos h1,if_pos h3];simp;exact L
  .rw[if_neg h1]
   split <;> (try simp only[t4]) <;> omega
theorem lP {av:List Int} {rm:Str->List Int} : ∀{cs:List Str} {n:Nat},(∀c∈cs,1<=(rm c).length)->cs.Nodup->dZ av rm cs<=n->n<=cM av rm cs->∃g,okF rm cs g/\jt av cs g=n
 | [],n,_,_,h1,h2=>⟨λ_=>0,λc hc=>by simp at hc,by simp[dZ,cM,jt] at *;omega⟩
 | c :: cs,n,hne,hnd,h1,h2=>by
  have ah:c∉cs:=(m7.mp hnd).1
  have ac:=(m7.mp hnd).2;have Z : ∀x∈cs,1<=(rm x).length:=λx hx=>hne x (by simp[hx])
  have hc:=hne c (by simp)
  have am:=jd (av:=av) Z;have aa : ∀(v:Int) (m:Nat),v∈rm c->dZ av rm cs<=m->m<=cM av rm cs->n=m+(if v∈av then 1 else 0)->∃g,okF rm (c :: cs) g/\jt av (c :: cs) g=n:=λv m hv aj F e=>by
   obtain⟨g,hg,L⟩:=lP (av:=av) Z ac aj F;refine⟨bO g c v,λx hx=>?_,?_⟩
   .by_cases ex:x=c
    .subst ex;rw[bK];exact hv
    .rw[du _ _ ex]
     rcases i6.mp hx with z | z
     .exact absurd z ex
     .exact hg x z
   .have e2:=CY (av:=av) (v:=v) (g:=g) ah
    unfold jt at e2 L ⊢;rw[w_,bK]
    by_cases Y:v∈av
    .rw[if_pos Y] at e
     rw[if_pos (decide_eq_true Y),t4,e2,L];omega
    .rw[if_neg Y] at e
     rw[if_neg (by simpa using Y),e2,L];omega
  obtain⟨v0,ab⟩ : ∃v,v∈rm c:=by
   cases e:rm c with
   | nil=>rw[e] at hc;simp at hc
   | cons a b=>exact⟨a,by simp⟩
  have f1:dZ av rm (c :: cs)=dZ av rm cs+(if (rm c).all (λv=>decide (v∈av))=true then 1 else 0):=by
   unfold dZ;rw[w_];split <;> simp
  have f2:cM av rm (c :: cs)=cM av rm cs+(if (rm c).any (λv=>decide (v∈av))=true then 1 else 0):=by
   unfold cM;rw[w_];split <;> simp
  rw[f1] at h1;rw[f2] at h2
  by_cases ha:(rm c).all (λv=>decide (v∈av))=true
  .rw[if_pos ha] at h1
   have hm:v0∈av:=by simpa using C_.mp ha v0 ab
   have B:(rm c).any (λv=>decide (v∈av))=true:=v9.mpr ⟨v0,ab,by simp[hm]⟩
   rw[if_pos B] at h2;exact aa v0 (n - 1) ab () () (by rw[if_pos hm];omega)
  .rw[if_neg ha] at h1
   obtain⟨v1,ak,af⟩ : ∃v∈rm c,v∉av:=o9 λai=>ha (C_.mpr λv hv=>decide_eq_true (o9 λz=>ai ⟨v,hv,z⟩))
   by_cases ag:n<=cM av rm cs
   .exact aa v1 n ak () ag (by rw[if_neg af];omega)
   .by_cases B:(rm c).any (λv=>decide (v∈av))=true
    .rw[if_pos B] at h2
     obtain⟨v2,ad,F⟩:=v9.mp B;have F:v2∈av:=by simpa using F
     exact aa v2 (n - 1) ad () () (by rw[if_pos F];omega)
    .rw[if_neg B] at h2;omega
theorem A6 {hi:Int} (L : ∀c∈cs,1<=(rm c).length) (B:cs.Nodup):(∃g,okF rm cs g/\uf lo hi av cs g=true)↔iC lo hi (dZ av rm cs) (cM av rm cs)=true:=by
 unfold uf iC;simp only[l_,decide_eq_true_eq]
 constructor
 .rintro⟨g,F,h1,h2⟩
  have:=jO (av:=av) F
  omega
 .rintro⟨⟨⟨h1,h2⟩,h3⟩,h4⟩
  obtain⟨g,F,e⟩:=lP (av:=av) (n:=if lo<=(dZ av rm cs:Int) then dZ av rm cs else lo.toNat) L B (by split <;> omega) (by split <;> omega)
  refine⟨g,F,?_⟩
  rw[e]
  split <;> omega
theorem yC {hi:Int} (B : ∀c∈cs,1<=(rm c).length) (F:cs.Nodup):(∃g,okF rm cs g/\uf lo hi av cs g=false)↔gM lo hi (dZ av rm cs) (cM av rm cs)=true:=by
 unfold uf gM;simp only[LF,decide_eq_false_iff_not,Bool.or_eq_true,decide_eq_true_eq];have L:=jd (av:=av) B
 constructor
 .rintro⟨g,hg,h⟩
  have:=jO (av:=av) hg
  omega
 .rintro(h | h)
  .obtain⟨g,hg,e⟩:=lP (av:=av) (n:=dZ av rm cs) B F (h_ _) L
   exact⟨g,hg,by rw[e];omega⟩
  .obtain⟨g,hg,e⟩:=lP (av:=av) (n:=cM av rm cs) B F L (h_ _)
   exact⟨g,hg,by rw[e];omega⟩
theorem mP (T:Txt w K mg) (L:ck K (gJ K (ao mg "Wish") "__init__") "__init__" "Wish.__init__" bD ["self","wish"]):FnR P w K mg base (gJ K (ao mg "Wish") "__init__") 1 ["self","wish"] (dq mg "Many"):=by
 ctx_has z bX <;> obtain⟨p,dx,fs,w,rfl,hp,B,k⟩:=h
 .rfl
 refine⟨_,(aj (bF T.cl_Many T.no_Many_wish (pvM 0) (pvM 1) rfl)),?_⟩
 ctx_has v hp
 exact⟨B,k⟩
theorem no (T:Txt w K mg) (L:ck K (Mk K (ao mg "Many")) "__init__" "Many.__init__" fU ["self","wish"]) (B:FnR P w K mg base (gJ K (ao mg "Wish") "__init__") 1 ["self","wish"] (dq mg "Many")):FnR P w K mg base (Mk K (ao mg "Many")) 2 ["self","wish"] (vX mg):=by
 ctx_has z nk <;> obtain⟨p,dx,w,am,Z,lo,hi,rfl,hp,Y,k⟩:=h
 .rfl
 refine⟨_,(ag (ci (iO B (hr.mono (by ctx_has m)) rfl T.at_Wish (ac (pvM 0) (ac (pvM 1) af))))
  (ag (bF T.cl_Many T.no_Many_among (pvM 0) (az aR (pvM 1) ah) rfl)
  (ag (bF T.cl_Many T.no_Many_cells (pvM 0) (az aR (pvM 1) ah) rfl)
  (ag (bF T.cl_Many T.no_Many_low (pvM 0) (az aR (pvM 1) ah) rfl)
  (aj (bF T.cl_Many T.no_Many_high (pvM 0) (az aR (pvM 1) ah) rfl)))))),?_⟩
 ctx_has v Y
 have F:w≠p:=aZ Y hp (by intro z;cases z)
 refine⟨p,dx,[],.ref w,rfl,hp,∅,?_⟩
 ctx_has v ae
 refine⟨_,by rw[ai F];exact Y,?_⟩
 ctx_has v
 refine⟨dE (A2 _ "" "" "" _ .non .non .non),_,by rw[ai F,ai F];exact Y,?_⟩
 ctx_has v
 refine⟨dE (Ap _ _ "" "" _ _ .non .non),_,by rw[ai F,ai F,ai F];exact Y,?_⟩
 ctx_has v
 refine⟨dE (EW _ _ _ "" _ _ _ .non),_,by rw[ai F,ai F,ai F,ai F];exact Y,?_⟩
 ctx_has v
 refine⟨dE (J8 _ _ _ _ _ _ _ _),k _ ⟨dx,_,ae,?_⟩ ⟨dx,_,ae,?_⟩ ?_⟩
 .simp only[bA,eA,String.reduceEq,if_true,if_false,true_and,KL,and_self]
 .simp only[bA,eA,String.reduceEq,if_true,if_false,true_and,KL,and_self]
 .intro b o hb e
  rw[ai hb,ai hb,ai hb,ai hb,ai hb];exact e
theorem qe (T:Txt w K mg) (L:ck K (aD K (ao mg "Many") "fewest") "fewest" "Many.fewest" cX ["self","rooms"]):FnR P w K mg base (aD K (ao mg "Many") "fewest") 1 ["self","rooms"] (yy mg):=by
 ctx_has z qv <;> obtain⟨p,r,av,cs,lo,hi,kvs,rm,rfl,M,k⟩:=h
 .rfl
 refine⟨_,(aj (aw (aE cC T.b_len (ac (aV (N:=["cell","self","rooms"]) (nt:=1) (js:=[0,1]) (aG ["self","rooms"] (ak cX).names) (cg K (aN T.cl_Many T.no_Many_cells (pvM 0))) (ay 0) aU (gs (fo (aE (fC rfl) T.b_all (ac (aV (N:=["value","self"]) (nt:=1) (js:=[1]) (aG ["cell","self","rooms"] (Jz (ak cX).kind (ak cX).names _)) (cg K (bC hu (pvM 2) (pvM 0))) (ay 0) aU bv (aQ ft (pvM 0) (aN T.cl_Many T.no_Many_among (pvM 1)))) af)))) (pvM 0)) af)))),?_⟩
 obtain⟨am,ce,⟨dx,fs,h1,f1,f2,f3,f4,f5,f6,f7,f8⟩,ha,hc⟩:=M.ob;have ab:=M.rd;obtain⟨z1,z2,z3⟩:=M.sm;ctx_has v h1 f2 hc
 intro q hq;refine dM aY (λv=>match v with | .str c=>(rm c).all (λx=>decide (x∈av)) | _=>false) id hq (λH' s=>.of (s _ _ hc)) (by simp;omega) ?_ ?_ ?_
 .intro x H2 Q2 hx sm q2
  obtain⟨c,F,rfl⟩:=hH.mp hx;obtain⟨a,hv,Y⟩:=M.rf c F;have Z:=sm _ _ ab;have B:=sm _ _ Y;ctx_has v Z hv B
  intro g hg;refine bS aY (λv=>match v with | .int i=>.bl (decide (i∈av)) | _=>.non) hg (λH' s=>.of (s _ _ B)) (by simp;have:=z3 c F;omega) ?_ ?_
  .intro y H3 Q3 hy s3 q3
   obtain⟨i,_,rfl⟩:=hH.mp hy;have aa:=s3 _ _ (sm _ _ h1);have ad:=s3 _ _ (sm _ _ ha);ctx_has v aa f1 ad
   refine⟨rfl,cj _,?_⟩
   rw[cE];exact q3 H3 (ap.refl _)
  .intro H3 s3 h3
   ctx_has v
   refine⟨(rm c).map (λi=>decide (i∈av)),by rw[h3,k6,k6];rfl,?_⟩
   have:=q2 H3 s3
   rw[List.all_map];exact this
 .intro x H2 Q2 hx _ sm q2
  ctx_has v
  exact q2 H2 (ap.refl _)
 .intro H2 sm h2
  ctx_has v h2
  have:=k H2 sm
  rw[d_,LJ,d_];exact this
theorem uQ (T:Txt w K mg) (L:ck K (aD K (ao mg "Many") "most") "most" "Many.most" eS ["self","rooms"]):FnR P w K mg base (aD K (ao mg "Many") "most") 1 ["self","rooms"] (ur mg):=by
 ctx_has z uc <;> obtain⟨p,r,av,cs,lo,hi,kvs,rm,rfl,M,k⟩:=h
 .rfl
 refine⟨_,(aj (aw (aE cC T.b_len (ac (aV (N:=["cell","self","rooms"]) (nt:=1) (js:=[0,1]) (aG ["self","rooms"] (ak eS).names) (cg K (aN T.cl_Many T.no_Many_cells (pvM 0))) (ay 0) aU (gs (fo (aE (gv rfl) T.b_any (ac (aV (N:=["value","self"]) (nt:=1) (js:=[1]) (aG ["cell","self","rooms"] (Jz (ak eS).kind (ak eS).names _)) (cg K (bC hu (pvM 2) (pvM 0))) (ay 0) aU bv (aQ ft (pvM 0) (aN T.cl_Many T.no_Many_among (pvM 1)))) af)))) (pvM 0)) af)))),?_⟩
 obtain⟨am,ce,⟨dx,fs,h1,f1,f2,f3,f4,f5,f6,f7,f8⟩,ha,hc⟩:=M.ob;have ab:=M.rd;obtain⟨z1,z2,z3⟩:=M.sm;ctx_has v h1 f2 hc
 intro q hq;refine dM aY (λv=>match v with | .str c=>(rm c).any (λx=>decide (x∈av)) | _=>false) id hq (λH' s=>.of (s _ _ hc)) (by simp;omega) ?_ ?_ ?_
 .intro x H2 Q2 hx sm q2
  obtain⟨c,F,rfl⟩:=hH.mp hx;obtain⟨a,hv,Y⟩:=M.rf c F;have Z:=sm _ _ ab;have B:=sm _ _ Y;ctx_has v Z hv B
  intro g hg;refine bS aY (λv=>match v with | .int i=>.bl (decide (i∈av)) | _=>.non) hg (λH' s=>.of (s _ _ B)) (by simp;have:=z3 c F;omega) ?_ ?_
  .intro y H3 Q3 hy s3 q3
   obtain⟨i,_,rfl⟩:=hH.mp hy;have aa:=s3 _ _ (sm _ _ h1);have ad:=s3 _ _ (sm _ _ ha);ctx_has v aa f1 ad
   refine⟨rfl,cj _,?_⟩
   rw[cE];exact q3 H3 (ap.refl _)
  .intro H3 s3 h3
   ctx_has v
   refine⟨(rm c).map (λi=>decide (i∈av)),by rw[h3,k6,k6];rfl,?_⟩
   have:=q2 H3 s3
   rw[any_map];exact this
 .intro x H2 Q2 hx _ sm q2
  ctx_has v
  exact q2 H2 (ap.refl _)
 .intro H2 sm h2
  ctx_has v h2
  have:=k H2 sm
  rw[d_,LJ,d_];exact this
theorem nc (T:Txt w K mg) (L:ck K (aD K (ao mg "Many") "may_keep") "may_keep" "Many.may_keep" fZ ["self","rooms"]) (B:FnR P w K mg base (aD K (ao mg "Many") "fewest") 1 ["self","rooms"] (yy mg)) (F:FnR P w K mg base (aD K (ao mg "Many") "most") 1 ["self","rooms"] (ur mg)):FnR P w K mg base (aD K (ao mg "Many") "may_keep") 22 ["self","rooms"] (eP mg):=by
 ctx_has z mT <;> obtain⟨p,r,av,cs,lo,hi,kvs,rm,rfl,M,k⟩:=h
 .rfl
 refine⟨_,(aj (aw (aQ jU (aE (tm rfl) T.b_max (ac (aN T.cl_Many T.no_Many_low (pvM 0)) (ac (bZ T.cl_Many B (hr.mono (by ctx_has m)) (pvM 0) (ac (pvM 1) af)) af))) (aE (Ak rfl) T.b_min (ac (aN T.cl_Many T.no_Many_high (pvM 0)) (ac (bZ T.cl_Many F (hr.mono (by ctx_has m)) (pvM 0) (ac (pvM 1) af)) af)))))),?_⟩
 obtain⟨am,ce,⟨dx,fs,h1,f1,f2,f3,f4,f5,f6,f7,f8⟩,ha,hc⟩:=M.ob;ctx_has v h1 f3 f4 f5 f6
 refine⟨p,r,av,cs,lo,hi,kvs,rm,rfl,M,λH1 Z=>?_⟩
 have Y:=Z _ _ h1;ctx_has v Y f4 f6
 refine⟨p,r,av,cs,lo,hi,kvs,rm,rfl,M.same Z,λH2 s2=>?_⟩
 ctx_has v
 have:=k H2 (Z.trans s2)
 have e:iC lo hi (dZ av rm cs) (cM av rm cs)=decide ((if (dZ av rm cs:Int) > lo then(dZ av rm cs:Int) else lo)<=if (cM av rm cs:Int) < hi then(cM av rm cs:Int) else hi):=by
  unfold iC;rw[o7];simp only[l_,decide_eq_true_eq]
  split <;> split <;> omega
 rw[e] at this;exact this
theorem mI (T:Txt w K mg) (L:ck K (aD K (ao mg "Many") "may_break") "may_break" "Many.may_break" fw ["self","rooms"]) (B:FnR P w K mg base (aD K (ao mg "Many") "fewest") 1 ["self","rooms"] (yy mg)) (F:FnR P w K mg base (aD K (ao mg "Many") "most") 1 ["self","rooms"] (ur mg)):FnR P w K mg base (aD K (ao mg "Many") "may_break") 22 ["self","rooms"] (dB mg):=by
 ctx_has z ma <;> obtain⟨p,r,av,cs,lo,hi,kvs,rm,rfl,M,k⟩:=h
 .rfl
 refine⟨_,(aj (aw (jF (aQ wQ (bZ T.cl_Many B (hr.mono (by ctx_has m)) (pvM 0) (ac (pvM 1) af)) (aN T.cl_Many T.no_Many_low (pvM 0))) (cL (aQ wQ (aN T.cl_Many T.no_Many_high (pvM 0)) (bZ T.cl_Many F (hr.mono (by ctx_has m)) (pvM 0) (ac (pvM 1) af))))))),?_⟩
 obtain⟨am,ce,⟨dx,fs,h1,f1,f2,f3,f4,f5,f6,f7,f8⟩,ha,hc⟩:=M.ob;ctx_has v h1 f3 f4 f5 f6
 refine⟨p,r,av,cs,lo,hi,kvs,rm,rfl,M,λH1 Y=>?_⟩
 have Z:=Y _ _ h1;ctx_has v Z f3 f4 f6
 refine dC (λh=>?_) (λh=>?_)
 .have:=k H1 Y
  unfold gM at this;rw[decide_eq_true h,Bool.true_or] at this;exact this
 .refine⟨p,r,av,cs,lo,hi,kvs,rm,rfl,M.same Y,λH2 s2=>⟨_,rfl,?_⟩⟩
  have:=k H2 (Y.trans s2)
  unfold gM at this;rw[decide_eq_false h,Bool.false_or] at this;exact this
def pf (mg:Str->Option Value) (H:Hp) (p:Addr):Wi->Prop
 | .un cs=>OBU mg H p cs cs
 | .mn av cs lo hi=>∃F B,kA mg H p (.ref F) (.ref B) lo hi/\H F>>(av.map V.int)/\H B>>(cs.map V.str)
 | .sm ts lo hi=>OBS mg H p (ts,lo,hi) (ts.map (·.2))
 | .tb cs rows=>OBT mg H p (cs,rows)
 | .wy cs ps es=>OBW mg H p (cs,ps,es)
 | .bh cs gap=>OBB mg H p (cs,gap)
theorem pf.obj {W:Wi} (h:pf mg H p W) (B : ∀a xs,H a>>xs->H' a>>xs) (kd : ∀a ks,H a=some (.dT ks)->H' a=some (.dT ks)) (L : ∀C dx fs,H p=some (.ins C dx fs)->H' p=some (.ins C dx fs)):pf mg H' p W:=by
 cases W with
 | un cs =>
  obtain⟨dx,fs,Z,h1,h2,F,r⟩:=h;exact⟨dx,fs,Z,L _ _ _ h1,h2,B _ _ F,r⟩
 | mn av cs lo hi =>
  obtain⟨am,Z,⟨dx,fs,h1,r⟩,h2,F⟩:=h;exact⟨am,Z,⟨dx,fs,L _ _ _ h1,r⟩,B _ _ h2,B _ _ F⟩
 | sm ts lo hi =>
  obtain⟨dx,fs,te,h1,h2,r⟩:=h;exact⟨dx,fs,te,L _ _ _ h1,h2.keep B,r⟩
 | tb cs rows =>
  obtain⟨dx,fs,w,c,t,vs,h1,h2,F,Y,h5,r⟩:=h;exact⟨dx,fs,w,c,t,vs,L _ _ _ h1,cF (W:=.tb cs rows) h2 B,B _ _ F,B _ _ Y,h5.keep B,r⟩
 | wy cs ps es =>
  obtain⟨dx,fs,w,c,e,l,h1,h2,F,Y,h5,r⟩:=h;exact⟨dx,fs,w,c,e,l,L _ _ _ h1,cF (W:=.wy cs ps es) h2 B,B _ _ F,B _ _ Y,kd _ _ h5,r⟩
 | bh cs gap =>
  obtain⟨dx,fs,w,c,h1,h2,F,r⟩:=h;exact⟨dx,fs,w,c,L _ _ _ h1,cF (W:=.bh cs gap) h2 B,B _ _ F,r⟩
theorem pf.keep {W:Wi} (h:pf mg H p W) (k:gL H H'):pf mg H' p W:=h.obj k.tup k.dt λ_ _ _ e=>k.ins _ _ _ _ e
def CsK (mg:Str->Option Value):List (Addr × Sp):=[(ao mg "Unlike",eK mg),(ao mg "Many",eP mg),(ao mg "Sum",eG mg),(ao mg "Table",eL mg),(ao mg "Way",eI mg),(ao mg "Behind",eE mg)]
def CsB (mg:Str->Option Value):List (Addr × Sp):=[(ao mg "Unlike",dF mg),(ao mg "Many",dB mg),(ao mg "Sum",dG mg),(ao mg "Table",dA mg),(ao mg "Way",dv mg),(ao mg "Behind",dD mg)]
theorem Eg {P:Addr->Sp->Prop} {a1 Z a3 a4 Y a6:Addr} {b1 F L b4 b5 B:Sp} (h1:P a1 b1) (h2:P Z F) (h3:P a3 L) (h4:P a4 b4) (h5:P Y b5) (h6:P a6 B) : ∀C sp,(C,sp)∈[(a1,b1),(Z,F),(a3,L),(a4,b4),(Y,b5),(a6,B)]->P C sp:=λC sp h=>by
 simp only[i6,Prod.mk.injEq,k_,or_false] at h;rcases h with⟨rfl,rfl⟩ | ⟨rfl,rfl⟩ | ⟨rfl,rfl⟩ | ⟨rfl,rfl⟩ | ⟨rfl,rfl⟩ | ⟨rfl,rfl⟩
 .exact h1
 .exact h2
 .exact h3
 .exact h4
 .exact h5
 .exact h6
def smW (rm:Str->List Int):Wi->Prop
 | .sm ts _ _=>ts.length<=6/\∀c∈ts.map (λx:Int × Str=>x.2),(rm c).length<=4
 | _=>True
structure Dx (mg:Str->Option Value) (H:Hp) (i r:Addr) (W:Wi) (kvs:List (Key × V)) (rm:Str->List Int):Prop where
 ob:pf mg H i W
 rd:H r<*kvs
 rf:bQ H kvs (bw W) rm
 ok : ∃ws ns,okW ws ns W
 cl:smW rm W
 ne : ∀c∈bw W,rm c≠[]/\(rm c).length<=10/\(rm c).Pairwise (· < ·)
 un : ∃U:List Int,(∀c∈bw W,∀v∈rm c,v∈U)/\U.length<=20
theorem jI (ne : ∀c∈cs,rm c≠[]/\(rm c).length<=10/\(rm c).Pairwise (· < ·)) : ∀c∈cs,1<=(rm c).length/\(rm c).length<=10/\(rm c).Nodup:=λc B=>⟨K4.mpr (ne c B).1,(ne c B).2.1,(ne c B).2.2.imp λh=>by omega⟩
theorem lS {i:Addr} {W:Wi} {Q:VK} (M:Dx mg H i r W kvs rm) (k : ∀(b:Bool) H',(b=true↔∃g,okF rm (bw W) g/\bT W g=true)->ap H H'->Q (.bl b) H') :
  ∃C sp,(C,sp)∈CsK mg/\∃dx fs,H i=some (.ins C dx fs)/\fs.lookup (b_ "may_keep")=none/\sp [.ref i,.ref r] H Q E0:=by
 obtain⟨ob,F,Y,⟨ws,ns,ok⟩,cl,ne,un⟩:=M;cases W with
 | un cs =>
  obtain⟨dx,fs,h1,h2,L⟩:=zH (cs:=cs) ob;exact⟨_,eK mg,by simp[CsK],dx,fs,h1,h2,i,r,cs,cs,kvs,rm,rfl,⟨ob,F,Y,.refl _,ok.2.1,ok.2.2.2,jI ne,un⟩,k⟩
 | mn av cs lo hi =>
  obtain⟨am,ce,m,h2,L⟩:=id ob;obtain⟨dx,fs,h1,_,_,_,_,_,_,q1,q2⟩:=m.ex;exact⟨_,eP mg,by simp[CsK],dx,fs,h1,q1,i,r,av,cs,lo,hi,kvs,rm,rfl,⟨⟨am,ce,m,h2,L⟩,F,Y,ok.2.2.2,ja ok.1.2.2.2 ∅,λc B=>ja (ne c B).2.1 ∅⟩,λH' s=>k _ H' (A6 (λc B=>(jI ne c B).1) ok.1.2.1).symm s⟩
 | sm ts lo hi =>
  obtain⟨dx,fs,h1,h2,L⟩:=zu (cs:=ts.map (λx:Int × Str=>x.2)) ob
  exact⟨_,eG mg,by simp[CsK],dx,fs,h1,h2,i,r,(ts,lo,hi),ts.map (λx:Int × Str=>x.2),kvs,rm,rfl,⟨ob,F,Y,⟨rfl,ok.1.1,λx Z=>⟨(ok.2 x Z).1,(ok.2 x Z).2.1⟩⟩,ok.1.2.1,by rw[d_];exact cl.1,λc B=>⟨(jI ne c B).1,cl.2 c B,(jI ne c B).2.2⟩⟩,k⟩
 | tb cs rows =>
  obtain⟨dx,fs,h1,_,h2,L⟩:=zV ob;exact⟨_,eL mg,by simp[CsK],dx,fs,h1,h2,i,r,(cs,rows),kvs,rm,rfl,⟨ob,F,Y,⟨ok.1.1,ok.1.2.1,ok.1.2.2.2,ok.2.1,ok.2.2.1,ja ok.2.2.2 ∅⟩,ne⟩,k⟩
 | wy cs ps es =>
  obtain⟨dx,fs,h1,_,h2,L⟩:=zk ob;exact⟨_,eI mg,by simp[CsK],dx,fs,h1,h2,i,r,(cs,ps,es),kvs,rm,rfl,⟨ob,F,Y,⟨ok.1.1,ok.1.2.1,ok.1.2.2.2,ok.2.1,ok.2.2.1,ok.2.2.2⟩,ne⟩,k⟩
 | bh cs gap =>
  obtain⟨dx,fs,h1,_,h2,L⟩:=yY ob;exact⟨_,eE mg,by simp[CsK],dx,fs,h1,h2,i,r,(cs,gap),kvs,rm,rfl,⟨ob,F,Y,⟨ok.1,ok.2.1,ok.2.2.2⟩,ne⟩,k⟩
theorem kE {i:Addr} {W:Wi} {Q:VK} (M:Dx mg H i r W kvs rm) (k : ∀(b:Bool) H',(b=true↔∃g,okF rm (bw W) g/\bT W g=false)->ap H H'->Q (.bl b) H') :
  ∃C sp,(C,sp)∈CsB mg/\∃dx fs,H i=some (.ins C dx fs)/\fs.lookup (b_ "may_break")=none/\sp [.ref i,.ref r] H Q E0:=by
 obtain⟨ob,L,Y,⟨ws,ns,ok⟩,cl,ne,un⟩:=M;cases W with
 | un cs =>
  obtain⟨dx,fs,h1,h2,B⟩:=zH (cs:=cs) ob;exact⟨_,dF mg,by simp[CsB],dx,fs,h1,B,i,r,cs,cs,kvs,rm,rfl,⟨ob,L,Y,.refl _,ok.2.1,ok.2.2.2,jI ne,un⟩,k⟩
 | mn av cs lo hi =>
  obtain⟨am,ce,m,h2,B⟩:=id ob;obtain⟨dx,fs,h1,_,_,_,_,_,_,q1,q2⟩:=m.ex;exact⟨_,dB mg,by simp[CsB],dx,fs,h1,q2,i,r,av,cs,lo,hi,kvs,rm,rfl,⟨⟨am,ce,m,h2,B⟩,L,Y,ok.2.2.2,ja ok.1.2.2.2 ∅,λc F=>ja (ne c F).2.1 ∅⟩,λH' s=>k _ H' (yC (λc F=>(jI ne c F).1) ok.1.2.1).symm s⟩
 | sm ts lo hi =>
  obtain⟨dx,fs,h1,h2,B⟩:=zu (cs:=ts.map (λx:Int × Str=>x.2)) ob
  exact⟨_,dG mg,by simp[CsB],dx,fs,h1,B,i,r,(ts,lo,hi),ts.map (λx:Int × Str=>x.2),kvs,rm,rfl,⟨ob,L,Y,⟨rfl,ok.1.1,λx Z=>⟨(ok.2 x Z).1,(ok.2 x Z).2.1⟩⟩,ok.1.2.1,by rw[d_];exact cl.1,λc F=>⟨(jI ne c F).1,cl.2 c F,(jI ne c F).2.2⟩⟩,k⟩
 | tb cs rows =>
  obtain⟨dx,fs,h1,_,h2,B⟩:=zV ob;exact⟨_,dA mg,by simp[CsB],dx,fs,h1,B,i,r,(cs,rows),kvs,rm,rfl,⟨ob,L,Y,⟨ok.1.1,ok.1.2.1,ok.1.2.2.2,ok.2.1,ok.2.2.1,ja ok.2.2.2 ∅⟩,ne⟩,k⟩
 | wy cs ps es =>
  obtain⟨dx,fs,h1,_,h2,B⟩:=zk ob;exact⟨_,dv mg,by simp[CsB],dx,fs,h1,B,i,r,(cs,ps,es),kvs,rm,rfl,⟨ob,L,Y,⟨ok.1.1,ok.1.2.1,ok.1.2.2.2,ok.2.1,ok.2.2.1,ok.2.2.2⟩,ne⟩,k⟩
 | bh cs gap =>
  obtain⟨dx,fs,h1,_,h2,B⟩:=yY ob;exact⟨_,dD mg,by simp[CsB],dx,fs,h1,B,i,r,(cs,gap),kvs,rm,rfl,⟨ob,L,Y,⟨ok.1,ok.2.1,ok.2.2.2⟩,ne⟩,k⟩
def JC:Wi->Str
 | .un _ => "Unlike"
 | .mn _ _ _ _ => "Many"
 | .sm _ _ _ => "Sum"
 | .tb _ _ => "Table"
 | .wy _ _ _ => "Way"
 | .bh _ _ => "Behind"
def CP:Wx->Str
 | .pl W=>JC W
 | .sa _ _ _ => "Same"
def HX (mg:Str->Option Value) (H:Hp) (p:Addr) (X:Wx):Prop:=∃w,HW mg (CP X) H p w/\WX H w X
theorem J9 (h:OBT mg H p (cs,rows)):HX mg H p (.pl (.tb cs rows)):=by
 obtain⟨dx,fs,w,c,t,vs,h1,h2,L,Z,Y,F,_,_,B,_⟩:=h;exact⟨w,⟨dx,fs,h1,F,B⟩,h2⟩
theorem Km {ps:List (Int × Int × Int)} {es:List Int} (h:OBW mg H p (cs,ps,es)):HX mg H p (.pl (.wy cs ps es)):=by
 obtain⟨dx,fs,w,c,e,l,h1,h2,L,Z,Y,B,_,_,_,F,_⟩:=h;exact⟨w,⟨dx,fs,h1,B,F⟩,h2⟩
theorem Kq (h:OBB mg H p (cs,gap)):HX mg H p (.pl (.bh cs gap)):=by
 obtain⟨dx,fs,w,c,h1,h2,L,F,_,_,B,_⟩:=h;exact⟨w,⟨dx,fs,h1,F,B⟩,h2⟩
def Js (mg:Str->Option Value):Sp:=λvs H Q _=>∃(w:Addr) (W:Wi),vs=[.ref w]/\WS H w W/\(∃ws ns,okW ws ns W)/\∀p H',H p=none->pf mg H' p W->HX mg H' p (.pl W)->ap H H'->Q (.ref p) H'
theorem fB {x:Addr} (L:H x=none) (F:H dx=none) (B:dx≠x):ap H (upd (upd H dx (.own x)) x (.ins C dx [])):=(ap.upd0 F).upd_new (by rw[ai B.symm];exact L)
theorem cW {x:Addr} (B:H x=none) (s:ap H H1) (b:gE x H1 H2):ap H H2:=λa o e=>b a o (au e B) (s a o e)
abbrev GY:=Fn P w K mg base "plain_wish_of" 6 ["wish"] (Js mg)
theorem nC (T:Txt w K mg) (L:FnL K mg "plain_wish_of" fS ["wish"]) (F:FnR P w K mg base (Mk K (ao mg "Unlike")) 2 ["self","wish"] (zP mg)) (aa:FnR P w K mg base (Mk K (ao mg "Many")) 2 ["self","wish"] (vX mg)) (ak:FnR P w K mg base (Mk K (ao mg "Sum")) 2 ["self","wish"] (yV mg)) (Z:FnR P w K mg base (Mk K (ao mg "Table")) 2 ["self","wish"] (zX mg "Table")) (ai:FnR P w K mg base (Mk K (ao mg "Way")) 2 ["self","wish"] (wP mg "Way")) (B:FnR P w K mg base (Mk K (ao mg "Behind")) 2 ["self","wish"] (zD mg "Behind")) : @GY P w K mg base:=by
 ctx_has z mX <;> obtain⟨w,W,rfl,hW,an,k⟩:=h
 .rfl
 refine⟨_,(ag (bg (aJ bz (az aR (pvM 0) ah) aS) (aj (aw (gF F (hr.mono (by ctx_has m)) rfl T.at_Unlike (ac (pvM 0) af)))) aL)
  (ag (bg (aJ bz (az aR (pvM 0) ah) aS) (aj (aw (gF aa (hr.mono (by ctx_has m)) rfl T.at_Many (ac (pvM 0) af)))) aL)
  (ag (bg (aJ bz (az aR (pvM 0) ah) aS) (aj (aw (gF ak (hr.mono (by ctx_has m)) rfl T.at_Sum (ac (pvM 0) af)))) aL)
  (ag (bg (aJ bz (az aR (pvM 0) ah) aS) (aj (aw (gF Z (hr.mono (by ctx_has m)) rfl T.at_Table (ac (pvM 0) af)))) aL)
  (ag (bg (aJ bz (az aR (pvM 0) ah) aS) (aj (aw (gF ai (hr.mono (by ctx_has m)) rfl T.at_Way (ac (pvM 0) af)))) aL)
  (aj (aw (gF B (hr.mono (by ctx_has m)) rfl T.at_Behind (ac (pvM 0) af))))))))),?_⟩
 cases W with
 | un cs =>
  obtain⟨c,h1,h2⟩:=id hW;refine iz rfl h1 λR=>?_
  ctx_has v h1
  intro x dx Y ab ad;have s1:=fB (C:=ao mg (b_ "Unlike")) Y ab ad;exact⟨x,dx,w,cs,cs,rfl,ae,cF hW λa xs e=>s1 _ _ e,λH2 ob hw b2=>⟨rfl,k x H2 Y ob ⟨w,hw,cF hW λa xs e=>cW Y s1 b2 _ _ e⟩ (cW Y s1 b2)⟩⟩
 | mn av cs lo hi =>
  obtain⟨am,c,h1,h2,h3⟩:=id hW;refine br rfl h1 (by decide+kernel) (iz rfl h1 λR=>?_)
  ctx_has v h1
  intro x dx Y ab ad;have s1:=fB (C:=ao mg (b_ "Many")) Y ab ad;exact⟨x,dx,w,_,_,lo,hi,rfl,ae,s1 _ _ h1,λH2 ob hw b2=>⟨rfl,k x H2 Y ⟨am,c,ob,cW Y s1 b2 _ _ h2,cW Y s1 b2 _ _ h3⟩ ⟨w,hw,cF hW λa xs e=>cW Y s1 b2 _ _ e⟩ (cW Y s1 b2)⟩⟩
 | sm ts lo hi =>
  obtain⟨t,h1,h2⟩:=id hW;refine br rfl h1 (by decide+kernel) (br rfl h1 (by decide+kernel) (iz rfl h1 λR=>?_))
  ctx_has v h1
  intro x dx Y ab ad;have s1:=fB (C:=ao mg (b_ "Sum")) Y ab ad;exact⟨x,dx,w,(ts,lo,hi),ts.map (·.2),rfl,ae,cF hW λa xs e=>s1 _ _ e,λH2 ob hw b2=>⟨rfl,k x H2 Y ob ⟨w,hw,cF hW λa xs e=>cW Y s1 b2 _ _ e⟩ (cW Y s1 b2)⟩⟩
 | tb cs rows =>
  obtain⟨c,t,vs,h1,h2⟩:=id hW;refine br rfl h1 (by decide+kernel) (br rfl h1 (by decide+kernel) (br rfl h1 (by decide+kernel) (iz rfl h1 λR=>?_)))
  ctx_has v h1
  intro x dx Y ab ad;have s1:=fB (C:=ao mg (b_ "Table")) Y ab ad;exact⟨x,dx,w,(cs,rows),rfl,ae,cF hW λa xs e=>s1 _ _ e,λH2 ob b2=>⟨rfl,k x H2 Y ob (J9 ob) (cW Y s1 b2)⟩⟩
 | wy cs ps es =>
  obtain⟨c,t,e,vs,h1,h2⟩:=id hW;obtain⟨ws,ns,ok⟩:=an;refine br rfl h1 (by decide+kernel) (br rfl h1 (by decide+kernel) (br rfl h1 (by decide+kernel) (br rfl h1 (by decide+kernel) (iz rfl h1 λR=>?_))))
  ctx_has v h1
  intro x dx Y ab ad;have s1:=fB (C:=ao mg (b_ "Way")) Y ab ad;exact⟨x,dx,w,(cs,ps,es),rfl,ae,cF hW λa xs e=>s1 _ _ e,⟨ok.1.1,ok.1.2.1,ok.1.2.2.2,ok.2.1,ok.2.2.1,ok.2.2.2⟩,λH2 ob b2=>⟨rfl,k x H2 Y ob (Km ob) (cW Y s1 b2)⟩⟩
 | bh cs gap =>
  obtain⟨c,h1,h2⟩:=id hW;refine br rfl h1 (by decide+kernel) (br rfl h1 (by decide+kernel) (br rfl h1 (by decide+kernel) (br rfl h1 (by decide+kernel) (br rfl h1 (by decide+kernel) ?_))))
  ctx_has v h1
  intro x dx Y ab ad;have s1:=fB (C:=ao mg (b_ "Behind")) Y ab ad;exact⟨x,dx,w,(cs,gap),rfl,ae,cF hW λa xs e=>s1 _ _ e,λH2 ob b2=>⟨rfl,k x H2 Y ob (Kq ob) (cW Y s1 b2)⟩⟩
abbrev jD:=Str × List Int × Wi
def jo (dat:jD):List Str:=dat.1 :: bw dat.2.2
def EO (dat:jD):Prop:=(∃ws ns,okW ws ns dat.2.2)/\True/\dat.2.1.length<=20/\dat.1∉bw dat.2.2
def yG (dat:jD) (g:Str->Int):Bool:=cq (.sa dat.1 dat.2.1 dat.2.2) g
def WSX (H:Hp) (w:Addr) (dat:jD):Prop:=WX H w (.sa dat.1 dat.2.1 dat.2.2)
theorem Br {w:Addr} {dat:jD} (h:WSX H w dat) (k:gL H H'):WSX H' w dat:=eZ h k.tup
def OBX (mg:Str->Option Value) (H:Hp) (p:Addr) (dat:jD):Prop:=∃dx fs w u i,H p=some (.ins (ao mg "Same") dx fs)/\WSX H w dat/\H u>>(dat.2.1.map V.int)/\pf mg H i dat.2.2/\fs.lookup (b_ "wish")=some (.ref w)/\fs.lookup (b_ "cell")=some (.str dat.1)/\fs.lookup (b_ "among")=some (.ref u)/\fs.lookup (b_ "inner")=some (.ref i) /\
 fs.lookup (b_ "kept")=none/\fs.lookup (b_ "may_keep")=none/\fs.lookup (b_ "may_break")=none/\fs.lookup (b_ "may_be_among")=none/\fs.lookup (b_ "may_be_none_of_them")=none
theorem Do {dat:jD} (h:OBX mg H p dat) (k:gL H H'):OBX mg H' p dat:=by
 obtain⟨dx,fs,w,u,i,h1,h2,B,F,r⟩:=h;exact⟨dx,fs,w,u,i,k.ins _ _ _ _ h1,Br h2 k,k.tup _ _ B,F.keep k,r⟩
theorem yZ {dat:jD} (h:OBX mg H p dat) : ∃dx fs,H p=some (.ins (ao mg "Same") dx fs)/\fs.lookup (b_ "kept")=none/\fs.lookup (b_ "may_keep")=none/\fs.lookup (b_ "may_break")=none:=by
 obtain⟨dx,fs,w,u,i,h1,h2,Y,Z,_,_,_,_,L,F,B,_⟩:=h;exact⟨dx,fs,h1,L,F,B⟩
theorem jP {W:Wi} {g':Str->Int} (h : ∀c∈bw W,g c=g' c):bT W g=bT W g':=by
 have e : ∀cs:List Str,(∀c∈cs,g c=g' c)->cs.map g=cs.map g':=λcs h=>nL h
 cases W with
 | un cs=>show decide (cs.map g).Nodup=decide (cs.map g').Nodup;rw[e cs h]
 | mn av cs lo hi =>
  have e2:(cs.filter λc=>decide (g c∈av))=cs.filter λc=>decide (g' c∈av):=List.filter_congr λc F=>by rw[h c F]
  simp only[bT,e2]
 | sm ts lo hi=>show dW ((ts.map λx=>x.1 * g x.2).sum) lo hi=dW ((ts.map λx=>x.1 * g' x.2).sum) lo hi;rw[nL λx B=>by rw[h x.2 (List.mem_map_of_mem (f:=Prod.snd) B)]]
 | tb cs rows=>show decide (cs.map g∈rows)=decide (cs.map g'∈rows);rw[e cs h]
 | wy cs ps es=>show uX es (gk ps (some 0) (cs.map g))=uX es (gk ps (some 0) (cs.map g'));rw[e cs h]
 | bh cs gap=>show chB gap (cs.map g)=chB gap (cs.map g');rw[e cs h]
structure jf (mg:Str->Option Value) (H:Hp) (p r:Addr) (dat:jD) (kvs:List (Key × V)) (rm:Str->List Int):Prop where
 ob:OBX mg H p dat
 rd:H r<*kvs
 rf:bQ H kvs (jo dat) rm
 ok:EO dat
 ne : ∀c∈jo dat,rm c≠[]/\(rm c).length<=10/\(rm c).Pairwise (· < ·)
 un : ∃U:List Int,(∀c∈jo dat,∀v∈rm c,v∈U)/\U.length<=20
 sm:smW rm dat.2.2
theorem jf.same {mg:Str->Option Value} {H H':Hp} {p r:Addr} {dat:jD} {kvs:List (Key × V)} {rm:Str->List Int} (h:jf mg H p r dat kvs rm) (s:ap H H'):jf mg H' p r dat kvs rm :=
 ⟨Do h.ob (ap.keepTI s),s _ _ h.rd,h.rf.same (λa vs e=>s _ _ e),h.ok,h.ne,h.un,h.sm⟩
def jg (mg:Str->Option Value):Sp:=λvs H Q _=>∃(p r:Addr) (dat:jD) (kvs:List (Key × V)) (rm:Str->List Int),vs=[.ref p,.ref r]/\jf mg H p r dat kvs rm/\∀(b:Bool) H',(b=true↔∃g,okF rm (jo dat) g/\yG dat g=true)->ap H H'->Q (.bl b) H'
def gU (mg:Str->Option Value):Sp:=λvs H Q _=>∃(p r:Addr) (dat:jD) (kvs:List (Key × V)) (rm:Str->List Int),vs=[.ref p,.ref r]/\jf mg H p r dat kvs rm/\∀(b:Bool) H',(b=true↔∃g,okF rm (jo dat) g/\yG dat g=false)->ap H H'->Q (.bl b) H'
def Ae (mg:Str->Option Value) (C:Str):Sp:=λvs H Q _=>∃(p dx w:Addr) (dat:jD),vs=[.ref p,.ref w]/\H p=some (.ins (ao mg C) dx [])/\WSX H w dat/\EO dat/\∀H',OBX mg H' p dat->gE p H H'->Q .non H'
def ya (mg:Str->Option Value):Sp:=λvs H Q _=>∃(p r:Addr) (dat:jD) (kvs:List (Key × V)) (rm:Str->List Int),vs=[.ref p,.ref r]/\jf mg H p r dat kvs rm/\∀H',ap H H'->Q (.bl ((rm dat.1).any λv=>decide (v∈dat.2.1))) H'
def xL (mg:Str->Option Value):Sp:=λvs H Q _=>∃(p r:Addr) (dat:jD) (kvs:List (Key × V)) (rm:Str->List Int),vs=[.ref p,.ref r]/\jf mg H p r dat kvs rm/\∀H',ap H H'->Q (.bl ((rm dat.1).any λv=>decide (v∉dat.2.1))) H'
theorem jf.inn {i:Addr} {dat:jD} (M:jf mg H p r dat kvs rm) (hi:pf mg H i dat.2.2):Dx mg H i r dat.2.2 kvs rm :=
 ⟨hi,M.rd,λc B=>M.rf c (i7 _ B),M.ok.1,M.sm,λc B=>M.ne c (i7 _ B),(by obtain⟨U,h,l⟩:=M.un;exact⟨U,λc B=>h c (i7 _ B),l⟩)⟩
theorem da {dat:jD} (Y:EO dat) (F:Bool):(∃g,okF rm (jo dat) g/\yG dat g=F)↔((∃v∈rm dat.1,v∈dat.2.1)/\∃g,okF rm (bw dat.2.2) g/\bT dat.2.2 g=F)\/((∃v∈rm dat.1,v∉dat.2.1)/\∃g,okF rm (bw dat.2.2) g/\bT dat.2.2 g = !F):=by
 constructor
 .rintro⟨g,h1,h2⟩
  have h2:decide (decide (g dat.1∈dat.2.1)=bT dat.2.2 g)=F:=h2
  have Z:okF rm (bw dat.2.2) g:=λc B=>h1 c (i7 _ B)
  have L:=h1 dat.1 m6
  by_cases z:g dat.1∈dat.2.1
  .refine .inl ⟨⟨_,L,z⟩,g,Z,?_⟩
   rw[decide_eq_true z] at h2;cases e:bT dat.2.2 g <;> rw[e] at h2 <;> simpa using h2
  .refine .inr ⟨⟨_,L,z⟩,g,Z,?_⟩
   rw[decide_eq_false z] at h2;cases e:bT dat.2.2 g <;> rw[e] at h2 <;> cases F <;> simp at h2 ⊢
 .have key : ∀v∈rm dat.1,∀g,okF rm (bw dat.2.2) g->okF rm (jo dat) (bO g dat.1 v)/\bO g dat.1 v dat.1=v/\bT dat.2.2 (bO g dat.1 v)=bT dat.2.2 g:=λv L g hg=>by
   have ne : ∀c∈bw dat.2.2,c≠dat.1:=λc B e=>Y.2.2.2 (e ▸ B)
   refine⟨λc B=>?_,bK _ _ _,jP λc B=>du _ _ (ne c B)⟩
   rcases i6.mp B with e | B
   .rw[e,bK];exact L
   .rw[du _ _ (ne c B)];exact hg c B
  rintro(⟨⟨v,L,z⟩,g,h1,h2⟩ | ⟨⟨v,L,z⟩,g,h1,h2⟩)
  .obtain⟨a1,a2,a3⟩:=key v L g h1
   refine⟨_,a1,?_⟩
   show decide (decide (bO g dat.1 v dat.1∈dat.2.1)=bT dat.2.2 (bO g dat.1 v))=F
   rw[a2,a3,h2,decide_eq_true z];cases F <;> rfl
  .obtain⟨a1,a2,a3⟩:=key v L g h1
   refine⟨_,a1,?_⟩
   show decide (decide (bO g dat.1 v dat.1∈dat.2.1)=bT dat.2.2 (bO g dat.1 v))=F
   rw[a2,a3,h2,decide_eq_false z];cases F <;> rfl
theorem lX (T:Txt w K mg) (L:ck K (gJ K (ao mg "Wish") "__init__") "__init__" "Wish.__init__" bD ["self","wish"]):FnR P w K mg base (gJ K (ao mg "Wish") "__init__") 1 ["self","wish"] (dq mg "Same"):=by
 ctx_has z bX <;> obtain⟨p,dx,fs,w,rfl,hp,B,k⟩:=h
 .rfl
 refine⟨_,(aj (bF T.cl_Same T.no_Same_wish (pvM 0) (pvM 1) rfl)),?_⟩
 ctx_has v hp
 exact⟨B,k⟩
theorem nP (T:Txt w K mg) (L:ck K (Mk K (ao mg "Same")) "__init__" "Same.__init__" ga ["self","wish"]) (B:FnR P w K mg base (gJ K (ao mg "Wish") "__init__") 1 ["self","wish"] (dq mg "Same")) (Fj : @GY P w K mg base):FnR P w K mg base (Mk K (ao mg "Same")) 8 ["self","wish"] (Ae mg "Same"):=by
 ctx_has z nv <;> obtain⟨p,dx,w,dat,rfl,hp,hW,aa,k⟩:=h
 .rfl
 refine⟨_,(ag (ci (iO B (hr.mono (by ctx_has m)) rfl T.at_Wish (ac (pvM 0) (ac (pvM 1) af))))
  (ag (bF T.cl_Same T.no_Same_cell (pvM 0) (az aR (pvM 1) ah) rfl)
  (ag (bF T.cl_Same T.no_Same_among (pvM 0) (az aR (pvM 1) ah) rfl)
  (aj (bF T.cl_Same T.no_Same_inner (pvM 0) (aq Fj (ac (az aR (pvM 1) ah) af)) rfl))))),?_⟩
 obtain⟨c,us,W⟩:=dat;obtain⟨t,u,hw,h2,h3⟩:=hW;ctx_has v hw
 have Z:w≠p:=aZ hw hp (by intro z;cases z)
 refine⟨p,dx,[],.ref w,rfl,hp,∅,?_⟩
 refine⟨_,by rw[ai Z];exact hw,_,rfl,dx,_,ae,dE (A2 _ "" "" "" _ .non .non .non),_,by rw[ai Z,ai Z];exact hw,_,rfl,dx,_,ae,dE (Ap _ _ "" "" _ _ .non .non),_,by rw[ai Z,ai Z,ai Z];exact hw,_,rfl,?_⟩
 rw[my,my];have b1 : ∀o,gE p H (upd H p o):=λo b x Y e=>by rw[ai Y];exact e
 have kt : ∀o a xs,H a>>xs->upd H p o a>>xs:=λo a xs e=>b1 o _ _ (aZ e hp (by intro z;cases z)) e
 refine⟨u,W,rfl,cF h3 (kt _),aa.1,λi H2 hi ob _ s2=>⟨dx,_,s2 _ _ ae,dE (EW _ _ _ "" _ _ _ .non),?_⟩⟩
 have g2:=s2 _ _ ae;have ip:i≠p:=λe=>by rw[e,ae] at hi;cases hi
 have k2 : ∀o a x,a≠p->H2 a=some x->upd H2 p o a=some x:=λo a x Y e=>by rw[ai Y];exact e
 have F : ∀o a xs,H a>>xs->upd H2 p o a>>xs:=λo a xs e=>k2 o _ _ (aZ e hp (by intro z;cases z)) (s2 _ _ (kt _ _ _ e))
 refine k _ ⟨dx,_,w,t,i,ae,⟨t,u,F _ _ _ hw,F _ _ _ h2,cF h3 (F _)⟩,F _ _ _ h2,ob.obj (λa xs e=>k2 _ _ _ (aZ e g2 (by intro z;cases z)) e) (λa xs e=>k2 _ _ _ (aZ e g2 (by intro z;cases z)) e) (λC dx fs e=>k2 _ _ _ ip e),?_⟩ ?_
 .simp only[bA,eA,String.reduceEq,if_true,if_false,true_and,KL,and_self]
 .intro b o Y e
  exact k2 _ _ _ Y (s2 _ _ (b1 _ b o Y e))
theorem ko (T:Txt w K mg) (L:ck K (aD K (ao mg "Same") "may_be_among") "may_be_among" "Same.may_be_among" cK ["self","rooms"]):FnR P w K mg base (aD K (ao mg "Same") "may_be_among") 1 ["self","rooms"] (ya mg):=by
 ctx_has z jL <;> obtain⟨p,r,dat,kvs,rm,rfl,M,k⟩:=h
 .rfl
 refine⟨_,(aj (aw (aE (gv rfl) T.b_any (ac (aV (N:=["value","self"]) (nt:=1) (js:=[0]) (aG ["self","rooms"] (ak cK).names) (cg K (bC hu (pvM 1) (aN T.cl_Same T.no_Same_cell (pvM 0)))) (ay 0) aU bv (aQ ft (pvM 0) (aN T.cl_Same T.no_Same_among (pvM 1)))) af)))),?_⟩
 obtain⟨dx,fs,w,u,i,h1,h2,h3,h4,l1,l2,l3,l4,r⟩:=M.ob;obtain⟨a0,Z,B⟩:=M.rf dat.1 m6;have aa:=M.ne dat.1 m6;have Y:=M.rd;ctx_has v h1 l2 Y Z B
 refine λD hD=>eD aY (λj ys H'=>ys=((rm dat.1).take j).map (λv=>V.bl (decide (v∈dat.2.1)))/\ap H H'/\H' D*>ys) ⟨rfl,ap.upd0 hD,ae⟩ (λj ys H' F=>by obtain⟨_,s,_⟩:=F;exact(.of (s _ _ B))) ?_ ?_
 .rintro j x ys H1 hj hx ⟨rfl,s1,h1D⟩
  obtain⟨v,hv,rfl⟩ : ∃v,(rm dat.1)[j]? = some v/\V.int v=x:=by
   rw[f_] at hx;cases e:(rm dat.1)[j]? with
   | none=>rw[e] at hx;cases hx
   | some u=>rw[e] at hx;exact⟨u,rfl,ge hx⟩
  have g1:=s1 _ _ h1;have g3:=s1 _ _ h3;ctx_has v g1 l3 g3
  refine⟨rfl,cj _,h1D,?_,?_,λb o e=>(by rw[ai (au e hD)];exact s1 _ _ e),ae⟩
  .rw[d_,KJ]
   exact aF ()
  .rw[j6,hv,cE]
   simp
 .rintro ys H1 ⟨rfl,s1,h1D⟩
  rw[d_,la] at h1D;have:=k H1 s1
  refine⟨D,rfl,(rm dat.1).map λv=>decide (v∈dat.2.1),by rw[h1D,k6];rfl,?_⟩
  rw[any_map];exact this
theorem gu (T:Txt w K mg) (L:ck K (aD K (ao mg "Same") "may_be_none_of_them") "may_be_none_of_them" "Same.may_be_none_of_them" bR ["self","rooms"]):FnR P w K mg base (aD K (ao mg "Same") "may_be_none_of_them") 1 ["self","rooms"] (xL mg):=by
 ctx_has z gn <;> obtain⟨p,r,dat,kvs,rm,rfl,M,k⟩:=h
 .rfl
 refine⟨_,(aj (aw (aE (gv rfl) T.b_any (ac (aV (N:=["value","self"]) (nt:=1) (js:=[0]) (aG ["self","rooms"] (ak bR).names) (cg K (bC hu (pvM 1) (aN T.cl_Same T.no_Same_cell (pvM 0)))) (ay 0) aU bv (aQ tx (pvM 0) (aN T.cl_Same T.no_Same_among (pvM 1)))) af)))),?_⟩
 obtain⟨dx,fs,w,u,i,h1,h2,h3,h4,l1,l2,l3,l4,r⟩:=M.ob;obtain⟨a0,Z,F⟩:=M.rf dat.1 m6;have aa:=M.ne dat.1 m6;have Y:=M.rd;ctx_has v h1 l2 Y Z F
 refine λD hD=>eD aY (λj ys H'=>ys=((rm dat.1).take j).map (λv=>V.bl (decide (v∉dat.2.1)))/\ap H H'/\H' D*>ys) ⟨rfl,ap.upd0 hD,ae⟩ (λj ys H' B=>by obtain⟨_,s,_⟩:=B;exact(.of (s _ _ F))) ?_ ?_
 .rintro j x ys H1 hj hx ⟨rfl,s1,h1D⟩
  obtain⟨v,hv,rfl⟩ : ∃v,(rm dat.1)[j]? = some v/\V.int v=x:=by
   rw[f_] at hx;cases e:(rm dat.1)[j]? with
   | none=>rw[e] at hx;cases hx
   | some u=>rw[e] at hx;exact⟨u,rfl,ge hx⟩
  have g1:=s1 _ _ h1;have g3:=s1 _ _ h3;ctx_has v g1 l3 g3
  refine⟨rfl,cj _,h1D,?_,?_,λb o e=>(by rw[ai (au e hD)];exact s1 _ _ e),ae⟩
  .rw[d_,KJ]
   exact aF ()
  .rw[j6,hv,cE]
   simp
 .rintro ys H1 ⟨rfl,s1,h1D⟩
  rw[d_,la] at h1D;have:=k H1 s1
  refine⟨D,rfl,(rm dat.1).map λv=>decide (v∉dat.2.1),by rw[h1D,k6];rfl,?_⟩
  rw[any_map];exact this
theorem pQ {l us:List Int}:(l.any λv=>decide (v∈us))=true↔∃v∈l,v∈us:=by simp
theorem ib {l us:List Int}:(l.any λv=>decide (v∉us))=true↔∃v∈l,v∉us:=by simp
theorem nJ (T:Txt w K mg) (L:ck K (aD K (ao mg "Same") "may_keep") "may_keep" "Same.may_keep" gc ["self","rooms"]) (F:FnR P w K mg base (aD K (ao mg "Same") "may_be_among") 1 ["self","rooms"] (ya mg)) (B:FnR P w K mg base (aD K (ao mg "Same") "may_be_none_of_them") 1 ["self","rooms"] (xL mg)) (ad:FnR P w K mg base (aD K (ao mg "Unlike") "may_keep") 22 ["self","rooms"] (eK mg)) (am:FnR P w K mg base (aD K (ao mg "Many") "may_keep") 22 ["self","rooms"] (eP mg)) (an:FnR P w K mg base (aD K (ao mg "Sum") "may_keep") 22 ["self","rooms"] (eG mg)) (ah:FnR P w K mg base (aD K (ao mg "Table") "may_keep") 22 ["self","rooms"] (eL mg)) (aq:FnR P w K mg base (aD K (ao mg "Way") "may_keep") 22 ["self","rooms"] (eI mg)) (aa:FnR P w K mg base (aD K (ao mg "Behind") "may_keep") 22 ["self","rooms"] (eE mg)) (Z:FnR P w K mg base (aD K (ao mg "Unlike") "may_break") 22 ["self","rooms"] (dF mg)) (ag:FnR P w K mg base (aD K (ao mg "Many") "may_break") 22 ["self","rooms"] (dB mg)) (ak:FnR P w K mg base (aD K (ao mg "Sum") "may_break") 22 ["self","rooms"] (dG mg)) (ab:FnR P w K mg base (aD K (ao mg "Table") "may_break") 22 ["self","rooms"] (dA mg)) (ai:FnR P w K mg base (aD K (ao mg "Way") "may_break") 22 ["self","rooms"] (dv mg)) (Y:FnR P w K mg base (aD K (ao mg "Behind") "may_break") 22 ["self","rooms"] (dD mg)):FnR P w K mg base (aD K (ao mg "Same") "may_keep") 23 ["self","rooms"] (jg mg):=by
 ctx_has z mR <;> obtain⟨p,r,dat,kvs,rm,rfl,M,k⟩:=h
 .rfl
 refine⟨_,(aj (aw (jF (jq (bZ T.cl_Same F (hr.mono (by ctx_has m)) (pvM 0) (ac (pvM 1) af)) (cL (gN (Eg ⟨T.cl_Unlike,ad⟩ ⟨T.cl_Many,am⟩ ⟨T.cl_Sum,an⟩ ⟨T.cl_Table,ah⟩ ⟨T.cl_Way,aq⟩ ⟨T.cl_Behind,aa⟩) (hr.mono (by ctx_has m)) (aN T.cl_Same T.no_Same_inner (pvM 0)) (ac (pvM 1) af)))) (cL (jq (bZ T.cl_Same B (hr.mono (by ctx_has m)) (pvM 0) (ac (pvM 1) af)) (cL (gN (Eg ⟨T.cl_Unlike,Z⟩ ⟨T.cl_Many,ag⟩ ⟨T.cl_Sum,ak⟩ ⟨T.cl_Table,ab⟩ ⟨T.cl_Way,ai⟩ ⟨T.cl_Behind,Y⟩) (hr.mono (by ctx_has m)) (aN T.cl_Same T.no_Same_inner (pvM 0)) (ac (pvM 1) af)))))))),?_⟩
 obtain⟨dx,fs,w,u,i,h1,h2,h3,h4,l1,l2,l3,l4,r1,r2,r3,r4,r5⟩:=M.ob;ctx_has v h1 r4
 refine⟨p,r,dat,kvs,rm,rfl,M,λH1 s1=>⟨_,rfl,?_⟩⟩
 by_cases hA:((rm dat.1).any λv=>decide (v∈dat.2.1))=true
 .rw[if_pos hA]
  refine⟨dx,fs,s1 _ _ h1,_,l4,i,rfl,lS ((M.same s1).inn (h4.keep (ap.keepTI s1))) λb1 H2 ay s2=>⟨_,rfl,?_⟩⟩
  have s3:=s1.trans s2;cases b1 with
  | true =>
   rw[if_pos rfl];refine k true H2 ?_ s3
   rw[da M.ok];exact⟨λ_=>.inl ⟨pQ.mp hA,ay.mp rfl⟩,λ_=>rfl⟩
  | false =>
   rw[if_neg ∅]
   have au : ¬ ((∃v∈rm dat.1,v∈dat.2.1)/\∃g,okF rm (bw dat.2.2) g/\bT dat.2.2 g=true):=λz=>by cases ay.mpr z.2
   refine⟨dx,fs,s3 _ _ h1,r5,p,r,dat,kvs,rm,rfl,M.same s3,λHB sB=>⟨_,rfl,?_⟩⟩
   have ar:=s3.trans sB
   by_cases hN:((rm dat.1).any λv=>decide (v∉dat.2.1))=true
   .rw[if_pos hN]
    refine⟨dx,fs,ar _ _ h1,_,l4,i,rfl,kE ((M.same ar).inn (h4.keep (ap.keepTI ar))) λb2 HC ax sC=>k b2 HC ?_ (ar.trans sC)⟩
    rw[da M.ok,ax];exact⟨λz=>.inr ⟨ib.mp hN,z⟩,λz=>z.elim (λz=>absurd z au) λz=>z.2⟩
   .rw[if_neg hN]
    refine k false HB ?_ ar
    rw[da M.ok];exact⟨λz=>(by cases z),λz=>z.elim (λz=>absurd z au) λz=>absurd (ib.mpr z.1) hN⟩
 .rw[if_neg hA]
  have au : ¬ ((∃v∈rm dat.1,v∈dat.2.1)/\∃g,okF rm (bw dat.2.2) g/\bT dat.2.2 g=true):=λz=>hA (pQ.mpr z.1)
  refine⟨dx,fs,s1 _ _ h1,r5,p,r,dat,kvs,rm,rfl,M.same s1,λHB sB=>⟨_,rfl,?_⟩⟩
  have ar:=s1.trans sB
  by_cases hN:((rm dat.1).any λv=>decide (v∉dat.2.1))=true
  .rw[if_pos hN]
   refine⟨dx,fs,ar _ _ h1,_,l4,i,rfl,kE ((M.same ar).inn (h4.keep (ap.keepTI ar))) λb2 HC ax sC=>k b2 HC ?_ (ar.trans sC)⟩
   rw[da M.ok,ax];exact⟨λz=>.inr ⟨ib.mp hN,z⟩,λz=>z.elim (λz=>absurd z au) λz=>z.2⟩
  .rw[if_neg hN]
   refine k false HB ?_ ar
   rw[da M.ok];exact⟨λz=>(by cases z),λz=>z.elim (λz=>absurd z au) λz=>absurd (ib.mpr z.1) hN⟩
theorem lQ (T:Txt w K mg) (L:ck K (aD K (ao mg "Same") "may_break") "may_break" "Same.may_break" fv ["self","rooms"]) (F:FnR P w K mg base (aD K (ao mg "Same") "may_be_among") 1 ["self","rooms"] (ya mg)) (B:FnR P w K mg base (aD K (ao mg "Same") "may_be_none_of_them") 1 ["self","rooms"] (xL mg)) (ad:FnR P w K mg base (aD K (ao mg "Unlike") "may_keep") 22 ["self","rooms"] (eK mg)) (am:FnR P w K mg base (aD K (ao mg "Many") "may_keep") 22 ["self","rooms"] (eP mg)) (an:FnR P w K mg base (aD K (ao mg "Sum") "may_keep") 22 ["self","rooms"] (eG mg)) (ah:FnR P w K mg base (aD K (ao mg "Table") "may_keep") 22 ["self","rooms"] (eL mg)) (aq:FnR P w K mg base (aD K (ao mg "Way") "may_keep") 22 ["self","rooms"] (eI mg)) (aa:FnR P w K mg base (aD K (ao mg "Behind") "may_keep") 22 ["self","rooms"] (eE mg)) (Z:FnR P w K mg base (aD K (ao mg "Unlike") "may_break") 22 ["self","rooms"] (dF mg)) (ag:FnR P w K mg base (aD K (ao mg "Many") "may_break") 22 ["self","rooms"] (dB mg)) (ak:FnR P w K mg base (aD K (ao mg "Sum") "may_break") 22 ["self","rooms"] (dG mg)) (ab:FnR P w K mg base (aD K (ao mg "Table") "may_break") 22 ["self","rooms"] (dA mg)) (ai:FnR P w K mg base (aD K (ao mg "Way") "may_break") 22 ["self","rooms"] (dv mg)) (Y:FnR P w K mg base (aD K (ao mg "Behind") "may_break") 22 ["self","rooms"] (dD mg)):FnR P w K mg base (aD K (ao mg "Same") "may_break") 23 ["self","rooms"] (gU mg):=by
 ctx_has z me <;> obtain⟨p,r,dat,kvs,rm,rfl,M,k⟩:=h
 .rfl
 refine⟨_,(aj (aw (jF (jq (bZ T.cl_Same F (hr.mono (by ctx_has m)) (pvM 0) (ac (pvM 1) af)) (cL (gN (Eg ⟨T.cl_Unlike,Z⟩ ⟨T.cl_Many,ag⟩ ⟨T.cl_Sum,ak⟩ ⟨T.cl_Table,ab⟩ ⟨T.cl_Way,ai⟩ ⟨T.cl_Behind,Y⟩) (hr.mono (by ctx_has m)) (aN T.cl_Same T.no_Same_inner (pvM 0)) (ac (pvM 1) af)))) (cL (jq (bZ T.cl_Same B (hr.mono (by ctx_has m)) (pvM 0) (ac (pvM 1) af)) (cL (gN (Eg ⟨T.cl_Unlike,ad⟩ ⟨T.cl_Many,am⟩ ⟨T.cl_Sum,an⟩ ⟨T.cl_Table,ah⟩ ⟨T.cl_Way,aq⟩ ⟨T.cl_Behind,aa⟩) (hr.mono (by ctx_has m)) (aN T.cl_Same T.no_Same_inner (pvM 0)) (ac (pvM 1) af)))))))),?_⟩
 obtain⟨dx,fs,w,u,i,h1,h2,h3,h4,l1,l2,l3,l4,r1,r2,r3,r4,r5⟩:=M.ob;ctx_has v h1 r4
 refine⟨p,r,dat,kvs,rm,rfl,M,λH1 s1=>⟨_,rfl,?_⟩⟩
 by_cases hA:((rm dat.1).any λv=>decide (v∈dat.2.1))=true
 .rw[if_pos hA]
  refine⟨dx,fs,s1 _ _ h1,_,l4,i,rfl,kE ((M.same s1).inn (h4.keep (ap.keepTI s1))) λb1 H2 ay s2=>⟨_,rfl,?_⟩⟩
  have s3:=s1.trans s2;cases b1 with
  | true =>
   rw[if_pos rfl];refine k true H2 ?_ s3
   rw[da M.ok];exact⟨λ_=>.inl ⟨pQ.mp hA,ay.mp rfl⟩,λ_=>rfl⟩
  | false =>
   rw[if_neg ∅]
   have au : ¬ ((∃v∈rm dat.1,v∈dat.2.1)/\∃g,okF rm (bw dat.2.2) g/\bT dat.2.2 g=false):=λz=>by cases ay.mpr z.2
   refine⟨dx,fs,s3 _ _ h1,r5,p,r,dat,kvs,rm,rfl,M.same s3,λHB sB=>⟨_,rfl,?_⟩⟩
   have ar:=s3.trans sB
   by_cases hN:((rm dat.1).any λv=>decide (v∉dat.2.1))=true
   .rw[if_pos hN]
    refine⟨dx,fs,ar _ _ h1,_,l4,i,rfl,lS ((M.same ar).inn (h4.keep (ap.keepTI ar))) λb2 HC ax sC=>k b2 HC ?_ (ar.trans sC)⟩
    rw[da M.ok,ax];exact⟨λz=>.inr ⟨ib.mp hN,z⟩,λz=>z.elim (λz=>absurd z au) λz=>z.2⟩
   .rw[if_neg hN]
    refine k false HB ?_ ar
    rw[da M.ok];exact⟨λz=>(by cases z),λz=>z.elim (λz=>absurd z au) λz=>absurd (ib.mpr z.1) hN⟩
 .rw[if_neg hA]
  have au : ¬ ((∃v∈rm dat.1,v∈dat.2.1)/\∃g,okF rm (bw dat.2.2) g/\bT dat.2.2 g=false):=λz=>hA (pQ.mpr z.1)
  refine⟨dx,fs,s1 _ _ h1,r5,p,r,dat,kvs,rm,rfl,M.same s1,λHB sB=>⟨_,rfl,?_⟩⟩
  have ar:=s1.trans sB
  by_cases hN:((rm dat.1).any λv=>decide (v∉dat.2.1))=true
  .rw[if_pos hN]
   refine⟨dx,fs,ar _ _ h1,_,l4,i,rfl,lS ((M.same ar).inn (h4.keep (ap.keepTI ar))) λb2 HC ax sC=>k b2 HC ?_ (ar.trans sC)⟩
   rw[da M.ok,ax];exact⟨λz=>.inr ⟨ib.mp hN,z⟩,λz=>z.elim (λz=>absurd z au) λz=>z.2⟩
  .rw[if_neg hN]
   refine k false HB ?_ ar
   rw[da M.ok];exact⟨λz=>(by cases z),λz=>z.elim (λz=>absurd z au) λz=>absurd (ib.mpr z.1) hN⟩
def G6 (mg:Str->Option Value) (H:Hp) (p:Addr) (X:Wx):Prop:=HX mg H p X/\match X with
 | .pl W=>pf mg H p W
 | .sa c us W=>OBX mg H p (c,us,W)
def okO:Wx->Prop
 | .pl W=>(∃ws ns,okW ws ns W)/\True
 | .sa c us W=>EO (c,us,W)
theorem J4 {us:List Int} {W:Wi} (h:OBX mg H p (c,us,W)):HX mg H p (.sa c us W):=by
 obtain⟨dx,fs,w,u,i,h1,h2,L,Y,B,_,_,_,F,_⟩:=h;exact⟨w,⟨dx,fs,h1,B,F⟩,h2⟩
theorem uM {X:Wx} (h:okO X):szX X:=by
 cases X with
 | pl W=>obtain⟨⟨_,_,h⟩,_⟩:=h;exact Cf h
 | sa c us W=>obtain⟨⟨_,_,h⟩,_⟩:=h;exact Cf h
theorem pd {X:Wx} {g':Str->Int} (h : ∀c∈aB X,g c=g' c):cq X g=cq X g':=by
 cases X with
 | pl W=>exact jP h
 | sa c us W =>
  show decide (decide (g c∈us)=bT W g)=decide (decide (g' c∈us)=bT W g')
  rw[h c m6,jP λc B=>h c (i7 _ B)]
def J2 (mg:Str->Option Value):Sp:=λvs H Q _=>∃(w:Addr) (X:Wx),vs=[.ref w]/\WX H w X/\okO X/\∀p H',H p=none->G6 mg H' p X->ap H H'->Q (.ref p) H'
def gT (mg:Str->Option Value) (C:Str):Sp:=λvs H Q _=>∃(p f w:Addr) (X:Wx) (g:Str->Int),vs=[.ref p,.ref f]/\CP X=C/\HW mg C H p w/\WX H w X/\szX X/\dz H f (aB X) g/\∀H',ap H H'->Q (.bl (cq X g)) H'
def JA:Sp:=λvs H Q _=>∃(w f:Addr) (X:Wx) (g:Str->Int),vs=[.ref w,.ref f]/\WX H w X/\okO X/\dz H f (aB X) g/\∀H',ap H H'->Q (.bl (cq X g)) H'
abbrev EH:=Fn P w K mg base "wish_of" 10 ["wish"] (J2 mg)
theorem xF (T:Txt w K mg) (L:FnL K mg "wish_of" nO ["wish"]) (Fj : @GY P w K mg base) (B:FnR P w K mg base (Mk K (ao mg "Same")) 8 ["self","wish"] (Ae mg "Same")) : @EH P w K mg base:=by
 ctx_has z xB <;> obtain⟨w,X,rfl,F,Y,k⟩:=h
 .rfl
 refine⟨_,(ag (bg (aJ bz (az aR (pvM 0) ah) aS) (aj (aw (gF B (hr.mono (by ctx_has m)) rfl T.at_Same (ac (pvM 0) af)))) aL)
  (aj (aw (aq Fj (ac (pvM 0) af))))),?_⟩
 cases X with
 | pl W =>
  have k2 : ∀p H',H p=none->pf mg H' p W->HX mg H' p (.pl W)->ap H H'->Q (.ref p) H':=λp H' hp ob Z s=>k p H' hp ⟨Z,ob⟩ s
  clear k;have F:WS H w W:=F
  cases W with
  | un cs =>
   obtain⟨c,h1,h2⟩:=id F;ctx_has v h1
   exact⟨w,_,rfl,F,Y.1,k2⟩
  | mn av cs lo hi =>
   obtain⟨am,c,h1,h2,h3⟩:=id F;ctx_has v h1
   exact⟨w,_,rfl,F,Y.1,k2⟩
  | sm ts lo hi =>
   obtain⟨t,h1,h2⟩:=id F;ctx_has v h1
   exact⟨w,_,rfl,F,Y.1,k2⟩
  | tb cs rows =>
   obtain⟨c,t,vs,h1,h2⟩:=id F;ctx_has v h1
   exact⟨w,_,rfl,F,Y.1,k2⟩
  | wy cs ps es =>
   obtain⟨c,t,e,vs,h1,h2⟩:=id F;ctx_has v h1
   exact⟨w,_,rfl,F,Y.1,k2⟩
  | bh cs gap =>
   obtain⟨c,h1,h2⟩:=id F;ctx_has v h1
   exact⟨w,_,rfl,F,Y.1,k2⟩
 | sa c us W =>
  obtain⟨t,u,h1,h2,h3⟩:=id F;ctx_has v h1
  intro x dx Z aa ab;have s1:=fB (C:=ao mg (b_ "Same")) Z aa ab;exact⟨x,dx,w,(c,us,W),rfl,ae,eZ F λa xs e=>s1 _ _ e,Y,λH2 ob b2=>⟨rfl,k x H2 Z ⟨J4 ob,ob⟩ (cW Z s1 b2)⟩⟩
theorem qP (T:Txt w K mg) (L:ck K (aD K (ao mg "Unlike") "kept") "kept" "Unlike.kept" im ["self","filling"]) (Fv : @Dz6 P w K mg base):FnR P w K mg base (aD K (ao mg "Unlike") "kept") 6 ["self","filling"] (gT mg "Unlike"):=by
 ctx_has z rz <;> obtain⟨p,f,w,X,g,rfl,B,hO,hW,Z,F,k⟩:=h
 .rfl
 refine⟨_,(aj (aw (aq Fv (ac (aN T.cl_Unlike T.no_Unlike_wish (pvM 0)) (ac (pvM 1) af))))),?_⟩
 obtain⟨dx,fs,h1,Y,_⟩:=hO;cases X with
 | sa c us W=>cases B
 | pl W =>
  ctx_has v h1 Y
  exact⟨w,f,W,g,rfl,(by cases W <;> first | rfl | cases B),hW,Z,F,k⟩
theorem uU (T:Txt w K mg) (L:ck K (aD K (ao mg "Many") "kept") "kept" "Many.kept" jG ["self","filling"]) (Z : @Dz7 P w K mg base):FnR P w K mg base (aD K (ao mg "Many") "kept") 6 ["self","filling"] (gT mg "Many"):=by
 ctx_has z vC <;> obtain⟨p,f,w,X,g,rfl,B,hO,hW,hk,F,k⟩:=h
 .rfl
 refine⟨_,(aj (aw (aq Z (ac (aN T.cl_Many T.no_Many_wish (pvM 0)) (ac (pvM 1) af))))),?_⟩
 obtain⟨dx,fs,h1,Y,_⟩:=hO;cases X with
 | sa c us W=>cases B
 | pl W =>
  ctx_has v h1 Y
  exact⟨w,f,W,g,rfl,(by cases W <;> first | rfl | cases B),hW,hk,F,k⟩
theorem wx (T:Txt w K mg) (L:ck K (aD K (ao mg "Sum") "kept") "kept" "Sum.kept" lu ["self","filling"]) (FD : @Dz8 P w K mg base):FnR P w K mg base (aD K (ao mg "Sum") "kept") 6 ["self","filling"] (gT mg "Sum"):=by
 ctx_has z xr <;> obtain⟨p,f,w,X,g,rfl,B,hO,hW,Z,F,k⟩:=h
 .rfl
 refine⟨_,(aj (aw (aq FD (ac (aN T.cl_Sum T.no_Sum_wish (pvM 0)) (ac (pvM 1) af))))),?_⟩
 obtain⟨dx,fs,h1,Y,_⟩:=hO;cases X with
 | sa c us W=>cases B
 | pl W =>
  ctx_has v h1 Y
  exact⟨w,f,W,g,rfl,(by cases W <;> first | rfl | cases B),hW,Z,F,k⟩
theorem rM (T:Txt w K mg) (L:ck K (aD K (ao mg "Table") "kept") "kept" "Table.kept" iM ["self","filling"]) (Z : @Dz9 P w K mg base):FnR P w K mg base (aD K (ao mg "Table") "kept") 6 ["self","filling"] (gT mg "Table"):=by
 ctx_has z rO <;> obtain⟨p,f,w,X,g,rfl,B,hO,hW,hk,F,k⟩:=h
 .rfl
 refine⟨_,(aj (aw (aq Z (ac (aN T.cl_Table T.no_Table_wish (pvM 0)) (ac (pvM 1) af))))),?_⟩
 obtain⟨dx,fs,h1,Y,_⟩:=hO;cases X with
 | sa c us W=>cases B
 | pl W =>
  ctx_has v h1 Y
  exact⟨w,f,W,g,rfl,(by cases W <;> first | rfl | cases B),hW,hk,F,k⟩
theorem wz (T:Txt w K mg) (L:ck K (aD K (ao mg "Way") "kept") "kept" "Way.kept" lF ["self","filling"]) (FE : @JB P w K mg base):FnR P w K mg base (aD K (ao mg "Way") "kept") 6 ["self","filling"] (gT mg "Way"):=by
 ctx_has z vW <;> obtain⟨p,f,w,X,g,rfl,B,hO,hW,Z,F,k⟩:=h
 .rfl
 refine⟨_,(aj (aw (aq FE (ac (aN T.cl_Way T.no_Way_wish (pvM 0)) (ac (pvM 1) af))))),?_⟩
 obtain⟨dx,fs,h1,Y,_⟩:=hO;cases X with
 | sa c us W=>cases B
 | pl W =>
  ctx_has v h1 Y
  exact⟨w,f,W,g,rfl,(by cases W <;> first | rfl | cases B),hW,Z,F,k⟩
theorem qD (T:Txt w K mg) (L:ck K (aD K (ao mg "Behind") "kept") "kept" "Behind.kept" ik ["self","filling"]) (Fu : @JQ P w K mg base):FnR P w K mg base (aD K (ao mg "Behind") "kept") 6 ["self","filling"] (gT mg "Behind"):=by
 ctx_has z qi <;> obtain⟨p,f,w,X,g,rfl,B,hO,hW,Z,F,k⟩:=h
 .rfl
 refine⟨_,(aj (aw (aq Fu (ac (aN T.cl_Behind T.no_Behind_wish (pvM 0)) (ac (pvM 1) af))))),?_⟩
 obtain⟨dx,fs,h1,Y,_⟩:=hO;cases X with
 | sa c us W=>cases B
 | pl W =>
  ctx_has v h1 Y
  exact⟨w,f,W,g,rfl,(by cases W <;> first | rfl | cases B),hW,Z,F,k⟩
theorem uv (T:Txt w K mg) (L:ck K (aD K (ao mg "Same") "kept") "kept" "Same.kept" jH ["self","filling"]) (Y:Fn P w K mg base "same_kept" 5 ["wish","filling"] (ux)):FnR P w K mg base (aD K (ao mg "Same") "kept") 6 ["self","filling"] (gT mg "Same"):=by
 ctx_has z uz <;> obtain⟨p,f,w,X,g,rfl,hC,hO,hW,Z,F,k⟩:=h
 .rfl
 refine⟨_,(aj (aw (aq Y (ac (aN T.cl_Same T.no_Same_wish (pvM 0)) (ac (pvM 1) af))))),?_⟩
 obtain⟨dx,fs,h1,B,_⟩:=hO;cases X with
 | pl W=>cases W <;> cases hC
 | sa c us W =>
  ctx_has v h1 B
  exact⟨w,f,c,us,W,g,rfl,hW,Z,F,k⟩
open L2.Irr
theorem FnR.lift {R:Addr->Prop} (F:FnR P w K mg base R j ps sp) (h:j<=k):FnR P w K mg base R k ps sp:=by
 obtain⟨f,fd,F,r⟩:=F;exact⟨f,fd,F.mono h,r⟩
def CsO (mg:Str->Option Value):List (Addr × Sp):=[(ao mg "Unlike",gT mg "Unlike"),(ao mg "Many",gT mg "Many"),(ao mg "Sum",gT mg "Sum"),(ao mg "Table",gT mg "Table"),(ao mg "Way",gT mg "Way"),(ao mg "Behind",gT mg "Behind"),(ao mg "Same",gT mg "Same")]
def GK (mg:Str->Option Value):List (Addr × Sp):=[(ao mg "Unlike",eK mg),(ao mg "Many",eP mg),(ao mg "Sum",eG mg),(ao mg "Table",eL mg),(ao mg "Way",eI mg),(ao mg "Behind",eE mg),(ao mg "Same",jg mg)]
def HY (mg:Str->Option Value):List (Addr × Sp):=[(ao mg "Unlike",dF mg),(ao mg "Many",dB mg),(ao mg "Sum",dG mg),(ao mg "Table",dA mg),(ao mg "Way",dv mg),(ao mg "Behind",dD mg),(ao mg "Same",gU mg)]
theorem GI {P:Addr->Sp->Prop} {a1 a2 a3 a4 a5 a6 B:Addr} {b1 L Y b4 b5 F Z:Sp} (h1:P a1 b1) (h2:P a2 L) (h3:P a3 Y) (h4:P a4 b4) (h5:P a5 b5) (h6:P a6 F) (h7:P B Z) : ∀C sp,(C,sp)∈[(a1,b1),(a2,L),(a3,Y),(a4,b4),(a5,b5),(a6,F),(B,Z)]->P C sp:=λC sp h=>by
 simp only[i6,Prod.mk.injEq,k_,or_false] at h;rcases h with⟨rfl,rfl⟩ | ⟨rfl,rfl⟩ | ⟨rfl,rfl⟩ | ⟨rfl,rfl⟩ | ⟨rfl,rfl⟩ | ⟨rfl,rfl⟩ | ⟨rfl,rfl⟩
 .exact h1
 .exact h2
 .exact h3
 .exact h4
 .exact h5
 .exact h6
 .exact h7
theorem Dk {X:Wx} {Q:VK} (h:G6 mg H p X) (Y:szX X) (F:dz H f (aB X) g) (k : ∀H',ap H H'->Q (.bl (cq X g)) H') :
  ∃C sp,(C,sp)∈CsO mg/\∃dx fs,H p=some (.ins C dx fs)/\fs.lookup (b_ "kept")=none/\sp [.ref p,.ref f] H Q E0:=by
 obtain⟨⟨w,⟨dx,fs,h1,L,B⟩,Z⟩,_⟩:=h;exact⟨_,gT mg (CP X),(by cases X with
  | pl W=>cases W <;> simp[CsO,CP,JC]
  | sa c us W=>simp[CsO,CP]),dx,fs,h1,B,p,f,w,X,g,rfl,rfl,⟨dx,fs,h1,L,B⟩,Z,Y,F,k⟩
def smX (rm:Str->List Int):Wx->Prop
 | .pl W=>smW rm W
 | .sa _ _ W=>smW rm W
structure Jj (mg:Str->Option Value) (H:Hp) (p r:Addr) (X:Wx) (kvs:List (Key × V)) (rm:Str->List Int):Prop where
 ob:G6 mg H p X
 rd:H r<*kvs
 rf:bQ H kvs (aB X) rm
 ok:okO X
 ne : ∀c∈aB X,rm c≠[]/\(rm c).length<=10/\(rm c).Pairwise (· < ·)
 un : ∃U:List Int,(∀c∈aB X,∀v∈rm c,v∈U)/\U.length<=20
 sm:smX rm X
theorem Dc {i:Addr} {X:Wx} {Q:VK} (M:Jj mg H i r X kvs rm) (k : ∀(b:Bool) H',(b=true↔∃g,okF rm (aB X) g/\cq X g=true)->ap H H'->Q (.bl b) H') :
  ∃C sp,(C,sp)∈GK mg/\∃dx fs,H i=some (.ins C dx fs)/\fs.lookup (b_ "may_keep")=none/\sp [.ref i,.ref r] H Q E0:=by
 obtain⟨ob,B,F,ok,ne,un,sm⟩:=M;cases X with
 | pl W =>
  obtain⟨C,sp,h1,r⟩:=lS (Q:=Q) ⟨ob.2,B,F,ok.1,sm,ne,un⟩ k;exact⟨C,sp,(by simp only[CsK,GK,i6,k_,or_false] at h1 ⊢;rcases h1 with h | h | h | h | h | h <;> simp[h]),r⟩
 | sa c us W =>
  obtain⟨dx,fs,h1,_,h2,L⟩:=yZ ob.2;exact⟨_,jg mg,by simp[GK],dx,fs,h1,h2,i,r,(c,us,W),kvs,rm,rfl,⟨ob.2,B,F,ok,ne,un,sm⟩,k⟩
theorem AQ {i:Addr} {X:Wx} {Q:VK} (M:Jj mg H i r X kvs rm) (k : ∀(b:Bool) H',(b=true↔∃g,okF rm (aB X) g/\cq X g=false)->ap H H'->Q (.bl b) H') :
  ∃C sp,(C,sp)∈HY mg/\∃dx fs,H i=some (.ins C dx fs)/\fs.lookup (b_ "may_break")=none/\sp [.ref i,.ref r] H Q E0:=by
 obtain⟨ob,B,F,ok,ne,un,sm⟩:=M;cases X with
 | pl W =>
  obtain⟨C,sp,h1,r⟩:=kE (Q:=Q) ⟨ob.2,B,F,ok.1,sm,ne,un⟩ k;exact⟨C,sp,(by simp only[CsB,HY,i6,k_,or_false] at h1 ⊢;rcases h1 with h | h | h | h | h | h <;> simp[h]),r⟩
 | sa c us W =>
  obtain⟨dx,fs,h1,_,h2,L⟩:=yZ ob.2;exact⟨_,gU mg,by simp[HY],dx,fs,h1,L,i,r,(c,us,W),kvs,rm,rfl,⟨ob.2,B,F,ok,ne,un,sm⟩,k⟩
structure gP (H:Hp) (w r:Addr) (X:Wx) (kvs:List (Key × V)) (rm:Str->List Int):Prop where
 ws:WX H w X
 rd:H r<*kvs
 rf:bQ H kvs (aB X) rm
 ok:okO X
 ne : ∀c∈aB X,rm c≠[]/\(rm c).length<=10/\(rm c).Pairwise (· < ·)
 un : ∃U:List Int,(∀c∈aB X,∀v∈rm c,v∈U)/\U.length<=20
 sm:smX rm X
theorem gP.same {H H':Hp} {w r:Addr} {X:Wx} {kvs:List (Key × V)} {rm:Str->List Int} (h:gP H w r X kvs rm) (s:ap H H'):gP H' w r X kvs rm :=
 ⟨eZ h.ws λa xs e=>s _ _ e,s _ _ h.rd,h.rf.same (λa vs e=>s _ _ e),h.ok,h.ne,h.un,h.sm⟩
def JT:Sp:=λvs H Q _=>∃(w r:Addr) (X:Wx) (kvs:List (Key × V)) (rm:Str->List Int),vs=[.ref w,.ref r]/\gP H w r X kvs rm/\∀(b:Bool) H',(b=true↔∃g,okF rm (aB X) g/\cq X g=true)->ap H H'->Q (.bl b) H'
def JG:Sp:=λvs H Q _=>∃(w r:Addr) (X:Wx) (kvs:List (Key × V)) (rm:Str->List Int),vs=[.ref w,.ref r]/\gP H w r X kvs rm/\∀(b:Bool) H',(b=true↔∃g,okF rm (aB X) g/\cq X g=false)->ap H H'->Q (.bl b) H'
theorem yR (T:Txt w K mg) (L:FnL K mg "is_kept" nU ["wish","filling"]) (Fm : @EH P w K mg base) (Y:FnR P w K mg base (aD K (ao mg "Unlike") "kept") 6 ["self","filling"] (gT mg "Unlike")) (ab:FnR P w K mg base (aD K (ao mg "Many") "kept") 6 ["self","filling"] (gT mg "Many")) (ad:FnR P w K mg base (aD K (ao mg "Sum") "kept") 6 ["self","filling"] (gT mg "Sum")) (Z:FnR P w K mg base (aD K (ao mg "Table") "kept") 6 ["self","filling"] (gT mg "Table")) (ag:FnR P w K mg base (aD K (ao mg "Way") "kept") 6 ["self","filling"] (gT mg "Way")) (B:FnR P w K mg base (aD K (ao mg "Behind") "kept") 6 ["self","filling"] (gT mg "Behind")) (aa:FnR P w K mg base (aD K (ao mg "Same") "kept") 6 ["self","filling"] (gT mg "Same")):Fn P w K mg base "is_kept" 12 ["wish","filling"] (JA):=by
 ctx_has z yT <;> obtain⟨w,f,X,g,rfl,hW,ah,F,k⟩:=h
 .rfl
 refine⟨_,(aj (aw (gN (GI ⟨T.cl_Unlike,Y⟩ ⟨T.cl_Many,ab⟩ ⟨T.cl_Sum,ad⟩ ⟨T.cl_Table,Z⟩ ⟨T.cl_Way,ag⟩ ⟨T.cl_Behind,B⟩ ⟨T.cl_Same,aa⟩) (hr.mono (by ctx_has m)) (aq Fm (ac (pvM 0) af)) (ac (pvM 1) af)))),?_⟩
 ctx_has v
 refine⟨w,X,rfl,hW,ah,λp H1 hp ob s1=>⟨p,rfl,?_⟩⟩
 exact Dk ob (uM ah) (F.same s1) λH' s=>k H' (s1.trans s)
abbrev Iu:=Fn P w K mg base "may_be_kept" 24 ["wish","rooms"] (JT)
theorem qd (T:Txt w K mg) (L:FnL K mg "may_be_kept" iq ["wish","rooms"]) (Fm : @EH P w K mg base) (F:FnR P w K mg base (aD K (ao mg "Unlike") "may_keep") 22 ["self","rooms"] (eK mg)) (Z:FnR P w K mg base (aD K (ao mg "Many") "may_keep") 22 ["self","rooms"] (eP mg)) (ab:FnR P w K mg base (aD K (ao mg "Sum") "may_keep") 22 ["self","rooms"] (eG mg)) (Y:FnR P w K mg base (aD K (ao mg "Table") "may_keep") 22 ["self","rooms"] (eL mg)) (ad:FnR P w K mg base (aD K (ao mg "Way") "may_keep") 22 ["self","rooms"] (eI mg)) (B:FnR P w K mg base (aD K (ao mg "Behind") "may_keep") 22 ["self","rooms"] (eE mg)) (aa:FnR P w K mg base (aD K (ao mg "Same") "may_keep") 23 ["self","rooms"] (jg mg)) : @Iu P w K mg base:=by
 ctx_has z pZ <;> obtain⟨w,r,X,kvs,rm,rfl,M,k⟩:=h
 .rfl
 refine⟨_,(aj (aw (gN (GI ⟨T.cl_Unlike,FnR.lift F ∅⟩ ⟨T.cl_Many,FnR.lift Z ∅⟩ ⟨T.cl_Sum,FnR.lift ab ∅⟩ ⟨T.cl_Table,FnR.lift Y ∅⟩ ⟨T.cl_Way,FnR.lift ad ∅⟩ ⟨T.cl_Behind,FnR.lift B ∅⟩ ⟨T.cl_Same,aa⟩) (hr.mono (by ctx_has m)) (aq Fm (ac (pvM 0) af)) (ac (pvM 1) af)))),?_⟩
 ctx_has v
 refine⟨w,X,rfl,M.ws,M.ok,λp H1 hp ob s1=>⟨p,rfl,?_⟩⟩
 have M1:=M.same s1;exact Dc ⟨ob,M1.rd,M1.rf,M.ok,M.ne,M.un,M.sm⟩ λb H' hb s=>k b H' hb (s1.trans s)
abbrev Hd:=Fn P w K mg base "may_be_broken" 24 ["wish","rooms"] (JG)
theorem og (T:Txt w K mg) (L:FnL K mg "may_be_broken" fY ["wish","rooms"]) (Fm : @EH P w K mg base) (F:FnR P w K mg base (aD K (ao mg "Unlike") "may_break") 22 ["self","rooms"] (dF mg)) (Z:FnR P w K mg base (aD K (ao mg "Many") "may_break") 22 ["self","rooms"] (dB mg)) (ad:FnR P w K mg base (aD K (ao mg "Sum") "may_break") 22 ["self","rooms"] (dG mg)) (Y:FnR P w K mg base (aD K (ao mg "Table") "may_break") 22 ["self","rooms"] (dA mg)) (ab:FnR P w K mg base (aD K (ao mg "Way") "may_break") 22 ["self","rooms"] (dv mg)) (B:FnR P w K mg base (aD K (ao mg "Behind") "may_break") 22 ["self","rooms"] (dD mg)) (aa:FnR P w K mg base (aD K (ao mg "Same") "may_break") 23 ["self","rooms"] (gU mg)) : @Hd P w K mg base:=by
 ctx_has z nW <;> obtain⟨w,r,X,kvs,rm,rfl,M,k⟩:=h
 .rfl
 refine⟨_,(aj (aw (gN (GI ⟨T.cl_Unlike,FnR.lift F ∅⟩ ⟨T.cl_Many,FnR.lift Z ∅⟩ ⟨T.cl_Sum,FnR.lift ad ∅⟩ ⟨T.cl_Table,FnR.lift Y ∅⟩ ⟨T.cl_Way,FnR.lift ab ∅⟩ ⟨T.cl_Behind,FnR.lift B ∅⟩ ⟨T.cl_Same,aa⟩) (hr.mono (by ctx_has m)) (aq Fm (ac (pvM 0) af)) (ac (pvM 1) af)))),?_⟩
 ctx_has v
 refine⟨w,X,rfl,M.ws,M.ok,λp H1 hp ob s1=>⟨p,rfl,?_⟩⟩
 have M1:=M.same s1;exact AQ ⟨ob,M1.rd,M1.rf,M.ok,M.ne,M.un,M.sm⟩ λb H' hb s=>k b H' hb (s1.trans s)
def JM (t u:TS):TS:=λD σ H=>∃R:St->Hp->Prop,t { D with nx:=R } σ H/\∀ σ H,R σ H->u D σ H
theorem pM {t u:TS} (h1:PS X st t) (h2:PSs X rest u):PSs X (st :: rest) (JM t u):=by
 unfold PS at h1;unfold PSs at h2 ⊢;intro pins s σ H D I h;obtain⟨R,h,B⟩:=h;refine wpAny_execs_cons (thn (h1 pins s σ H { D with nx:=R } I h) λf L q=>?_)
 cases f with
 | next =>
  obtain⟨σ',H',F,q⟩:=q;exact h2 pins L σ' H' D F (B _ _ q)
 | ret v=>exact q
 | brk=>exact q
 | cont=>exact q
theorem C6 {a b c d rest:TS} (h : ∀R:TS,R=rest->gI a (gI b (gI c (gI d R))) D σ H):gI a (gI b (gI c (gI d rest))) D σ H:=h rest rfl
theorem va {a b:TS} (R:St->Hp->Prop) (h1:a { D with nx:=R } σ H) (h2 : ∀ σ H,R σ H->b D σ H):JM a b D σ H:=⟨R,h1,h2⟩
theorem fI {f:α->V} {xs:List α} {x:V} (h:(xs.map f)[i]? = some x) : ∃y,xs[i]? = some y/\f y=x:=by
 rw[f_] at h;cases e:xs[i]? with
 | none=>rw[e] at h;cases h
 | some y=>rw[e] at h;exact⟨y,rfl,ge h⟩
theorem pz {D:Addr} (s:ap H H1) (h:H D=none):ap H (upd H1 D o):=λb u e=>by rw[ai (au e h)];exact s _ _ e
def wV:Sp:=λvs H Q _=>∃(d l:Addr),vs=[.ref d]/\aO H d l/\∀(p:Addr) (ns:List Int) (H':Hp),H p=none->ns.length=10->ns.Pairwise (· < ·)->(∀x∈ns,-1000000<=x/\x<=1000000)->H' p*>(ns.map V.int)->aO H' d l->But d l H H'->Q (.ref p) H'
theorem Dg {a s:Int} (B:1<=s):((range 10).map λ(i:Nat)=>a+s * (i:Int)).Pairwise (· < ·):=by
 refine y9.mpr (List.pairwise_lt_range.imp λ{i j} h=>?_)
 have:s * (i:Int) < s * (j:Int):=Int.mul_lt_mul_of_pos_left () ()
 omega
theorem qz (T:Txt w K mg) (L:FnL K mg "_law_values" fN ["_law_deal_here"]) (Fa : @Dz0 P w K mg base):Fn P w K mg base "_law_values" 2 ["_law_deal_here"] (wV):=by
 ctx_has z pX <;> obtain⟨d,l,rfl,D,k⟩:=h
 .rfl
 refine⟨_,(ag (bg (aJ bz (aq Fa (ac (pvM 0) (ac ah af))) ah) (ag (aC 1 (aM fV (aq Fa (ac (pvM 0) (ac ah af))) ah))
  (aj (aC 2 (aM bp ah (aq Fa (ac (pvM 0) (ac ah af))))))) (ag (aC 1 (aM fV (aq Fa (ac (pvM 0) (ac ah af))) ah))
  (aj (aC 2 (aM bp ah (aq Fa (ac (pvM 0) (ac ah af))))))))
  (aj (aw (aV (N:=["_law_k","_law_begin","_law_step"]) (nt:=1) (js:=[1,2]) (aG ["_law_deal_here","_law_begin","_law_step"] (ak fN).names) (fG rfl T.b_range (ac ah af)) (ay 0) aU bv (aM bp (pvM 1) (aM dR (pvM 2) (pvM 0))))))),?_⟩
 ctx_has v
 refine bm D ∅ ∅ λr H1 r0 r1 D1 B1=>⟨rfl,dC (λ_=>?_) (λ_=>?_)⟩
 .refine bm D1 ∅ ∅ λx H2 x0 x1 D2 Z=>⟨_,rfl,bm D2 ∅ ∅ λy H3 y0 y1 Y F=>⟨_,rfl,∅,∅,λp hp=>?_⟩⟩
  have fp:=((B1.trans Z).trans F).free Y hp;refine bS dJ (λv=>match v with | .int i=>.int ((x - 50)+(1+y) * i) | _=>.non) hp (λ_ _=>m_) (by rw[bi];decide) ?_ ?_
  .intro v H4 Q4 B sm q4
   obtain⟨i,hi,rfl⟩:=hH.mp B;ctx_has v
   exact⟨.inl ⟨(),()⟩,q4 H4 (ap.refl _)⟩
  .intro H4 sm h4
   refine k p ((range 10).map λ(i:Nat)=>(x - 50)+(1+y) * (i:Int)) H4 fp (by simp) (Dg ()) (λv B=>?_) (by rw[h4,ql,k6,k6];refine congrArg _ (congrArg _ (nL λi _=>?_));simp) (Y.same sm) (((B1.trans Z).trans F).same sm)
   obtain⟨i,hi,rfl⟩:=hH.mp B;have hi:=LG.mp hi;have h1:0<=(1+y) * (i:Int):=Int.mul_nonneg () ()
   have h2:(1+y) * (i:Int)<=(1+y) * 9:=Int.mul_le_mul_of_nonneg_left () ()
   omega
 .refine bm D1 ∅ ∅ λx H2 x0 x1 D2 Z=>⟨_,rfl,bm D2 ∅ ∅ λy H3 y0 y1 Y F=>⟨_,rfl,∅,∅,λp hp=>?_⟩⟩
  have fp:=((B1.trans Z).trans F).free Y hp;refine bS dJ (λv=>match v with | .int i=>.int ((x - 1000000)+(1+y) * i) | _=>.non) hp (λ_ _=>m_) (by rw[bi];decide) ?_ ?_
  .intro v H4 Q4 B sm q4
   obtain⟨i,hi,rfl⟩:=hH.mp B;ctx_has v
   exact⟨.inl ⟨(),()⟩,q4 H4 (ap.refl _)⟩
  .intro H4 sm h4
   refine k p ((range 10).map λ(i:Nat)=>(x - 1000000)+(1+y) * (i:Int)) H4 fp (by simp) (Dg ()) (λv B=>?_) (by rw[h4,ql,k6,k6];refine congrArg _ (congrArg _ (nL λi _=>?_));simp) (Y.same sm) (((B1.trans Z).trans F).same sm)
   obtain⟨i,hi,rfl⟩:=hH.mp B;have hi:=LG.mp hi;have h1:0<=(1+y) * (i:Int):=Int.mul_nonneg () ()
   have h2:(1+y) * (i:Int)<=(1+y) * 9:=Int.mul_le_mul_of_nonneg_left () ()
   omega
theorem vU : ∀{kvs:List (Key × V)} {k:Key} {v:V},bM kvs k=some v->k∈kvs.map (·.1)
 | [],k,v,h=>by rw[fg] at h;cases h
 | (a,b) :: r,k,v,h=>by
  by_cases e:a=k
  .subst e;simp
  .rw[aX e] at h
   exact i7 _ (vU h)
theorem gx (h:ap H H') {q:Addr} (e:H' q=none):H q=none:=by
 cases e2:H q with
 | none=>rfl
 | some o=>rw[h _ _ e2] at e;cases e
theorem Dq {k:Key} {v:V} {x:Key × V} (hk:k∈kvs.map (·.1)) (F:x∈bu kvs k v):x=(k,v)\/(x∈kvs/\x.1≠k):=by
 obtain⟨Y,B,L⟩:=hH.mp hk;have ha:(kvs.any λkv=>decide (kv.1=k))=true:=v9.mpr ⟨Y,B,by simpa using L⟩
 unfold bu at F;rw[if_pos ha] at F;obtain⟨y,Z,rfl⟩:=hH.mp F
 by_cases e:y.1=k
 .rw[if_pos e];left;rw[e]
 .rw[if_neg e];exact .inr ⟨Z,e⟩
theorem sT {k:Key} {v:V} (Y:k∈kvs.map (·.1)):(bu kvs k v).map (·.1)=kvs.map (·.1):=by
 obtain⟨L,B,F⟩:=hH.mp Y;have ha:(kvs.any λkv=>decide (kv.1=k))=true:=v9.mpr ⟨L,B,by simpa using F⟩
 unfold bu;rw[if_pos ha,k6];refine nL λy _=>?_
 show(if y.1=k then(y.1,v) else y).1=y.1
 split <;> rfl
theorem Cw {g:TG} {Q:VK} {D:Addr} (B:Nat->List V->Hp->Prop) (h0:B 0 [] (upd H1 D (.lst []))) (hl : ∀i ys H,B i ys H->SqL K H a xs)
  (hs : ∀(i:Nat) (x:V) (ys:List V) (H:Hp) (t:Addr),xs[i]? = some x->B i ys H->H t=none->g (.ref t) σ0 (upd H t (.tup [.int (i:Nat),x])) λF H3=>tc F H3 λc Z=>if c=true then te F Z λv H5=>H5 D*>ys/\ys.length < g9/\B (i+1) (ys++[v]) (upd H5 D (.lst (ys++[v]))) else B (i+1) ys Z)
  (hd : ∀ys H,B xs.length ys H->Q (.ref D) H):oP (Ic K a) σ0 g tc te Q H1 D:=by
 refine⟨λi m ys H=>B i ys H/\i<=xs.length/\m=xs.length - i,⟨_,h0,x5 _,rfl⟩,?_⟩
 rintro i m ys H ⟨hp,hi,rfl⟩
 have sa:=hl i ys H hp
 by_cases Y:i=xs.length
 .left
  subst Y;exact⟨⟨xs,sa,rfl⟩,hd ys H hp⟩
 .right
  have h1:i < xs.length:=()
  refine⟨⟨xs,xs[i],sa,by simp[h1]⟩,λL H'=>B (i+1) L H',λL H' h=>⟨_,(),h,(),rfl⟩,?_⟩
  rintro v H' ⟨t,x,ht,rfl,rfl,e1⟩
  exact hs i x ys H t (e1 xs sa) hp ht
structure RmD (H:Hp) (r:Addr) (kvs:List (Key × V)) (cs:List Str) (rm:Str->List Int):Prop where
 hr:H r<*kvs
 rf:bQ H kvs cs rm
 ks:kvs.map (·.1)=cs.map (g6:Str->Key)
 nd:cs.Nodup
theorem RmD.same {H H':Hp} {r:Addr} {kvs:List (Key × V)} {cs:List Str} {rm:Str->List Int} (h:RmD H r kvs cs rm) (s:ap H H'):RmD H' r kvs cs rm:=⟨s _ _ h.hr,h.rf.same λa vs e=>s _ _ e,h.ks,h.nd⟩
theorem RmD.but (h:RmD H r kvs cs rm) (n:r≠d/\r≠l) (D:aO H d l) (B:But d l H H'):RmD H' r kvs cs rm:=⟨B _ _ n.1 n.2 h.hr,h.rf.same λa vs e=>B.tup D e,h.ks,h.nd⟩
theorem RmD.len (h:RmD H r kvs cs rm):kvs.length=cs.length:=by have:=congrArg KM h.ks;simpa using this
theorem mw {v:V} (h:kvs.map (·.1)=cs.map (g6:Str->Key)) (F:c∉cs):(bu kvs (g6 c) v).map (·.1)=(cs++[c]).map (g6:Str->Key):=by
 have B:bM kvs (g6 c)=none:=by
  cases e:bM kvs (g6 c) with
  | none=>rfl
  | some u =>
   have h1:=vU e;rw[h] at h1;obtain⟨y,L,e⟩:=hH.mp h1;cases e;exact absurd L F
 rw[eU _ B,r_,h,r_];rfl
theorem ky (B:ws.Nodup) (F:ws[i]? = some c):c∉ws.take i:=λh=>by
 have e:ws.take (i+1)=ws.take i++[c]:=by rw[j6,F];rfl
 have h1:=B.sublist (x8 (i+1) ws);rw[e] at h1;exact absurd rfl ((t9.mp h1).2.2 c h c (fx.mpr rfl))
theorem Hx (h1:1<=n) (h2:n < 1024) : ∃k,k < 10/\n / 2 ^ k % 2=1:=by
 obtain⟨k,B⟩:=Nat.exists_testBit_of_ne_zero (x:=n) ()
 refine⟨k,Decidable.byContradiction λF=>?_,by rw[Nat.testBit_eq_decide_div_mod_eq] at B;simpa using B⟩
 rw[Nat.testBit_lt_two_pow (g7 h2 (LR (n:=2) (i:=10) ∅ ()))] at B
 cases B
def AO:Sp:=λvs H Q _=>∃(d l a p:Addr) (ws:List Str) (ns:List Int) (m:Int),vs=[.ref d,.ref a,.ref p,.int m]/\aO H d l/\(a≠d/\a≠l)/\(p≠d/\p≠l)/\H a*>(ws.map V.str)/\ws.Nodup/\ws.length<=13/\H p*>(ns.map V.int)/\ns.length=10/\1<=m/\m<=10 /\
 ∀(r:Addr) (kvs:List (Key × V)) (rm:Str->List Int) (H':Hp),H r=none->RmD H' r kvs ws rm->(∀c∈ws,rm c≠[]/\((rm c).length:Int)<=m/\(rm c).Sublist ns)->aO H' d l->But d l H H'->Q (.ref r) H'
abbrev JE:=Fn P w K mg base "_law_rooms" 2 ["_law_deal_here","_law_names_here","_law_pool","_law_most"] (AO)
theorem sh (T:Txt w K mg) (L:FnL K mg "_law_rooms" gm ["_law_deal_here","_law_names_here","_law_pool","_law_most"]) (Fa : @Dz0 P w K mg base) : @JE P w K mg base:=by
 ctx_has z rQ <;> obtain⟨d,l,a,p,ws,ns,m,rfl,D,na,np,ha,au,a5,hp,a6,m0,m1,k⟩:=h
 .rfl
 refine⟨_,(ag (aC 4 eh)
  (ag (bx (hV K (pvM 1)) (ay 5) (ag (aC 6 (aM bp ah (aq Fa (ac (pvM 0) (ac ah af)))))
  (ag (iy 7 (N:=["_law_k","_law_value","_law_bits"]) (nt:=2) (js:=[6]) (aG ["_law_deal_here","_law_names_here","_law_pool","_law_most","_law_rooms_here","_law_name","_law_bits","_law_some_here"] (ak gm).names) (CH (K:=K) rfl rfl T.b_enumerate (ac (pvM 2) af)) (dI (n:=2) rfl (bj (ay 0) (bj (ay 1) dO))) cJ (gs (aJ bz (aM gA (aM xl (pvM 2) (aM HS ah (pvM 0))) ah) ah)) (pvM 1))
  (aj (fu hu (pvM 4) (pvM 5) (aW cZ T.b_tuple (ac (bL CB (pvM 7) cA (bW (pvM 3))) af)) rfl)))))
  (aj (aw (pvM 4))))),?_⟩
 ctx_has v
 intro q hq;have nq:=D.ne hq;have s1:=ap.upd0 (o:=.dK []) hq;refine⟨_,s1 _ _ ha,?_⟩
 refine cu cD (λi σ H'=>∃(kvs:List (Key × V)) (rm:Str->List Int) (v5 v6 v7:Option V),σ=[-d,-a,-p,some (.int m),-q,v5,v6,v7]/\RmD H' q kvs (ws.take i) rm/\(∀c∈ws.take i,rm c≠[]/\((rm c).length:Int)<=m/\(rm c).Sublist ns)/\H' a*>(ws.map V.str)/\H' p*>(ns.map V.int)/\aO H' d l/\But d l H H')
  ⟨[],λ_=>[],_,_,_,rfl,⟨ae,λc hc=>(by simp at hc),rfl,L7⟩,λc hc=>(by simp at hc),s1 _ _ ha,s1 _ _ hp,D.new hq,(But.refl H).new hq⟩ (λi σ H' ao=>by obtain⟨_,_,_,_,_,_,_,_,h,_⟩:=ao;exact(.of h)) ?_ ?_
 .rintro i x σ H2 hi hx ⟨kvs,rm,v5,v6,v7,rfl,R2,hgd,h2a,h2p,D2,B2⟩
  rw[d_] at hi;obtain⟨c,ad,rfl⟩:=fI hx;ctx_has v
  refine bm D2 ∅ ∅ λr H3 r0 r1 D3 B3=>⟨_,rfl,?_⟩
  have aa:=B3 p _ np.1 np.2 h2p;refine⟨p,rfl,_,aa,λg hg=>?_⟩
  have ng:=D3.ne hg;refine Cw (xs:=ns.map V.int) (λj ys H'=>∃B:List Int,ys=B.map V.int/\B.Sublist (ns.take j)/\(∀k,k < j->(1+r).toNat / 2 ^ k % 2=1->B≠[])/\ap H3 H'/\H' g*>ys) ⟨[],rfl,(by simp),λk hk=>absurd hk (Nat.not_lt_zero _),ap.upd0 hg,ae⟩ (λj ys H' an=>by obtain⟨_,_,_,_,s,_⟩:=an;exact(.of (s _ _ aa))) ?_ ?_
  .rintro j y ys H4 t hy ⟨B,rfl,hgs,hgb,s4,h4⟩ ht
   obtain⟨z,hz,rfl⟩:=fI hy;have Z:=ap.upd0 (o:=.tup [.int (j:Nat),.int z]) ht;have g5:upd H4 t (.tup [.int (j:Nat),.int z]) t>>[.int (j:Nat),.int z]:=ae
   generalize upd H4 t (.tup [.int (j:Nat),.int z])=H5 at Z g5 ⊢;have a4:j < ns.length:=(g_.mp hz).1
   ctx_has v g5
   have e2:(1 * 2 ^ ((j:Nat):Int).toNat:Int)=((2 ^ j:Nat):Int):=by rw[J_,Int.one_mul];push_cast;rfl
   have a7:2 ^ j<=2 ^ 10:=LR ∅ ()
   have a9:0 < 2 ^ j:=Nat.two_pow_pos j
   obtain⟨bb,ar⟩:=u6 (show 0<=1+r by omega)
   rw[ar] at hgb;rw[e2,ar];rw[J_] at hgb ⊢;have aA:B.length<=10:=ja hgs.length_le (ja (p9 _ _) ())
   have en:ns.take (j+1)=ns.take j++[z]:=by rw[j6,hz];rfl
   have e3:((bb:Nat):Int) / ((2 ^ j:Nat):Int) % 2=1↔bb / 2 ^ j % 2=1:=by rw[<- Int.natCast_ediv];omega
   refine⟨⟨(),(),∅⟩,⟨(),()⟩,∅,dC (λhb=>?_) (λhb=>?_)⟩
   .exact⟨Z _ _ h4,by rw[d_];exact aF (),B++[z],by simp,by rw[en];exact hgs.append_right [z],λ_ _ _ e=>by simp at e,pz (s4.trans Z) hg,ae⟩
   .refine⟨B,rfl,by rw[en];exact hgs.trans (List.sublist_append_left _ _),λk hk e=>?_,s4.trans Z,Z _ _ h4⟩
    by_cases z:k < j
    .exact hgb k z e
    .rw[show k=j by omega] at e
     exact absurd (e3.mpr e) hb
  .rintro ys H4 ⟨B,rfl,hgs,hgb,s4,h4⟩
   rw[d_,la] at hgs;rw[d_] at hgb;obtain⟨mn,rfl⟩:=u6 (show 0<=m by omega)
   obtain⟨k0,aD,a0⟩:=Hx (n:=(1+r).toNat) () ()
   have a1:=hgb k0 () a0
   refine⟨g,rfl,_,h4,λu a3=>⟨_,ae,λt ht=>?_⟩⟩
   rw[lU] at ht ⊢;have Z:=(ap.upd0 (o:=.lst ((B.take mn).map V.int)) a3).upd_new (o:=.tup ((B.take mn).map V.int)) ht;have am:upd (upd H4 u (.lst ((B.take mn).map V.int))) t (.tup ((B.take mn).map V.int)) t>>((B.take mn).map V.int):=ae
   generalize upd (upd H4 u (.lst ((B.take mn).map V.int))) t (.tup ((B.take mn).map V.int))=H5 at Z am ⊢;have F:=s4.trans Z;have B5:=(B2.trans B3).same F;have D5:=D3.same F;have R5:=(R2.but nq D2 B3).same F;have aB:=R5.len;have a8:=p9 i ws;have az:=F _ _ (B3 a _ na.1 na.2 h2a);have a2:=F _ _ aa;have ax:=R5.hr;have ab:ws.take (i+1)=ws.take i++[c]:=by rw[j6,ad];rfl
   have kq : ∀b o,(∀u,o≠.dK u)->H5 b=some o->upd H5 q (.dK (bu kvs (g6 c) (.ref t))) b=some o:=λb o hn e=>by rw[ai (aZ e ax (λz=>hn _ z))];exact e
   have Y : ∀x∈ws.take (i+1),x=c\/x∈ws.take i:=λx hx=>by
    rw[ab] at hx;rcases j9.mp hx with z | z
    .exact .inr z
    .exact .inl (fx.mp z)
   refine⟨kvs,ax,aF (),_,bO rm c (B.take mn),⟨ae,R5.rf.putG (λb vs e=>kq b _ (by intro u z;cases z) e) (kq _ _ (by intro u z;cases z) am) Y,by rw[ab];exact mw R5.ks (ky au ad),au.sublist (x8 _ _)⟩,λx hx=>?_,kq _ _ (by intro u z;cases z) az,kq _ _ (by intro u z;cases z) a2,D5.put nq.1 nq.2,B5.put hq⟩
   unfold bO
   by_cases e:x=c
   .rw[if_pos e]
    refine⟨λz=>?_,by have:=K5 mn B;omega,(x8 _ _).trans hgs⟩
    rcases List.take_eq_nil_iff.mp z with z | z
    .omega
    .exact a1 z
   .rw[if_neg e];exact hgd x ((Y x hx).resolve_left e)
 .rintro σ H2 ⟨kvs,rm,v5,v6,v7,rfl,R2,hgd,h2a,h2p,D2,B2⟩
  rw[d_,la] at R2 hgd;ctx_has v
  exact k q kvs rm H2 hq R2 hgd D2 B2
theorem Ca {o:Obj} {g:TG} (B:Nat->St->Hp->Prop) (h0:B 0 σ H) (hl : ∀i σ H,B i σ H->H a=some (.frz o (.dK kvs)))
  (Z : ∀(i:Nat) (k:Key) (x:V) (σ:St) (H:Hp) (t:Addr),kvs[i]? = some (k,x)->B i σ H->H t=none->g (.ref t) σ (upd H t (.tup [kV k,x])) λF H2=>tb { D with nx:=B (i+1),ct:=B (i+1),bk:=D.nx } F H2)
  (Y : ∀ σ H,B kvs.length σ H->D.nx σ H):ER (Iti a o kvs) g tb D σ H:=by
 refine⟨λi m σ H=>B i σ H/\i<=kvs.length/\m=kvs.length - i,⟨_,h0,x5 _,rfl⟩,?_⟩
 rintro i m σ H ⟨hp,hi,rfl⟩
 have sa:=hl i σ H hp
 by_cases L:i=kvs.length
 .left
  subst L;exact⟨⟨sa,h_ _⟩,Y σ H hp⟩
 .right
  have h1:i < kvs.length:=()
  refine⟨⟨sa,h1⟩,λσ' H'=>B (i+1) σ' H',λσ' H' h=>⟨_,(),h,(),rfl⟩,?_⟩
  rintro v H' ⟨t,k,x,ht,rfl,rfl,e1⟩
  exact Z i k x σ H t e1 hp ht
structure FlD (H:Hp) (f:Addr) (kf:List (Key × V)) (cs:List Str) (g:Str->Int):Prop where
 hf:H f<*kf
 vl : ∀c∈cs,bM kf (g6 c)=some (.int (g c))
 ks:kf.map (·.1)=cs.map (g6:Str->Key)
theorem FlD.same (h:FlD H f kf cs g) (s:ap H H'):FlD H' f kf cs g:=⟨s _ _ h.hf,h.vl,h.ks⟩
theorem xi {k:Key} {x:V} (h:kvs.map (·.1)=cs.map (g6:Str->Key)) (B:cs.Nodup) (e:kvs[i]? = some (k,x)) : ∃c,cs[i]? = some c/\k=g6 c/\bM kvs (g6 c)=some x:=by
 have h1:=congrArg (λl=>l[i]?) h
 simp only[f_,e,Lo] at h1;cases e2:cs[i]? with
 | none=>rw[e2] at h1;cases h1
 | some c =>
  rw[e2] at h1;have F:k=g6 c:=ge h1
  subst F;refine⟨c,rfl,rfl,qf ?_ (gt e)⟩
  rw[h];exact B.map (f:=(g6:Str->Key)) λa b h e=>h (Sum.inr.inj e)
def Ep:Sp:=λvs H Q _=>∃(d l r:Addr) (kvs:List (Key × V)) (cs:List Str) (rm:Str->List Int),vs=[.ref d,.ref r]/\aO H d l/\(r≠d/\r≠l)/\RmD H r kvs cs rm/\cs.length<=13/\(∀c∈cs,rm c≠[]/\(rm c).length<=10) /\
 ∀(f:Addr) (kf:List (Key × V)) (g:Str->Int) (H':Hp),H f=none->FlD H' f kf cs g->okF rm cs g->aO H' d l->But d l H H'->Q (.ref f) H'
abbrev Gj:=Fn P w K mg base "_law_filling" 2 ["_law_deal_here","_law_rooms_here"] (Ep)
theorem pH (T:Txt w K mg) (L:FnL K mg "_law_filling" gO ["_law_deal_here","_law_rooms_here"]) (Fa : @Dz0 P w K mg base) : @Gj P w K mg base:=by
 ctx_has z pG <;> obtain⟨d,l,r,kvs,cs,rm,rfl,D,nr,B,a4,an,k⟩:=h
 .rfl
 refine⟨_,(ag (aC 2 eh)
  (ag (pS (bx (vK (pvM 1)) (dI (n:=2) rfl (bj (ay 3) (bj (ay 4) dO))) (aj (fu hu (pvM 2) (pvM 3) (az aR (pvM 4) (aq Fa (ac (pvM 0) (ac (aE fA T.b_len (ac (pvM 4) af)) af)))) rfl))))
  (aj (aw (pvM 2))))),?_⟩
 ctx_has v
 intro f hf;have nf:=D.ne hf;have rf:r≠f:=au B.hr hf
 have s1:=ap.upd0 (o:=.dK []) hf;ctx_has v zw zx iI
 refine⟨r,kvs,s1 _ _ B.hr,kvs,s1 _ _ B.hr,λo=>?_⟩
 refine Ca (λi σ H'=>∃(kf:List (Key × V)) (g:Str->Int) (v3 v4:Option V),σ=[-d,-r,-f,v3,v4]/\FlD H' f kf (cs.take i) g/\okF rm (cs.take i) g/\H' r=some (.frz o (.dK kvs))/\aO H' d l/\∀b u,b≠d->b≠l->b≠r->H b=some u->H' b=some u)
  ⟨[],λ_=>0,_,_,rfl,⟨by rw[ai rf.symm];exact ae,λc Z=>(by simp at Z),rfl⟩,λc Z=>(by simp at Z),ae,(D.new hf).put nr.1 nr.2,λb u _ _ hb e=>by rw[ai hb];exact s1 _ _ e⟩ (λi σ H' ah=>by obtain⟨_,_,_,_,_,_,_,h,_⟩:=ah;exact(h)) ?_ ?_
 .rintro i kk x σ H2 t hx ⟨kf,g,v3,v4,rfl,F2,hok,h2r,D2,k2⟩ ht
  obtain⟨c,Z,rfl,hv⟩:=xi B.ks B.nd hx;have ak:=gt Z;obtain⟨ar,ab,F⟩:=B.rf c ak;rw[hv] at ab;cases ab;obtain⟨g1,g2⟩:=an c ak;have Y:=ap.upd0 (o:=.tup [kV (g6 c),.ref ar]) ht;have g3:upd H2 t (.tup [kV (g6 c),.ref ar]) t>>[.str c,.ref ar]:=ae
  generalize upd H2 t (.tup [kV (g6 c),.ref ar])=H3 at Y g3 ⊢;have ad:=Y _ _ (k2 ar _ (D.tupN F).1 (D.tupN F).2 (aZ F B.hr (by intro z;cases z)) F)
  have a3:1<=(rm c).length:=K4.mpr g1
  ctx_has v g3 ad
  rw[d_];refine bm (D2.same Y) () () λn H4 n0 n1 D4 B4=>?_
  have a2:=B4.tup (D2.same Y) ad;obtain⟨v,a0,am⟩:=ut (xs:=rm c) n0 n1 V.int;have ao:=B4 f _ nf.1 nf.2 (Y _ _ F2.hf);have a1:=B4 r _ nr.1 nr.2 (Y _ _ h2r);have a5:kf.length<=13:=by
   have h5:=congrArg KM F2.ks;rw[d_,d_] at h5;have h6:=p9 i cs;omega
  have aa:cs.take (i+1)=cs.take i++[c]:=by rw[j6,Z];rfl
  have ax:=ky B.nd Z;refine⟨n,rfl,_,a2,_,am,kf,ao,aF (),bu kf (g6 c) (.int v),bO g c v,⟨ae,λy hy=>?_,by rw[aa];exact mw F2.ks ax⟩,λy hy=>?_,by rw[ai rf];exact a1,D4.put nf.1 nf.2,λb u h1 h2 h3 e=>by rw[ai (au e hf)];exact B4 b u h1 h2 (Y _ _ (k2 b u h1 h2 h3 e))⟩
  .rw[aa] at hy
   rw[gC];unfold bO
   by_cases e:y=c
   .rw[if_pos (by rw[e]),if_pos e]
   .rw[if_neg (λz=>e (Sum.inr.inj z)),if_neg e]
    exact F2.vl y ((j9.mp hy).resolve_right λz=>e (fx.mp z))
  .rw[aa] at hy
   unfold bO
   by_cases e:y=c
   .rw[if_pos e,e];exact a0
   .rw[if_neg e];exact hok y ((j9.mp hy).resolve_right λz=>e (fx.mp z))
 .rintro σ H2 ⟨kf,g,v3,v4,rfl,F2,hok,h2r,D2,k2⟩
  rw[B.len,la] at F2 hok;ctx_has v
  refine⟨⟨o,h2r⟩,k f kf g _ hf ⟨by rw[ai rf.symm];exact F2.hf,F2.vl,F2.ks⟩ hok (D2.put nr.1 nr.2) λb u h1 h2 e=>?_⟩
  by_cases hb:b=r
  .rw[hb,ae,<- e,hb,B.hr]
  .rw[ai hb];exact k2 b u h1 h2 hb e
structure ji (H:Hp) (d l ra pa:Addr) (AN:List Str) (ns:List Int) (kvs:List (Key × V)) (rm:Str->List Int):Prop where
 D:aO H d l
 nr:ra≠d/\ra≠l
 np:pa≠d/\pa≠l
 R:RmD H ra kvs AN rm
 hp:H pa*>(ns.map V.int)
 al:AN.length<=13
 nl:ns.length=10
 nn:ns.Nodup
 nb : ∀x∈ns,-1000000<=x/\x<=1000000
 gd : ∀c∈AN,rm c≠[]/\(rm c).length<=10/\∀v∈rm c,v∈ns
theorem ji.but {H H':Hp} {d l L Y:Addr} {AN:List Str} {ns:List Int} {kvs:List (Key × V)} {rm:Str->List Int} (F:ji H d l L Y AN ns kvs rm) (D:aO H' d l) (B:But d l H H'):ji H' d l L Y AN ns kvs rm :=
 ⟨D,F.nr,F.np,F.R.but F.nr F.D B,B _ _ F.np.1 F.np.2 F.hp,F.al,F.nl,F.nn,F.nb,F.gd⟩
theorem ji.same {H H':Hp} {d l B L:Addr} {AN:List Str} {ns:List Int} {kvs:List (Key × V)} {rm:Str->List Int} (F:ji H d l B L AN ns kvs rm) (s:ap H H'):ji H' d l B L AN ns kvs rm :=
 F.but (F.D.same s) ((But.refl H).same s)
def EJ:Sp:=λvs H Q _=>∃(d l sa B F:Addr) (cs AN:List Str) (ns:List Int) (kvs:List (Key × V)) (rm:Str->List Int),vs=[.ref d,.ref sa,.ref B,.ref F]/\ji H d l B F AN ns kvs rm/\H sa>>(cs.map V.str)/\(∀c∈cs,c∈AN) /\
 ∀(w:Addr) (ts:List (Int × Str)) (lo hi:Option Int) (H':Hp),WS H' w (.sm ts lo hi)->ts.map (·.2)=cs.take 6->(∀x∈ts,-1000000<=x.1/\x.1<=1000000/\x.1≠0)->aO H' d l->But d l H H'->Q (.ref w) H'
abbrev JN:=Fn P w K mg base "_law_sum" 4 ["_law_deal_here","_law_some_here","_law_rooms_here","_law_pool"] (EJ)
theorem vZ (T:Txt w K mg) (L:FnL K mg "_law_sum" jn ["_law_deal_here","_law_some_here","_law_rooms_here","_law_pool"]) (Fa : @Dz0 P w K mg base) (Fb : @Gj P w K mg base) : @JN P w K mg base:=by
 ctx_has z wM <;> obtain⟨d,l,sa,ra,pa,cs,AN,ns,kvs,rm,rfl,M,bi,aA,k⟩:=h
 .rfl
 refine⟨_,(ag (aC 4 (cG af))
  (ag (bx (cg K (bL mL (pvM 1) cA (bW ah))) (ay 5) (pM (aC 6 (aM bp ah (aq Fa (ac (pvM 0) (ac (az gb (cG (ac ah (ac ah af))) (aW nQ T.b_int (ac (jq (aQ wQ (aE (sX rfl) T.b_max (ac (pvM 3) af)) ah) (cL (aQ qZ (aE (nY rfl) T.b_min (ac (pvM 3) af)) (rE lm ah)))) af))) af)))))
  (aj (ci (jw pb p6 cY (pvM 4) (ac (cp (ac (aM dR (pvM 6) (aM fV ah (aM dR ah (aq Fa (ac (pvM 0) (ac ah af)))))) (ac (pvM 5) af))) af))))))
  (ag (aC 7 (aq Fb (ac (pvM 0) (ac (pvM 2) af))))
  (ag (aC 8 (aE (iR rfl) T.b_sum (ac (aV (N:=["_law_a","_law_name","_law_filling_here"]) (nt:=2) (js:=[7]) (aG ["_law_deal_here","_law_some_here","_law_rooms_here","_law_pool","_law_terms","_law_name","_law_a","_law_filling_here","_law_total","_law_low","_law_high"] (ak jn).names) (hV K (pvM 4)) (dI (n:=2) rfl (bj (ay 0) (bj (ay 1) dO))) cJ bv (aM dR (pvM 0) (bC hu (pvM 2) (pvM 1)))) af)))
  (ag (aC 9 (aM fV (pvM 8) (aq Fa (ac (pvM 0) (ac ah af)))))
  (ag (aC 10 (aM bp (pvM 9) (az gb (cG (ac ah (ac ah (ac ah (ac ah af))))) (aq Fa (ac (pvM 0) (ac ah af))))))
  (aj (aw (aM BG (cp (ac aS (ac (aW cZ T.b_tuple (ac (pvM 4) af)) af))) (az gb (cG (ac (cp (ac (pvM 9) (ac (pvM 10) af))) (ac (cp (ac (pvM 9) (ac Ce af))) (ac (cp (ac Ce (ac (pvM 10) af))) (ac (cp (ac (pvM 9) (ac (pvM 10) af))) af))))) (aq Fa (ac (pvM 0) (ac ah af))))))))))))),?_⟩
 refine aK λR hR=>?_
 ctx_has v
 refine⟨∅,λp hp=>?_⟩
 have np:=M.D.ne hp;have s1:=ap.upd0 (o:=.lst []) hp;have a6:upd H p (.lst []) p*>[]:=ae
 generalize upd H p (.lst [])=H1 at s1 a6 ⊢;have M1:=M.same s1;have aP:=s1 _ _ bi;subst hR;refine aK λR hR=>?_
 ctx_has v aP
 intro q H2 ao s2;rw[show fQ (cs.map V.str) none (some 6)=(cs.take 6).map V.str from lU V.str cs 6] at ao
 have M2:=M1.same s2;refine⟨_,ao,?_⟩
 refine cu aY (λi σ H'=>∃(as:List (Addr × Int × Str)) (v5 v6:Option V),σ=[-d,-sa,-ra,-pa,-p,v5,v6,none,none,none,none]/\H' p*>(as.map λx=>V.ref x.1)/\(∀x∈as,H' x.1>>[.int x.2.1,.str x.2.2])/\as.map (·.2.2)=(cs.take 6).take i/\(∀x∈as,-1000000<=x.2.1/\x.2.1<=1000000/\x.2.1≠0)/\H' q>>((cs.take 6).map V.str)/\aO H' d l/\But d l H H')
  ⟨[],_,_,rfl,s2 _ _ a6,λx Y=>(by simp at Y),rfl,λx Y=>(by simp at Y),ao,M2.D,(But.refl H).same (s1.trans s2)⟩ (λi σ H' a9=>by obtain⟨_,_,_,_,_,_,_,_,h,_⟩:=a9;exact(.of h)) ?_ ?_
 .rintro i x σ H3 hi Y ⟨as,v5,v6,rfl,h3p,h3a,hnm,hbd,h3q,D3,B3⟩
  obtain⟨c,bd,rfl⟩:=fI Y;have M3:=M.but D3 B3;have aD:=M3.hp;have aI:ns≠[]:=λe=>by have:=M.nl;rw[e] at this;cases this
  simp only[eR];refine va (λσ H'=>∃a:Int,σ=[-d,-sa,-ra,-pa,-p,some (.str c),some (.int a),none,none,none,none]/\1<=a/\a<=1000000/\aO H' d l/\But d l H3 H') ?_ ?_
  .ctx_has v aD
   refine⟨∅,λu hu=>?_⟩
   have s4:=ap.upd0 (o:=.lst [.int 100,.int 1000000]) hu;have an:upd H3 u (.lst [.int 100,.int 1000000]) u*>[.int 100,.int 1000000]:=ae
   have a7:=s4 _ _ aD;have a3 : ∀N:Int,1<=N->N<=1000000->∀Q':VK,(∀x H',0<=x->x < N->aO H' d l->But d l H3 H'->Q' (.int x) H')->vt [.ref d,.int N] (upd H3 u (.lst [.int 100,.int 1000000])) Q' E0:=λN n0 n1 Q' h=>bm (D3.same s4) () () λx H' x0 x1 D B=>h x H' x0 x1 D (((But.refl H3).same s4).trans B)
   refine⟨ns,a7,aI,λm _ _=>dC (λ_=>⟨ns,a7,aI,λm2 _ _=>?_⟩) (λ_=>?_)⟩
   .by_cases e : -100 < m2
    .rw[if_pos e]
     exact⟨_,an,_,bc (j:=1) rfl,a3 1000000 ∅ ∅ _ λx H' x0 x1 D B=>⟨x,rfl,(),(),D,B⟩⟩
    .rw[if_neg e]
     exact⟨_,an,_,bc (j:=0) rfl,a3 100 ∅ ∅ _ λx H' x0 x1 D B=>⟨x,rfl,(),(),D,B⟩⟩
   .exact⟨_,an,_,bc (j:=0) rfl,a3 100 ∅ ∅ _ λx H' x0 x1 D B=>⟨x,rfl,(),(),D,B⟩⟩
  .rintro σ H4 ⟨a,rfl,a0,a1,D4,B4⟩
   have Z:=B4 p _ np.1 np.2 h3p;ctx_has v Z
   refine bm D4 ∅ ∅ λy H5 y0 y1 D5 B5=>⟨y,rfl,.inl ⟨∅,∅⟩,.inl ⟨(),()⟩,∅,λtp am=>?_⟩
   obtain⟨e,he,e0,e1,en⟩ : ∃e:Int,a * (1 - 2 * y)=e/\-1000000<=e/\e<=1000000/\e≠0:=by
    rcases (show y=0\/y=1 by omega) with rfl | rfl
    .exact⟨a,(),(),(),()⟩
    .exact⟨Neg.neg a,(),(),(),()⟩
   rw[he];have ad:=B5 p _ np.1 np.2 Z;have s6:=ap.upd0 (o:=.tup [.int e,.str c]) am;have a5:=B4.trans B5;have kt : ∀b xs,H3 b>>xs->upd (upd H5 tp (.tup [.int e,.str c])) p (.lst (as.map (λx=>V.ref x.1)++[.ref tp])) b>>xs:=λb xs q=>by rw[ai (aZ q h3p (by intro z;cases z))];exact s6 _ _ (a5.tup D3 q)
   have be:as.length<=6:=by
    have h7:=congrArg KM hnm;rw[d_] at h7;have h8:=p9 i (cs.take 6);have h9:=K5 6 cs;omega
   refine⟨_,s6 _ _ ad,by rw[d_];exact aF (),as++[(tp,e,c)],by rw[ae,r_];rfl,λx Y=>?_,by rw[j6,bd,r_,hnm];rfl,λx Y=>?_,kt _ _ h3q,(D5.new am).put np.1 np.2,((B3.trans a5).new am).put hp⟩
   .rcases j9.mp Y with z | z
    .exact kt _ _ (h3a x z)
    .rw[fx.mp z,ai (au ad am).symm];exact ae
   .rcases j9.mp Y with z | z
    .exact hbd x z
    .rw[fx.mp z];exact⟨e0,e1,en⟩
 .rintro σ H3 ⟨as,v5,v6,rfl,h3p,h3a,hnm,hbd,h3q,D3,B3⟩
  rw[o6 (by rw[d_];exact h_ _)] at hnm
  have be:as.length<=6:=by
   have h7:=congrArg KM hnm;rw[d_] at h7;have h9:=K5 6 cs;omega
  have M3:=M.but D3 B3;subst hR;dsimp only;refine aK λR hR=>?_
  ctx_has v
  refine⟨d,l,ra,kvs,AN,rm,rfl,D3,M.nr,M3.R,M.al,λc hc=>⟨(M.gd c hc).1,(M.gd c hc).2.1⟩,λfi kf g H4 bq F4 bb D4 B4=>?_⟩
  have Z:=B4 p _ np.1 np.2 h3p;have ar : ∀x∈as,H4 x.1>>[.int x.2.1,.str x.2.2]:=λx Y=>B4.tup D3 (h3a x Y)
  have ba:=B3.trans B4;have a8:=F4.hf;subst hR;refine aK λR hR=>?_
  ctx_has v Z
  intro E1 a2;refine eD cD (λj ys H'=>ys=((as.take j).map λx=>x.2.1 * g x.2.2).map V.int/\ap H4 H'/\H' E1*>ys) ⟨rfl,ap.upd0 a2,ae⟩ (λj ys H' aH=>by obtain⟨_,s,_⟩:=aH;exact(.of (s _ _ Z))) ?_ ?_
  .rintro j x ys H5 hj Y ⟨rfl,s5,h5⟩
   obtain⟨y,hy,rfl⟩:=fI Y;have a4:=gt hy;have e5:=s5 _ _ (ar y a4);have f5:=s5 _ _ a8;have aR:y.2.2∈AN:=aA _ (y4 (by rw[<- hnm];exact hH.mpr ⟨y,a4,rfl⟩))
   have hv:=F4.vl _ aR;have aX:=hbd y a4;ctx_has v e5 f5 hv
   refine⟨.inl ⟨(),()⟩,h5,?_,by rw[j6,hy];simp,pz s5 a2,ae⟩
   rw[d_,d_];exact aF (ja (p9 _ _) ())
  rintro ys H5 ⟨rfl,s5,h5⟩
  rw[d_,la] at h5;refine⟨E1,rfl,_,.of h5,?_⟩
  generalize (as.map λx=>x.2.1 * g x.2.2).sum=aa
  have D5:=D4.same s5;have bk:=ba.same s5;have ad:=s5 _ _ Z;have aN : ∀x∈as,H5 x.1>>[.int x.2.1,.str x.2.2]:=λx Y=>s5 _ _ (ar x Y)
  clear h5 s5 Z ar a8 F4 bb a2;subst hR;refine aK λR hR=>?_
  ctx_has v
  refine bm D5 ∅ ∅ λx H6 x0 x1 D6 B6=>⟨x,rfl,?_⟩
  subst hR;refine aK λR hR=>?_
  ctx_has v
  refine⟨∅,λu hu=>pN D6 hu ∅ ∅ rfl λr7 v H7 hv aJ D7 B7 h7=>?_⟩
  obtain⟨hh,rfl⟩ : ∃hh:Int,v = .int hh:=by
   simp only[i6,k_,or_false] at hv;rcases hv with rfl | rfl | rfl | rfl <;> exact⟨_,rfl⟩
  have ax:=B6.trans B7;have aU:=ax p _ np.1 np.2 ad;have bh : ∀x∈as,H7 x.1>>[.int x.2.1,.str x.2.2]:=λx Y=>ax.tup D5 (aN x Y)
  ctx_has v h7 aJ
  subst hR;ctx_has v aU
  intro t ht;have s8:=ap.upd0 (o:=.tup (as.map λx=>V.ref x.1)) ht
  have aB:upd H7 t (.tup (as.map λx=>V.ref x.1)) t>>(as.map λx=>V.ref x.1):=ae
  generalize upd H7 t (.tup (as.map λx=>V.ref x.1))=H8 at s8 aB ⊢
  kpf_say (H8,w1,hw1,g1,z1) al H9 (.tup [.str "sum",.ref t])
  kpf_say (H9,b1,aX,q1,z2) al HA (.tup [.int (aa - x),.int (aa - x+hh)])
  kpf_say (HA,b2,hb2,q2,z3) al HB (.tup [.int (aa - x),.non])
  kpf_say (HB,b3,hb3,q3,z4) al HC (.tup [.non,.int (aa - x+hh)])
  kpf_say (HC,b4,hb4,q4,z5) al HD (.tup [.int (aa - x),.int (aa - x+hh)])
  have sD:=((((s8.trans z1).trans z2).trans z3).trans z4).trans z5;have ab:=D7.same sD;refine⟨∅,λli bg=>pN ab bg ∅ ∅ rfl λr v HE hv aT DE BE hE=>?_⟩
  obtain⟨b,lo,hi,rfl,hb⟩ : ∃b lo hi,v = .ref b/\HD b>>[bV lo,bV hi]:=by
   simp only[i6,k_,or_false] at hv;rcases hv with rfl | rfl | rfl | rfl
   .exact⟨b1,some _,some _,rfl,z5 _ _ (z4 _ _ (z3 _ _ q1))⟩
   .exact⟨b2,some _,none,rfl,z5 _ _ (z4 _ _ q2)⟩
   .exact⟨b3,none,some _,rfl,z5 _ _ q3⟩
   .exact⟨b4,some _,some _,rfl,q4⟩
  have bf:=BE.tup ab hb;have bn:=BE.tup ab (z5 _ _ (z4 _ _ (z3 _ _ (z2 _ _ g1))));have aL:=BE.tup ab (z5 _ _ (z4 _ _ (z3 _ _ (z2 _ _ (z1 _ _ aB)))));have bo : ∀x∈as,HE x.1>>[.int x.2.1,.str x.2.2]:=λx Y=>BE.tup ab (sD _ _ (bh x Y))
  ctx_has v hE aT bf bn
  refine⟨∅,λw H' hw sm=>?_⟩
  refine k w (as.map (·.2)) lo hi H' ⟨t,hw,as,sm _ _ aL,rfl,λx Y=>sm _ _ (bo x Y)⟩ (by rw[k6];exact hnm) (λx Y=>?_) (DE.same sm) ((((bk.trans ax).same sD).trans BE).same sm)
  obtain⟨y,hy,rfl⟩:=hH.mp Y;exact hbd y hy
def mB (B pool:List Int):List (Int × Int):=B.flatMap λs=>pool.map λv=>(s,v)
theorem yD (B pool:List Int) (s:Int):mB (B++[s]) pool=mB B pool++pool.map λv=>(s,v):=by
 unfold mB;rw[List.flatMap_append];simp
theorem xu {pool:List Int} (h:pool.Nodup) : ∀{B:List Int},B.Nodup->(mB B pool).Nodup
 | [],_=>L7
 | s :: B,hs=>by
  have h1:=m7.mp hs
  show((pool.map λv=>(s,v))++mB B pool).Nodup
  refine t9.mpr ⟨y9.mpr (h.imp λF z=>F (by cases z;rfl)),xu h h1.2,λa ha b Y e=>?_⟩
  subst e;obtain⟨v,_,rfl⟩:=hH.mp ha;obtain⟨t,L,Z⟩:=mem_flatMap.mp Y;obtain⟨v2,_,e⟩:=hH.mp Z;cases e;exact h1.1 L
theorem tZ (B pool:List Int):(mB B pool).length=B.length * pool.length:=by
 unfold mB
 induction B with
 | nil=>simp
 | cons s B F=>rw[List.flatMap_cons,q_,d_,F,t4,Nat.succ_mul,add_comm]
def jr (m:Nat):List Int:=0 ::(range m).map λ(i:Nat)=>3 * (1+(i:Int))+5
theorem Bx (m:Nat):(jr m).Nodup:=by
 refine m7.mpr ⟨λh=>?_,y9.mpr (List.pairwise_lt_range.imp λh=>by omega)⟩
 obtain⟨i,_,e⟩:=hH.mp h;omega
def E3:Sp:=λvs H Q _=>∃(d l sa B:Addr) (cs:List Str) (pool:List Int),vs=[.ref d,.ref sa,.ref B]/\aO H d l/\H sa>>(cs.map V.str)/\(B≠d/\B≠l)/\H B*>(pool.map V.int)/\pool.length=10/\pool.Nodup /\
 ∀(w:Addr) (ps:List (Int × Int × Int)) (es:List Int) (H':Hp),(ps.map λx=>(x.1,x.2.1)).Nodup->ps.length<=60->es.length<=60->WS H' w (.wy cs ps es)->aO H' d l->But d l H H'->Q (.ref w) H'
abbrev IX:=Fn P w K mg base "_law_way" 3 ["_law_deal_here","_law_some_here","_law_pool"] (E3)
abbrev nz1:List Str:=["_law_deal_here","_law_some_here","_law_pool","_law_many","_law_states","_law_steps","_law_state","_law_value","_law_cell"]
theorem vN (T:Txt w K mg) (L:FnL K mg "_law_way" gz ["_law_deal_here","_law_some_here","_law_pool"]) (Fa : @Dz0 P w K mg base) : @IX P w K mg base:=by
  ctx_has z xf <;> obtain⟨d,l,sa,pa,cs,pool,rfl,D,bh,a0,aN,a4,aY,k⟩:=h
  . rfl
  refine⟨_,(ag (aC 3 (aM bp ah (aq Fa (ac (pvM 0) (ac ah af)))))
    (ag (aC 4 (aM uN (cG (ac ah af)) (aV (N:=["_law_k"]) (nt:=1) (js:=[]) (aG nz1 (ak gz).names) (At rfl T.b_range (ac ah (ac (pvM 3) af))) (ay 0) aU bv (aM bp (aM dR ah (pvM 0)) ah))))
    (ag (aC 5 (cG af))
    (ag (bx (hV K (pvM 4)) (ay 6) (aj (bx (hV K (pvM 2)) (ay 7) (ag (aC 8 (aq Fa (ac (pvM 0) (ac (aM dR ah (pvM 3)) af))))
    (aj (bg (aJ wQ (pvM 8) (aM dR ah (pvM 3))) (aj (ci (jw pb p6 cY (pvM 5) (ac (cp (ac (pvM 6) (ac (pvM 7) (ac (az gb (pvM 4) (aM gA (pvM 8) (pvM 3))) af)))) af)))) aL))))))
    (aj (aw (cp (ac aS (ac (pvM 1) (ac (aW cZ T.b_tuple (ac (pvM 5) af)) (ac (aW cZ T.b_tuple (ac (aV (N:=["_law_state","_law_deal_here"]) (nt:=1) (js:=[0]) (aG nz1 (ak gz).names) (hV K (pvM 4)) (ay 0) aU (gs (aJ bz (aq Fa (ac (pvM 1) (ac ah af))) ah)) (pvM 0)) af)) af))))))))))),?_⟩
  refine aK λR hR=>?_
  ctx_has v
  refine bm D ∅ ∅ λr1 H1 ba bk D1 B1=>⟨_,rfl,?_⟩
  obtain⟨n,rfl⟩:=u6 ba;subst hR;refine aK λR hR=>?_
  ctx_has v
  kpf_say (H1,z0,hz0,gz0,sz0) al H2 (.lst [.int 0])
  refine⟨(),(),(),(),λE1 aP=>?_⟩
  refine bS dJ (λv=>match v with | .int i=>.int (3 * i+5) | _=>.non) aP (λ_ _=>m_) (by rw[bi];omega) ?_ ?_
  . intro v H4 Q4 hv sm q4
    obtain⟨i,hi,rfl⟩:=hH.mp hv;ctx_has v
    exact⟨.inl ⟨∅,∅⟩,q4 H4 (ap.refl _)⟩
  intro H3 ax h3;have e3:((ql 1 (1+(n:Int) - 1).toNat).map λv=>match v with | .int i=>V.int (3 * i+5) | _=>.non)=((range n).map λ(i:Nat)=>3 * (1+(i:Int))+5).map V.int:=by
    rw[show(1+(n:Int) - 1).toNat=n by omega,ql,k6,k6]
    rfl
  rw[e3] at h3;refine⟨E1,rfl,_,ax _ _ gz0,_,h3,by simp;exact y3 (aF ()),λst aA=>?_⟩
  have s4:=ap.upd0 (o:=.lst ([V.int 0]++((range n).map λ(i:Nat)=>3 * (1+(i:Int))+5).map V.int)) aA
  have h4:upd H3 st (.lst ([V.int 0]++((range n).map λ(i:Nat)=>3 * (1+(i:Int))+5).map V.int)) st*>((jr n).map V.int):=ae
  have ar:=(D1.same (sz0.trans ax)).ne aA;generalize upd H3 st (.lst ([V.int 0]++((range n).map λ(i:Nat)=>3 * (1+(i:Int))+5).map V.int))=H4 at s4 h4 ⊢
  have a8:=(sz0.trans ax).trans s4;have D4:=D1.same a8;have B4:=B1.same a8;have ad:(jr n).length=n+1:=by unfold jr;simp
  clear e3 h3 ax aP hz0 gz0 sz0 s4 a8 aA;subst hR;refine aK λR hR=>?_
  ctx_has v
  kpf_say (H4,p,hp,gp,sp) al H5 (.lst [])
  have np:=D4.ne hp;have fp:H p=none:=B4.free D4 hp
  have bd:st≠p:=au h4 hp
  have aT:=sp _ _ h4;subst hR;refine aK λR hR=>?_
  ctx_has v aT
  refine cu cD (λi σ H'=>∃as v6 v7 v8,σ=[-d,-sa,-pa,some (.int (1+(n:Int))),-st,-p,v6,v7,v8]/\aO H' d l/\But d l H H'/\H' st*>((jr n).map V.int)/\H' p*>(as.map λx=>V.ref x.1)/\GS H' as/\(as.map Gv).Sublist (mB ((jr n).take i) pool))
    ⟨[],_,_,_,rfl,D4.same sp,B4.same sp,aT,gp,(λx Z=>by simp at Z),by simp⟩ (λi σ H' aE=>by obtain⟨_,_,_,_,_,_,_,h,_⟩:=aE;exact(.of h)) ?_ ?_
  . rintro i x σ H6 hi Z ⟨as,v6,v7,v8,rfl,D6,B6,an,a7,a9,aa⟩
    obtain⟨z,hz,rfl⟩:=fI Z;have be:(jr n).take (i+1)=(jr n).take i++[z]:=by rw[j6,hz];rfl
    have bc:i < n+1:=by rw[<- ad];exact(g_.mp hz).1
    have bb:=B6 pa _ a0.1 a0.2 aN;ctx_has v bb
    refine cu cD (λj σ H'=>∃as v7 v8,σ=[-d,-sa,-pa,some (.int (1+(n:Int))),-st,-p,some (.int z),v7,v8]/\aO H' d l/\But d l H H'/\H' st*>((jr n).map V.int)/\H' p*>(as.map λx=>V.ref x.1)/\GS H' as/\(as.map Gv).Sublist (mB ((jr n).take i) pool++(pool.take j).map λv=>(z,v)))
      ⟨as,_,_,rfl,D6,B6,an,a7,a9,by simpa using aa⟩ (λj σ H' aQ=>by obtain⟨_,_,_,_,_,B,_⟩:=aQ;exact(.of (B pa _ a0.1 a0.2 aN))) ?_ ?_
    . rintro j x σ H7 hj Z ⟨as,v7,v8,rfl,D7,B7,a6,a2,a5,Y⟩
      obtain⟨v,hv,rfl⟩:=fI Z;ctx_has v
      refine⟨.inl ⟨∅,∅⟩,bm D7 () () λr8 H8 bn bj D8 B8=>?_⟩
      have am:=B8 p _ np.1 np.2 a2;have a3:=B8 st _ ar.1 ar.2 a6;have aB:GS H8 as:=λx Z=>(But.keepTI B8 D7).tup _ _ (a5 x Z)
      have ek:pool.take (j+1)=pool.take j++[v]:=by rw[j6,hv];rfl
      have bf:(as.map λx=>V.ref x.1).length < g9:=by
        have h1:=Y.length_le;rw[d_,q_,tZ,a4,d_] at h1;have h2:(pool.take j).length<=10:=by rw[<- a4];exact p9 _ _
        have h3:=p9 i (jr n);rw[d_];exact aF ()
      obtain⟨y,br,hy⟩:=ut (xs:=jr n) (r:=r8 % (1+(n:Int))) (Int.emod_nonneg _ ()) (by have:=Int.emod_lt_of_pos r8 (show(0:Int) < 1+(n:Int) by omega);rw[ad];omega) V.int
      refine⟨.inl ⟨∅,∅⟩,r8,rfl,dC (λ_=>⟨⟨_,am⟩,r8,rfl,(),_,a3,_,hy,∅,λtp ab=>?_⟩) (λ_=>?_)⟩
      . refine⟨_,(ap.upd0 ab) _ _ am,bf,(D8.new ab).put np.1 np.2,((B7.trans B8).new ab).put fp,by rw[ai bd];exact(ap.upd0 ab) _ _ a3,as++[(tp,z,v,y)],by rw[ae];simp,λx Z=>?_,?_⟩
        . rcases j9.mp Z with Z | Z
          . rw[ai (aZ (aB x Z) am (by intro z;cases z))]
            exact(ap.upd0 ab) _ _ (aB x Z)
          . rw[fx.mp Z]
            show upd (upd H8 tp _) p _ tp=_
            rw[ai (p7 (au am ab)),ae]
        . rw[ek,r_,r_,<- append_assoc]
          exact Y.append (List.Sublist.refl _)
      . refine⟨D8,B7.trans B8,a3,as,am,aB,Y.trans ?_⟩
        rw[ek,r_,<- append_assoc];exact List.sublist_append_left _ _
    . rintro σ H7 ⟨as,v7,v8,rfl,D7,B7,a6,a2,a5,Y⟩
      rw[d_,la,<- yD,<- be] at Y;exact⟨as,_,_,_,rfl,D7,B7,a6,a2,a5,Y⟩
  . rintro σ H6 ⟨as,v6,v7,v8,rfl,D6,B6,an,a7,a9,aa⟩
    rw[d_,la] at aa;subst hR;ctx_has v a7 an
    intro l1 g1;have s7:=ap.upd0 (o:=.tup (as.map λx=>V.ref x.1)) g1
    have aX:upd H6 l1 (.tup (as.map λx=>V.ref x.1)) l1>>(as.map λx=>V.ref x.1):=ae
    generalize upd H6 l1 (.tup (as.map λx=>V.ref x.1))=H7 at s7 aX ⊢
    have D7:=D6.same s7;have B7:=B6.same s7;refine⟨_,s7 _ _ an,λDd ao=>?_⟩
    have nD:=D7.ne ao;refine eD cD (λi ys H'=>∃zs:List Int,ys=zs.map V.int/\zs.length<=i/\aO H' d l/\But d l H7 H'/\H' Dd*>ys) ⟨[],rfl,h_ _,D7.new ao,(But.refl H7).new ao,ae⟩ (λi ys H' aH=>by obtain⟨_,_,_,_,B,_⟩:=aH;exact(.of (B st _ ar.1 ar.2 (s7 _ _ an)))) ?_ ?_
    . rintro i x ys H8 hi Z ⟨zs,rfl,aI,D8,B8,h8⟩
      obtain⟨z,hz,rfl⟩:=fI Z;have bc:i < n+1:=by rw[<- ad];exact(g_.mp hz).1
      ctx_has v
      refine bm D8 ∅ ∅ λr9 H9 bo bq D9 B9=>⟨rfl,?_⟩
      have h9:=B9 Dd _ nD.1 nD.2 h8;refine dC (λ_=>⟨h9,by rw[d_];exact aF (),zs++[z],by simp,by simp;omega,D9.put nD.1 nD.2,(B8.trans B9).put ao,ae⟩) (λ_=>⟨zs,rfl,(),D9,B8.trans B9,h9⟩)
    . rintro ys H8 ⟨zs,rfl,aI,D8,B8,h8⟩
      rw[d_,ad] at aI;refine⟨Dd,rfl,_,h8,λl2 g2=>?_⟩
      have s9:=ap.upd0 (o:=.tup (zs.map V.int)) g2;have aR:upd H8 l2 (.tup (zs.map V.int)) l2>>(zs.map V.int):=ae
      generalize upd H8 l2 (.tup (zs.map V.int))=H9 at s9 aR ⊢;refine⟨∅,λw hw=>?_⟩
      have sw:=ap.upd0 (o:=.tup [.str "way",.ref sa,.ref l1,.ref l2]) hw;have a1:=s9.trans sw;have BF:=(B7.trans B8).same a1;have aD:=aa.length_le;rw[d_,tZ,ad,a4] at aD;refine k w (as.map (·.2)) zs _ ?_ (by rw[d_];omega) () ⟨sa,l1,l2,_,ae,BF.tup D bh,a1 _ _ (B8.tup D7 aX),⟨as,rfl,rfl,λx Z=>a1 _ _ (B8.tup D7 (s7 _ _ (a9 x Z)))⟩,sw _ _ aR⟩ (D8.same a1) BF
      rw[k6];exact(xu aY (Bx n)).sublist aa
theorem Jb {c:Nat} (B:48<=c) (h1:c<=57) : ∃n:Nat,n < 10/\PySem.intText? ⟨#[c]⟩=some (n:Int):=by
 rcases (show c=48\/c=49\/c=50\/c=51\/c=52\/c=53\/c=54\/c=55\/c=56\/c=57 by omega) with rfl | rfl | rfl | rfl | rfl | rfl | rfl | rfl | rfl | rfl
 .exact⟨0,∅,by decide+kernel⟩
 .exact⟨1,∅,by decide+kernel⟩
 .exact⟨2,∅,by decide+kernel⟩
 .exact⟨3,∅,by decide+kernel⟩
 .exact⟨4,∅,by decide+kernel⟩
 .exact⟨5,∅,by decide+kernel⟩
 .exact⟨6,∅,by decide+kernel⟩
 .exact⟨7,∅,by decide+kernel⟩
 .exact⟨8,∅,by decide+kernel⟩
 .exact⟨9,∅,by decide+kernel⟩
theorem Cl {c:Int} (c0:0<=c) (c1:c < 1000000000000) {n:Nat} (hn:n<=12):(xR (PySem.Txt.slice (b_ (toString (1000000000000+c))) (some 1) (some (1+(n:Int))))).length=n/\(∀v∈xR (PySem.Txt.slice (b_ (toString (1000000000000+c))) (some 1) (some (1+(n:Int)))),∃k,48<=k/\k<=57/\v = .str ⟨#[k]⟩)/\(b_ (toString (1000000000000+c))).length=13:=by
 have F:=GN (1000000000000+c);rw[if_neg ()] at F
 have hl:(toDigits 10 (1000000000000+c).natAbs).length=13:=by
  have h1:=(Nat.length_toDigits_le_iff (b:=10) (n:=(1000000000000+c).natAbs) (k:=13) ∅ ∅).mpr (by rw[show 10 ^ 13=10000000000000 from rfl];omega)
  have h2 : ¬ (toDigits 10 (1000000000000+c).natAbs).length<=12:=λh=>by
   have:=(Nat.length_toDigits_le_iff (b:=10) ∅ ∅).mp h
   rw[show 10 ^ 12=1000000000000 from rfl] at this
   omega
  omega
 have L:(b_ (toString (1000000000000+c))).cps.toList=(toDigits 10 (1000000000000+c).natAbs).map LP:=F
 have B:(b_ (toString (1000000000000+c))).length=13:=by
  have:=congrArg KM L
  rw[d_,hl,zc] at this;exact this
 have Z:=Gh (1000000000000+c).natAbs;have es:=kB (b_ (toString (1000000000000+c))) (some 1) (some (1+(n:Int)));rw[show(some (1+(n:Int)))=some (((n+1:Nat)):Int) by congr 1;omega,show(some (1:Int))=some ((1:Nat):Int) from rfl,HT.sIx_nat,HT.sIx_nat,B,L,LW (),LW ()] at es
 unfold xR;rw[show(some (1+(n:Int)))=some (((n+1:Nat)):Int) by congr 1;omega,show(some (1:Int))=some ((1:Nat):Int) from rfl,es]
 refine⟨by simp[hl];omega,λv hv=>?_,B⟩
 obtain⟨k,hk,rfl⟩:=hH.mp hv;have Y:=Z k (L1 (y4 hk));exact⟨k,Y.1,Y.2,rfl⟩
def EK:Sp:=λvs H Q _=>∃(d l sa B F:Addr) (cs AN:List Str) (ns:List Int) (kvs:List (Key × V)) (rm:Str->List Int),vs=[.ref d,.ref sa,.ref B,.ref F]/\ji H d l B F AN ns kvs rm/\H sa>>(cs.map V.str)/\(∀c∈cs,c∈AN)/\cs.length<=12 /\
 ∀(w:Addr) (rows:List (List Int)) (H':Hp),WS H' w (.tb cs rows)->rows.Nodup->(∀r∈rows,r.length=cs.length)->rows.length<=60->aO H' d l->But d l H H'->Q (.ref w) H'
abbrev Jo:=Fn P w K mg base "_law_table" 4 ["_law_deal_here","_law_some_here","_law_rooms_here","_law_pool"] (EK)
abbrev nz2:List Str:=["_law_deal_here","_law_some_here","_law_rooms_here","_law_pool","_law_rows","_law_filling_here","_law_k","_law_cell","_law_row"]
theorem sf (T:Txt w K mg) (L:FnL K mg "_law_table" eX ["_law_deal_here","_law_some_here","_law_rooms_here","_law_pool"]) (Fa : @Dz0 P w K mg base) (Fb : @Gj P w K mg base) : @Jo P w K mg base:=by
 ctx_has z rH <;> obtain⟨d,l,sa,ra,pa,cs,AN,ns,kvs,rm,rfl,M,ar,a3,aQ,k⟩:=h
 .rfl
 refine⟨_,(ag (aC 4 (cG af))
  (pM (bg (aJ bz (aq Fa (ac (pvM 0) (ac ah af))) ah) (ag (aC 5 (aq Fb (ac (pvM 0) (ac (pvM 2) af))))
  (aj (ci (jw pb p6 cY (pvM 4) (ac (aW cZ T.b_tuple (ac (aV (N:=["_law_name","_law_filling_here"]) (nt:=1) (js:=[5]) (aG nz2 (ak eX).names) (cg K (pvM 1)) (ay 0) aU bv (bC hu (pvM 1) (pvM 0))) af)) af))))) aL)
  (ag (bx (fG rfl T.b_range (ac (aq Fa (ac (pvM 0) (ac ah af))) af)) (ay 6) (ag (aC 7 (aq Fa (ac (pvM 0) (ac (aM Ck ah ah) af))))
  (ag (aC 8 (aW cZ T.b_tuple (ac (aV (N:=["_law_sign","_law_pool"]) (nt:=1) (js:=[3]) (aG nz2 (ak eX).names) (Hy (bL ub (aW vd T.b_str (ac (aM bp (aM Ck ah ah) (pvM 7)) af)) (bW ah) (bW (aM bp ah (aE fA T.b_len (ac (pvM 1) af)))))) (ay 0) aU bv (az gb (pvM 1) (aW AA T.b_int (ac (pvM 0) af)))) af)))
  (aj (bg (aJ (ye (CA hr)) (pvM 8) (pvM 4)) (aj (ci (jw pb p6 cY (pvM 4) (ac (pvM 8) af)))) aL)))))
  (aj (aw (cp (ac aS (ac (pvM 1) (ac (aW cZ T.b_tuple (ac (pvM 4) af)) af))))))))),?_⟩
 refine aK λR hR=>?_
 ctx_has v
 kpf_say (H,p,hp,gp,sp) al H1 (.lst [])
 have np:=M.D.ne hp;have M1:=M.same sp;subst hR;refine va (λσ H'=>∃us rows v5,σ=[-d,-sa,-ra,-pa,-p,v5,none,none,none]/\aO H' d l/\But d l H H'/\H' p*>us/\eo H' us rows/\rows.Nodup/\(∀r∈rows,r.length=cs.length)/\rows.length<=1) ?_ ?_
 .ctx_has v
  refine bm M1.D ∅ ∅ λr H2 r0 r1 D2 B2=>⟨rfl,dC (λ_=>?_) (λ_=>?_)⟩
  .have M2:=M1.but D2 B2
   refine⟨d,l,ra,kvs,AN,rm,rfl,D2,M.nr,M2.R,M.al,λc hc=>⟨(M.gd c hc).1,(M.gd c hc).2.1⟩,λfi kf g H3 bb F3 ba D3 B3=>?_⟩
   have a2:=(((But.refl H).same sp).trans B2).trans B3;have a9:=B3 p _ np.1 np.2 (B2 p _ np.1 np.2 gp);have a0:=a2.tup M.D ar;have aI:=F3.hf;ctx_has v a9 a0
   intro E1 am;refine bS aY (λv=>match v with | .str c=>.int (g c) | _=>.non) am (λH' s=>.of (s _ _ a0)) (by rw[d_];omega) ?_ ?_
   .intro x H4 Q4 hx sm q4
    obtain⟨c,hc,rfl⟩:=hH.mp hx;have e1:=sm _ _ aI;have e2:=F3.vl c (a3 c hc);ctx_has v e1 e2
    exact q4 H4 (ap.refl _)
   .intro H4 sm h4
    have e4:(cs.map V.str).map (λv=>match v with | .str c=>V.int (g c) | _=>.non)=(cs.map g).map V.int:=by rw[k6,k6];rfl
    rw[e4] at h4;refine⟨E1,rfl,_,h4,λt ht=>?_⟩
    have s5:=ap.upd0 (o:=.tup ((cs.map g).map V.int)) ht;have Y:upd H4 t (.tup ((cs.map g).map V.int)) t>>((cs.map g).map V.int):=ae
    have ab:=s5 _ _ (sm _ _ a9);have au:=sm.trans s5;generalize upd H4 t (.tup ((cs.map g).map V.int))=H5 at s5 Y ab au ⊢;refine⟨_,ab,∅,(D3.same au).put np.1 np.2,(a2.same au).put hp,_,ae,[cs.map g],eo.nil.snoc (by rw[ai (aZ Y ab (by intro z;cases z))];exact Y),by simp,by simp,h_ _⟩
  .exact⟨D2,((But.refl H).same sp).trans B2,[],B2 p _ np.1 np.2 gp,[],eo.nil,L7,(by simp),x5 _⟩
 rintro σ H2 ⟨us,rows,v5,rfl,D2,B2,aR,a4,a7,a5,a6⟩
 refine aK λR hR=>?_
 ctx_has v
 refine bm D2 ∅ ∅ λm H3 m0 m1 D3 B3=>⟨_,rfl,(),(),?_⟩
 refine cu dJ (λi σ H'=>∃us rows v6 v7 v8,σ=[-d,-sa,-ra,-pa,-p,v5,v6,v7,v8]/\aO H' d l/\But d l H H'/\H' p*>us/\eo H' us rows/\rows.Nodup/\(∀r∈rows,r.length=cs.length)/\rows.length<=1+i)
  ⟨us,rows,_,_,_,rfl,D3,B2.trans B3,B3 p _ np.1 np.2 aR,a4.keep (But.keepTI B3 D2).tup,a7,a5,a6⟩ (λ_ _ _ _=>m_) ?_ ?_
 .rintro i x σ H4 hi hx ⟨us,rows,v6,v7,v8,rfl,D4,B4,h4p,hrv,hnd,hrl,hle⟩
  rw[bi] at hi;simp only[eR];refine aK λR hR=>?_
  ctx_has v
  refine⟨⟨∅,∅,∅⟩,bm D4 ∅ ∅ λc H5 c0 c1 D5 B5=>?_⟩
  rw[show(10:Int) ^ Int.toNat 12=1000000000000 from rfl] at c1
  have ab:=B5 p _ np.1 np.2 h4p;have an:=B4.trans B5;have aP:=an.tup M.D ar;have aN:=an pa _ M.np.1 M.np.2 M.hp;have a1:=hrv.keep (But.keepTI B5 D4).tup;subst hR;refine aK λR hR=>?_
  ctx_has v aP
  rw[show(10:Int) ^ Int.toNat 12=1000000000000 from rfl,d_]
  obtain⟨a8,aT,aX⟩:=Cl c0 c1 aQ;refine⟨⟨∅,∅,∅⟩,(Nat.log2_lt ()).mpr (g7 (show _ < 2 ^ 64 by omega) (LR ∅ ∅)),y3 (aF ()),λE1 am=>?_⟩
  refine eD F7 (λj ys H'=>∃vs:List Int,ys=vs.map V.int/\vs.length=j/\ap H5 H'/\H' E1*>ys) ⟨[],rfl,rfl,ap.upd0 am,ae⟩ (λ_ _ _ _=>m_) ?_ ?_
  .rintro j x ys H6 hj hx ⟨vs,rfl,ao,s6,h6⟩
   rw[a8] at hj;obtain⟨k,k0,k1,rfl⟩:=aT x (gt hx);obtain⟨m2,bd,aD⟩:=Jb k0 k1;have aB:=s6 _ _ aN;have aH:m2 < ns.length:=by have:=M.nl;omega
   have ha:=bc (xs:=ns.map V.int) (j:=m2) (v:=.int ns[m2]) (by rw[f_,ki aH];rfl)
   ctx_has v Gy aB
   exact⟨_,aD,(show 1<=640 by decide),_,ha,h6,by rw[d_];exact aF (),vs++[ns[m2]],by simp,by simp;omega,pz s6 am,ae⟩
  rintro ys H6 ⟨vs,rfl,ao,s6,h6⟩
  rw[a8] at ao;refine⟨E1,rfl,_,h6,λt ht=>?_⟩
  have s7:=ap.upd0 (o:=.tup (vs.map V.int)) ht;have ax:upd H6 t (.tup (vs.map V.int)) t>>(vs.map V.int):=ae
  have B:=s6.trans s7;generalize upd H6 t (.tup (vs.map V.int))=H7 at B ax ⊢;have Z:=B _ _ ab;have aa:=a1.keep λb xs e=>B _ _ e
  subst hR;ctx_has v
  refine xT ax Z aa ⟨_,rfl,dC (λaA=>?_) (λaA=>?_)⟩
  .have hni:vs∉rows:=by simpa using aA
   have hk : ∀b xs,H7 b>>xs->upd H7 p (.lst (us++[.ref t])) b>>xs:=λb xs e=>by rw[ai (aZ e Z (by intro z;cases z))];exact e
   refine⟨⟨_,Z⟩,us,Z,by rw[hrv.length];exact aF (),(D5.same B).put np.1 np.2,(an.same B).put hp,us++[.ref t],ae,rows++[vs],(aa.keep hk).snoc (hk _ _ ax),t9.mpr ⟨hnd,by simp,λa ha b hb e=>hni (by rw[fx.mp hb] at e;exact e ▸ ha)⟩,λr hr=>?_,by simp;omega⟩
   rcases j9.mp hr with z | z
   .exact hrl r z
   .rw[fx.mp z];exact ao
  .exact⟨D5.same B,an.same B,us,Z,rows,aa,hnd,hrl,()⟩
 .rintro σ H4 ⟨us,rows,v6,v7,v8,rfl,D4,B4,h4p,hrv,hnd,hrl,hle⟩
  rw[bi] at hle;subst hR;ctx_has v h4p
  intro t ht;have s5:=ap.upd0 (o:=.tup us) ht;have Y:upd H4 t (.tup us) t>>us:=ae
  generalize upd H4 t (.tup us)=H5 at s5 Y ⊢;refine⟨∅,λw hw=>?_⟩
  have s6:=ap.upd0 (o:=.tup [.str "table",.ref sa,.ref t]) hw;have ad:=s5.trans s6;exact k w rows _ ⟨sa,t,us,ae,(B4.same ad).tup M.D ar,s6 _ _ Y,hrv.keep λb xs e=>ad _ _ e⟩ hnd hrl () (D4.same ad) (B4.same ad)
theorem Gs {vs zs:List Int} (hp:(vs++zs).Perm ns) (F:ns.Nodup) (Y:ns.length=10):okV ns vs:=by
 have B:=hp.nodup_iff.mpr F;refine⟨(t9.mp B).1,λc L=>hp.mem_iff.mp (m9 _ L),?_⟩
 have:=hp.length_eq
 rw[q_] at this;omega
def zU (B:Int) (X:Wx):Prop:=∀rm:Str->List Int,((B=2\/B=6)->∀c∈aB X,(rm c).length<=4)->smX rm X
def mo (h:Bool):Sp:=λvs H Q _=>∃(d l a F L:Addr) (B:Int) (ws AN:List Str) (ns:List Int) (kvs:List (Key × V)) (rm:Str->List Int),vs=[.ref d,.ref a,.ref F,.ref L,.int B]/\ji H d l F L AN ns kvs rm/\(a≠d/\a≠l)/\H a*>(ws.map V.str)/\(∀c∈ws,c∈AN)/\ws.Nodup/\ws.length<=12/\(if h then 2 else 1)<=ws.length/\0<=B/\B<=(if h then 6 else 5) /\
 ∀(w:Addr) (X:Wx) (H':Hp),WX H' w X->okX ws ns X->zU B X->(h=false->∃Y,X = .pl Y)->aO H' d l->But d l H H'->Q (.ref w) H'
def kz (h:Bool):Sp:=if h then mo false else λ_ _ _ _=>False
theorem ua {s:Nat} {R:TS} {i j:Int} (F:σ[s]? = some (some (.int i))) (B:i≠j) (h:R D σ H):gI (qH (hU (tOp rEq (dj s) (tC (V.int j)))) tb jM) R D σ H:=by
 simp only[gI,qH,hU,tOp,rEq,dj,tC,F,uC,jM];refine⟨trivial,?_⟩
 simp only[V.bl.injEq,exists_eq_left',V.int.injEq,B,decide_false,if_false,i9];exact h
theorem tM {s:Nat} {R:TS} {j:Int} (B:σ[s]? = some (some (.int j))) (h : ∀R,gI tb R D σ H):gI (qH (hU (tOp rEq (dj s) (tC (V.int j)))) tb jM) R D σ H:=by
 simp only[gI,qH,hU,tOp,rEq,dj,tC,B,uC,jM];refine⟨trivial,?_⟩
 simp only[V.bl.injEq,exists_eq_left',V.int.injEq,decide_true,if_true];exact h R
theorem jJ {B:Int} {W:Wi} (h : ∀ts lo hi,W≠.sm ts lo hi):zU B (.pl W):=λrm _=>by
 cases W with
 | sm ts lo hi=>exact absurd rfl (h ts lo hi)
 | _=>exact m_
theorem mM {h:Bool} (T:Txt w K mg) (L:FnL K mg "_law_wish" hZ ["_law_deal_here","_law_names_here","_law_rooms_here","_law_pool","_law_sort"]) (Fa : @Dz0 P w K mg base) (Fp : @Dz3 P w K mg base) (FF : @JN P w K mg base) (FA : @Jo P w K mg base) (FG : @IX P w K mg base) (FX:Fn P w K mg base "_law_wish" (n+1) ["_law_deal_here","_law_names_here","_law_rooms_here","_law_pool","_law_sort"] (kz h)):Fn P w K mg base "_law_wish" (n+5) ["_law_deal_here","_law_names_here","_law_rooms_here","_law_pool","_law_sort"] (mo h):=by
 ctx_has z vm <;> obtain⟨d,l,a,ra,pa,so,ws,AN,ns,kvs,rm,rfl,M,na,ha,ab,aB,au,aA,ba,a7,k⟩:=h
 .rfl
 refine⟨_,(ag (aC 5 (aq Fp (ac (pvM 0) (ac (pvM 1) (ac ah af)))))
  (ag (bg (aJ bz (pvM 4) ah) (aj (aw (cp (ac aS (ac (pvM 5) af))))) aL)
  (ag (bg (aJ bz (pvM 4) ah) (ag (aC 6 (aq Fa (ac (pvM 0) (ac (aM bp (aE fA T.b_len (ac (pvM 5) af)) ah) af))))
  (aj (aw (cp (ac aS (ac (aq Fp (ac (pvM 0) (ac (pvM 3) (ac ah af)))) (ac (pvM 5) (ac (pvM 6) (ac (aM bp (pvM 6) (aq Fa (ac (pvM 0) (ac ah af)))) af))))))))) aL)
  (ag (bg (aJ bz (pvM 4) ah) (aj (aw (aq FF (ac (pvM 0) (ac (pvM 5) (ac (pvM 2) (ac (pvM 3) af))))))) aL)
  (ag (bg (aJ bz (pvM 4) ah) (aj (aw (aq FA (ac (pvM 0) (ac (pvM 5) (ac (pvM 2) (ac (pvM 3) af))))))) aL)
  (ag (bg (aJ bz (pvM 4) ah) (aj (aw (aq FG (ac (pvM 0) (ac (pvM 5) (ac (pvM 3) af)))))) aL)
  (ag (bg (aJ bz (pvM 4) ah) (aj (aw (cp (ac aS (ac (pvM 5) (ac (az gb (cG (ac ah (ac ah (ac (rE lm ah) (ac (aM fV (az gb (pvM 3) ah) (az gb (pvM 3) ah)) (ac (aM fV (az gb (pvM 3) ah) (az gb (pvM 3) ah)) af)))))) (aq Fa (ac (pvM 0) (ac ah af)))) af)))))) aL)
  (ag (aC 7 (aq FX (ac (pvM 0) (ac (bL CB (pvM 1) (bW ah) cA) (ac (pvM 2) (ac (pvM 3) (ac (aq Fa (ac (pvM 0) (ac ah af))) af)))))))
  (aj (aw (cp (ac aS (ac (az gb (pvM 1) ah) (ac (aq Fp (ac (pvM 0) (ac (pvM 3) (ac ah af)))) (ac (pvM 7) af))))))))))))))),?_⟩
 have w1:1<=ws.length:=by cases h <;> simp at aA <;> omega
 refine aK λR hR=>?_
 ctx_has v
 refine⟨d,l,a,1,ws.map V.str,rfl,M.D,.inl ha,∅,by rw[d_];omega,by rw[d_];omega,λsa a0 rest H2 bb aT aZ B D2 B2=>?_⟩
 obtain⟨cs,zs,rfl,ar⟩:=rD V.str JW (λ_=>rfl) aT
 rw[d_] at aZ;have F:okC ws cs:=Ho ar () aB au
 have M2:=M.but D2 B2;have cl:=F.2.2.2;have ad : ∀c∈cs,c∈AN:=λc hc=>ab c (F.2.2.1 c hc)
 have nl:=M.nl;subst hR
 by_cases e0:so=0
 .subst e0
  refine tM rfl λR=>?_
  ctx_has v
  exact⟨∅,λw Y=>k w (.pl (.un cs)) _ ⟨sa,ae,(ap.upd0 Y) _ _ B⟩ F (jJ λ_ _ _ e=>by cases e) (λ_=>⟨_,rfl⟩) (D2.new Y) (B2.new Y)⟩
 refine ua rfl e0 ?_
 by_cases e1:so=1
 .subst e1
  refine tM rfl λR=>?_
  ctx_has v B
  rw[d_];refine bm D2 () () λr3 H3 bf bd D3 Z=>?_
  have M3:=M2.but D3 Z;refine⟨d,l,pa,0,ns.map V.int,rfl,D3,.inl M3.hp,∅,by rw[d_];omega,by rw[d_];omega,λq a0 rest H4 fq a1 _ aU D4 B4=>?_⟩
  obtain⟨av,zv,rfl,ai⟩:=rD V.int EU (λ_=>rfl) a1
  have ax:=B4.tup D3 (Z.tup D2 B);refine bm D4 ∅ ∅ λr5 H5 be bi D5 B5=>?_
  refine⟨r3,rfl,r5,rfl,∅,λw Y=>k w (.pl (.mn av cs r3 (r3+r5))) _ ⟨q,sa,ae,(ap.upd0 Y) _ _ (B5.tup D4 aU),(ap.upd0 Y) _ _ (B5.tup D4 ax)⟩ ⟨F,Gs ai M.nn M.nl⟩ (jJ λ_ _ _ e=>by cases e) (λ_=>⟨_,rfl⟩) (D5.new Y) ((((B2.trans Z).trans B4).trans B5).new Y)⟩
 refine ua rfl e1 ?_
 by_cases e2:so=2
 .subst e2
  refine tM rfl λR=>?_
  ctx_has v
  refine⟨d,l,sa,ra,pa,cs,AN,ns,kvs,rm,rfl,M2,B,ad,λw ts lo hi H3 hW ay hb D3 Z=>?_⟩
  have aP:ts.length<=6:=by
   have h5:=congrArg KM ay;rw[d_] at h5;have:=K5 6 cs
   omega
  refine k w (.pl (.sm ts lo hi)) H3 hW ⟨?_,hb⟩ (λrm am=>⟨aP,am (.inl rfl)⟩) (λ_=>⟨_,rfl⟩) D3 (B2.trans Z)
  rw[ay];refine⟨λe=>?_,F.2.1.sublist (x8 _ _),λc hc=>F.2.2.1 c (y4 hc),by simp;omega⟩
  rcases List.take_eq_nil_iff.mp e with z | z
  .cases z
  .exact F.1 z
 refine ua rfl e2 ?_
 by_cases e3:so=3
 .subst e3
  refine tM rfl λR=>?_
  ctx_has v
  exact⟨d,l,sa,ra,pa,cs,AN,ns,kvs,rm,rfl,M2,B,ad,cl,λw rows H3 hW ak aG a4 D3 Z=>k w (.pl (.tb cs rows)) H3 hW ⟨F,ak,aG,a4⟩ (jJ λ_ _ _ e=>by cases e) (λ_=>⟨_,rfl⟩) D3 (B2.trans Z)⟩
 refine ua rfl e3 ?_
 by_cases e4:so=4
 .subst e4
  refine tM rfl λR=>?_
  ctx_has v
  exact⟨d,l,sa,pa,cs,ns,rfl,D2,B,M.np,M2.hp,M.nl,M.nn,λw ps es H3 ak ao aI hW D3 Z=>k w (.pl (.wy cs ps es)) H3 hW ⟨F,ak,ao,aI⟩ (jJ λ_ _ _ e=>by cases e) (λ_=>⟨_,rfl⟩) D3 (B2.trans Z)⟩
 refine ua rfl e4 ?_
 have aX:=M2.hp;have an : ∀j,j < 10->∃z:Int,atI (ns.map V.int) (j:Nat)=some (.int z):=λj hj=>⟨ns[j]'(),bc (by rw[f_,ki ()];rfl)⟩
 by_cases e5:so=5
 .subst e5
  refine tM rfl λR=>?_
  ctx_has v aX
  obtain⟨z0,a8⟩:=an 0 ∅
  obtain⟨z1,aW⟩:=an 1 ∅
  obtain⟨z3,aV⟩:=an 3 ∅
  refine⟨_,aW,_,a8,z1,rfl,z0,rfl,_,a8,_,aV,z0,rfl,z3,rfl,∅,λt ht=>pN D2 ht ∅ ∅ rfl λr3 v H3 hv aH D3 Z h3=>⟨r3,rfl,_,h3,_,aH,∅,λw Y=>?_⟩⟩
  obtain⟨gap,rfl⟩ : ∃gap:Int,v = .int gap:=by
   simp only[i6,k_,or_false] at hv;rcases hv with rfl | rfl | rfl | rfl | rfl <;> exact⟨_,rfl⟩
  have s4:=ap.upd0 (o:=.tup [.str "behind",.ref sa,.int gap]) Y;exact k w (.pl (.bh cs gap)) _ ⟨sa,ae,s4 _ _ (Z.tup D2 B)⟩ F (jJ λ_ _ _ e=>by cases e) (λ_=>⟨_,rfl⟩) (D3.same s4) ((B2.trans Z).same s4)
 refine ua rfl e5 ?_
 have e6:so=6/\h=true:=by
  cases h with
  | false=>exact absurd a7 (by simp;omega)
  | true=>exact⟨by simp at a7;omega,rfl⟩
 obtain⟨rfl,rfl⟩:=e6;have aQ:=B2 a _ na.1 na.2 ha;have a6:2<=ws.length:=by simpa using aA
 obtain⟨c0,cr,rfl⟩ : ∃c0 cr,ws=c0 :: cr:=by
  cases ws with
  | nil=>simp at a6
  | cons x xs=>exact⟨x,xs,rfl⟩
 have a2:=m7.mp aB;have e0:atI ((c0 :: cr).map V.str) 0=some (.str c0):=bc (j:=0) rfl
 refine aK λR hR=>?_
 ctx_has v aQ
 intro t ht;rw[show fQ (V.str c0 :: cr.map V.str) (some 1) none=cr.map V.str from fe V.str (c0 :: cr) 1]
 have s3:=ap.upd0 (o:=.lst (cr.map V.str)) ht;have a5:upd H2 t (.lst (cr.map V.str)) t*>(cr.map V.str):=ae
 have nt:=D2.ne ht;generalize upd H2 t (.lst (cr.map V.str))=H3 at s3 a5 ⊢;refine bm (D2.same s3) ∅ ∅ λaN H4 s0 s1 D4 B4=>?_
 have M4:=(M2.same s3).but D4 B4;have aO:=(B2.same s3).trans B4;rw[t4] at a6 au;unfold kz;rw[if_pos rfl];refine⟨d,l,t,ra,pa,aN,cr,AN,ns,kvs,rm,rfl,M4,nt,B4 t _ nt.1 nt.2 a5,λc hc=>ab c (i7 _ hc),a2.2,(),(by simp;omega),s0,(by simp;omega),λu X H5 hW aR aD ao D5 B5=>?_⟩
 obtain⟨W0,rfl⟩:=ao rfl;have M5:=M4.but D5 B5;have a9:=aO.trans B5;have aF:=a9 a _ na.1 na.2 ha;subst hR;ctx_has v aF
 refine⟨d,l,pa,0,ns.map V.int,rfl,D5,.inl M5.hp,∅,by rw[d_];omega,by rw[d_];omega,λq a0 rest H6 fq a3 _ aY D6 B6=>⟨∅,λw Y=>?_⟩⟩
 obtain⟨vs,zv,rfl,ai⟩:=rD V.int EU (λ_=>rfl) a3
 have s7:=ap.upd0 (o:=.tup [.str "same",.str c0,.ref q,.ref u]) Y;have aa:okW cr ns W0:=aR
 exact k w (.sa c0 vs W0) _ ⟨q,u,ae,s7 _ _ aY,cF hW λb xs e=>s7 _ _ (B6.tup D5 e)⟩ ⟨m6,Gs ai M.nn M.nl,Db (λc hc=>i7 _ hc) aa,λhc=>a2.1 (nK aa c0 hc)⟩ (λrm am=>aD rm λ_ c hc=>am (.inr rfl) c (i7 _ hc)) (λz=>by cases z) (D6.same s7) ((a9.trans B6).same s7)
def zi:Sp:=λvs H Q _=>∃(w:Addr) (W:Wi),vs=[.ref w]/\WS H w W/\(bw W).length<=13/\∀(p:Addr) (H':Hp),H p=none->H' p*>((bw W).map V.str)->ap H H'->Q (.ref p) H'
def zQ:Sp:=λvs H Q _=>∃(w:Addr) (c:Str) (us:List Int) (W:Wi),vs=[.ref w]/\WX H w (.sa c us W)/\(bw W).length<=13/\∀(p:Addr) (H':Hp),H p=none->H' p*>((c :: bw W).map V.str)->ap H H'->Q (.ref p) H'
theorem vh {w:Addr} {X:Wx} {Q:VK} {E:XK} (B:WX H w X) (hl:(aB X).length<=13) (k : ∀p H',H p=none->H' p*>((aB X).map V.str)->ap H H'->Q (.ref p) H'):zi [.ref w] H Q E\/zQ [.ref w] H Q E:=by
 cases X with
 | pl W=>exact .inl ⟨w,W,rfl,B,hl,k⟩
 | sa c vs W=>exact .inr ⟨w,c,vs,W,rfl,B,by have:(c :: bw W).length<=13:=hl;rw[t4] at this;omega,k⟩
abbrev Gk:=Fn P w K mg base "_law_cells" 1 ["_law_wish_here"] (zi)
theorem qT (T:Txt w K mg) (L:FnL K mg "_law_cells" cT ["_law_wish_here"]) : @Gk P w K mg base:=by
 ctx_has z kS <;> obtain⟨w,W,rfl,B,hl,k⟩:=h
 .rfl
 refine⟨_,(ag (bg (aJ bz (az aR (pvM 0) ah) aS) (aj (aw (aM uN (cG (ac (az aR (pvM 0) ah) af)) qw))) aL)
  (ag (bg (aJ bz (az aR (pvM 0) ah) aS) (aj (aw (aV (N:=["_law_a","_law_name"]) (nt:=2) (js:=[]) (aG ["_law_wish_here"] (ak cT).names) (cg K (az aR (pvM 0) ah)) (dI (n:=2) rfl (bj (ay 0) (bj (ay 1) dO))) cJ bv (pvM 1)))) aL)
  (aj (aw (aW pU T.b_list (ac (az aR (pvM 0) (aM fV ah (aW nQ T.b_int (ac (aQ vI (az aR (pvM 0) ah) aS) af)))) af)))))),?_⟩
 cases W with
 | un cs =>
  obtain⟨c,h1,h2⟩:=B;refine br rfl h1 (by decide+kernel) (br rfl h1 (by decide+kernel) ?_)
  ctx_has v h1
  exact⟨.ref c,by first | (rw[if_pos (by simp)];exact bc (j:=1) rfl) | (rw[if_neg (by simp)];exact bc (j:=2) rfl),c,rfl,_,h2,λp hp=>k p _ hp ae (ap.upd0 hp)⟩
 | mn av cs lo hi =>
  obtain⟨a,c,h1,Z,h2⟩:=B;refine br rfl h1 (by decide+kernel) (br rfl h1 (by decide+kernel) ?_)
  ctx_has v h1
  exact⟨.ref c,by first | (rw[if_pos (by simp)];exact bc (j:=1) rfl) | (rw[if_neg (by simp)];exact bc (j:=2) rfl),c,rfl,_,h2,λp hp=>k p _ hp ae (ap.upd0 hp)⟩
 | tb cs rows =>
  obtain⟨c,t,vs,h1,h2,Z,h4⟩:=B;refine br rfl h1 (by decide+kernel) (br rfl h1 (by decide+kernel) ?_)
  ctx_has v h1
  exact⟨.ref c,by first | (rw[if_pos (by simp)];exact bc (j:=1) rfl) | (rw[if_neg (by simp)];exact bc (j:=2) rfl),c,rfl,_,h2,λp hp=>k p _ hp ae (ap.upd0 hp)⟩
 | wy cs ps es =>
  obtain⟨c,t,e,vs,h1,h2,Z,h4,Y⟩:=B;refine br rfl h1 (by decide+kernel) (br rfl h1 (by decide+kernel) ?_)
  ctx_has v h1
  exact⟨.ref c,by first | (rw[if_pos (by simp)];exact bc (j:=1) rfl) | (rw[if_neg (by simp)];exact bc (j:=2) rfl),c,rfl,_,h2,λp hp=>k p _ hp ae (ap.upd0 hp)⟩
 | bh cs gap =>
  obtain⟨c,h1,h2⟩:=B;refine br rfl h1 (by decide+kernel) (br rfl h1 (by decide+kernel) ?_)
  ctx_has v h1
  exact⟨.ref c,by first | (rw[if_pos (by simp)];exact bc (j:=1) rfl) | (rw[if_neg (by simp)];exact bc (j:=2) rfl),c,rfl,_,h2,λp hp=>k p _ hp ae (ap.upd0 hp)⟩
 | sm ts lo hi =>
  obtain⟨t,h1,as,h2,rfl,Z⟩:=B;refine br rfl h1 (by decide+kernel) (iz rfl h1 λR=>?_)
  ctx_has v h1 h2
  intro p hp;have aa:as.length<=13:=by simpa [bw] using hl
  refine eD aY (λi ys H'=>ys=((as.take i).map λx=>V.str x.2.2)/\H' p*>ys/\ap H H') ⟨rfl,ae,ap.upd0 hp⟩ (λi ys H' F=>by obtain⟨_,_,sm⟩:=F;exact(.of (sm _ _ h2))) ?_ ?_
  .rintro i x ys H' hi hx ⟨rfl,Y,sm⟩
   obtain⟨y,hy,rfl⟩:=fI hx;have e1:=sm _ _ (Z y (gt hy));ctx_has v e1
   refine⟨Y,?_,by rw[j6,hy];simp,ae,pz sm hp⟩
   rw[d_];exact aF (ja (p9 _ _) ())
  .rintro ys H' ⟨rfl,Y,sm⟩
   rw[d_,la] at Y;refine k p H' hp ?_ sm
   rw[Y]
   show _=some (HO.lst (((as.map (·.2)).map (·.2)).map V.str))
   rw[k6,k6];rfl
abbrev Hk:=Fn P w K mg base "_law_cells" 2 ["_law_wish_here"] (zQ)
theorem qO (T:Txt w K mg) (L:FnL K mg "_law_cells" cT ["_law_wish_here"]) (FU : @Gk P w K mg base) : @Hk P w K mg base:=by
 ctx_has z kS <;> obtain⟨w,c,us,W,rfl,hW,hl,k⟩:=h
 .rfl
 refine⟨_,(ag (bg (aJ bz (az aR (pvM 0) ah) aS) (aj (aw (aM uN (cG (ac (az aR (pvM 0) ah) af)) (aq FU (ac (az aR (pvM 0) ah) af))))) aL)
  (ag (bg (aJ bz (az aR (pvM 0) ah) aS) (aj (aw (aV (N:=["_law_a","_law_name"]) (nt:=2) (js:=[]) (aG ["_law_wish_here"] (ak cT).names) (cg K (az aR (pvM 0) ah)) (dI (n:=2) rfl (bj (ay 0) (bj (ay 1) dO))) cJ bv (pvM 1)))) aL)
  (aj (aw (aW pU T.b_list (ac (az aR (pvM 0) (aM fV ah (aW nQ T.b_int (ac (aQ vI (az aR (pvM 0) ah) aS) af)))) af)))))),?_⟩
 obtain⟨t,u,h1,h2,h3⟩:=hW;refine iz rfl h1 λR=>?_
 ctx_has v h1
 refine⟨∅,λp hp=>?_⟩
 have B:=ap.upd0 (o:=.lst [V.str c]) hp;refine⟨_,B _ _ h1,_,bc (j:=3) rfl,u,W,rfl,cF h3 λa xs e=>B _ _ e,hl,λb H2 fb F Y=>⟨b,rfl,_,Y _ _ ae,_,F,y3 (aF (by simp;omega)),λo Z=>?_⟩⟩
 exact k o _ (gx (B.trans Y) Z) ae ((B.trans Y).upd_new Z)
def Eu:Sp:=λvs H Q _=>∃(w r:Addr) (X:Wx) (kvs:List (Key × V)) (rm:Str->List Int) (wy:Bool),vs=[.ref w,.ref r,.int (if wy then 1 else 0)]/\gP H w r X kvs rm/\∀(b:Bool) H',(b=true↔∃g,okF rm (aB X) g/\cq X g=wy)->ap H H'->Q (.bl b) H'
abbrev Eh:=Fn P w K mg base "_law_may" 26 ["_law_wish_here","_law_rooms_here","_law_way_here"] (Eu)
theorem wE (T:Txt w K mg) (L:FnL K mg "_law_may" lI ["_law_wish_here","_law_rooms_here","_law_way_here"]) (F : @Iu P w K mg base) (B : @Hd P w K mg base) : @Eh P w K mg base:=by
 ctx_has z ww <;> obtain⟨w,r,X,kvs,rm,wy,rfl,M,k⟩:=h
 .rfl
 refine⟨_,(ag (bg (aJ bz (pvM 2) ah) (aj (aw (aq F (ac (pvM 0) (ac (pvM 1) af))))) aL)
  (aj (aw (aq B (ac (pvM 0) (ac (pvM 1) af)))))),?_⟩
 cases wy with
 | true =>
  ctx_has v
  exact⟨w,r,X,kvs,rm,rfl,M,k⟩
 | false =>
  ctx_has v
  rw[if_neg ∅]
  exact⟨w,r,X,kvs,rm,rfl,M,k⟩
def vY (rm:Str->List Int) (c:Str):Int:=(rm c).headD 0
def wG:Sp:=λvs H Q _=>∃(r:Addr) (kvs:List (Key × V)) (cs:List Str) (rm:Str->List Int),vs=[.ref r]/\RmD H r kvs cs rm/\cs.length<=13/\(∀c∈cs,rm c≠[])/\∀(f:Addr) (kf:List (Key × V)) (H':Hp),H f=none->FlD H' f kf cs (vY rm)->ap H H'->Q (.ref f) H'
theorem um (T:Txt w K mg) (L:FnL K mg "_law_only" ku ["_law_rooms_here"]):Fn P w K mg base "_law_only" 1 ["_law_rooms_here"] (wG):=by
 ctx_has z ue <;> obtain⟨r,kvs,cs,rm,rfl,B,ao,am,k⟩:=h
 .rfl
 refine⟨_,(ag (aC 1 eh)
  (ag (pS (bx (vK (pvM 0)) (dI (n:=2) rfl (bj (ay 2) (bj (ay 3) dO))) (aj (fu hu (pvM 1) (pvM 2) (az aR (pvM 3) ah) rfl))))
  (aj (aw (pvM 1))))),?_⟩
 ctx_has v
 intro f hf;have rf:r≠f:=au B.hr hf
 have s1:=ap.upd0 (o:=.dK []) hf;ctx_has v zw zx iI
 refine⟨r,kvs,s1 _ _ B.hr,kvs,s1 _ _ B.hr,λo=>?_⟩
 refine Ca (λi σ H'=>∃(kf:List (Key × V)) (v2 v3:Option V),σ=[-r,-f,v2,v3]/\FlD H' f kf (cs.take i) (vY rm)/\H' r=some (.frz o (.dK kvs))/\∀b u,b≠r->H b=some u->H' b=some u)
  ⟨[],_,_,rfl,⟨by rw[ai rf.symm];exact ae,λc hc=>(by simp at hc),rfl⟩,ae,λb u F e=>by rw[ai F];exact s1 _ _ e⟩ (λi σ H' ad=>by obtain⟨_,_,_,_,_,h,_⟩:=ad;exact(h)) ?_ ?_
 .rintro i kk x σ H2 t hx ⟨kf,v2,v3,rfl,F2,h2r,k2⟩ ht
  obtain⟨c,hc,rfl,hv⟩:=xi B.ks B.nd hx;have ac:=gt hc;obtain⟨ar,Y,aa⟩:=B.rf c ac;rw[hv] at Y;cases Y;obtain⟨v,vr,ev⟩ : ∃v vr,rm c=v :: vr:=by
   cases e:rm c with
   | nil=>exact absurd e (am c ac)
   | cons a l=>exact⟨a,l,rfl⟩
  have Z:=ap.upd0 (o:=.tup [kV (g6 c),.ref ar]) ht;have g3:upd H2 t (.tup [kV (g6 c),.ref ar]) t>>[.str c,.ref ar]:=ae
  generalize upd H2 t (.tup [kV (g6 c),.ref ar])=H3 at Z g3 ⊢;have ak:=Z _ _ (k2 ar _ (aZ aa B.hr (by intro z;cases z)) aa)
  have af:=Z _ _ F2.hf;have aq:kf.length<=13:=by
   have h5:=congrArg KM F2.ks;rw[d_,d_] at h5;have h6:=p9 i cs;omega
  have e0:atI ((rm c).map V.int) 0=some (.int v):=by rw[ev];exact bc (j:=0) rfl
  have ab:cs.take (i+1)=cs.take i++[c]:=by rw[j6,hc];rfl
  have an:=ky B.nd hc;ctx_has v g3 ak e0 af
  refine⟨aF (),bu kf (g6 c) (.int v),⟨ae,λy hy=>?_,by rw[ab];exact mw F2.ks an⟩,by rw[ai rf];exact Z _ _ h2r,λb u F e=>by rw[ai (au e hf)];exact Z _ _ (k2 b u F e)⟩
  rw[ab] at hy;rw[gC]
  by_cases e:y=c
  .rw[if_pos (by rw[e]),e]
   unfold vY;rw[ev];rfl
  .rw[if_neg (λz=>e (Sum.inr.inj z))]
   exact F2.vl y ((j9.mp hy).resolve_right λz=>e (fx.mp z))
 .rintro σ H2 ⟨kf,v2,v3,rfl,F2,h2r,k2⟩
  rw[B.len,la] at F2;ctx_has v
  refine⟨⟨o,h2r⟩,k f kf _ hf ⟨by rw[ai rf.symm];exact F2.hf,F2.vl,F2.ks⟩ λb u e=>?_⟩
  by_cases F:b=r
  .rw[F,ae,<- e,F,B.hr]
  .rw[ai F];exact k2 b u F e
theorem yF {w:Addr} {X:Wx} {Q:VK} (L:WX H w X) (B:szX X) (F:dz H f (aB X) g) (k : ∀H',ap H H'->Q (.bl (cq X g)) H'):mG [.ref w,.ref f] H Q E0\/ux [.ref w,.ref f] H Q E0:=by
 cases X with
 | pl W=>exact .inl ⟨w,f,W,g,rfl,L,B,F,k⟩
 | sa c us W=>exact .inr ⟨w,f,c,us,W,g,rfl,L,B,F,k⟩
theorem zy {W:Wi} (h:smW rm W) (F : ∀c∈bw W,(rh c).length<=(rm c).length):smW rh W:=by
 cases W with
 | sm ts lo hi=>exact⟨h.1,λc B=>ja (F c B) (h.2 c B)⟩
 | _=>exact m_
theorem Ex {X:Wx} (h:smX rm X) (B : ∀c∈aB X,(rh c).length<=(rm c).length):smX rh X:=by
 cases X with
 | pl W=>exact zy (W:=W) h B
 | sa c us W=>exact zy (W:=W) h λx F=>B x (i7 _ F)
theorem gP.less {w:Addr} {X:Wx} (h:gP H w r X kvs rm) (s:ap H H') (R:RmD H' he kh (aB X) rh) (F : ∀c∈aB X,rh c≠[]/\(rh c).Sublist (rm c)):gP H' w he X kh rh :=
 ⟨eZ h.ws λa xs e=>s _ _ e,R.hr,R.rf,h.ok,λc B=>⟨(F c B).1,ja (F c B).2.length_le (h.ne c B).2.1,(h.ne c B).2.2.sublist (F c B).2⟩,(by obtain⟨U,h1,h2⟩:=h.un;exact⟨U,λc B v L=>h1 c B v ((F c B).2.subset L),h2⟩),Ex h.sm λc B=>(F c B).2.length_le⟩
theorem RmD.put {t:Addr} {u:List Int} (R:RmD H he kh cs rh) (L:H t>>(u.map V.int)) (F:c∈cs):RmD (upd H he (.dK (bu kh (g6 c) (.ref t)))) he (bu kh (g6 c) (.ref t)) cs (bO rh c u):=by
 have B : ∀b vs,H b>>vs->upd H he (.dK (bu kh (g6 c) (.ref t))) b>>vs:=λb vs e=>by rw[ai (aZ e R.hr (by intro z;cases z))];exact e
 exact⟨ae,R.rf.putG B (B _ _ L) (λx Y=>.inr Y),by rw[sT (by rw[R.ks];exact hH.mpr ⟨c,F,rfl⟩)];exact R.ks,R.nd⟩
theorem RmD.upl {B:Addr} {l:List V} (R:RmD H he kh cs rh) (hl:H B*>l):RmD (upd H B o) he kh cs rh :=
 ⟨by rw[ai (aZ R.hr hl (by intro z;cases z))];exact R.hr,R.rf.same λa vs e=>(by rw[ai (aZ e hl (by intro z;cases z))];exact e),R.ks,R.nd⟩
theorem FlD.at {H:Hp} {f:Addr} {kf:List (Key × V)} {cs CS:List Str} {g:Str->Int} (h:FlD H f kf CS g) (Z:CS.Nodup) (hl:CS.length<=13) (Y : ∀c∈cs,c∈CS) (bd : ∀c∈cs,-2000000<=g c/\g c<=2000000):dz H f cs g:=by
 have F:kf.length=CS.length:=by have:=congrArg KM h.ks;simpa using this
 refine⟨⟨kf,h.hf,λc B=>h.vl c (Y c B),λx L=>?_,()⟩,bd⟩
 obtain⟨i,hi,e⟩:=wh L;obtain⟨c,B,e1,e2⟩:=xi h.ks Z (i:=i) (k:=x.1) (x:=x.2) (by rw[ki hi,e])
 rw[h.vl c (gt B)] at e2;rw[<- ge e2];rfl
theorem pR {u:List Int} (h : ∀x∈cs,rh x≠[]/\(rh x).Sublist (rm x)) (h1:u≠[]) (h2:u.Sublist (rm c)) : ∀x∈cs,bO rh c u x≠[]/\(bO rh c u x).Sublist (rm x):=λx B=>by
 unfold bO
 by_cases e:x=c
 .rw[if_pos e,e];exact⟨h1,h2⟩
 .rw[if_neg e];exact h x B
theorem tP (rh:Str->List Int) (c:Str) (u v:List Int):bO (bO rh c u) c v=bO rh c v:=by
 funext x
 unfold bO
 by_cases e:x=c
 .rw[if_pos e,if_pos e]
 .rw[if_neg e,if_neg e,if_neg e]
theorem vE {u:List Int} (h:rh c=u):bO rh c u=rh:=by
 funext x
 unfold bO
 by_cases e:x=c
 .rw[if_pos e,e,h]
 .rw[if_neg e]
theorem zo {e:Addr} {Q:VK} (h1:H a*>(ns.map V.int)) (h2:H e*>[]) (k:Q (.bl (decide (ns=[]))) H):E2 K (.ref a) (.ref e) H Q :=
 ⟨.list (ns.map Gt),.list [],.lst (.of h1) (jK.ints ns),.lst (.of h2) .nil,by unfold PyData.canLay0;exact lay_ints ns,rfl,by unfold PyData.depth;rw[depth_ints];decide,by rw[wB];exact k⟩
def Eo:Sp:=λvs H Q _=>∃(w r:Addr) (X:Wx) (kvs:List (Key × V)) (rm:Str->List Int) (wy:Bool),vs=[.ref w,.ref r,.int (if wy then 1 else 0)]/\gP H w r X kvs rm/\RmD H r kvs (aB X) rm/\(aB X).length<=13/\(∀c∈aB X,∀v∈rm c,-1000000<=v/\v<=1000000)/\(∃g,okF rm (aB X) g/\cq X g=wy)/\∀H',ap H H'->Q (.bl true) H'
abbrev Ja:=Fn P w K mg base "_law_led" 28 ["_law_wish_here","_law_rooms_here","_law_way_here"] (Eo)
theorem wf (T:Txt w K mg) (L:FnL K mg "_law_led" lB ["_law_wish_here","_law_rooms_here","_law_way_here"]) (Fh : @Gk P w K mg base) (Fk : @Hk P w K mg base) (Fg : @Eh P w K mg base) (FK:Fn P w K mg base "_law_only" 1 ["_law_rooms_here"] (wG)) (Fd : @CD P w K mg base) (Ff : @Ev P w K mg base) : @Ja P w K mg base:=by
 ctx_has z wp <;> obtain⟨w,r,X,kvs,rm,wy,rfl,M,R0,a7,bh,ba,k⟩:=h
 .rfl
 refine⟨_,(ag (aC 3 (aW fL T.b_dict (ac (pvM 1) af)))
  (ag (bx (hV K (fD Fh Fk (ac (pvM 0) af))) (ay 4) (ag (aC 5 (cG af))
  (ag (bx (cg K (bC hu (pvM 1) (pvM 4))) (ay 6) (ag (fu hu (pvM 3) (pvM 4) (cp (ac (pvM 6) af)) rfl)
  (aj (bg (PW.pt (uV (aJ (uo (K:=K) rfl (zt hr)) (pvM 5) (cG af)) (vo (fo (aq Fg (ac (pvM 0) (ac (pvM 3) (ac (pvM 2) af)))))))) (aj (ci (jw pb p6 cY (pvM 5) (ac (pvM 6) af)))) aL))))
  (ag (bg (aJ (uo (K:=K) rfl (zt hr)) (pvM 5) (cG af)) (aj (aw dm)) aL)
  (aj (fu hu (pvM 3) (pvM 4) (cp (ac (az gb (pvM 5) ah) af)) rfl))))))
  (aj (aw (aQ bz (fD Fd Ff (ac (pvM 0) (ac (aq FK (ac (pvM 3) af)) af))) (aQ bz (pvM 2) ah)))))),?_⟩
 refine aK λR hR=>?_
 have bb:=M.rd;ctx_has v bb
 intro he a8;have s1:=ap.upd0 (o:=.dK kvs) a8;have R1:RmD (upd H he (.dK kvs)) he kvs (aB X) rm:=⟨ae,(R0.same s1).rf,R0.ks,R0.nd⟩
 generalize upd H he (.dK kvs)=H1 at s1 R1 ⊢;subst hR;refine aK λR hR=>?_
 ctx_has v
 refine vh (eZ M.ws λa xs e=>s1 _ _ e) a7 λca H2 bp aA s2=>⟨ca,rfl,_,aA,?_⟩
 have aX:=s1.trans s2;refine cu cD (λi σ H'=>∃(kh:List (Key × V)) (rh:Str->List Int) (v4 v5 v6:Option V),σ=[-w,-r,some (.int (if wy=true then 1 else 0)),-he,v4,v5,v6]/\RmD H' he kh (aB X) rh/\(∀c∈aB X,rh c≠[]/\(rh c).Sublist (rm c))/\(∀c∈aB X,(c∈(aB X).take i->(rh c).length=1)/\(c∉(aB X).take i->rh c=rm c))/\(∃g,okF rh (aB X) g/\cq X g=wy)/\H' ca*>((aB X).map V.str)/\ap H H')
  ⟨kvs,rm,_,_,_,rfl,R1.same s2,λc B=>⟨(M.ne c B).1,List.Sublist.refl _⟩,λc B=>⟨λz=>(by simp at z),λ_=>rfl⟩,ba,aA,aX⟩ (λi σ H' aN=>by obtain⟨_,_,_,_,_,_,_,_,_,_,h,_⟩:=aN;exact(.of h)) ?_ ?_
 .rintro i x σ H3 hi hx ⟨kh,rh,v4,v5,v6,rfl,R3,hsub,hone,⟨g,hg1,hg2⟩,h3c,s3⟩
  obtain⟨c,a4,rfl⟩:=fI hx;have ad:=gt a4;have be:=ky R0.nd a4;have aE:rh c=rm c:=(hone c ad).2 be
  simp only[eR];refine aK λR2 a5=>?_
  ctx_has v
  refine⟨x5 _,λgo a0=>?_⟩
  have s4:=ap.upd0 (o:=.lst []) a0;have g4:upd H3 go (.lst []) go*>[]:=ae
  have bi:=gx s3 a0;generalize upd H3 go (.lst [])=H4 at s4 g4 ⊢;have aa:=s3.trans s4;obtain⟨ar,aU,aR⟩:=R0.rf c ad;have bo:=aa _ _ R0.hr;have aV:=aa _ _ aR;have bd:ca≠go:=au h3c a0
  have a9:he≠go:=au R3.hr a0
  subst a5;refine aK λR2 a5=>?_
  ctx_has v bo aU aV
  refine cu aY (λj σ H'=>∃(kh:List (Key × V)) (u gd:List Int) (v6:Option V),σ=[-w,-r,some (.int (if wy=true then 1 else 0)),-he,some (.str c),-go,v6]/\RmD H' he kh (aB X) (bO rh c u)/\u≠[]/\u.Sublist (rm c)/\H' go*>(gd.map V.int)/\((gd=[]/\∀v∈(rm c).take j,¬ ∃g,okF (bO rh c [v]) (aB X) g/\cq X g=wy)\/∃v0,gd=[v0]/\v0∈rm c/\∃g,okF (bO rh c [v0]) (aB X) g/\cq X g=wy)/\H' ca*>((aB X).map V.str)/\ap H H')
   ⟨kh,rm c,[],_,rfl,by rw[vE aE];exact R3.same s4,(M.ne c ad).1,List.Sublist.refl _,g4,.inl ⟨rfl,λv hv=>(by simp at hv)⟩,s4 _ _ h3c,aa⟩ (λj σ H' aM=>by obtain⟨_,_,_,_,_,_,_,_,_,_,_,s⟩:=aM;exact(.of (s _ _ aR))) ?_ ?_
  .rintro j x σ H5 hj hx ⟨kh5,u,gd,v6',rfl,R5,hu1,hu2,h5g,Y,h5c,s5⟩
   obtain⟨v,hv,rfl⟩:=fI hx;have aP:=gt hv;have ak:=R5.hr;simp only[eR];refine aK λR3 bf=>?_
   ctx_has v ak
   refine⟨∅,λt ht=>?_⟩
   have st:=ap.upd0 (o:=.tup [.int v]) ht;have bj:upd H5 t (.tup [.int v]) t>>([v].map V.int):=ae
   have bm:=R5.len;refine⟨kh5,st _ _ ak,aF (),?_⟩
   have R6:=(R5.same st).put (c:=c) (u:=[v]) bj ad;rw[tP] at R6;have s6:ap H (upd (upd H5 t (.tup [.int v])) he (.dK (bu kh5 (g6 c) (.ref t)))):=pz (s5.trans st) a8
   have Z:upd (upd H5 t (.tup [.int v])) he (.dK (bu kh5 (g6 c) (.ref t))) go*>(gd.map V.int):=by rw[ai a9.symm];exact st _ _ h5g
   have ab:upd (upd H5 t (.tup [.int v])) he (.dK (bu kh5 (g6 c) (.ref t))) ca*>((aB X).map V.str):=by rw[ai (aZ h5c ak (by intro z;cases z))];exact st _ _ h5c
   generalize upd (upd H5 t (.tup [.int v])) he (.dK (bu kh5 (g6 c) (.ref t)))=H6 at R6 s6 Z ab ⊢;have ao:[v].Sublist (rm c):=List.singleton_sublist.mpr aP
   have a1:(rm c).take (j+1)=(rm c).take j++[v]:=by rw[j6,hv];rfl
   subst bf;ctx_has v
   refine⟨x5 _,λe0 a3=>?_⟩
   have s7:=ap.upd0 (o:=.lst []) a3;have aD:upd H6 e0 (.lst []) e0*>[]:=ae
   have R7:=R6.same s7;have an:=s7 _ _ Z;have ax:=s7 _ _ ab;have am:=s6.trans s7;generalize upd H6 e0 (.lst [])=H7 at aD R7 an ax am ⊢;refine zo an aD ⟨_,rfl,dC (λhn=>?_) (λhn=>?_)⟩
   .have hn:gd=[]:=by simpa using hn
    subst hn;have Y:=Y.resolve_right λaS=>by obtain⟨v0,e,_⟩:=aS;exact((by cases e))
    refine⟨w,he,X,bu kh5 (g6 c) (.ref t),bO rh c [v],wy,rfl,M.less am R7 (pR hsub (by simp) ao),λb H8 hb s8=>?_⟩
    have aH:=s8 _ _ an;ctx_has v aH
    refine dC (λa2=>?_) (λa2=>?_)
    .exact⟨∅,_,[v],(R7.same s8).upl aH,by simp,ao,[v],ae,.inr ⟨v,rfl,aP,hb.mp a2⟩,by rw[ai bd];exact s8 _ _ ax,pz (am.trans s8) bi⟩
    .refine⟨_,[v],R7.same s8,by simp,ao,[],rfl,.inl ⟨rfl,λy hy=>?_⟩,s8 _ _ ax,am.trans s8⟩
     rw[a1] at hy;rcases j9.mp hy with z | z
     .exact Y.2 y z
     .rw[fx.mp z];exact λq=>a2 (hb.mpr q)
   .exact⟨_,[v],R7,by simp,ao,gd,an,.inr (Y.resolve_left λz=>hn (by simp[z.1])),ax,am⟩
  .rintro σ H5 ⟨kh5,u,gd,v6',rfl,R5,hu1,hu2,h5g,Y,h5c,s5⟩
   rw[d_,la] at Y;obtain⟨v0,rfl,bk,aI⟩:=Y.resolve_left λ⟨e,hn⟩=>hn (g c) (by rw[<- aE];exact hg1 c ad) ⟨g,λx hx=>(by
    unfold bO
    by_cases e:x=c
    .rw[if_pos e,e];exact fx.mpr rfl
    .rw[if_neg e];exact hg1 x hx),hg2⟩
   have ak:=R5.hr;have bm:=R5.len;subst a5;ctx_has v
   refine⟨x5 _,λe0 a3=>?_⟩
   have s6:=ap.upd0 (o:=.lst []) a3;have aG:upd H5 e0 (.lst []) e0*>[]:=ae
   have Z:=s6 _ _ h5g;have a6:=s6 _ _ ak;have R6:=R5.same s6;have ab:=s6 _ _ h5c;have aO:=s5.trans s6;generalize upd H5 e0 (.lst [])=H6 at aG Z a6 R6 ab aO ⊢;refine zo Z aG ⟨_,rfl,?_⟩
   rw[if_neg (by simp)]
   refine⟨_,Z,_,bc (j:=0) rfl,∅,λt ht=>?_⟩
   have st:=ap.upd0 (o:=.tup [.int v0]) ht;have bn:upd H6 t (.tup [.int v0]) t>>([v0].map V.int):=ae
   have R7:=(R6.same st).put (c:=c) (u:=[v0]) bn ad;rw[tP] at R7;have a1:(aB X).take (i+1)=(aB X).take i++[c]:=by rw[j6,a4];rfl
   refine⟨kh5,st _ _ a6,aF (),_,_,R7,pR hsub (by simp) (List.singleton_sublist.mpr bk),λy hy=>?_,aI,by rw[ai (aZ ab a6 (by intro z;cases z))];exact st _ _ ab,pz (aO.trans st) a8⟩
   rw[a1];unfold bO
   by_cases e:y=c
   .rw[if_pos e]
    exact⟨λ_=>rfl,λz=>absurd (o_ _ (fx.mpr e)) z⟩
   .rw[if_neg e]
    exact⟨λz=>(hone y hy).1 ((j9.mp z).resolve_right λq=>e (fx.mp q)),λz=>(hone y hy).2 λq=>z (m9 _ q)⟩
 .rintro σ H3 ⟨kh,rh,v4,v5,v6,rfl,R3,hsub,hone,⟨g,hg1,hg2⟩,h3c,s3⟩
  rw[d_,la] at hone;subst hR;ctx_has v
  have hg : ∀c∈aB X,vY rh c=g c:=λc B=>by
   have h1:=(hone c B).1 B;have h2:=hg1 c B;unfold vY;cases e:rh c with
   | nil=>rw[e] at h2;cases h2
   | cons a l =>
    rw[e] at h1 h2;have aT:l=[]:=List.length_eq_zero_iff.mp (by simpa using h1)
    subst aT;exact(fx.mp h2).symm
  refine⟨he,kh,aB X,rh,rfl,R3,a7,λc B=>(hsub c B).1,λf kf H4 hf F4 s4=>?_⟩
  have aa:=s3.trans s4;refine yF (eZ M.ws λa xs e=>aa _ _ e) (uM M.ok) (F4.at R0.nd a7 (λc B=>B) λc B=>?_) λH5 s5=>⟨rfl,?_⟩
  .rw[hg c B]
   have:=bh c B _ ((hsub c B).2.subset (hg1 c B))
   omega
  .rw[pd hg,hg2]
   have:=k H5 (aa.trans s5)
   cases wy <;> exact this
def kP (H:Hp) (xs:List V) (cs:List Str) (rm:Str->List Int):Prop:=∀x∈xs,∃f kf g,x = .ref f/\FlD H f kf cs g/\okF rm cs g
theorem kP.same {H H':Hp} {xs:List V} {cs:List Str} {rm:Str->List Int} (h:kP H xs cs rm) (s:ap H H'):kP H' xs cs rm:=λx B=>by
 obtain⟨f,kf,g,e,F,o⟩:=h x B;exact⟨f,kf,g,e,F.same s,o⟩
structure ix (H:Hp) (w r:Addr) (X:Wx) (kvs:List (Key × V)) (rm:Str->List Int):Prop where
 M:gP H w r X kvs rm
 R:RmD H r kvs (aB X) rm
 cl:(aB X).length<=13
 bd : ∀c∈aB X,∀v∈rm c,-1000000<=v/\v<=1000000
theorem ix.same {H H':Hp} {w r:Addr} {X:Wx} {kvs:List (Key × V)} {rm:Str->List Int} (h:ix H w r X kvs rm) (s:ap H H'):ix H' w r X kvs rm:=⟨h.M.same s,h.R.same s,h.cl,h.bd⟩
theorem FlD.at21 {w:Addr} {X:Wx} (h:FlD H f kf (aB X) g) (A:ix H w r X kvs rm) (o:okF rm (aB X) g):dz H f (aB X) g :=
 h.at A.R.nd A.cl (λc B=>B) λc B=>by have:=A.bd c B _ (o c B);omega
def A8:Sp:=λvs H Q _=>∃(w r fl:Addr) (X:Wx) (kvs:List (Key × V)) (rm:Str->List Int) (xs:List V) (wy:Bool),vs=[.ref w,.ref r,.ref fl,.int (if wy then 1 else 0)]/\ix H w r X kvs rm/\H fl*>xs/\kP H xs (aB X) rm/\xs.length<=20/\∀H',ap H H'->Q (.bl true) H'
def Bs:Sp:=λvs H Q _=>∃(w r:Addr) (X:Wx) (kvs:List (Key × V)) (rm:Str->List Int) (c:Str) (a:Nat) (wy:Bool),vs=[.ref w,.ref r,.str c,.int (a:Nat),.int (if wy then 1 else 0)]/\ix H w r X kvs rm/\c∈aB X/\1<=a/\a < (rm c).length/\∀H',ap H H'->Q (.bl true) H'
theorem RmD.pl (h:RmD H r kvs cs rm) : ∀x∈kvs,pV x.2=true:=λx F=>by
 obtain⟨i,hi,e⟩:=wh F;obtain⟨c,L,e1,e2⟩:=xi h.ks h.nd (i:=i) (k:=x.1) (x:=x.2) (by rw[ki hi,e])
 obtain⟨a,B,_⟩:=h.rf c (gt L);rw[B] at e2;rw[<- ge e2];rfl
theorem FlD.upl {l:List V} (h:FlD H f kf cs g) (hl:H fl*>l):FlD (upd H fl o) f kf cs g:=⟨by rw[ai (aZ h.hf hl (by intro z;cases z))];exact h.hf,h.vl,h.ks⟩
theorem kP.upl {H:Hp} {fl:Addr} {xs l:List V} {cs:List Str} {rm:Str->List Int} {o:HO} (h:kP H xs cs rm) (hl:H fl*>l):kP (upd H fl o) xs cs rm:=λx B=>by
 obtain⟨f,kf,g,e,F,ok⟩:=h x B;exact⟨f,kf,g,e,F.upl hl,ok⟩
theorem ix.upl {H:Hp} {w r fl:Addr} {X:Wx} {kvs:List (Key × V)} {rm:Str->List Int} {l:List V} {o:HO} (h:ix H w r X kvs rm) (hl:H fl*>l):ix (upd H fl o) w r X kvs rm :=
 ⟨⟨eZ h.M.ws λa xs e=>(by rw[ai (aZ e hl (by intro z;cases z))];exact e),(h.R.upl hl).hr,(h.R.upl hl).rf,h.M.ok,h.M.ne,h.M.un,h.M.sm⟩,h.R.upl hl,h.cl,h.bd⟩
theorem ix.but {H H':Hp} {d l w r:Addr} {X:Wx} {kvs:List (Key × V)} {rm:Str->List Int} (h:ix H w r X kvs rm) (n:r≠d/\r≠l) (D:aO H d l) (B:But d l H H'):ix H' w r X kvs rm :=
 ⟨⟨eZ h.M.ws λa xs e=>B.tup D e,B _ _ n.1 n.2 h.M.rd,h.M.rf.same λa vs e=>B.tup D e,h.M.ok,h.M.ne,h.M.un,h.M.sm⟩,h.R.but n D B,h.cl,h.bd⟩
theorem Ec {wy:Bool}:decide ((if wy=true then(1:Int) else 0)=1)=wy:=by cases wy <;> rfl
abbrev Jk:=Fn P w K mg base "_law_right" 30 ["_law_wish_here","_law_rooms_here","_law_fillings","_law_way_here"] (A8)
theorem sr (T:Txt w K mg) (L:FnL K mg "_law_right" gl ["_law_wish_here","_law_rooms_here","_law_fillings","_law_way_here"]) (Fg : @Eh P w K mg base) (FP : @Ja P w K mg base) (Fd : @CD P w K mg base) (Ff : @Ev P w K mg base) : @Jk P w K mg base:=by
 ctx_has z rJ <;> obtain⟨w,r,fl,X,kvs,rm,xs,wy,rfl,A0,ai,am,an,k⟩:=h
 .rfl
 refine⟨_,(ag (aC 4 (aq Fg (ac (pvM 0) (ac (pvM 1) (ac (pvM 3) af)))))
  (ag (bg (vf (fo (aE C8 T.b_isinstance (ac (pvM 4) (ac (Jx (T := "bool") rfl T.b_bool (by decide+kernel)) af))))) (aj (aw dm)) aL)
  (ag (bg (fo (pvM 4)) (aj (aw (aq FP (ac (pvM 0) (ac (pvM 1) (ac (pvM 3) af)))))) aL)
  (aj (aw (aE (fC rfl) T.b_all (ac (aV (N:=["_law_filling_here","_law_wish_here","_law_way_here"]) (nt:=1) (js:=[0,3]) (aG ["_law_wish_here","_law_rooms_here","_law_fillings","_law_way_here","_law_may_here"] (ak gl).names) (hV K (pvM 2)) (ay 0) aU bv (aQ vI (fD Fd Ff (ac (pvM 1) (ac (pvM 0) af))) (aQ bz (pvM 2) ah))) af))))))),?_⟩
 refine aK λR hR=>?_
 ctx_has v
 refine⟨w,r,X,kvs,rm,wy,rfl,A0.M,λb H1 hb s1=>?_⟩
 have A1:=A0.same s1;have ad:=s1 _ _ ai;subst hR;ctx_has v ad
 refine dC (λY=>?_) (λY=>?_)
 .exact⟨w,r,X,kvs,rm,wy,rfl,A1.M,A1.R,A1.cl,A1.bd,hb.mp Y,λH2 Z=>k H2 (s1.trans Z)⟩
 intro E1 aa;refine eD cD (λj ys H'=>ys=(replicate j true).map V.bl/\ap H1 H'/\H' E1*>ys) ⟨rfl,ap.upd0 aa,ae⟩ (λ_ _ _ ab=>by obtain⟨_,s,_⟩:=ab;exact(.of (s _ _ ad))) ?_ ?_
 .rintro j x ys H2 hj hx ⟨rfl,Z,h2⟩
  obtain⟨f,kf,g,rfl,F,o⟩:=am x (gt hx);have B:=s1.trans Z;ctx_has v
  refine yF (eZ A0.M.ws λa xs e=>B _ _ e) (uM A0.M.ok) ((F.same B).at21 (A0.same B) o) λH3 s3=>?_
  have hk:cq X g≠wy:=λe=>Y (hb.mpr ⟨g,o,e⟩)
  rw[Ec];refine⟨rfl,s3 _ _ h2,by rw[d_,List.length_replicate];exact aF (),?_,pz (Z.trans s3) aa,ae⟩
  rw[show(!decide (V.bl (cq X g)=V.bl wy))=true by simp[hk]]
  show _=(replicate (j+1) true).map V.bl
  rw[List.replicate_succ',r_];rfl
 .rintro ys H2 ⟨rfl,Z,h2⟩
  have:=k H2 (s1.trans Z)
  exact⟨E1,rfl,_,h2,by rw[show(replicate xs.length true).all id=true by simp];exact this⟩
abbrev Jn:=Fn P w K mg base "_law_parted" 28 ["_law_wish_here","_law_rooms_here","_law_name","_law_at","_law_way_here"] (Bs)
theorem rn (T:Txt w K mg) (L:FnL K mg "_law_parted" il ["_law_wish_here","_law_rooms_here","_law_name","_law_at","_law_way_here"]) (Fg : @Eh P w K mg base) : @Jn P w K mg base:=by
 ctx_has z qF <;> obtain⟨w,r,X,kvs,rm,c,a,wy,rfl,B,hc,a4,am,k⟩:=h
 .rfl
 refine⟨_,(ag (aC 5 (aW fL T.b_dict (ac (pvM 1) af)))
  (ag (aC 6 (aW fL T.b_dict (ac (pvM 1) af)))
  (ag (fu hu (pvM 5) (pvM 2) (bL mL (bC hu (pvM 1) (pvM 2)) cA (bW (pvM 3))) rfl)
  (ag (fu hu (pvM 6) (pvM 2) (bL mL (bC hu (pvM 1) (pvM 2)) (bW (pvM 3)) cA) rfl)
  (aj (aw (aQ bz (aq Fg (ac (pvM 0) (ac (pvM 1) (ac (pvM 4) af)))) (jF (aq Fg (ac (pvM 0) (ac (pvM 5) (ac (pvM 4) af)))) (cL (aq Fg (ac (pvM 0) (ac (pvM 6) (ac (pvM 4) af))))))))))))),?_⟩
 have ab:=B.R.hr;obtain⟨ar,ak,ay⟩:=B.R.rf c hc;refine C6 λR hR=>?_
 ctx_has v ab
 intro Z au;have s1:=ap.upd0 (o:=.dK kvs) au;refine⟨kvs,s1 _ _ ab,λF aa=>?_⟩
 have s2:=s1.upd_new (o:=.dK kvs) aa;have ad:Z≠F:=λe=>by rw[<- e,ae] at aa;cases aa
 have R1:RmD (upd (upd H Z (.dK kvs)) F (.dK kvs)) Z kvs (aB X) rm:=⟨by rw[ai ad];exact ae,(B.R.same s2).rf,B.R.ks,B.R.nd⟩
 have R2:RmD (upd (upd H Z (.dK kvs)) F (.dK kvs)) F kvs (aB X) rm:=⟨ae,(B.R.same s2).rf,B.R.ks,B.R.nd⟩
 have a0:H F=none:=gx s1 aa
 generalize upd (upd H Z (.dK kvs)) F (.dK kvs)=H2 at s2 R1 R2 ⊢;have a6:=B.R.len;have a5:=B.cl;refine⟨kvs,s2 _ _ ab,_,ak,ar,rfl,_,s2 _ _ ay,λt1 H3 ax s3=>⟨kvs,s3 _ _ R1.hr,aF (),?_⟩⟩
 rw[lU] at ax;have R3:=(R1.same s3).put (c:=c) (u:=(rm c).take a) ax hc;have s4:ap H (upd H3 Z (.dK (bu kvs (g6 c) (.ref t1)))):=pz (s2.trans s3) au
 have R4:RmD (upd H3 Z (.dK (bu kvs (g6 c) (.ref t1)))) F kvs (aB X) rm:=⟨by rw[ai ad.symm];exact s3 _ _ R2.hr,(B.R.same s4).rf,B.R.ks,B.R.nd⟩
 generalize upd H3 Z (.dK (bu kvs (g6 c) (.ref t1)))=H4 at R3 R4 s4 ⊢;refine⟨kvs,s4 _ _ ab,_,ak,ar,rfl,_,s4 _ _ ay,λt2 H5 ao s5=>⟨kvs,s5 _ _ R4.hr,aF (),?_⟩⟩
 rw[fe] at ao;have R5:=(R4.same s5).put (c:=c) (u:=(rm c).drop a) ao hc;have s6:ap H (upd H5 F (.dK (bu kvs (g6 c) (.ref t2)))):=pz (s4.trans s5) a0
 have R6:RmD (upd H5 F (.dK (bu kvs (g6 c) (.ref t2)))) Z (bu kvs (g6 c) (.ref t1)) (aB X) (bO rm c ((rm c).take a)):=by
  have R7:=R3.same s5;exact⟨by rw[ai ad];exact R7.hr,R7.rf.same λb vs e=>(by rw[ai (aZ e (s5 _ _ R4.hr) (by intro z;cases z))];exact e),R7.ks,R7.nd⟩
 generalize upd H5 F (.dK (bu kvs (g6 c) (.ref t2)))=H6 at R5 R6 s6 ⊢;have Y : ∀x∈aB X,rm x≠[]/\(rm x).Sublist (rm x):=λx hx=>⟨(B.M.ne x hx).1,List.Sublist.refl _⟩
 have a3:(rm c).take a≠[]:=λe=>(List.take_eq_nil_iff.mp e).elim (λz=>by omega) λz=>by rw[z] at am;cases am
 have a2:(rm c).drop a≠[]:=λe=>by have:=List.drop_eq_nil_iff.mp e;omega
 have W1:=B.M.less s6 R6 (pR Y a3 (x8 _ _));have W2:=B.M.less s6 R5 (pR Y a2 (List.drop_sublist _ _));have key:(∃g,okF rm (aB X) g/\cq X g=wy)↔(∃g,okF (bO rm c ((rm c).take a)) (aB X) g/\cq X g=wy)\/∃g,okF (bO rm c ((rm c).drop a)) (aB X) g/\cq X g=wy:=by
  have up : ∀u:List Int,(∀v∈u,v∈rm c)->∀g,okF (bO rm c u) (aB X) g->okF rm (aB X) g:=λu hu g hg x hx=>by
   have h1:=hg x hx;unfold bO at h1
   by_cases e:x=c
   .rw[if_pos e] at h1;rw[e];rw[e] at h1;exact hu _ h1
   .rw[if_neg e] at h1;exact h1
  have dn : ∀u:List Int,∀g,okF rm (aB X) g->g c∈u->okF (bO rm c u) (aB X) g:=λu g hg a1 x hx=>by
   unfold bO
   by_cases e:x=c
   .rw[if_pos e,e];exact a1
   .rw[if_neg e];exact hg x hx
  constructor
  .rintro⟨g,h1,h2⟩
   have h3:=h1 c hc;rw[<- List.take_append_drop a (rm c)] at h3;rcases j9.mp h3 with z | z
   .exact .inl ⟨g,dn _ g h1 z,h2⟩
   .exact .inr ⟨g,dn _ g h1 z,h2⟩
  .rintro(⟨g,h1,h2⟩ | ⟨g,h1,h2⟩)
   .exact⟨g,up _ (λv hv=>y4 hv) g h1,h2⟩
   .exact⟨g,up _ (λv hv=>L1 hv) g h1,h2⟩
 subst hR;ctx_has v
 refine⟨w,r,X,kvs,rm,wy,rfl,B.M.same s6,λb0 H7 ah s7=>?_⟩
 refine⟨w,Z,X,_,_,wy,rfl,W1.same s7,λb1 H8 an s8=>⟨b1,rfl,dC (λe1=>⟨rfl,?_⟩) (λe1=>?_)⟩⟩
 .have:=k H8 ((s6.trans s7).trans s8)
  rw[ah.mpr (key.mpr (.inl (an.mp e1)))];exact this
 .refine⟨w,F,X,_,_,wy,rfl,(W2.same s7).same s8,λb2 H9 az s9=>⟨rfl,?_⟩⟩
  have:=k H9 (((s6.trans s7).trans s8).trans s9)
  rw[show b0=b2 from o7.mpr (by rw[ah,az,key];exact⟨λz=>z.resolve_left λq=>e1 (an.mpr q),.inr⟩),decide_eq_true rfl]
  exact this
def zN (K:fy):Sp:=λvs H Q _=>∃(a:Addr) (ns:List Int),vs=[.ref a]/\SqL K H a (ns.map V.int)/\ns.length<=63/\∀H',Q (.bl true) H'
theorem qy {W:Wi} (h:okW ws ns W):(bw W).Nodup/\∀x∈bw W,x∈ws:=by
 cases W with
 | un cs=>exact⟨h.2.1,h.2.2.1⟩
 | mn av cs lo hi=>exact⟨h.1.2.1,h.1.2.2.1⟩
 | sm ts lo hi=>exact⟨h.1.2.1,h.1.2.2.1⟩
 | tb cs rows=>exact⟨h.1.2.1,h.1.2.2.1⟩
 | wy cs ps es=>exact⟨h.1.2.1,h.1.2.2.1⟩
 | bh cs gap=>exact⟨h.2.1,h.2.2.1⟩
theorem Hw {X:Wx} (h:okX ws ns X):(aB X).Nodup:=by
 cases X with
 | pl W=>exact(qy h).1
 | sa c us W=>exact m7.mpr ⟨h.2.2.2,(qy h.2.2.1).1⟩
theorem IR {X:Wx} (h:okX ws ns X):okO X:=by
 cases X with
 | pl W=>exact⟨⟨ws,ns,h⟩,m_⟩
 | sa c us W=>exact⟨⟨ws,ns,h.2.2.1⟩,m_,h.2.1.2.2,h.2.2.2⟩
structure Hh (H:Hp) (r f:Addr) (cs CS:List Str) (kvs kf:List (Key × V)) (rm:Str->List Int) (g:Str->Int):Prop where
 R:RmD H r kvs CS rm
 F:FlD H f kf CS g
 ok:okF rm CS g
 cl:CS.length<=13
 sub : ∀c∈cs,c∈CS
def zL:Sp:=λvs H Q _=>∃(w r f:Addr) (W:Wi) (ws:List Str) (ns:List Int) (CS:List Str) (kvs kf:List (Key × V)) (rm:Str->List Int) (g:Str->Int),vs=[.ref w,.ref r,.ref f]/\WS H w W/\okW ws ns W/\Hh H r f (bw W) CS kvs kf rm g/\∀(p:Addr) (xs:List V) (H':Hp),H p=none->H' p*>xs->kP H' xs CS rm->xs.length<=3->ap H H'->Q (.ref p) H'
def Ad:Sp:=λvs H Q _=>∃(w r f:Addr) (c:Str) (us:List Int) (W:Wi) (ws:List Str) (ns:List Int) (CS:List Str) (kvs kf:List (Key × V)) (rm:Str->List Int) (g:Str->Int),vs=[.ref w,.ref r,.ref f]/\WX H w (.sa c us W)/\okW ws ns W/\Hh H r f (bw W) CS kvs kf rm g/\∀(p:Addr) (xs:List V) (H':Hp),H p=none->H' p*>xs->kP H' xs CS rm->xs.length<=3->ap H H'->Q (.ref p) H'
theorem Kh {w:Addr} {X:Wx} {Q:VK} {E:XK} (B:WX H w X) (ok:okX ws ns X) (h:Hh H r f (aB X) CS kvs kf rm g) (k : ∀(p:Addr) (xs:List V) (H':Hp),H p=none->H' p*>xs->kP H' xs CS rm->xs.length<=3->ap H H'->Q (.ref p) H'):zL [.ref w,.ref r,.ref f] H Q E\/Ad [.ref w,.ref r,.ref f] H Q E:=by
 cases X with
 | pl W=>exact .inl ⟨w,r,f,W,ws,ns,CS,kvs,kf,rm,g,rfl,B,ok,h,k⟩
 | sa c vs W=>exact .inr ⟨w,r,f,c,vs,W,ws,ns,CS,kvs,kf,rm,g,rfl,B,ok.2.2.1,⟨h.R,h.F,h.ok,h.cl,λx L=>h.sub x (i7 _ L)⟩,k⟩
theorem sY : ∀(B kvs:List (Key × V)) (x:Key × V),x∈df kvs B->x∈kvs\/x∈B
 | [],kvs,x,h=>.inl h
 | y :: B,kvs,x,h=>by
  rcases sY B (bu kvs y.1 y.2) x h with h | h
  .by_cases hk:y.1∈kvs.map (·.1)
   .rcases Dq hk h with rfl | ⟨h,_⟩
    .exact .inr m6
    .exact .inl h
   .have:bu kvs y.1 y.2=kvs++[(y.1,y.2)]:=by
     unfold bu;rw[if_neg];intro Y;obtain⟨z,L,F⟩:=v9.mp Y;exact hk (hH.mpr ⟨z,L,of_decide_eq_true F⟩)
    rw[this] at h;rcases j9.mp h with h | h
    .exact .inl h
    .rw[fx.mp h];exact .inr m6
  .exact .inr (i7 _ h)
theorem wu {CS:List Str} {rm:Str->List Int} : ∀(B kf:List (Key × V)) (g:Str->Int),(∀x∈B,∃c v,x=(g6 c,V.int v)/\c∈CS/\v∈rm c)->(∀c∈CS,bM kf (g6 c)=some (.int (g c)))->kf.map (·.1)=CS.map (g6:Str->Key)->okF rm CS g ->
  ∃g',(∀c∈CS,bM (df kf B) (g6 c)=some (.int (g' c)))/\(df kf B).map (·.1)=CS.map (g6:Str->Key)/\okF rm CS g'
 | [],kf,g,_,hv,hk,ho=>⟨g,hv,hk,ho⟩
 | x :: B,kf,g,hm,hv,hk,ho=>by
  obtain⟨c,v,rfl,Z,L⟩:=hm x m6;refine wu B (bu kf (g6 c) (.int v)) (bO g c v) (λx Y=>hm x (i7 _ Y)) (λy F=>?_) ?_ λy F=>?_
  .rw[gC]
   unfold bO
   by_cases e:y=c
   .rw[if_pos (by rw[e]),if_pos e]
   .rw[if_neg (λz=>e (Sum.inr.inj z)),if_neg e]
    exact hv y F
  .rw[sT (by rw[hk];exact hH.mpr ⟨c,Z,rfl⟩)];exact hk
  .unfold bO
   by_cases e:y=c
   .rw[if_pos e,e];exact L
   .rw[if_neg e];exact ho y F
theorem zF {rm:Str->List Int} : ∀(cs:List Str) (vs:List Int),(LV (λc v=>decide (v∈rm c)) cs vs).all id=true->∀x∈(cs.map (g6:Str->Key)).zip (vs.map V.int),∃c v,x=(g6 c,V.int v)/\c∈cs/\v∈rm c
 | [],_,_,x,hx=>by simp at hx
 | _ :: _,[],_,x,hx=>by simp at hx
 | c :: cs,v :: vs,h,x,hx=>by
  simp only[List.zipWith_cons_cons,all_cons,id,l_,decide_eq_true_eq] at h;simp only[j8,List.zip_cons_cons,i6] at hx;rcases hx with rfl | hx
  .exact⟨c,v,rfl,m6,h.1⟩
  .obtain⟨a,b,e,h1,h2⟩:=zF cs vs h.2 x hx
   exact⟨a,b,e,i7 _ h1,h2⟩
theorem Gu:kP H [] cs rm:=λx B=>nomatch B
theorem Ek {w:Addr} {W:Wi} (h:WS H w W) : ∃B xs,H w>>(.str B :: xs)/\B≠b_ "same" /\(B≠b_ "table"\/∃cs rows,W = .tb cs rows):=by
 cases W with
 | tb cs rows=>obtain⟨c,t,vs,h1,_⟩:=h;exact⟨_,_,h1,by decide+kernel,.inr ⟨cs,rows,rfl⟩⟩
 | un cs=>obtain⟨c,h1,_⟩:=h;exact⟨_,_,h1,by decide+kernel,.inl (by decide+kernel)⟩
 | mn av cs lo hi=>obtain⟨a,c,h1,_⟩:=h;exact⟨_,_,h1,by decide+kernel,.inl (by decide+kernel)⟩
 | wy cs ps es=>obtain⟨c,t,e,vs,h1,_⟩:=h;exact⟨_,_,h1,by decide+kernel,.inl (by decide+kernel)⟩
 | bh cs gap=>obtain⟨c,h1,_⟩:=h;exact⟨_,_,h1,by decide+kernel,.inl (by decide+kernel)⟩
 | sm ts lo hi=>obtain⟨t,h1,_⟩:=h;exact⟨_,_,h1,by decide+kernel,.inl (by decide+kernel)⟩
abbrev GP:=Fn P w K mg base "_law_by_rows" 3 ["_law_wish_here","_law_rooms_here","_law_filling_here"] (zL)
abbrev nz3:List Str:=["_law_wish_here","_law_rooms_here","_law_filling_here","_law_some_here","_law_row","_law_other"]
theorem mZ (T:Txt w K mg) (L:FnL K mg "_law_by_rows" cw ["_law_wish_here","_law_rooms_here","_law_filling_here"]) : @GP P w K mg base:=by
 ctx_has z jy <;> obtain⟨w,r,f,W,ws,ns,CS,kvs,kf,rm,g,rfl,hW,ok,B0,k⟩:=h
 .rfl
 refine⟨_,(ag (bg (aJ bz (az aR (pvM 0) ah) aS) (aj (aw qw)) aL)
  (ag (aC 3 (cG af))
  (ag (bg (aJ bz (az aR (pvM 0) ah) aS) (aj (bx (cg K (az aR (pvM 0) ah)) (ay 4) (aj (bg (fo (aE (fC rfl) T.b_all (ac (aV (N:=["_law_name","_law_value","_law_rooms_here"]) (nt:=2) (js:=[1]) (aG nz3 (ak cw).names) (uR (K:=K) rfl rfl T.b_zip (ac (az aR (pvM 0) ah) (ac (pvM 4) af))) (dI (n:=2) rfl (bj (ay 0) (bj (ay 1) dO))) cJ bv (aQ ft (pvM 1) (bC hu (pvM 2) (pvM 0)))) af))) (ag (aC 5 (aW fL T.b_dict (ac (pvM 2) af)))
  (ag (ci (zY (pvM 5) (qa rfl rfl T.b_dict rfl T.b_zip (ac (az aR (pvM 0) ah) (ac (pvM 4) af))) ⟨rfl,rfl,rfl,rfl⟩))
  (aj (ci (jw pb p6 cY (pvM 3) (ac (pvM 5) af)))))) aL)))) aL)
  (aj (aw (bL CB (pvM 3) cA (bW ah))))))),?_⟩
 obtain⟨wd,xs,h1,a6,a5⟩:=Ek hW;refine br rfl h1 a6 ?_
 refine aK λR hR=>?_
 ctx_has v
 refine⟨∅,λp hp=>?_⟩
 have s1:=ap.upd0 (o:=.lst []) hp;have ao:upd H p (.lst []) p*>[]:=ae
 generalize upd H p (HO.lst [])=H1 at s1 ao ⊢;subst hR;rcases a5 with hne | ⟨cs,rows,rfl⟩
 .refine br rfl (s1 _ _ h1) hne ?_
  ctx_has v ao
  exact λq hq=>k q [] _ (gx s1 hq) ae Gu ∅ (s1.upd_new hq)
 clear h1;have a3:=(qy ok).1;have a9:cs.length<=13:=ja (dY a3 B0.sub) B0.cl
 obtain⟨c,t,vs,h1,h2,h3,as,rfl,rfl,h4⟩:=hW;have e1:=s1 _ _ h1;have e3:=s1 _ _ h3;ctx_has v e1 e3
 refine cu aY (λi σ H'=>∃(xs:List V) (v4 v5:Option V),σ=[-w,-r,-f,-p,v4,v5]/\H' p*>xs/\kP H' xs CS rm/\xs.length<=i/\ap H H') ⟨[],none,none,rfl,ao,Gu,h_ _,s1⟩ (λi σ H' ar=>by obtain⟨_,_,_,_,_,_,_,s⟩:=ar;exact(.of (s _ _ h3))) ?_ ?_
 .rintro i x σ H2 hi Y ⟨xs,v4,v5,rfl,h2p,hfs,hxl,s2⟩
  obtain⟨y,hy,rfl⟩:=fI Y;have am:=gt hy;have aB:y.2.length=cs.length:=ok.2.2.1 y.2 (hH.mpr ⟨y,am,rfl⟩)
  have g1:=s2 _ _ h1;have g2:=s2 _ _ h2;have g4:=s2 _ _ (h4 y am);have aq:=B0.R.same s2;ctx_has v g1 g2 g4
  intro q hq;refine oq (λx y=>match x,y with | .str c,.int v=>.bl (decide (v∈rm c)) | _,_=>.non) hq g2 g4 (by rw[d_];omega) ?_ ?_
  .intro x z H3 Q3 Y hz sm q3
   obtain⟨cx,a4,rfl⟩:=hH.mp Y;obtain⟨z,_,rfl⟩:=hH.mp hz;obtain⟨a1,a7,a8⟩:=aq.rf cx (B0.sub cx a4);have e1:=sm _ _ aq.hr;have e2:=sm _ _ a8;ctx_has v e1 a7 e2
   refine⟨rfl,cj _,?_⟩
   rw[cE];exact q3 H3 (ap.refl _)
  .intro H3 s3 h3q
   ctx_has v
   refine⟨LV (λc v=>decide (v∈rm c)) cs y.2,by rw[h3q,map_zipWith,zipWith_map],?_⟩
   have Z:=s2.trans s3;refine dC (λax=>?_) (λ_=>⟨xs,s3 _ _ h2p,hfs.same s3,(),Z⟩)
   have F3:=B0.F.same Z;refine⟨kf,F3.hf,λq2 an=>?_⟩
   have s4:=ap.upd0 (o:=.dK kf) an;have aa:upd H3 q2 (.dK kf) q2<*kf:=ae
   have ad:=Z.trans s4;have ab:=s4 _ _ (s3 _ _ h2p);have a2:=(hfs.same s3).same s4;have n4:=gx Z an;have pq:=aZ ab aa (by intro z;cases z)
   generalize upd H3 q2 (.dK kf)=H4 at s4 aa ab ad a2 ⊢;have f1:=ad _ _ h1;have f2:=ad _ _ h2;have f4:=ad _ _ (h4 y am);ctx_has v GC wW aa f1 f2 f4
   refine⟨cs.map g6,by rw[k6];rfl,by rw[d_];exact ja a9 ∅,λo ho=>?_⟩
   obtain⟨g',v1,v2,v3⟩:=wu (df [] ((cs.map (g6:Str->Key)).zip (y.2.map V.int))) kf g (λx Y=>by
    obtain⟨a,b,e,i1,i2⟩:=zF cs y.2 ax x ((sY _ _ x Y).resolve_left (by simp))
    exact⟨a,b,e,B0.sub a i1,i2⟩) F3.vl F3.ks B0.ok
   have a0:=dU ((cs.map (g6:Str->Key)).zip (y.2.map V.int)) [];simp only[length_zip,d_,length_nil] at a0;have aD:kf.length=CS.length:=by have:=congrArg KM F3.ks;simpa using this
   have aA:=B0.cl;generalize df [] ((cs.map (g6:Str->Key)).zip (y.2.map V.int))=B at v1 v2 a0 ⊢;have qo:=au aa ho;have s5:=pz (o:=.dK (df kf B)) (s4.trans (ap.upd0 (o:=.dK B) ho)) an;have e5:upd (upd H4 o (.dK B)) q2 (.dK (df kf B)) p*>xs:=by rw[ai pq,ai (au ab ho)];exact ab
   refine⟨kf,by rw[ai qo];exact aa,B,ae,qo,(),⟨xs,e5⟩,xs,e5,?_,_,ae,kP.upl (λx Y=>?_) e5,by rw[q_];exact Nat.succ_le_succ hxl,pz (Z.trans s5) hp⟩
   .have:=ok.2.2.2
    rw[d_] at this hi;exact aF ()
   .rcases j9.mp Y with Y | Y
    .exact((hfs.same s3).same s5) x Y
    .exact⟨q2,_,g',fx.mp Y,⟨ae,v1,v2⟩,v3⟩
 .rintro σ H2 ⟨xs,v4,v5,rfl,h2p,hfs,hxl,s2⟩
  ctx_has v h2p
  intro o ho;have ec:fQ xs none (some 3)=xs.take 3:=by
   have:=lU id xs 3
   rwa [map_id,map_id] at this
  rw[ec];exact k o _ _ (gx s2 ho) ae (kP.same (λx Y=>hfs x (y4 Y)) (ap.upd0 ho)) (K5 _ _) (s2.upd_new ho)
abbrev IK:=Fn P w K mg base "_law_by_rows" 4 ["_law_wish_here","_law_rooms_here","_law_filling_here"] (Ad)
theorem ou (T:Txt w K mg) (L:FnL K mg "_law_by_rows" cw ["_law_wish_here","_law_rooms_here","_law_filling_here"]) (B : @GP P w K mg base) : @IK P w K mg base:=by
 ctx_has z jy <;> obtain⟨w,r,f,c,us,W,ws,ns,CS,kvs,kf,rm,g,rfl,Z,ok,B0,k⟩:=h
 .rfl
 refine⟨_,(ag (bg (aJ bz (az aR (pvM 0) ah) aS) (aj (aw (aq B (ac (az aR (pvM 0) ah) (ac (pvM 1) (ac (pvM 2) af)))))) aL)
  (ag (aC 3 (cG af))
  (ag (bg (aJ bz (az aR (pvM 0) ah) aS) (aj (bx (cg K (az aR (pvM 0) ah)) (ay 4) (aj (bg (fo (aE (fC rfl) T.b_all (ac (aV (N:=["_law_name","_law_value","_law_rooms_here"]) (nt:=2) (js:=[1]) (aG nz3 (ak cw).names) (uR (K:=K) rfl rfl T.b_zip (ac (az aR (pvM 0) ah) (ac (pvM 4) af))) (dI (n:=2) rfl (bj (ay 0) (bj (ay 1) dO))) cJ bv (aQ ft (pvM 1) (bC hu (pvM 2) (pvM 0)))) af))) (ag (aC 5 (aW fL T.b_dict (ac (pvM 2) af)))
  (ag (ci (zY (pvM 5) (qa rfl rfl T.b_dict rfl T.b_zip (ac (az aR (pvM 0) ah) (ac (pvM 4) af))) ⟨rfl,rfl,rfl,rfl⟩))
  (aj (ci (jw pb p6 cY (pvM 3) (ac (pvM 5) af)))))) aL)))) aL)
  (aj (aw (bL CB (pvM 3) cA (bW ah))))))),?_⟩
 obtain⟨t,u,h1,h2,Y⟩:=Z;refine iz rfl h1 λR=>?_
 ctx_has v h1
 exact⟨u,r,f,W,ws,ns,CS,kvs,kf,rm,g,rfl,Y,ok,B0,k⟩
theorem GF (T:Txt w K mg) (L:Fun K "law" "law" qV f fd) (FM : @Dz1 P w K mg base) (Fa : @Dz0 P w K mg base) (FH : @Dz2 P w K mg base) (FC:Fn P w K mg base "_law_values" 2 ["_law_deal_here"] (wV)) (Fz : @JE P w K mg base) (FI:Fn P w K mg base "_law_wish" 15 ["_law_deal_here","_law_names_here","_law_rooms_here","_law_pool","_law_sort"] (mo true)) (Fh : @Gk P w K mg base) (Fk : @Hk P w K mg base) (Fb : @Gj P w K mg base) (Fq : @GP P w K mg base) (Fw : @IK P w K mg base) (Fx : @Jk P w K mg base) (Fd : @CD P w K mg base) (Ff : @Ev P w K mg base) (FQ:Fn P w K mg base "is_kept" 12 ["wish","filling"] (JA)) (Fl : @Iu P w K mg base) (Fi : @Hd P w K mg base) (Ft : @Jn P w K mg base):jk P w K mg base CX0 45 f fd ["_law_script"] (zN K):=by
 have nd:=CN.nd;refine L.ok CN (λvs H Q E h=>?_) (λcdv A outer s H vs Q E hr h=>?_) <;> obtain⟨a,cJ,rfl,hS,cr,k⟩:=h
 .rfl
 have hu:=GB hr;refine⟨_,(ag (aC 1 (aq FM (ac (pvM 0) (ac ah af))))
  (ag (aC 2 (aq FH (ac (pvM 1) (ac (aM bp ah (aq Fa (ac (pvM 1) (ac ah af)))) af))))
  (ag (aC 3 (aq FC (ac (pvM 1) af)))
  (ag (aC 4 (aq Fa (ac (pvM 1) (ac ah af))))
  (ag (aC 5 (aq Fz (ac (pvM 1) (ac (pvM 2) (ac (pvM 3) (ac (az gb (cG (ac ah (ac ah af))) (aq Fa (ac (pvM 1) (ac ah af)))) af))))))
  (pM (bg (aJ ft (pvM 4) (cp (ac ah (ac ah af)))) (aj (aC 5 (aq Fz (ac (pvM 1) (ac (pvM 2) (ac (pvM 3) (ac ah af))))))) aL)
  (ag (aC 6 (aq FI (ac (pvM 1) (ac (bL CB (pvM 2) cA (bW ah)) (ac (pvM 5) (ac (pvM 3) (ac (pvM 4) af)))))))
  (ag (aC 7 eh)
  (pM (bx (hV K (fD Fh Fk (ac (pvM 6) af))) (ay 8) (aj (fu hu (pvM 7) (pvM 8) (bC hu (pvM 5) (pvM 8)) rfl)))
  (ag (iy 9 (N:=["_law_k","_law_deal_here","_law_seen"]) (nt:=1) (js:=[1,7]) (aG ["_law_script","_law_deal_here","_law_names_here","_law_pool","_law_sort","_law_rooms_here","_law_wish_here","_law_seen","_law_name","_law_fillings","_law_copied","_law_filling_here","_law_alone","_law_due","_law_at"] (ak qV).names) (fG rfl T.b_range (ac (aM bp ah (aq Fa (ac (pvM 1) (ac ah af)))) af)) (ay 0) aU bv (aq Fb (ac (pvM 1) (ac (pvM 2) af))))
  (ag (aC 10 (aW fL T.b_dict (ac (pvM 7) af)))
  (ag (ci (jw PySem.F.slot_list_extend PySem.F.type_list_extend AG (pvM 9) (ac (fD Fq Fw (ac (pvM 6) (ac (pvM 7) (ac (az gb (pvM 9) ah) af)))) af)))
  (ag (bg (PW.pt (rB (vf (fo (aq Fx (ac (pvM 6) (ac (pvM 7) (ac (pvM 9) (ac ah af))))))) (rB (vf (fo (aq Fx (ac (pvM 6) (ac (pvM 7) (ac (pvM 9) (ac ah af))))))) (qg (aJ (Ej (Nat.lt_of_succ_lt hu)) (pvM 7) (pvM 10)))))) (aj (aw dm)) aL)
  (ag (bx (hV K (pvM 9)) (ay 11) (ag (aC 12 eh)
  (ag (pS (bx (IJ (pvM 7)) (ay 8) (aj (fu hu (pvM 12) (pvM 8) (cp (ac (bC hu (pvM 11) (pvM 8)) af)) rfl))))
  (ag (aC 13 (fD Fd Ff (ac (pvM 6) (ac (pvM 11) af))))
  (aj (bg (PW.pt (rB (aJ vI (aq FQ (ac (pvM 6) (ac (pvM 11) af))) (pvM 13)) (rB (aJ vI (aq Fl (ac (pvM 6) (ac (pvM 12) af))) (pvM 13)) (qg (aJ bz (aq Fi (ac (pvM 6) (ac (pvM 12) af))) (pvM 13)))))) (aj (aw dm)) aL))))))
  (ag (aC 8 (az gb (fD Fh Fk (ac (pvM 6) af)) (aq Fa (ac (pvM 1) (ac (aE tL T.b_len (ac (pvM 7) af)) af)))))
  (ag (bg (aJ bz (aE fA T.b_len (ac (bC hu (pvM 7) (pvM 8)) af)) ah) (aj (aw dm)) aL)
  (ag (aC 14 (aM bp ah (aq Fa (ac (pvM 1) (ac (aM fV (aE fA T.b_len (ac (bC hu (pvM 7) (pvM 8)) af)) ah) af)))))
  (aj (aw (jq (aq Ft (ac (pvM 6) (ac (pvM 7) (ac (pvM 8) (ac (pvM 14) (ac ah af)))))) (cL (aq Ft (ac (pvM 6) (ac (pvM 7) (ac (pvM 8) (ac (pvM 14) (ac ah af))))))))))))))))))))))))))),?_⟩
 refine aK λR Y=>?_
 ctx_has v
 refine⟨a,cJ,0,rfl,hS,cr,∅,∅,λd l H1 hd hl D1 c0=>?_⟩
 subst Y;refine aK λR Y=>?_
 ctx_has v
 refine bm D1 ∅ ∅ λx1 H2 db cZ D2 B2=>⟨_,rfl,?_⟩
 refine⟨d,l,_,rfl,D2,(),(),λca ws H3 cH b4 cX h3 D3 B3=>?_⟩
 have aa:=D2.ne cH;subst Y;refine aK λR Y=>?_
 ctx_has v
 refine⟨d,l,rfl,D3,λpa ns H4 c2 aI bG bF bB D4 B4=>?_⟩
 have ad:=D3.ne c2;have cg:=B4 ca _ aa.1 aa.2 h3;subst Y;refine aK λR Y=>?_
 ctx_has v
 refine bm D4 ∅ ∅ λso H5 cF dd D5 B5=>?_
 have cK:=B5 ca _ aa.1 aa.2 cg;have cz:=B5 pa _ ad.1 ad.2 bB;have bh:2<=ws.length/\ws.length<=13:=()
 clear h3 bB cg D1 D2 D3 D4 B2 B3 B4 B5 hS c0 hd hl;subst Y;refine aK λR Y=>?_
 ctx_has v
 refine⟨∅,λu cU=>pN D5 cU ∅ ∅ rfl λr6 v H6 hv c6 D6 B6 h6=>?_⟩
 obtain⟨m,rfl,m0,m1⟩ : ∃m:Int,v = .int m/\1<=m/\m<=10:=by
  simp only[i6,k_,or_false] at hv;rcases hv with rfl | rfl
  .exact⟨10,rfl,∅,∅⟩
  .exact⟨4,rfl,∅,∅⟩
 have cn:=B6 ca _ aa.1 aa.2 cK;have bQ:=B6 pa _ ad.1 ad.2 cz;ctx_has v h6 c6
 refine⟨d,l,ca,pa,ws,ns,m,rfl,D6,aa,ad,cn,b4.nd,bh.2,bQ,aI,m0,m1,λra kvs rm H7 bX R7 a2 D7 B7=>?_⟩
 have a4:=D6.ne bX;have be:=B7 ca _ aa.1 aa.2 cn;have bb:=B7 pa _ ad.1 ad.2 bQ;subst Y;refine va (λσ H'=>∃ra kvs rm,σ=[-a,-d,-ca,-pa,some (.int so),-ra,none,none,none,none,none,none,none,none,none]/\(ra≠d/\ra≠l)/\RmD H' ra kvs ws rm/\(∀c∈ws,rm c≠[]/\(rm c).length<=10/\(rm c).Sublist ns/\(so=2\/so=6->(rm c).length<=4))/\H' ca*>(ws.map V.str)/\H' pa*>(ns.map V.int)/\aO H' d l) ?_ ?_
 .ctx_has v
  refine⟨∅,λt ht=>?_⟩
  have s8:=ap.upd0 (o:=.tup [.int 2,.int 6]) ht;refine⟨_,ae,rfl,rfl,?_⟩
  rw[show inV (.int so) [.int 2,.int 6]=decide (so∈[2,6]) from cE so [2,6]]
  refine dC (λbN=>?_) (λbN=>?_)
  .refine⟨d,l,ca,pa,ws,ns,4,rfl,D7.same s8,aa,ad,s8 _ _ be,b4.nd,bh.2,s8 _ _ bb,aI,∅,∅,λrb cy c1 H9 c9 R9 a3 D9 B9=>?_⟩
   have cj:=(D7.same s8).ne c9;exact⟨rb,rfl,cj.1,cj.2,cy,c1,R9,λc B=>⟨(a3 c B).1,by have:=(a3 c B).2.1;omega,(a3 c B).2.2,λ_=>by have:=(a3 c B).2.1;omega⟩,B9 ca _ aa.1 aa.2 (s8 _ _ be),B9 pa _ ad.1 ad.2 (s8 _ _ bb),D9⟩
  .exact⟨a4.1,a4.2,kvs,rm,R7.same s8,λc B=>⟨(a2 c B).1,by have:=(a2 c B).2.1;omega,(a2 c B).2.2,λz=>absurd (by simpa using z) bN⟩,s8 _ _ be,s8 _ _ bb,D7.same s8⟩
 clear a4 R7 a2 D7 B7 be bb bX;rintro σ H8 ⟨ra,kvs,rm,rfl,a4,R8,ab,bT,bZ,D8⟩
 refine aK λR Y=>?_
 ctx_has v bT
 intro t ht;rw[show fQ (ws.map V.str) none (some 12)=(ws.take 12).map V.str from lU V.str ws 12]
 have s9:=ap.upd0 (o:=.lst ((ws.take 12).map V.str)) ht;have br:upd H8 t (.lst ((ws.take 12).map V.str)) t*>((ws.take 12).map V.str):=ae
 have nt:=D8.ne ht;generalize upd H8 t (.lst ((ws.take 12).map V.str))=H9 at s9 br ⊢;refine⟨d,l,t,ra,pa,so,ws.take 12,ws,ns,kvs,rm,rfl,⟨D8.same s9,a4,ad,R8.same s9,s9 _ _ bZ,bh.2,aI,bG.imp λh=>(),bF,λc B=>⟨(ab c B).1,(ab c B).2.1,λv hv=>(ab c B).2.2.1.subset hv⟩⟩,nt,br,λc B=>y4 B,b4.nd.sublist (x8 _ _),K5 _ _,(by simp;omega),cF,(by simp;omega),λw X HA hW a6 cx _ DA BA=>?_⟩
 have am : ∀c∈aB X,c∈ws:=λc B=>y4 (A3 a6 c B)
 have aR:=Hw a6;have aQ:(aB X).length<=13:=ja (aR.length_le_of_subset am) bh.2
 have RA:=(R8.same s9).but a4 (D8.same s9) BA;have c5:(1:Nat)<=(aB X).length:=by
  refine K4.mpr λe=>?_
  cases X with
  | pl W=>cases W <;> first | exact a6.1 e | exact a6.1.1 e
  | sa c us W=>cases e
 subst Y;refine aK λR Y=>?_
 ctx_has v
 intro Z bj;have ao:=DA.ne bj;have sB:=ap.upd0 (o:=.dK []) bj;have hB:upd HA Z (.dK []) Z<*[]:=ae
 generalize upd HA Z (.dK [])=HB at sB hB ⊢;have DB:=DA.same sB;have RB:=RA.same sB;have b8:WX HB w X:=eZ hW λa xs e=>sB _ _ e
 subst Y;refine va (λσ H'=>∃ks v8,σ=[-a,-d,-ca,-pa,some (.int so),-ra,-w,-Z,v8,none,none,none,none,none,none]/\WX H' w X/\RmD H' Z ks (aB X) rm/\aO H' d l) ?_ ?_
 .ctx_has v
  refine vh b8 aQ λcc HC cf bq sC=>⟨cc,rfl,_,bq,?_⟩
  refine cu cD (λi σ H'=>∃ks v8,σ=[-a,-d,-ca,-pa,some (.int so),-ra,-w,-Z,v8,none,none,none,none,none,none]/\RmD H' Z ks ((aB X).take i) rm/\aO H' d l/\(∀b o,b≠Z->HC b=some o->H' b=some o))
   ⟨[],_,rfl,⟨sC _ _ hB,λc B=>(by simp at B),rfl,L7⟩,DB.same sC,λb o _ e=>e⟩ (λi σ H' bO=>by obtain⟨_,_,_,_,_,s⟩:=bO;exact(.of (s _ _ (aZ bq (sC _ _ hB) (by intro z;cases z)) bq))) ?_ ?_
  .rintro i x σ HD hi hx ⟨ks,v8,rfl,RD,DD,kD⟩
   obtain⟨c,b9,rfl⟩:=fI hx;have an:=gt b9;obtain⟨ar,aX,aP⟩:=RB.rf c (am c an);have c3:=kD ra _ (au RA.hr bj) (sC _ _ RB.hr);have cM:=kD ar _ (aZ aP hB (by intro z;cases z)) (sC _ _ aP)
   have bU:=RD.hr;have cV:=RD.len;have c7:=p9 i (aB X);have aD:(aB X).take (i+1)=(aB X).take i++[c]:=by rw[j6,b9];rfl
   have kq : ∀b vs,HD b>>vs->upd HD Z (.dK (bu ks (g6 c) (.ref ar))) b>>vs:=λb vs e=>by rw[ai (aZ e bU (by intro z;cases z))];exact e
   ctx_has v c3 aX bU
   have aH:=RD.rf.putG (c:=c) (ns:=rm c) (cs':=(aB X).take (i+1)) kq (kq _ _ cM) λx hx=>by
    rw[aD] at hx;rcases j9.mp hx with z | z
    .exact .inr z
    .exact .inl (fx.mp z)
   rw[vE rfl] at aH;exact⟨aF (),_,⟨ae,aH,by rw[aD];exact mw RD.ks (ky aR b9),aR.sublist (x8 _ _)⟩,DD.put ao.1 ao.2,λb o hb e=>by rw[ai hb];exact kD b o hb e⟩
  .rintro σ HD ⟨ks,v8,rfl,RD,DD,kD⟩
   rw[d_,la] at RD;exact⟨ks,v8,rfl,eZ b8 λb xs e=>kD b _ (aZ e hB (by intro z;cases z)) (sC _ _ e),RD,DD⟩
 rintro σ HC ⟨ks,v8,rfl,bP,RC,DC⟩
 have A:ix HC w Z X ks rm:=⟨⟨bP,RC.hr,RC.rf,IR a6,λc B=>⟨(ab c (am c B)).1,(ab c (am c B)).2.1,bG.sublist (ab c (am c B)).2.2.1⟩,⟨ns,λc B v hv=>(ab c (am c B)).2.2.1.subset hv,()⟩,cx rm λz c B=>(ab c (am c B)).2.2.2 z⟩,RC,aQ,λc B v hv=>bF v ((ab c (am c B)).2.2.1.subset hv)⟩
 have bt : ∀c∈aB X,rm c≠[]/\(rm c).length<=10:=λc B=>⟨(ab c (am c B)).1,(ab c (am c B)).2.1⟩
 clear RB b8 DB sB hB RA BA DA hW RC bP R8 bT bZ s9 br ht nt bj;refine aK λR Y=>?_
 ctx_has v
 refine bm DC ∅ ∅ λnf HD df dg DD BD=>⟨_,rfl,(),(),λfl aS=>?_⟩
 have a8:=DD.ne aS;have AD:=A.but ao DC BD;refine eD dJ (λj ys H'=>ys.length=j/\kP H' ys (aB X) rm/\(∀x∈ys,∃f,x = .ref f/\f≠d/\f≠l/\f≠fl)/\aO H' d l/\But d l HD H'/\H' fl*>ys) ⟨rfl,λx hx=>(by simp at hx),λx hx=>(by simp at hx),DD.new aS,(But.refl HD).new aS,ae⟩ (λ_ _ _ _=>m_) ?_ ?_
 .rintro j x ys HE hj hx ⟨b6,bk,bf,DE,BE,hE⟩
  rw[bi] at hj;have AE:=AD.but ao DD BE;ctx_has v
  refine⟨d,l,Z,ks,aB X,rm,rfl,DE,ao,AE.R,aQ,bt,λf kf g HF ff F bn DF BF=>?_⟩
  have cw:=DE.ne ff;have aV:=BF fl _ a8.1 a8.2 hE;have cb:f≠fl:=λe=>by rw[e,hE] at ff;cases ff
  refine⟨aV,aF (),by simp;omega,λy hy=>?_,λy hy=>?_,DF.put a8.1 a8.2,(BE.trans BF).put aS,ae⟩
  .rcases j9.mp hy with z | z
   .obtain⟨f1,k1,g1,rfl,F1,o1⟩:=bk y z
    obtain⟨f2,e2,n1,n2,n3⟩:=bf _ z;cases e2;exact⟨f1,k1,g1,rfl,⟨by rw[ai n3];exact BF _ _ n1 n2 F1.hf,F1.vl,F1.ks⟩,o1⟩
   .rw[fx.mp z]
    exact⟨f,kf,g,rfl,⟨by rw[ai cb];exact F.hf,F.vl,F.ks⟩,bn⟩
  .rcases j9.mp hy with z | z
   .exact bf y z
   .rw[fx.mp z];exact⟨f,rfl,cw.1,cw.2,cb⟩
 rintro ys HE ⟨b6,bk,bf,DE,BE,hE⟩
 rw[bi] at b6;have AE:=AD.but ao DD BE;have bJ:1<=ys.length/\ys.length<=5:=()
 clear AD A DC DD BD BE aS bf;have cm:=AE.R.hr;subst Y;refine aK λR Y=>?_
 ctx_has v cm
 intro co ck;have sF:=ap.upd0 (o:=.dK ks) ck;have bo:upd HE co (.dK ks) co<*ks:=ae
 generalize upd HE co (.dK ks)=HF at sF bo ⊢;have AF:=AE.same sF;have aT:=bk.same sF;have aV:=sF _ _ hE;have DF:=DE.same sF;obtain⟨y0,bs⟩ : ∃y0,ys[0]? = some y0:=⟨ys[0]'(),ki ()⟩
 obtain⟨f0,da,g0,rfl,F0,o0⟩:=aT y0 (gt bs);have e0:=bc bs;subst Y;refine aK λR Y=>?_
 ctx_has v aV
 refine⟨_,e0,?_⟩
 refine Kh AF.M.ws a6 ⟨AF.R,F0,o0,aQ,λc B=>B⟩ λp xs HG fp bR bS cQ sG=>?_
 have a5:=sG _ _ aV;refine⟨p,rfl,_,a5,_,bR,y3 (aF ()),?_⟩
 have AH:=(AF.same sG).upl (o:=.lst (ys++xs)) a5;have aA:kP (upd HG fl (.lst (ys++xs))) (ys++xs) (aB X) rm:=λx hx=>(j9.mp hx).elim (((aT.same sG).upl a5) x) ((bS.upl a5) x)
 have DH:=(DF.same sG).put (o:=.lst (ys++xs)) a8.1 a8.2;have a9:upd HG fl (.lst (ys++xs)) fl*>(ys++xs):=ae
 have b3:upd HG fl (.lst (ys++xs)) co<*ks:=by rw[ai (aZ (sG _ _ bo) a5 (by intro z;cases z))];exact sG _ _ bo
 have cP:(ys++xs).length<=8:=by rw[q_];omega
 generalize upd HG fl (.lst (ys++xs))=HH at AH aA DH a9 b3 ⊢;generalize ys++xs=zs at aA a9 cP ⊢;clear a5 bR bS cQ sG aV bo aT bk hE e0 bs F0 o0 AF AE DF DE sF ck cm b6 bJ;subst Y;refine aK λR Y=>?_
 ctx_has v
 refine⟨w,Z,fl,X,ks,rm,zs,true,rfl,AH,a9,aA,(),λHI sI=>?_⟩
 ctx_has v
 refine⟨w,Z,fl,X,ks,rm,zs,false,rfl,AH.same sI,sI _ _ a9,aA.same sI,(),λHJ sJ=>⟨true,rfl,?_⟩⟩
 rw[if_neg ∅]
 have a7:=sI.trans sJ;have AJ:=AH.same a7;refine⟨ks,AJ.R.hr,a7 _ _ b3,AJ.R.pl,?_⟩
 have cC:=aA.same a7;have DJ:=DH.same a7;have bD:=a7 _ _ a9;clear AH aA DH a9 b3 sI sJ a7;subst Y;refine aK λR Y=>?_
 ctx_has v bD
 refine cu cD (λi σ H'=>∃v8 bA b7 bd,σ=[-a,-d,-ca,-pa,some (.int so),-ra,-w,-Z,v8,-fl,-co,bA,b7,bd,none]/\ap HJ H') ⟨_,_,_,_,rfl,ap.refl _⟩ (λi σ H' bV=>by obtain⟨_,_,_,_,_,s⟩:=bV;exact(.of (s _ _ bD))) ?_ ?_
 .rintro i x σ HK hi hx ⟨c4,bA,b7,bd,rfl,sK⟩
  obtain⟨f,kf,g,rfl,F,bn⟩:=(cC.same sK) x (gt hx);have AK:=AJ.same sK;simp only[eR];refine aK λR2 aN=>?_
  ctx_has v
  intro al aY;have sL:=ap.upd0 (o:=.dK []) aY;have bE:upd HK al (.dK []) al<*[]:=ae
  generalize upd HK al (.dK [])=HL at sL bE ⊢;have AL:=AK.same sL;have FL:=F.same sL;have b5:Z≠al:=au AK.R.hr aY
  have c8:f≠Z:=λe=>by
   obtain⟨c,B⟩:=List.exists_mem_of_length_pos c5;have h1:=F.hf;rw[e,AK.R.hr] at h1;cases h1;have h2:=F.vl c B;obtain⟨q,h3,_⟩:=AK.R.rf c B;rw[h3] at h2;cases h2
  have dc:f≠al:=au F.hf aY
  subst aN;refine aK λR2 aN=>?_
  ctx_has v zw zx iD
  refine⟨Z,ks,AL.R.hr,ks,AL.R.hr,λo=>?_⟩
  refine cu Dh (λj σ H'=>∃ka v8,σ=[-a,-d,-ca,-pa,some (.int so),-ra,-w,-Z,v8,-fl,-co,-f,-al,bd,none]/\RmD H' al ka ((aB X).take j) (λc=>[g c])/\H' Z=some (.frz o (.dK ks))/\∀b u,b≠Z->HK b=some u->H' b=some u)
   ⟨[],_,rfl,⟨by rw[ai b5.symm];exact bE,λc B=>(by simp at B),rfl,L7⟩,ae,λb u hb e=>by rw[ai hb];exact sL _ _ e⟩ (λj σ H' bH=>by obtain⟨_,_,_,_,h,_⟩:=bH;exact(h)) ?_ ?_
  .rintro j x σ HM hj hx ⟨ka,bK,rfl,RM,ax,kM⟩
   obtain⟨⟨y1,y2⟩,hy,rfl⟩:=fI hx;obtain⟨c,B,rfl,e2⟩:=xi AK.R.ks AK.R.nd hy;have an:=gt B;have cT:=kM f _ c8 F.hf;have hv:=F.vl c an;have cS:=RM.hr;have cV:=RM.len;have c7:=p9 j (aB X);have aD:(aB X).take (j+1)=(aB X).take j++[c]:=by rw[j6,B];rfl
   have cN:kV (g6 c)=V.str c:=rfl
   ctx_has v cN cT hv cS
   refine⟨∅,λt ht=>?_⟩
   have st:=ap.upd0 (o:=.tup [.int (g c)]) ht;have ce:upd HM t (.tup [.int (g c)]) t>>([g c].map V.int):=ae
   have RN:=RM.same st;have bI:=st _ _ ax;have kN : ∀b u,b≠Z->HK b=some u->upd HM t (.tup [.int (g c)]) b=some u:=λb u hb e=>st _ _ (kM b u hb e)
   generalize upd HM t (.tup [.int (g c)])=HN at ce RN bI kN ⊢;have kq : ∀b vs,HN b>>vs->upd HN al (.dK (bu ka (g6 c) (.ref t))) b>>vs:=λb vs e=>by rw[ai (aZ e RN.hr (by intro z;cases z))];exact e
   have aH:=RN.rf.putG (c:=c) (ns:=[g c]) (cs':=(aB X).take (j+1)) kq (kq _ _ ce) λx hx=>by
    rw[aD] at hx;rcases j9.mp hx with z | z
    .exact .inr z
    .exact .inl (fx.mp z)
   rw[vE rfl] at aH;exact⟨ka,RN.hr,aF (),_,⟨ae,aH,by rw[aD];exact mw RN.ks (ky aR B),aR.sublist (x8 _ _)⟩,by rw[ai b5];exact bI,λb u hb e=>by rw[ai (au e aY)];exact kN b u hb e⟩
  rintro σ HM ⟨ka,bK,rfl,RM,ax,kM⟩
  rw[d_,AK.R.len,la] at RM;refine⟨⟨o,ax⟩,?_⟩
  have sM:ap HK (upd HM Z (.dK ks)):=λb u e=>by
   by_cases hb:b=Z
   .rw[hb,ae,<- e,hb,AK.R.hr]
   .rw[ai hb];exact kM b u hb e
  have cv:RmD (upd HM Z (.dK ks)) al ka (aB X) (λc=>[g c]):=⟨by rw[ai b5.symm];exact RM.hr,RM.rf.same λb vs e=>(by rw[ai (aZ e ax (by intro z;cases z))];exact e),RM.ks,RM.nd⟩
  generalize upd HM Z (.dK ks)=HN at sM cv ⊢;have AN:=AK.same sM;have FN:=(F.same sM).at21 AN bn;have W1:=AK.M.less sM cv λc B=>⟨by simp,List.singleton_sublist.mpr (bn c B)⟩
  have one : ∀b0:Bool,(∃g',okF (λc=>[g c]) (aB X) g'/\cq X g'=b0)↔cq X g=b0:=λb0=>by
   constructor
   .rintro⟨g',h1,h2⟩
    rw[<- h2];exact pd λc B=>(fx.mp (h1 c B)).symm
   .exact λh=>⟨g,λc B=>fx.mpr rfl,h⟩
  subst aN;refine aK λR2 aN=>?_
  ctx_has v
  refine yF AN.M.ws (uM AN.M.ok) FN λcR sO=>?_
  subst aN;ctx_has v
  refine⟨w,f,X,g,rfl,(AN.same sO).M.ws,AN.M.ok,FN.same sO,λHP sP=>⟨rfl,?_⟩⟩
  rw[if_neg (by simp)]
  refine⟨w,al,X,ka,_,rfl,(W1.same sO).same sP,λb1 HQ cI sQ=>⟨rfl,?_⟩⟩
  rw[show b1=cq X g from o7.mpr (by rw[cI,one]),if_neg (by simp)]
  refine⟨w,al,X,ka,_,rfl,((W1.same sO).same sP).same sQ,λb2 HR bw sR=>⟨rfl,?_⟩⟩
  rw[if_neg (λz=>(by
   have z:b2=cq X g:=V.bl.inj z
   rw[one] at bw;cases e:cq X g <;> rw[e] at z bw <;> simp[z] at bw))]
  exact((((sK.trans sM).trans sO).trans sP).trans sQ).trans sR
 rintro σ HK ⟨c4,bA,b7,bd,rfl,sK⟩
 have AK:=AJ.same sK;have DK:=DJ.same sK;have bY:=AK.R.hr;subst Y;dsimp only;refine aK λR Y=>?_
 ctx_has v bY
 refine vh AK.M.ws aQ λcc HL cf cO sL=>⟨ks,sL _ _ bY,?_⟩
 rw[AK.R.len];have bM:=DK.ne cf;refine bm (DK.same sL) () () λn HM n0 n1 DM BM=>?_
 obtain⟨c,an,cB⟩:=ut (xs:=aB X) n0 n1 V.str;refine⟨cc,rfl,n,rfl,_,BM cc _ bM.1 bM.2 cO,_,cB,?_⟩
 have AM:=(AK.same sL).but ao (DK.same sL) BM;obtain⟨ar,aX,aP⟩:=AM.R.rf c an;have ax:=AM.R.hr;have de:1<=(rm c).length:=K4.mpr (bt c an).1
 have cW:=(bt c an).2;subst Y;refine aK λR Y=>?_
 ctx_has v ax aX aP
 refine dC (λ_=>k HM) (λh1=>?_)
 rw[d_] at h1;have h2:2<=(rm c).length:=by
  rcases Nat.lt_or_ge (rm c).length 2 with z | z
  .exact absurd (by rw[show(rm c).length=1 by omega];rfl) h1
  .exact z
 subst Y;refine aK λR Y=>?_
 ctx_has v ax aX aP
 rw[d_];refine bm DM () () λcY HN a0 a1 DN BN=>?_
 obtain⟨ba,rfl⟩:=u6 a0;have AN:=AM.but ao DM BN;subst Y;ctx_has v
 rw[show 1+(ba:Int)=((1+ba:Nat):Int) by omega]
 refine⟨w,Z,X,ks,rm,c,1+ba,true,rfl,AN,an,(),(),λcR sO=>⟨true,rfl,?_⟩⟩
 rw[if_pos rfl];exact⟨w,Z,X,ks,rm,c,1+ba,false,rfl,AN.same sO,an,(),(),λHP _=>k HP⟩
theorem ft6 {f0:Addr} {f1:Addr} {L:Addr} {B:Addr} {Z:Addr} {Y:Addr}
  (F0:Fn P w K mg base "unlike_kept" 2 ["wish","filling"] (ml "unlike")) (m0:mg "unlike_kept" = some (.ref f0)) (n0:nsIn K a "unlike" = some (-f0)) (F1:Fn P w K mg base "many_kept" 2 ["wish","filling"] (ml "many")) (m1:mg "many_kept" = some (.ref f1)) (n1:nsIn K a "many" = some (-f1)) (F2:Fn P w K mg base "sum_kept" 2 ["wish","filling"] (ml "sum")) (m2:mg "sum_kept" = some (.ref L)) (n2:nsIn K a "sum" = some (-L)) (F3:Fn P w K mg base "table_kept" 2 ["wish","filling"] (ml "table")) (m3:mg "table_kept" = some (.ref B)) (n3:nsIn K a "table" = some (-B)) (F4:Fn P w K mg base "way_kept" 2 ["wish","filling"] (ml "way")) (m4:mg "way_kept" = some (.ref Z)) (n4:nsIn K a "way" = some (-Z)) (F5:Fn P w K mg base "behind_kept" 2 ["wish","filling"] (ml "behind")) (m5:mg "behind_kept" = some (.ref Y)) (n5:nsIn K a "behind" = some (-Y)) :
  ∀y∈qG,FnT P w K mg base a y 3 ["wish","filling"] (ml y):=by
 intro y F;simp only[qG,i6,k_,or_false] at F;rcases F with rfl | rfl | rfl | rfl | rfl | rfl
 .exact nS F0 m0 n0 ∅ λ_ _ _ _ h=>h
 .exact nS F1 m1 n1 ∅ λ_ _ _ _ h=>h
 .exact nS F2 m2 n2 ∅ λ_ _ _ _ h=>h
 .exact nS F3 m3 n3 ∅ λ_ _ _ _ h=>h
 .exact nS F4 m4 n4 ∅ λ_ _ _ _ h=>h
 .exact nS F5 m5 n5 ∅ λ_ _ _ _ h=>h
abbrev AT (K:fy) (x:Str) (f:Addr):Prop:=nsIn K md x=some (some (i8 f))
abbrev LK (K:fy) (f:Addr) (x:Str) (st:Stmt) (oc:Value) (od:Option Addr) (sl:Array (Option Value)) (kV F pm:Value) (B:Option Addr) (cd ct:Value):Prop:=K.lookup f=some ⟨oc,od,.func (fnOf x x (cQ st) (cz st) (ak st) .none kV F pm B cd ct),sl⟩
abbrev CK (K:fy) (cd:Value) (x:Str):Prop:=codeIn K cd x=true
abbrev KK (K:fy) (f:Addr):Prop:=Lj K (i8 f)=true
abbrev NB (K:fy) (x:Str):Prop:=nsIn K md x=some none
theorem IQ {us:List α} (h:us.length=1) : ∃u0,us=[u0]:=by
 match us,h with
 | [u0],_=>exact⟨u0,rfl⟩
theorem IU {us:List α} (h:us.length=2) : ∃u0 B,us=[u0,B]:=by
 match us,h with
 | [u0,B],_=>exact⟨u0,B,rfl⟩
theorem JJ {us:List α} (h:us.length=3) : ∃u0 F B,us=[u0,F,B]:=by
 match us,h with
 | [u0,F,B],_=>exact⟨u0,F,B,rfl⟩
theorem ID {us:List α} (h:us.length=4) : ∃u0 L F B,us=[u0,L,F,B]:=by
 match us,h with
 | [u0,L,F,B],_=>exact⟨u0,L,F,B,rfl⟩
theorem IS {us:List α} (h:us.length=5) : ∃u0 L F B Y,us=[u0,L,F,B,Y]:=by
 match us,h with
 | [u0,L,F,B,Y],_=>exact⟨u0,L,F,B,Y,rfl⟩
local macro_rules | `(tactic| ctx_has b1) => `(tactic| exact λ_ _ _ _ _ _ us hl => by obtain ⟨u0, ee⟩ := IQ hl; subst ee; rfl)
local macro_rules | `(tactic| ctx_has b2) => `(tactic| exact λ_ _ _ _ _ _ us hl => by obtain ⟨u0, u1, ee⟩ := IU hl; subst ee; rfl)
local macro_rules | `(tactic| ctx_has b3) => `(tactic| exact λ_ _ _ _ _ _ us hl => by obtain ⟨u0, u1, u2, ee⟩ := JJ hl; subst ee; rfl)
local macro_rules | `(tactic| ctx_has b4) => `(tactic| exact λ_ _ _ _ _ _ us hl => by obtain ⟨u0, u1, u2, u3, ee⟩ := ID hl; subst ee; rfl)
local macro_rules | `(tactic| ctx_has b5) => `(tactic| exact λ_ _ _ _ _ _ us hl => by obtain ⟨u0, u1, u2, u3, u4, ee⟩ := IS hl; subst ee; rfl)
local macro_rules | `(tactic| ctx_has bb) => `(tactic| first | ctx_has b1 | ctx_has b2 | ctx_has b3 | ctx_has b4 | ctx_has b5)
def DF (K:fy) (x:Str) (st:Stmt) (f:Addr):Prop:=∃(oc:Value) (od B:Option Addr) (sl:Array (Option Value)) (kV F pm cd ct:Value),AT K x f/\LK K f x st oc od sl kV F pm B cd ct/\CK K cd x/\KK K f
theorem dfI {B:Option Addr} {kV F:Value} (a:nsIn K md x=some (some (i8 f))) (l:K.lookup f=some ⟨oc,od,.func (fnOf x x (cQ st) (cz st) (ak st) .none kV F pm B cd ct),sl⟩) (c:codeIn K cd x=true) (k:Lj K (i8 f)=true):DF K x st f:=⟨_,_,_,_,_,_,_,_,_,a,l,c,k⟩
theorem dfM (X:K.In h) (G:h.Ns md mg) (d:DF K x st f):mg x=some (.ref f):=by
 obtain⟨_,_,_,_,_,_,_,_,_,a,_⟩:=d;exact mg_of X G a
theorem dfL (X:K.In h) (G:h.Ns md mg) (d:DF K x st f) (F : ∀(kV doc pm:Value) (B:Option Addr) (cdv ct:Value) (us:List Value),us.length=ps.length->bindArgs (fnOf x x (cQ st) (cz st) (ak st) .none kV doc pm B cdv ct) ⟨us,[]⟩=pure (ps.zip us):=by ctx_has bb):FnL K mg x st ps:=by
 obtain⟨_,_,_,_,_,_,_,_,_,a,l,c,k⟩:=d;exact Ik X G a l c k F
def DM (K:fy) (R:Addr->Prop) (x q:Str) (st:Stmt):Prop:=∃(f:Addr) (oc:Value) (od B:Option Addr) (sl:Array (Option Value)) (kV F pm cd ct:Value),R f/\K.lookup f=some ⟨oc,od,.func (fnOf x q (cQ st) (cz st) (ak st) .none kV F pm B cd ct),sl⟩/\codeIn K cd q=true/\Lj K (i8 f)=true
theorem dmI {R:Addr->Prop} {q:Str} {B:Option Addr} {kV F:Value} (r:R f) (l:K.lookup f=some ⟨oc,od,.func (fnOf x q (cQ st) (cz st) (ak st) .none kV F pm B cd ct),sl⟩) (c:codeIn K cd q=true) (k:Lj K (i8 f)=true):DM K R x q st:=⟨_,_,_,_,_,_,_,_,_,_,r,l,c,k⟩
theorem dmL {R:Addr->Prop} {q:Str} (d:DM K R x q st) (F : ∀(kV doc pm:Value) (B:Option Addr) (cdv ct:Value) (us:List Value),us.length=ps.length->bindArgs (fnOf x q (cQ st) (cz st) (ak st) .none kV doc pm B cdv ct) ⟨us,[]⟩=pure (ps.zip us):=by ctx_has bb):ck K R x q st ps:=by
 obtain⟨_,_,_,_,_,_,_,_,_,_,r,l,c,k⟩:=d;exact El r l c k F
theorem Ha {l:PySem.W.OpenLaw} (X:K.In h) (G:h.Ns md mg) (ea:mg "law" = some (.ref fa))
  {bL:Addr}
  {ad:Addr}
  {Z:Addr}
  {ai:Addr}
  {L:Addr}
  {an:Addr}
  {Y:Addr}
  {aa:Addr}
  {B:Addr} {aO:Array DictEntry} {b4:Nat}
  {cj:Addr} {cU cc cf ce bV ci:Value} {cY cg:Option Addr} {cB:Array (Option Value)}
  {f0 f1 f2 f3 f4 f5 f6 f7 f8 f9 dr cL dq cE dy co er ek ew e5 eG dM ef dW eg eb dI eo dO dU ev dv ep e0 ee dQ e4 dT eh:Addr}
  (b6:nsIn K md "Wish" = some (-bL))
  (bf:nsIn K md "Unlike" = some (-ad))
  (bG:Cls K ad)
  (aY:aP K ad "wish")
  (aA:aP K ad "cells")
  (bE:nsIn K md "Many" = some (-Z))
  (bS:Cls K Z)
  (bo:aP K Z "wish")
  (bc:aP K Z "among")
  (bm:aP K Z "cells")
  (b2:aP K Z "low")
  (br:aP K Z "high")
  (bM:nsIn K md "Sum" = some (-ai))
  (ca:Cls K ai)
  (b3:aP K ai "wish")
  (bs:aP K ai "terms")
  (b8:aP K ai "low")
  (bz:aP K ai "high")
  (bw:nsIn K md "Table" = some (-L))
  (bO:Cls K L)
  (bd:aP K L "wish")
  (aT:aP K L "cells")
  (bg:aP K L "rows")
  (bN:nsIn K md "Way" = some (-an))
  (bY:Cls K an)
  (b0:aP K an "wish")
  (bn:aP K an "cells")
  (b1:aP K an "ends")
  (bp:aP K an "leads")
  (bh:nsIn K md "Behind" = some (-Y))
  (bK:Cls K Y)
  (aQ:aP K Y "wish")
  (aH:aP K Y "cells")
  (bi:aP K Y "gap")
  (bA:nsIn K md "Same" = some (-aa))
  (bW:Cls K aa)
  (bv:aP K aa "wish")
  (bu:aP K aa "cell")
  (bk:aP K aa "among")
  (be:aP K aa "inner")
  (d0:DF K "_law_draw" jN f0)
  (d1:DF K "_law_deal" gZ f1)
  (d2:DF K "_law_names" gq f2)
  (d3:DF K "_law_some" jC f3)
  (d4:DF K "are_unlike" jl f4)
  (d5:DF K "is_between" iP f5)
  (d6:DF K "sum_of" lR f6)
  (d7:DF K "values_at" ic f7)
  (d8:DF K "unlike_kept" io f8)
  (d9:DF K "many_kept" gV f9)
  (dd:DF K "sum_kept" kX dr)
  (c2:DF K "table_kept" iJ cL)
  (cr:DF K "way_kept" kZ dq)
  (cq:DF K "behind_kept" fO cE)
  (e8:DF K "wish_kept" gW dy)
  (ey:DF K "same_kept" jY co)
  (et:DF K "_law_kept" cm er)
  (ba:DM K (gJ K bL "__init__") "__init__" "Wish.__init__" bD)
  (cP:DM K (Mk K Y) "__init__" "Behind.__init__" fh)
  (cC:DM K (aD K Y "may_keep") "may_keep" "Behind.may_keep" di)
  (cD:DM K (aD K Y "may_break") "may_break" "Behind.may_break" cR)
  (cI:DM K (Mk K L) "__init__" "Table.__init__" fz)
  (da:DM K (aD K L "has_room") "has_room" "Table.has_room" dH)
  (cV:DM K (aD K L "rows_in") "rows_in" "Table.rows_in" eC)
  (c0:DM K (aD K L "may_keep") "may_keep" "Table.may_keep" fK)
  (df:DM K (aD K L "may_break") "may_break" "Table.may_break" fc)
  (dp:DM K (Mk K an) "__init__" "Way.__init__" gG)
  (cO:DM K (aD K an "states_behind") "states_behind" "Way.states_behind" dS)
  (dn:DM K (aD K an "last_states") "last_states" "Way.last_states" fk)
  (cZ:DM K (aD K an "may_keep") "may_keep" "Way.may_keep" eV)
  (dg:DM K (aD K an "may_break") "may_break" "Way.may_break" eB)
  (c4:DM K (Mk K ai) "__init__" "Sum.__init__" gS)
  (dz:DF K "parts_of" iW ek)
  (dE:DF K "spans_of" lG ew)
  (cH:DM K (aD K ai "may_end_well") "may_end_well" "Sum.may_end_well" eM)
  (dm:DM K (aD K ai "sums_with") "sums_with" "Sum.sums_with" gf)
  (dh:DM K (aD K ai "sums_kept") "sums_kept" "Sum.sums_kept" fT)
  (c5:DM K (aD K ai "may_keep") "may_keep" "Sum.may_keep" gR)
  (cx:DM K (aD K ai "may_break") "may_break" "Sum.may_break" fW)
  (dk:DM K (Mk K ad) "__init__" "Unlike.__init__" fj)
  (dl:DM K (aD K ad "may_break") "may_break" "Unlike.may_break" eO)
  (e9:DF K "finds_value" db e5)
  (cA:DM K (aD K ad "may_keep") "may_keep" "Unlike.may_keep" eT)
  (cp:DM K (Mk K Z) "__init__" "Many.__init__" fU)
  (c6:DM K (aD K Z "fewest") "fewest" "Many.fewest" cX)
  (cn:DM K (aD K Z "most") "most" "Many.most" eS)
  (c3:DM K (aD K Z "may_keep") "may_keep" "Many.may_keep" fZ)
  (dc:DM K (aD K Z "may_break") "may_break" "Many.may_break" fw)
  (ei:DF K "plain_wish_of" fS eG)
  (cS:DM K (Mk K aa) "__init__" "Same.__init__" ga)
  (c9:DM K (aD K aa "may_be_among") "may_be_among" "Same.may_be_among" cK)
  (cN:DM K (aD K aa "may_be_none_of_them") "may_be_none_of_them" "Same.may_be_none_of_them" bR)
  (cv:DM K (aD K aa "may_keep") "may_keep" "Same.may_keep" gc)
  (cJ:DM K (aD K aa "may_break") "may_break" "Same.may_break" fv)
  (dV:DF K "wish_of" nO dM)
  (c1:DM K (aD K ad "kept") "kept" "Unlike.kept" im)
  (de:DM K (aD K Z "kept") "kept" "Many.kept" jG)
  (cM:DM K (aD K ai "kept") "kept" "Sum.kept" lu)
  (c8:DM K (aD K L "kept") "kept" "Table.kept" iM)
  (cy:DM K (aD K an "kept") "kept" "Way.kept" lF)
  (cG:DM K (aD K Y "kept") "kept" "Behind.kept" ik)
  (cF:DM K (aD K aa "kept") "kept" "Same.kept" jH)
  (em:DF K "is_kept" nU ef)
  (el:DF K "may_be_kept" iq dW)
  (eu:DF K "may_be_broken" fY eg)
  (dD:DF K "_law_values" fN eb)
  (ed:DF K "_law_rooms" gm dI)
  (dC:DF K "_law_filling" gO eo)
  (e6:DF K "_law_sum" jn dO)
  (dL:DF K "_law_way" gz dU)
  (eE:DF K "_law_table" eX ev)
  (du:DF K "_law_wish" hZ dv)
  (eq:DF K "_law_cells" cT ep)
  (eF:DF K "_law_may" lI e0)
  (dt:DF K "_law_only" ku ee)
  (dX:DF K "_law_led" lB dQ)
  (ec:DF K "_law_right" gl e4)
  (en:DF K "_law_parted" il dT)
  (ez:DF K "_law_by_rows" cw eh)
  (dG:AT K "law" cj) (dP:LK K cj "law" qV cU cY cB cc cf ce cg bV ci) (e7:CK K bV "law") (dA:KK K cj)
  (z0:NB K "len")
  (z1:NB K "max")
  (z2:NB K "min")
  (z3:NB K "sum")
  (z4:NB K "list")
  (z5:NB K "reversed")
  (z6:NB K "range")
  (z7:NB K "isinstance")
  (z8:NB K "all")
  (z9:NB K "any")
  (dN:NB K "sorted")
  (eD:NB K "dict")
  (dR:NB K "tuple")
  (dF:NB K "bool")
  (dB:NB K "zip")
  (ej:NB K "set")
  (dY:NB K "int")
  (dJ:NB K "enumerate")
  (e3:NB K "str")
  (aM:nsIn K md "KEEPERS" = some (-B))
  (b9:K.lookup B=some ⟨.type "dict",none,.dict aO b4,#[]⟩)
  (bB:PySem.W.KeysLit w.params aO.toList)
  (a2:nsIn K B "unlike" = some (-f8))
  (aB:nsIn K B "many" = some (-f9))
  (aZ:nsIn K B "sum" = some (-dr))
  (a6:nsIn K B "table" = some (-cL))
  (aW:nsIn K B "way" = some (-dq))
  (a4:nsIn K B "behind" = some (-cE))
  (bP:nsIn K B "same" = some (-co)) :
  ∃fd:FuncData,(∀(s:Shared) (v:Value),BindsTo s fd ⟨[v],[]⟩ [("_law_script",v)])/\∀base:Heap,K.In base->base.Ns md mg->jk l.prog w K mg base CX0 45 fa fd ["_law_script"] (zN K):=by
 have e:=ea.symm.trans (mg_of X G dG);cases e;have bT:=eY (mg_of X G b6);subst bT;have bI:=eY (mg_of X G bf);subst bI;have bX:=eY (mg_of X G bE);subst bX;have bZ:=eY (mg_of X G bM);subst bZ;have bQ:=eY (mg_of X G bw);subst bQ;have cb:=eY (mg_of X G bN);subst cb;have bF:=eY (mg_of X G bh);subst bF;have bU:=eY (mg_of X G bA);subst bU;have b7:=eY (mg_of X G aM);subst b7;have T:Txt w K mg:=⟨tj X G z0,tj X G z1,tj X G z2,tj X G z3,tj X G z4,tj X G z5,tj X G z6,tj X G z7,tj X G z8,tj X G z9,tj X G dN,tj X G eD,tj X G dR,tj X G dF,tj X G dB,tj X G ej,tj X G dY,tj X G dJ,tj X G e3,mg_of X G bf,bG,aY,aA,mg_of X G bE,bS,bo,bc,bm,b2,br,mg_of X G bM,ca,b3,bs,b8,bz,mg_of X G bw,bO,bd,aT,bg,mg_of X G bN,bY,b0,bn,b1,bp,mg_of X G bh,bK,aQ,aH,bi,mg_of X G bA,bW,bv,bu,bk,be,mg_of X G b6,mg_of X G aM,⟨_,_,b9,bB⟩⟩
 have dw:FnL K mg "wish_kept" gW ["wish","filling"]:=dfL X G e8
 have c7:FnL K mg "_law_kept" cm ["_law_wish_here","_law_filling_here"]:=dfL X G et
 have dZ:FnL K mg "finds_value" db ["cell","rooms","holders","tried"]:=dfL X G e9
 have ck:FnL K mg "_law_wish" hZ ["_law_deal_here","_law_names_here","_law_rooms_here","_law_pool","_law_sort"]:=dfL X G du
 have cu:FnL K mg "_law_cells" cT ["_law_wish_here"]:=dfL X G eq
 have cW:FnL K mg "_law_by_rows" cw ["_law_wish_here","_law_rooms_here","_law_filling_here"]:=dfL X G ez
 refine⟨fnOf "law" "law" (cQ qV) (cz qV) (ak qV) .none cc cf ce cg bV ci,λs v=>.of_eq rfl,λbase _ _=>?_⟩
 have Fa:=vz (P:=l.prog) (w:=w) (base:=base) T (dfL X G d0);have FM:=ve (P:=l.prog) (w:=w) (base:=base) T (dfL X G d1);have FH:=sj (P:=l.prog) (w:=w) (base:=base) T (dfL X G d2) Fa;have Fp:=vg (P:=l.prog) (w:=w) (base:=base) T (dfL X G d3) Fa;have FJ:=rX (P:=l.prog) (w:=w) (base:=base) T (dfL X G d4);have Fe:=rS (P:=l.prog) (w:=w) (base:=base) T (dfL X G d5);have FR:=AR (P:=l.prog) (w:=w) (base:=base) T (dfL X G d6);have Fc:=uP (P:=l.prog) (w:=w) (base:=base) T (dfL X G d7);have Fv:=qS (P:=l.prog) (w:=w) (base:=base) T (dfL X G d8) FJ Fc;have FB:=uB (P:=l.prog) (w:=w) (base:=base) T (dfL X G d9) Fe;have FD:=wT (P:=l.prog) (w:=w) (base:=base) T (dfL X G dd) Fe FR;have Fy:=sE (P:=l.prog) (w:=w) (base:=base) T (dfL X G c2) Fc;have FE:=xg (P:=l.prog) (w:=w) (base:=base) T (dfL X G cr) Fc;have Fu:=qU (P:=l.prog) (w:=w) (base:=base) T (dfL X G cq) Fc;have FT:Fn l.prog w K mg base "wish_kept" 4 ["wish","filling"] (mG):=rK (ft6 Fv (dfM X G d8) a2 FB (dfM X G d9) aB FD (dfM X G dd) aZ Fy (dfM X G c2) a6 FE (dfM X G cr) aW Fu (dfM X G cq) a4) T dw
 have FO:=uA (P:=l.prog) (w:=w) (base:=base) T (dfL X G ey) FT;have Fd:=rW (P:=l.prog) (w:=w) (base:=base) T c7;have Ff:=rV (P:=l.prog) (w:=w) (base:=base) T c7 Fd;have aE:=mD (P:=l.prog) (w:=w) (base:=base) T (dmL ba);have a7:=lH (P:=l.prog) (w:=w) (base:=base) T (dmL cP) aE;have ah:=ly (P:=l.prog) (w:=w) (base:=base) T (dmL cC);have ab:=kJ (P:=l.prog) (w:=w) (base:=base) T (dmL cD);have aI:=lW (P:=l.prog) (w:=w) (base:=base) T (dmL ba);have aC:=mj (P:=l.prog) (w:=w) (base:=base) T (dmL cI) aI;have a9:=lK (P:=l.prog) (w:=w) (base:=base) T (dmL da);have az:=ow (P:=l.prog) (w:=w) (base:=base) T (dmL cV) a9;have aj:=mh (P:=l.prog) (w:=w) (base:=base) T (dmL c0) az;have af:=lq (P:=l.prog) (w:=w) (base:=base) T (dmL df) az;have a8:=lT (P:=l.prog) (w:=w) (base:=base) T (dmL ba);have bb:=pI (P:=l.prog) (w:=w) (base:=base) T (dmL dp) a8;have a0:=jZ (P:=l.prog) (w:=w) (base:=base) T (dmL cO);have ay:=ln (P:=l.prog) (w:=w) (base:=base) T (dmL dn) a0;have aw:=px (P:=l.prog) (w:=w) (base:=base) T (dmL cZ) ay;have ar:=nN (P:=l.prog) (w:=w) (base:=base) T (dmL dg) ay;have aK:=lV (P:=l.prog) (w:=w) (base:=base) T (dmL ba);have bj:=pF (P:=l.prog) (w:=w) (base:=base) T (dmL c4) aK;have Fr:=xn (P:=l.prog) (w:=w) (base:=base) T (dfL X G dz);have Fs:=wq (P:=l.prog) (w:=w) (base:=base) T (dfL X G dE) Fr;have a3:=kL (P:=l.prog) (w:=w) (base:=base) T (dmL cH);have aS:=ny (P:=l.prog) (w:=w) (base:=base) T (dmL dm) a3;have aU:=mU (P:=l.prog) (w:=w) (base:=base) T (dmL dh) Fs Fr aS;have ax:=pK (P:=l.prog) (w:=w) (base:=base) T (dmL c5) aU;have ao:=nX (P:=l.prog) (w:=w) (base:=base) T (dmL cx) Fs Fe;have aG:=mJ (P:=l.prog) (w:=w) (base:=base) T (dmL ba);have a5:=lA (P:=l.prog) (w:=w) (base:=base) T (dmL dk) aG;have ac:=kI (P:=l.prog) (w:=w) (base:=base) T (dmL dl);have Fo:Fn l.prog w K mg base "finds_value" 21 ["cell","rooms","holders","tried"] (kC 20):=wS T dZ 20
 have ag:=kW (P:=l.prog) (w:=w) (base:=base) T (dmL cA) Fo;have aL:=mP (P:=l.prog) (w:=w) (base:=base) T (dmL ba);have aR:=no (P:=l.prog) (w:=w) (base:=base) T (dmL cp) aL;have a1:=qe (P:=l.prog) (w:=w) (base:=base) T (dmL c6);have aN:=uQ (P:=l.prog) (w:=w) (base:=base) T (dmL cn);have aq:=nc (P:=l.prog) (w:=w) (base:=base) T (dmL c3) a1 aN;have am:=mI (P:=l.prog) (w:=w) (base:=base) T (dmL dc) a1 aN;have Fj:=nC (P:=l.prog) (w:=w) (base:=base) T (dfL X G ei) a5 aR bj aC bb a7;have aF:=lX (P:=l.prog) (w:=w) (base:=base) T (dmL ba);have aX:=nP (P:=l.prog) (w:=w) (base:=base) T (dmL cS) aF Fj;have au:=ko (P:=l.prog) (w:=w) (base:=base) T (dmL c9);have F:=gu (P:=l.prog) (w:=w) (base:=base) T (dmL cN);have aV:=nJ (P:=l.prog) (w:=w) (base:=base) T (dmL cv) au F ag aq ax aj aw ah ac am ao af ar ab;have aJ:=lQ (P:=l.prog) (w:=w) (base:=base) T (dmL cJ) au F ag aq ax aj aw ah ac am ao af ar ab;have Fm:=xF (P:=l.prog) (w:=w) (base:=base) T (dfL X G dV) Fj aX;have bt:=qP (P:=l.prog) (w:=w) (base:=base) T (dmL c1) Fv;have bC:=uU (P:=l.prog) (w:=w) (base:=base) T (dmL de) FB;have bJ:=wx (P:=l.prog) (w:=w) (base:=base) T (dmL cM) FD;have bx:=rM (P:=l.prog) (w:=w) (base:=base) T (dmL c8) Fy;have bH:=wz (P:=l.prog) (w:=w) (base:=base) T (dmL cy) FE;have bq:=qD (P:=l.prog) (w:=w) (base:=base) T (dmL cG) Fu;have b5:=uv (P:=l.prog) (w:=w) (base:=base) T (dmL cF) FO;have FQ:=yR (P:=l.prog) (w:=w) (base:=base) T (dfL X G em) Fm bt bC bJ bx bH bq b5;have Fl:=qd (P:=l.prog) (w:=w) (base:=base) T (dfL X G el) Fm ag aq ax aj aw ah aV;have Fi:=og (P:=l.prog) (w:=w) (base:=base) T (dfL X G eu) Fm ac am ao af ar ab aJ;have FC:=qz (P:=l.prog) (w:=w) (base:=base) T (dfL X G dD) Fa;have Fz:=sh (P:=l.prog) (w:=w) (base:=base) T (dfL X G ed) Fa;have Fb:=pH (P:=l.prog) (w:=w) (base:=base) T (dfL X G dC) Fa;have FF:=vZ (P:=l.prog) (w:=w) (base:=base) T (dfL X G e6) Fa Fb;have FG:=vN (P:=l.prog) (w:=w) (base:=base) T (dfL X G dL) Fa;have FA:=sf (P:=l.prog) (w:=w) (base:=base) T (dfL X G eE) Fa Fb;have FI:Fn l.prog w K mg base "_law_wish" 15 ["_law_deal_here","_law_names_here","_law_rooms_here","_law_pool","_law_sort"] (mo true):=(mM (n:=4) (h:=true) T ck Fa Fp FF FA FG (by unfold kz;rw[if_pos rfl];exact mM (n:=0) (h:=false) T ck Fa Fp FF FA FG (by unfold kz;rw[if_neg i_];exact Bu ck))).mono ∅
 have Fh:=qT (P:=l.prog) (w:=w) (base:=base) T cu;have Fk:=qO (P:=l.prog) (w:=w) (base:=base) T cu Fh;have Fg:=wE (P:=l.prog) (w:=w) (base:=base) T (dfL X G eF) Fl Fi;have FK:=um (P:=l.prog) (w:=w) (base:=base) T (dfL X G dt);have FP:=wf (P:=l.prog) (w:=w) (base:=base) T (dfL X G dX) Fh Fk Fg FK Fd Ff;have Fx:=sr (P:=l.prog) (w:=w) (base:=base) T (dfL X G ec) Fg FP Fd Ff;have Ft:=rn (P:=l.prog) (w:=w) (base:=base) T (dfL X G en) Fg;have Fq:=mZ (P:=l.prog) (w:=w) (base:=base) T cW;have Fw:=ou (P:=l.prog) (w:=w) (base:=base) T cW Fq;exact GF T (qR dP e7 dA) FM Fa FH FC Fz FI Fh Fk Fb Fq Fw Fx Fd Ff FQ Fl Fi Ft
theorem Kd {l:PySem.W.OpenLaw} {q:Program} {d:DefRec} {K:Params->fy} (L:l.most=some 63) (B:d.params.defaults=[])
  (hY : ∀(w:World) (h:Heap),YP w h->(K w.params).In h)
  (F : ∀(w:World) (mg:Str->Option Value) (fa:Addr) (h:Heap),(K w.params).In h->h.Ns md mg->mg d.name=some (.ref fa) ->
   ∃fd:FuncData,(∀(s:Shared) (u:Value),BindsTo s fd ⟨[u],[]⟩ [("_law_script",u)])/\∀base:Heap,(K w.params).In base->base.Ns md mg->jk l.prog w (K w.params) mg base CX0 45 fa fd ["_law_script"] (zN (K w.params))) :
  PySem.W.WalkO q loose XP YP l.row.toRowW d [] (λf vs=>PySem.call f vs) :=
 L2.Es (n:=63) (k:=45) (x := "_law_script") (CX:=λ_=>CX0) (sp:=λw=>zN (K w.params)) L ∅ B ⟨rfl,∅,∅⟩ hY F (λ_ _ a ns hl _ Y=>⟨a,ns,rfl,Y,hl,λ_=>rfl⟩) λ_ _ _ _ _ z=>z
end Lw
variable {W:Lw.Wi} {dat:Lw.jz}
open PySem PySem.W PyProof.Rows
local macro_rules | `(tactic| ctx_has kj $ids*) => `(tactic| ($[case $ids:ident => (change _ = _; k_is)];*))
local macro_rules | `(tactic| ctx_has kc $ids*) => `(tactic| ($[case $ids:ident => (constructor; (all_goals k_is))];*))
local macro_rules | `(tactic| ctx_has km $ids*) => `(tactic| ($[case $ids:ident => (refine' Lw.dmI ⟨?a, ?i, ?k⟩ ?l ?c ?k; (case a => k_is); (case i => k_is); (case l => k_is); (case c => k_is); (case k => k_is))];*))
local macro_rules | `(tactic| ctx_has kn $ids*) => `(tactic| ($[case $ids:ident => (refine' Lw.dmI ⟨?m, ?a, ?i, ?n⟩ ?l ?c ?k; (case m => k_is); (case a => k_is); (case i => k_is); (case n => k_is); (case l => k_is); (case c => k_is); (case k => k_is))];*))
local macro_rules | `(tactic| ctx_has kq $ids*) => `(tactic| ($[case $ids:ident => (refine' Lw.dmI ⟨?s, ?r, ?a, ?k⟩ ?l ?c ?k; (case s => k_is); (case r => k_is); (case a => k_is); (case l => k_is); (case c => k_is); (case k => k_is))];*))
local macro_rules | `(tactic| ctx_has kk) => `(tactic| (refine' Lw.dfI ?a ?l ?c ?k; (case a => k_is); (case l => k_is); (case c => k_is); (case k => k_is)))
local macro_rules | `(tactic| ctx_has kd $ids*) => `(tactic| ($[case $ids:ident => ctx_has kk];*))
local macro_rules | `(tactic| o_head $H) => do
  let hw:=Lean.mkIdent `hw
  let hc:=Lean.mkIdent `hc
  `(tactic| (refine holds_open (q:=Lw.jv) (hY:=Hook.of $H) (hYk:=Hook.keeps $H) (YP:=Hook.says $H) (XP:=XL Lw.jv List.nil) (Xt:=Lw.hX)
                Lw.hl (λs e=>xl_of s (Bool.and_eq_true_iff.mp e).1) XL.keeps (by rfl) (by rfl) (by rfl)
                (λs e=>recFacts_of (Bool.and_eq_true_iff.mp e).2) (by rfl) (by assumption) (by decide+kernel)
                ⟨rfl,rfl,rfl,rfl,rfl,by decide+kernel⟩ ?$hw ?$hc))
set_option maxHeartbeats 0 in
theorem PySem.Challenge.cw_seekhall_k21_whole_led_to_a_filling_holds : PySem.Challenge.rw_seekhall_k21_whole_led_to_a_filling.Holds := by
  w_on;refine PySem.W.holds_law Lw.wsd (λsaid=>?_);o_head (kHook Lw.Gx.heap_1 Lw.hAs Lw.hAe);(case hw=>w_witness2)
  k_fill
  refine Lw.Kd (l:=PySem.Challenge.rw_seekhall_k21_whole_led_to_a_filling) rfl rfl (λw h Y=>PySem.W.kIn_of Y) ?F
  case F =>
    intro w mg fa h KX G hmg
    refine' Lw.Ha KX G hmg ?aC_Wish ?aC_Unlike ?cl_Unlike ?nf_Unlike_wish ?nf_Unlike_cells ?aC_Many ?cl_Many ?nf_Many_wish ?nf_Many_among ?nf_Many_cells ?nf_Many_low ?nf_Many_high ?aC_Sum ?cl_Sum ?nf_Sum_wish ?nf_Sum_terms ?nf_Sum_low ?nf_Sum_high ?aC_Table ?cl_Table ?nf_Table_wish ?nf_Table_cells ?nf_Table_rows ?aC_Way ?cl_Way ?nf_Way_wish ?nf_Way_cells ?nf_Way_ends ?nf_Way_leads ?aC_Behind ?cl_Behind ?nf_Behind_wish ?nf_Behind_cells ?nf_Behind_gap ?aC_Same ?cl_Same ?nf_Same_wish ?nf_Same_cell ?nf_Same_among ?nf_Same_inner ?d0 ?d1 ?d2 ?d3 ?d4 ?d5 ?d6 ?d7 ?d8 ?d9 ?d10 ?d11 ?d12 ?d13 ?d14 ?d15 ?d16 ?mc17 ?mi18 ?mm19 ?mm20 ?mi21 ?mm22 ?mm23 ?mm24 ?mm25 ?mi26 ?mm27 ?mm28 ?mm29 ?mm30 ?mi31 ?d32 ?d33 ?mm34 ?mm35 ?mm36 ?mm37 ?mm38 ?mi39 ?mm40 ?d41 ?mm42 ?mi43 ?mm44 ?mm45 ?mm46 ?mm47 ?d48 ?mi49 ?mm50 ?mm51 ?mm52 ?mm53 ?d54 ?mm55 ?mm56 ?mm57 ?mm58 ?mm59 ?mm60 ?mm61 ?d62 ?d63 ?d64 ?d65 ?d66 ?d67 ?d68 ?d69 ?d70 ?d71 ?d72 ?d73 ?d74 ?d75 ?d76 ?d77 ?d78 ?a79 ?l79 ?c79 ?k79 ?z0 ?z1 ?z2 ?z3 ?z4 ?z5 ?z6 ?z7 ?z8 ?z9 ?z10 ?z11 ?z12 ?z13 ?z14 ?z15 ?z16 ?z17 ?z18 ?aC_KEEPERS ?tl_KEEPERS ?tk_KEEPERS ?tx_KEEPERS_unlike ?tx_KEEPERS_many ?tx_KEEPERS_sum ?tx_KEEPERS_table ?tx_KEEPERS_way ?tx_KEEPERS_behind ?tx_KEEPERS_same
    ctx_has kj aC_Wish aC_Unlike aC_Many aC_Sum aC_Table aC_Way aC_Behind aC_Same aC_KEEPERS
    ctx_has kc cl_Unlike cl_Many cl_Sum cl_Table cl_Way cl_Behind cl_Same
    ctx_has km mm19 mm20 mm22 mm23 mm24 mm25 mm27 mm28 mm29 mm30 mm34 mm35 mm36 mm37 mm38 mm40 mm42 mm44 mm45 mm46 mm47 mm50 mm51 mm52 mm53 mm55 mm56 mm57 mm58 mm59 mm60 mm61
    ctx_has kn mi18 mi21 mi26 mi31 mi39 mi43 mi49
    ctx_has kq mc17
    ctx_has kd d0 d1 d2 d3 d4 d5 d6 d7 d8 d9 d10 d11 d12 d13 d14 d15 d16 d32 d33 d41 d48 d54 d62 d63 d64 d65 d66 d67 d68 d69 d70 d71 d72 d73 d74 d75 d76 d77 d78
    ctx_has kj nf_Unlike_wish nf_Unlike_cells nf_Many_wish nf_Many_among nf_Many_cells nf_Many_low nf_Many_high nf_Sum_wish nf_Sum_terms nf_Sum_low nf_Sum_high nf_Table_wish nf_Table_cells nf_Table_rows nf_Way_wish nf_Way_cells nf_Way_ends nf_Way_leads nf_Behind_wish nf_Behind_cells nf_Behind_gap nf_Same_wish nf_Same_cell nf_Same_among nf_Same_inner a79 l79 c79 k79 z0 z1 z2 z3 z4 z5 z6 z7 z8 z9 z10 z11 z12 z13 z14 z15 z16 z17 z18 tl_KEEPERS
    (case tk_KEEPERS=>k_keys)
    ctx_has kj tx_KEEPERS_unlike tx_KEEPERS_many tx_KEEPERS_sum tx_KEEPERS_table tx_KEEPERS_way tx_KEEPERS_behind tx_KEEPERS_same
