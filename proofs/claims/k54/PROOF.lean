import PyProof.Rows.All
import Wide.All
import OpenK.AllK
import Wide.FinOn
import Lean
import PyProof.EqAt
import PyProof.EqKinds
import PyProof.TupleCall
import PySem.Challenge.RW_seekhall_k54_swaps
set_option Elab.async false
set_option linter.all false
set_option compiler.extract_closed false
set_option maxRecDepth 100000
set_option maxHeartbeats 4000000
namespace Ob
variable {C p q r s t u v w x y z k l m : Prop} {A B D E F G H I J : Sort _}
theorem e1 {P : A → Prop} (h : ∃ a, P a) (f : ∀ a, P a → C) : C := h.elim f
theorem e2 {P : A → B → Prop} (h : ∃ a b, P a b) (f : ∀ a b, P a b → C) : C := h.elim fun a h => e1 h (f a)
theorem e3 {P : A → B → D → Prop} (h : ∃ a b d, P a b d) (f : ∀ a b d, P a b d → C) : C := h.elim fun a h => e2 h (f a)
theorem e4 {P : A → B → D → E → Prop} (h : ∃ a b d e, P a b d e) (f : ∀ a b d e, P a b d e → C) : C := h.elim fun a h => e3 h (f a)
theorem e5 {P : A → B → D → E → F → Prop} (h : ∃ a b d e f, P a b d e f) (f : ∀ a b d e f, P a b d e f → C) : C := h.elim fun a h => e4 h (f a)
theorem e6 {P : A → B → D → E → F → G → Prop} (h : ∃ a b d e f g, P a b d e f g) (f : ∀ a b d e f g, P a b d e f g → C) : C := h.elim fun a h => e5 h (f a)
theorem e7 {P : A → B → D → E → F → G → H → Prop} (h : ∃ a b d e f g h, P a b d e f g h) (f : ∀ a b d e f g h, P a b d e f g h → C) : C := h.elim fun a h => e6 h (f a)
theorem e8 {P : A → B → D → E → F → G → H → I → Prop} (h : ∃ a b d e f g h i, P a b d e f g h i) (f : ∀ a b d e f g h i, P a b d e f g h i → C) : C := h.elim fun a h => e7 h (f a)
theorem e9 {P : A → B → D → E → F → G → H → I → J → Prop} (h : ∃ a b d e f g h i j, P a b d e f g h i j) (f : ∀ a b d e f g h i j, P a b d e f g h i j → C) : C := h.elim fun a h => e8 h (f a)
theorem i2 {P : A → B → Prop} (a : A) (b : B) (o : P a b) : ∃ a b, P a b := ⟨a, b, o⟩
theorem i3 {P : A → B → D → Prop} (a : A) (b : B) (d : D) (o : P a b d) : ∃ a b d, P a b d := ⟨a, b, d, o⟩
theorem i4 {P : A → B → D → E → Prop} (a : A) (b : B) (d : D) (e : E) (o : P a b d e) : ∃ a b d e, P a b d e := ⟨a, b, d, e, o⟩
theorem i5 {P : A → B → D → E → F → Prop} (a : A) (b : B) (d : D) (e : E) (f : F) (o : P a b d e f) : ∃ a b d e f, P a b d e f := ⟨a, b, d, e, f, o⟩
theorem i6 {P : A → B → D → E → F → G → Prop} (a : A) (b : B) (d : D) (e : E) (f : F) (g : G) (o : P a b d e f g) : ∃ a b d e f g, P a b d e f g := ⟨a, b, d, e, f, g, o⟩
theorem i7 {P : A → B → D → E → F → G → H → Prop} (a : A) (b : B) (d : D) (e : E) (f : F) (g : G) (h : H) (o : P a b d e f g h) : ∃ a b d e f g h, P a b d e f g h := ⟨a, b, d, e, f, g, h, o⟩
theorem i8 {P : A → B → D → E → F → G → H → I → Prop} (a : A) (b : B) (d : D) (e : E) (f : F) (g : G) (h : H) (i : I) (o : P a b d e f g h i) : ∃ a b d e f g h i, P a b d e f g h i := ⟨a, b, d, e, f, g, h, i, o⟩
theorem i9 {P : A → B → D → E → F → G → H → I → J → Prop} (a : A) (b : B) (d : D) (e : E) (f : F) (g : G) (h : H) (i : I) (j : J) (o : P a b d e f g h i j) : ∃ a b d e f g h i j, P a b d e f g h i j := ⟨a, b, d, e, f, g, h, i, j, o⟩
theorem c2 (h : p ∧ q) (f : p → q → C) : C := f h.1 h.2
theorem c3 (h : p ∧ q ∧ r) (f : p → q → r → C) : C := c2 h.2 (f h.1)
theorem c4 (h : p ∧ q ∧ r ∧ s) (f : p → q → r → s → C) : C := c3 h.2 (f h.1)
theorem c5 (h : p ∧ q ∧ r ∧ s ∧ t) (f : p → q → r → s → t → C) : C := c4 h.2 (f h.1)
theorem c6 (h : p ∧ q ∧ r ∧ s ∧ t ∧ u) (f : p → q → r → s → t → u → C) : C := c5 h.2 (f h.1)
theorem c7 (h : p ∧ q ∧ r ∧ s ∧ t ∧ u ∧ v) (f : p → q → r → s → t → u → v → C) : C := c6 h.2 (f h.1)
theorem c8 (h : p ∧ q ∧ r ∧ s ∧ t ∧ u ∧ v ∧ w) (f : p → q → r → s → t → u → v → w → C) : C := c7 h.2 (f h.1)
theorem c9 (h : p ∧ q ∧ r ∧ s ∧ t ∧ u ∧ v ∧ w ∧ x) (f : p → q → r → s → t → u → v → w → x → C) : C := c8 h.2 (f h.1)
theorem c10 (h : p ∧ q ∧ r ∧ s ∧ t ∧ u ∧ v ∧ w ∧ x ∧ y) (f : p → q → r → s → t → u → v → w → x → y → C) : C := c9 h.2 (f h.1)
theorem c11 (h : p ∧ q ∧ r ∧ s ∧ t ∧ u ∧ v ∧ w ∧ x ∧ y ∧ z) (f : p → q → r → s → t → u → v → w → x → y → z → C) : C := c10 h.2 (f h.1)
theorem c12 (h : p ∧ q ∧ r ∧ s ∧ t ∧ u ∧ v ∧ w ∧ x ∧ y ∧ z ∧ k) (f : p → q → r → s → t → u → v → w → x → y → z → k → C) : C := c11 h.2 (f h.1)
theorem c13 (h : p ∧ q ∧ r ∧ s ∧ t ∧ u ∧ v ∧ w ∧ x ∧ y ∧ z ∧ k ∧ l) (f : p → q → r → s → t → u → v → w → x → y → z → k → l → C) : C := c12 h.2 (f h.1)
theorem c14 (h : p ∧ q ∧ r ∧ s ∧ t ∧ u ∧ v ∧ w ∧ x ∧ y ∧ z ∧ k ∧ l ∧ m) (f : p → q → r → s → t → u → v → w → x → y → z → k → l → m → C) : C := c13 h.2 (f h.1)
end Ob
open Lean Lean.Parser.Tactic in
local macro_rules
 | `(tactic| obtain $p:rcasesPatMed := $e:term) => do
  let pl : TSyntax ``rcasesPatLo := ⟨mkNode ``rcasesPatLo #[p, mkNullNode]⟩
  let plain ← `(tactic| rcases $e:term with $pl)
  let q := p.raw[0][0]
  let ps := q[1].getSepArgs
  let n := ps.size
  if p.raw[0].getNumArgs != 1 || q.getKind != ``rcasesPat.tuple || n < 2 || n > 20 then return plain
  let mut nm : Array Ident := #[]
  let mut fs : Array (TSyntax `tactic) := #[]
  let cl (b : Term) : MacroM Term := if e.raw.isIdent then `(clear% $(⟨e.raw⟩); $b) else pure b
  for x in ps do
    let v := x[0][0][0]
    if x[1].getNumArgs == 0 && x[0][0].getNumArgs == 1 && v.getKind == ``rcasesPat.one && v[0].getId != `rfl then nm := nm.push ⟨v[0]⟩
    else
      let y := mkIdent (.mkSimple s!"hX{nm.size}")
      nm := nm.push y
      fs := fs.push (← `(tactic| all_goals rcases $y:ident with $(⟨x⟩)))
  let mut alts : Array (TSyntax `tactic) := #[]
  for d in [0:n] do
    let m := n - 1 - d
    let k := n - m
    if m ≤ 9 && k ≤ 14 then
      let f := mkIdent (.mkStr `Ob s!"e{m}")
      let g := mkIdent (.mkStr `Ob s!"c{k}")
      let xs := nm.extract 0 m
      let ys := nm.extract m n
      let b ← cl (← if m == 0 then `(fun $ys* => ?_) else if k == 1 then `(fun $xs* $(ys[0]!) => ?_) else `(fun $xs* hW => $g hW (clear% hW; fun $ys* => ?_)))
      alts := alts.push (← if m == 0 then `(tactic| refine $g $e $b) else `(tactic| refine $f $e $b))
  `(tactic| first | (refine Classical.byContradiction fun hN => ?_; (first $[| $alts:tactic]*); ($[$fs:tactic];*); all_goals (refine hN ?_; clear hN)) | $plain:tactic)
 | `(tactic| rintro $[$rs:rintroPat]*) => do
  let mut ts : Array (TSyntax `tactic) := #[]
  for r in rs do
    let v := r.raw[0]
    if v.getKind == ``rcasesPat.one && v[0].getId != `rfl then ts := ts.push (← `(tactic| intro $(⟨v[0]⟩):ident))
    else if v.getKind == ``rcasesPat.tuple then
      let p : TSyntax ``rcasesPatMed := ⟨mkNode ``rcasesPatMed #[mkNullNode #[v]]⟩
      ts := ts.push (← `(tactic| (intro hY; obtain $p := hY)))
    else Macro.throwUnsupported
  `(tactic| ($[$ts:tactic];*))
 | `(tactic| refine $t:term) => do
  let xs : Array Term := t.raw[1].getSepArgs.map (⟨·⟩)
  let n := xs.size
  if t.raw.getKind != `Lean.Parser.Term.anonymousCtor || n < 3 then Macro.throwUnsupported
  let mut alts : Array (TSyntax `tactic) := #[]
  for d in [1:n] do
    let m := n - d
    if 2 ≤ m && m ≤ 9 then
      let r := xs.extract m n
      let r : Term ← if r.size == 1 then pure r[0]! else `(⟨$r,*⟩)
      let f := mkIdent (.mkStr `Ob s!"i{m}")
      alts := alts.push (← `(tactic| refine $f $(xs.extract 0 m)* $r))
  `(tactic| first $[| $alts:tactic]* | refine ($t))
local macro_rules | `(tactic| omega) => `(tactic| first | with_reducible assumption | decide +kernel | lia | omega +splitDisjunctions)
open Array renaming getD_eq_getD_getElem?->y7,getElem?_toList->KI,length_toList->w9
open Bool renaming and_eq_true->mx,eq_iff_iff->o_,false_eq_true->m_,false_ne_true->i5,not_true->KY
open False renaming elim->J9
open ForInStep renaming yield->JK
open Int renaming eq_ofNat_of_zero_le->Jt,zero_add->Kk
open List renaming all_eq_true->Kd,any_eq_true->Ke,append_nil->J8,cons_append->KZ,eraseIdxIfInBounds_toArray->Km,find?_cons->xq,getD_eq_getElem?_getD->j7,getElem?_cons_zero->z_,getElem?_eq_getElem->h_,getElem?_eq_some_iff->i7,getElem?_map->e9,getElem?_set_ne->KO,getElem?_toArray->JX,getElem_mem->A_,getElem_of_mem->Jy,length->u8,length_append->nH,length_cons->KA,length_drop->D_,length_eq_zero_iff->JC,length_filter_le->t_,length_map->a_,length_range->Kf,length_take->pk,length_take_le'->Jv,lookup_cons->x5,map->J0,map_append->ii,map_congr_left->q_,map_cons->i_,map_map->fx,map_nil->KF,mem_append->j6,mem_append_left->t6,mem_append_right->uj,mem_cons->i6,mem_cons_of_mem->j9,mem_cons_self->j_,mem_filter->u7,mem_iff_getElem->K2,mem_map->e7,mem_map_of_mem->o7,mem_of_getElem?->i4,mem_of_mem_take->v_,mem_range->x8,mem_singleton->g7,nodup_append->x_,nodup_cons->w5,not_mem_nil->p_,pairwise_map->l9,size_toArray->g_,take_add_one->i8,take_length->k9,take_of_length_le->t4,take_sublist->JF,toArray->y9
open List.cons renaming injEq->w6
open Nat renaming le_of_lt->ot,le_of_succ_le->KW,le_refl->j5,le_succ->Ks,lt_irrefl->JR,lt_of_lt_of_le->l4,lt_succ_of_lt->JY,ne_of_gt->JQ,ne_of_lt->k_,zero_le->r_
open Ne renaming symm->Jx
open Option renaming isSome_iff_exists->J5,map_eq_some_iff->JG,map_some->Kh
open Option.some renaming inj->f_,injEq->Ju
open PyProof.Rows renaming IntsAre->E_,Subscript_->KR,callWith_type1->o5,get?_update_seq->K3,listUpdate_at->J2,seqObj->n9,slot_tuple_getitem->x6,subscriptTail_builtinR->KC
open PySem renaming Addr->KM,NameKind->Is,Paired->K6,PyData->j8,Shared->K4,Spec->s_,Str->JN,Value->JE,assignEach->KP,backTo->JS,behindInMarks->Kt,binaryOp->JH,bootBuiltins->If,builtinLookup_eq_fast->KJ,call_meets->Kw,cellsFrom->sn,codeAmong->Kv,codeAny_builtin->H_,compareOp->x3,getItem->JM,importedModules->Jw,mainGlobals->o8,mem_of_lookup->Kl,plainId_quiet->JZ,sizeLine->g0,sizeLine_eq->Jp,sliceBounds->K1,starEach->m9,sysModules->Jq,treeTable->y_,tupleKind_room_in1->Kx,typeLookup->KQ,wpAny_Call_Name_kw->x4,wpAny_bind->c_,wpAny_callSpecial?_slot->Ko,wpAny_call_entry->y4,wpAny_field->K0,wpAny_getItem_str_slice->Kq,wpAny_holding->C_,wpAny_mono->y3,wpAny_newList->Ku,wpAny_newObj_type->Gt,wpAny_passesOwn->JU,wpAny_pure->fy,wpAny_pyIter_list->J7,wpAny_pyIter_tuple->JT,wpAny_specialOf->JJ,wpAny_truthy_bool->J6,wpAny_typeOf->KH
open PySem.Around renaming in1_units->KS,under_plainId->B_
open PySem.Builtin.List renaming listExtendWith->u_,listTooLong->JI
open PySem.Builtin.Range renaming rangeSize->Kn
open PySem.Builtin.Slice renaming slicePlaces->J_
open PySem.Builtin.SmallTypes renaming nextOf->Kc
open PySem.Builtin.Str renaming occurrences->Kr
open PySem.Builtin.Tuple renaming tupleExact->Ki
open PySem.Calls renaming callWith_builtin->JA,evalArgs_plain->Ka,spliced_cons->u9,spliced_nil->F_
open PySem.F renaming plainAttrs_dict->Kp,slot_NoneType_hash->J4,slot_bool_hash->KD,slot_dict_get->JW,slot_dict_getitem->Kb,slot_list_append->l5,slot_tuple_iterator_next->J1,type_list_append->l7
open PySem.Heap renaming SameBut->K5,get?_push_ne->KE,get?_push_of_some->d_,get?_push_size->g9,get?_update_ne->G_,lt_size->gs,size_push->Js,size_update->JB
open PySem.NameKind renaming cell->y6,free->w_
open PySem.Obj renaming mapSeq->o6
open PySem.PassesOwn renaming never->JV
open PySem.PyData renaming canLay0->y8,canLayAll0->l_,depth->t3,depthAll->l8,eqv->n_,eqvAll->t5,int->Jr,str->Kz,strOk->Kj
open PySem.PyData.str renaming injEq->KU
open PySem.PyData.tuple renaming injEq->JD
open PySem.Str renaming ofString->b_
open PySem.Txt renaming slice->JP,slice_le->KL
open PySem.Value renaming none->o9,ref->m8,type->KN
open PySem.W renaming Frag->ge,codeHdIn->Kg,fencedOpening->JO,kia_one->KG,kla_obj->JL,mg_none_of->y2
open Sum renaming inl->i9,inr->e_
open Sum.inl renaming inj->Jz
open Sum.inr renaming inj->I_
open True renaming intro->ow
variable {A:PySem.Around} {E Q Qf xe:JE->K4->Prop} {Ev:JE->JE->Prop} {F F':Int->List Int} {G:List JE->Prop} {K:ge} {L:List PySem.PyData} {M:PySem.Model} {N cells cs' loose names ps ws ws':List JN} {P prog q:PySem.Program} {R:PySem.Result->K4->Prop} {T:String} {XP:(JN->Option JE)->PySem.Heap->Prop} {Xt:K4->Bool} {YP:PySem.World->PySem.Heap->Prop} {a b c c' d dx f f0 f1 f2 f3 f4 f5 fa it l na p pa ra so t tn va:KM} {acc items:Array JE} {apos cpos p1 p2 p3 pos pos' pos2:PySem.Pos} {base h h':PySem.Heap} {body rest:List PySem.Stmt} {cd cdv ct ctv doc oc pm u v vl vu:JE} {ch fp:List KM} {cl clos closure:List (JN × KM)} {cmp:Nat->Nat->(Bool->K4->Prop)->K4->Prop} {cs:List (KM × JN × KM × List Int)} {d':PySem.Drawn} {ds:List (JN × List Int)} {e e1 elt iter oe slice tg value:PySem.Expr} {env:PySem.Env} {ep i j k kk n nt t' tk:Nat} {es ifs values:List PySem.Expr} {fd:PySem.FuncData} {func od:Option KM} {g':Array PySem.GenState} {hi lo:Option Int} {its us:List JE} {js pl:List Nat} {mA mb mg:JN->Option JE} {mI:List (Int × Int)} {mS:List (JN × JN)} {ms ns pool:List Int} {name qual x:JN} {osl:Array (Option JE)} {outer:List PySem.Env} {params:PySem.Arguments} {pins pins':List (KM × PySem.Obj)} {rm:JN->List Int} {rows rs:List (List Int)} {s s' s₁:K4} {sc scope:PySem.Scope} {st:PySem.Stmt} {ts:List (Int × JN)} {use:Option (JE->PySem.Sem Unit)} {w:PySem.World} {α β κ:Type} {φ:PySem.Heap->Prop}
open List (all_cons any_cons append_assoc drop_zero ext_getElem? filter_map find?_some forIn_cons length_nil length_pos_iff map_drop map_eq_nil_iff map_fst_zip map_id map_id' map_inj_right map_snd_zip map_take mem_flatMap mem_flatten of_mem_zip perm_middle range range' range_succ replicate)
open PySem.W (callWith_K codeHd_of_K codeIn findIn fnOf instObj kdl_dict keepIn kitOne kitx_dict kitx_list lookIn methodObj mg_of nsIn plainGet tabObj)
open Nat (le_of_eq le_trans lt_trans min_eq_left mul_le_mul succ_mul)
open Option (getD_none getD_some isNone isSome_map isSome_some map_bind)
open Array (ext' size_append toArray_toList toList_inj)
local macro_rules | `(()) => `(by omega)
local macro_rules | `(∅) => `(by decide)
local macro_rules | `(-$x:ident) => `(some (.ref $x))
local macro_rules | `($a >> $b) => `($a = some ($(Lean.mkIdent `L2.HO.tup) $b))
local macro_rules | `($a *> $b) => `($a = some ($(Lean.mkIdent `L2.HO.lst) $b))
local macro_rules | `($a <* $b) => `($a = some ($(Lean.mkIdent `L2.HO.dK) $b))
namespace Lw
open PySem PySem.W PySem.Calls PyProof.Rows
theorem left_two {p:Program} {Y:Shared->α} {Z:World->α} {N:Nat} (z:String)
  (h1 : ∀w:World,(JO y_ p w N).bind (λU=>(topFrom y_ p (w.withFollow z false) N U).map (λs=>(openSeen q loose (Jw p.main.body) Xt true s,Y s)))=some (openGood q loose,Z (w.withFollow z false)))
  (h2 : ∀w:World,(JO y_ p w N).bind (λU=>(topFrom y_ p (w.withFollow z true) N U).map (λs=>(openSeen q loose (Jw p.main.body) Xt true s,Y s)))=some (openGood q loose,Z (w.withFollow z true))):LeftO p q loose Xt Y Z N:=λw=>by
 have e:=World.withFollow_self w z;unfold openEnds;rw[map_bind];cases hb:w.params.followText z <;> rw[hb] at e
 .have:=h1 w;rw[e] at this;exact this
 .have:=h2 w;rw[e] at this;exact this
def top (i:Nat):Stmt:=PySem.Challenge.pw_seekhall_k54_swaps.main.body.getD i (.Pass ⟨0,0,0,0⟩)
noncomputable def fF:Program:={ PySem.Challenge.pw_seekhall_k54_swaps with main:={ PySem.Challenge.pw_seekhall_k54_swaps.main with body:=[1,2,4,6,7,8,9,10,11,12,13,14,15,16,17,18,19,20,21,22,24,25,26,27,28,29,30,31,33,34,35,36,37,38,39,40,41,42,43,44,45,46,47,48,49,50,51,52,53,54,55,56,57,58,59,60,61].map top } }
section
local macro_rules | `(tactic| o_head $H) => `(tactic| (have z := $H; assumption))
set_option maxHeartbeats 0 in
theorem DQ (h:PySem.Challenge.rw_seekhall_k54_swaps.row.Holds):PySem.Challenge.rw_seekhall_k54_swaps.row.Holds:=by
 k_head
end
def hAs:List Addr:=[2,3,15,18,19,20,22,23,25,26,27,29,30,32,33,34,36,37,39,40,41,44,45,46,48,49,51,52,53,55,56,58,59,60,63,64,65,68,69,70,73,74,75,78,79,80,82,83,85,86,87,89,90,92,93,94,95,97,98,100,101,102,104,105,107,108,109,112,113,114,116,117,119,120,121,123,124,126,127,128,130,131,133,134,135,137,138,140,141,142,145,146,147,150,151,152,155,156,157,160,161,162,164,165,167,168,169,171,172,174,175,176,179,180,181,184,185,186,188,189,191,192,193,196,197,198,200,201,203,204,205,208,209,210,212,213,215,216,217,219,220,222,223,224,227,228,229,232,233,234,237,238,239,242,243,244,246,247,249,250,251,254,255,256,259,260,261,263,264,266,267,268,271,272,273,275,276,278,279,280,283,284,285,288,289,290,292,293,295,296,297,299,300,302,303,304,306,307,309,310,311,314,315,316,319,320,321,323,324,326,327,328,331,332,333,335,336,338,339,340,342,343,345,346,347,350,351]
theorem hAe : ∀P,hAs=(DQ.heap_1 P).map (·.1):=λ_=>by kernel_rfl
noncomputable abbrev hK:Hook:=kmHook DQ.heap_1 hAs hAe [110,115]
noncomputable def hX (s:Shared):Bool:=xlAt fF List.nil s && recOk (RowW.records PySem.Challenge.rw_seekhall_k54_swaps.row.toRowW) s
abbrev DT (b:Bool):Prop:=∀w:World,(JO y_ PySem.Challenge.pw_seekhall_k54_swaps w 12400).bind (λz=>(topFrom y_ PySem.Challenge.pw_seekhall_k54_swaps (w.withFollow "special-get-raises" b) 12400 z).map (λs=>(openSeen fF [b_ "TURNERS"] (Jw PySem.Challenge.pw_seekhall_k54_swaps.main.body) hX true s,Hook.obs hK s)))=some (openGood fF [b_ "TURNERS"],Hook.val hK (w.withFollow "special-get-raises" b))
theorem Ee {σ A B C D E:Type} {o:Option σ} {k:σ->Option σ} {f1:σ->A} {f2:σ->B} {f3:σ->C} {f4:σ->D} {W:σ->E} {Y:A} {Z:B} {a3:C} {a4:D} {v:E} (h1:o.bind (λs=>(k s).map f1)=some Y) (h2:o.bind (λs=>(k s).map f2)=some Z) (z:o.bind (λs=>(k s).map f3)=some a3) (U:o.bind (λs=>(k s).map f4)=some a4) (H : ∀s,f1 s=Y->f2 s=Z->f3 s=a3->f4 s=a4->W s=v):o.bind (λs=>(k s).map W)=some v:=by
 cases o with
 | none=>cases h1
 | some s =>
  change (k s).map f1=_ at h1;change (k s).map f2=_ at h2;change (k s).map f3=_ at z;change (k s).map f4=_ at U;change (k s).map W=_;cases hk:k s with
  | none=>rw[hk] at h1;cases h1
  | some t =>
   rw[hk] at h1 h2 z U;exact congrArg some (H t (f_ h1) (f_ h2) (f_ z) (f_ U))
theorem Eb {A B C D G:Type} {x y:A × B × C × D} {u v:G} (h1:x.1=y.1) (h2:(x.2.1,x.2.2.1)=(y.2.1,y.2.2.1)) (z:x.2.2.2=y.2.2.2) (U:u=v):(x,u)=(y,v):=by
 obtain⟨a,b,c,d⟩:=x;obtain⟨Y,Z,c',d'⟩:=y;cases h1;cases h2;cases z;cases U;rfl
abbrev hS0 (b:Bool):Prop:=∀w:World,(JO y_ PySem.Challenge.pw_seekhall_k54_swaps w 12400).bind (λz=>(topFrom y_ PySem.Challenge.pw_seekhall_k54_swaps (w.withFollow "special-get-raises" b) 12400 z).map (λs=>(openSeen fF [b_ "TURNERS"] (Jw PySem.Challenge.pw_seekhall_k54_swaps.main.body) hX true s).1))=some ((openGood fF [b_ "TURNERS"]).1)
theorem Hb:hS0 false:=by intro w;kernel_rfl
theorem Hr:hS0 true:=by intro w;kernel_rfl
abbrev hS1 (b:Bool):Prop:=∀w:World,(JO y_ PySem.Challenge.pw_seekhall_k54_swaps w 12400).bind (λz=>(topFrom y_ PySem.Challenge.pw_seekhall_k54_swaps (w.withFollow "special-get-raises" b) 12400 z).map (λs=>((openSeen fF [b_ "TURNERS"] (Jw PySem.Challenge.pw_seekhall_k54_swaps.main.body) hX true s).2.1,(openSeen fF [b_ "TURNERS"] (Jw PySem.Challenge.pw_seekhall_k54_swaps.main.body) hX true s).2.2.1)))=some ((openGood fF [b_ "TURNERS"]).2.1,(openGood fF [b_ "TURNERS"]).2.2.1)
theorem Ic:hS1 false:=by intro w;kernel_rfl
theorem HI:hS1 true:=by intro w;kernel_rfl
abbrev hS2 (b:Bool):Prop:=∀w:World,(JO y_ PySem.Challenge.pw_seekhall_k54_swaps w 12400).bind (λz=>(topFrom y_ PySem.Challenge.pw_seekhall_k54_swaps (w.withFollow "special-get-raises" b) 12400 z).map (λs=>(openSeen fF [b_ "TURNERS"] (Jw PySem.Challenge.pw_seekhall_k54_swaps.main.body) hX true s).2.2.2))=some ((openGood fF [b_ "TURNERS"]).2.2.2)
theorem HB:hS2 false:=by intro w;kernel_rfl
theorem Hh:hS2 true:=by intro w;kernel_rfl
abbrev hS3 (b:Bool):Prop:=∀w:World,(JO y_ PySem.Challenge.pw_seekhall_k54_swaps w 12400).bind (λz=>(topFrom y_ PySem.Challenge.pw_seekhall_k54_swaps (w.withFollow "special-get-raises" b) 12400 z).map (λs=>Hook.obs hK s))=some (Hook.val hK (w.withFollow "special-get-raises" b))
theorem Hg:hS3 false:=by intro w;kernel_rfl
theorem Ib:hS3 true:=by intro w;kernel_rfl
theorem hl1:DT false:=λw=>Ee (Hb w) (Ic w) (HB w) (Hg w) λs e1 e2 U z=>Eb e1 e2 U z
theorem hl2:DT true:=λw=>Ee (Hr w) (HI w) (Hh w) (Ib w) λs e1 e2 U z=>Eb e1 e2 U z
theorem hl:LeftO PySem.Challenge.pw_seekhall_k54_swaps fF [b_ "TURNERS"] hX (Hook.obs hK) (Hook.val hK) 12400:=left_two "special-get-raises" hl1 hl2
theorem wsd:PySem.W.OpenLaw.wellSaid PySem.Challenge.rw_seekhall_k54_swaps=true:=by kernel_rfl
end Lw
namespace L2
open PySem PySem.Spec PyProof.Rows
abbrev Key:=Sum Int Str
def mh:Key->Value->Bool
 | .inl k,v=>Value.isInt k v
 | .inr x,v=>Value.isStrOf x v
def Hw (w:World):Key->Int
 | .inl k=>hashInt k
 | .inr x=>hashStr w x
theorem bE : ∀{k:Key} {v:Value},mh k v=true->(∃i t,k=i9 i/\v=Value.int i t)\/(∃x t,k=e_ x/\v=Value.str x t)
 | .inl i,v,h=>by
  obtain⟨t,e⟩:=Value.isInt_shape (k:=i) (v:=v) h;exact .inl ⟨i,t,rfl,e⟩
 | .inr x,v,h=>by
  obtain⟨t,e⟩:=Value.isStrOf_shape (x:=x) (v:=v) h;exact .inr ⟨x,t,rfl,e⟩
theorem zK (i:Int) (t:Tok):mh (.inl i) (.int i t)=true:=by simp[mh,Value.isInt]
theorem zr (x:Str) (t:Tok):mh (.inr x) (.str x t)=true:=by simp[mh,Value.isStrOf]
theorem ER (a b:Int):decide ((i9 a:Key)=i9 b)=(a == b):=by
 by_cases e:a=b
 .subst e;simp
 .have h : ¬ (i9 a:Key)=i9 b:=λq=>e (Jz q)
  rw[decide_eq_false h];exact(beq_eq_false_iff_ne.mpr e).symm
theorem Gb (a b:Str):decide ((e_ a:Key)=e_ b)=decide (a=b):=by
 by_cases e:a=b
 .subst e;simp
 .have h : ¬ (e_ a:Key)=e_ b:=λq=>e (I_ q)
  rw[decide_eq_false h,decide_eq_false e]
theorem ET (a:Int) (b:Str):decide ((i9 a:Key)=e_ b)=false:=decide_eq_false (λq=>nomatch q)
theorem G9 (a:Str) (b:Int):decide ((e_ a:Key)=i9 b)=false:=decide_eq_false (λq=>nomatch q)
def aY (prog:Program) (w:World):PySem.KeyKind prog w Key where
 is:=mh
 hash:=Hw w
 inj := λv a b Z U=>by
  rcases bE Z with⟨i,t,rfl,rfl⟩ | ⟨x,t,rfl,rfl⟩
  .rcases bE U with⟨j,u,rfl,e⟩ | ⟨y,u,rfl,e⟩
   .injection e with e1 _;rw[e1]
   .exact nomatch e
  .rcases bE U with⟨j,u,rfl,e⟩ | ⟨y,u,rfl,e⟩
   .exact nomatch e
   .injection e with e1 _;rw[e1]
 byValue:=λk v h=>by
  rcases bE h with⟨i,t,rfl,rfl⟩ | ⟨x,t,rfl,rfl⟩ <;> rfl
 pyHash:=λz h=>by
  rcases bE z with⟨i,t,rfl,rfl⟩ | ⟨x,t,rfl,rfl⟩
  .exact wpAny_pyHash_int h
  .exact wpAny_pyHash_str h
 eqBool:=λY z h=>by
  rcases bE Y with⟨i,t,rfl,rfl⟩ | ⟨x,t,rfl,rfl⟩
  .rcases bE z with⟨j,u,rfl,rfl⟩ | ⟨y,u,rfl,rfl⟩
   .rw[ER] at h;exact wpAny_eqBool_int h
   .rw[ET] at h;exact SeqAt.EqAt.int_str i t y u _ _ _ _ h
  .rcases bE z with⟨j,u,rfl,rfl⟩ | ⟨y,u,rfl,rfl⟩
   .rw[G9] at h;exact SeqAt.EqAt.str_int x t j u _ _ _ _ h
   .rw[Gb] at h;exact wpAny_eqBool_str h
 «strs» := λk x t v h=>by
  rcases bE h with⟨i,u,rfl,e⟩ | ⟨y,u,rfl,e⟩
  .exact nomatch e
  .injection e with e1 _
   subst e1
   cases v <;> rfl
theorem uI (prog:Program) (w:World) (i:Int) (t:Tok):(aY prog w).is (.inl i) (.int i t)=true:=zK i t
theorem uc (prog:Program) (w:World) (x:Str) (t:Tok):(aY prog w).is (.inr x) (.str x t)=true:=zr x t
inductive V where
 | non | bl (b:Bool) | int (i:Int) | str (x:Str) | byt (b:Array UInt8) | flt (b:UInt64) | ref (a:Addr) | ty (n:String)
 deriving DecidableEq
def be:V->Value->Prop
 | .non,u=>u=o9
 | .bl b,u=>u=Value.bool b
 | .int i,u=>∃t,u=Value.int i t
 | .str x,u=>∃t,u=Value.str x t
 | .byt b,u=>∃t,u=Value.bytes b t
 | .flt b,u=>∃t,u=Value.float b t
 | .ref a,u=>u=m8 a
 | .ty n,u=>u=KN n
abbrev aX:List V->List Value->Prop:=Paired be
theorem aX.length {xs:List V} {us:List Value} (r:aX xs us):xs.length=us.length:=Paired.length r
theorem aX.get : ∀{xs:List V} {us:List Value} {i:Nat} {x:V},aX xs us->xs[i]? = some x->∃u,us[i]? = some u/\be x u
 | _,_,_,_,.nil,e=>by simp at e
 | _,_,0,_,.cons r _,e=>by simp at e;subst e;exact⟨_,rfl,r⟩
 | _,_,i+1,x,.cons _ t,e=>by
  obtain⟨u,h1,h2⟩:=aX.get (i:=i) (x:=x) t (by simpa using e)
  exact⟨u,by simpa using h1,h2⟩
theorem aX.append : ∀{xs ys:List V} {us ws:List Value},aX xs us->aX ys ws->aX (xs++ys) (us++ws)
 | _,_,_,_,.nil,s=>s
 | _,_,_,_,.cons r t,s=>.cons r (aX.append t s)
theorem aX.take : ∀{xs:List V} {us:List Value} (n:Nat),aX xs us->aX (xs.take n) (us.take n)
 | _,_,0,_=>.nil
 | _,_,_+1,.nil=>.nil
 | _,_,n+1,.cons r t=>.cons r (aX.take n t)
theorem aX.drop : ∀{xs:List V} {us:List Value} (n:Nat),aX xs us->aX (xs.drop n) (us.drop n)
 | _,_,0,r=>r
 | _,_,_+1,.nil=>.nil
 | _,_,n+1,.cons _ t=>aX.drop n t
def lh:Option V->Option Value->Prop
 | some v,some u=>be v u
 | none,none=>True
 | _,_=>False
def KV {κ:Type}:List (κ × V)->List (κ × Value)->Prop:=Paired λ(p:κ × V) (q:κ × Value)=>p.1=q.1/\be p.2 q.2
def kV:Key->V
 | .inl i=>.int i
 | .inr x=>.str x
inductive HO where
 | lst (xs:List V)
 | tup (xs:List V)
 | dK (kvs:List (Key × V)) | dT (kvs:List (List Key × V))
 | set (S:Int->Bool) (n:Nat)
 | ins (C dx:Addr) (fs:List (Str × V))
 | own (x:Addr)
 | xd (fs:List (Str × V))
 | met (f x:Addr)
 | rng (lo hi:Int)
 | frz (o:Obj) (u:HO)
 | tbl (ps:Array Value)
 | tab (q:Str)
 | ext (φ:Heap->Prop)
abbrev Hp:=Addr->Option HO
def upd (H:Hp) (a:Addr) (o:HO):Hp:=λb=>if b=a then some o else H b
theorem ab {H:Hp} {o:HO}:upd H a o a=some o:=by unfold upd;rw[if_pos rfl]
theorem ai {H:Hp} {o:HO} (h:b≠a):upd H a o b=H b:=by unfold upd;rw[if_neg h]
theorem tf {H:Hp} {o u:HO}:upd (upd H a o) a u=upd H a u:=by
 funext b;unfold upd;split <;> rfl
theorem bA {H:Hp} {o u:HO} (h:H a=some o) (h':H b=some u) (d:o≠u):a≠b:=by
 intro e;subst e;rw[h] at h';exact d (f_ h')
theorem ap {H:Hp} {o:HO} (h:H a=some o) (h':H b=none):a≠b:=by
 intro e;subst e;rw[h] at h';cases h'
section
variable (P:Program) (w:World)
def Hy (o:Obj) (q:Str):Prop:=∃vs t,o.data = .fields vs/\vs[1]? = some (.str q t)
def bf (H:Hp) (h:Heap) (a:Addr):HO->Prop
 | .lst xs=>xs.length<=g0/\∃(its:List Value) (n:Nat),aX xs its/\h.get? a=some { cls:=.type "list",data:=.seq its.toArray n }
 | .tup xs=>xs.length<=g0/\∃its:List Value,aX xs its/\IsTup h a its.toArray
 | .dK kvs=>kvs.length<=g0/\(a == Jq)=false/\∃vs,KV kvs vs/\h.DictOf (aY P w) a vs
 | .dT kvs=>kvs.length<=g0/\(a == Jq)=false/\∃xs:List (List Key × Addr × Value),
   Paired (λ(p:List Key × V) (q:List Key × Addr × Value)=>p.1=q.1/\H q.2.1>>(p.1.map kV)/\be p.2 q.2.2) kvs xs /\
   ∃o es ep,h.get? a=some o/\o.ExactDict/\o.data = .dict es ep/\es.toList=xs.map (entryOfKey (tupleKind (aY P w)))/\(xs.map (·.1)).Nodup
 | .set S n=>h.SetOf (intKind P w) a S n
 | .ins C dx fs=>H dx=some (.own a)/\fs.length<=1000/\dx≠a/\h.get? a=some (instObj C dx) /\
   ∃mA,h.Ns1 dx mA/\(∀f,lh (fs.lookup f) (mA f))/\PySem.Within mA (fs.map (·.1))
 | .own _=>∃o,h.get? a=some o
 | .xd fs=>∃mA,h.Ns1 a mA/\∀f,lh (fs.lookup f) (mA f)
 | .rng lo hi=>∃t u v,h.get? a=some { cls:=.type "range",data:=.fields #[.int lo t,.int hi u,.int 1 v] }
 | .frz o u=>h.get? a=some o/\bf H h a u
 | .tbl ps=>h.get? a=some { cls:=.none,data:=.fields ps }
 | .tab q=>∃ps:Array Value,h.get? a=some { cls:=.none,data:=.fields ps }/\TriplesOk ps.toList/\∀pos z,Kv pos ps.toList=some z->∃c oc,z=m8 c/\c≠a/\H c=some (.frz oc (.own a))/\Hy oc q
 | .met f x=>h.get? a=some (methodObj (.ref f) (.ref x))
 | .ext φ=>φ h/\(∃o,h.get? a=some o)/\∀h1 h2:Heap,φ h1->(∀o,h1.get? a=some o->h2.get? a=some o)->φ h2
def HOk (H:Hp) (h:Heap):Prop:=∀a o,H a=some o->bf P w H h a o
end
section
variable {H H':Hp} {o:HO}
theorem bf.lt (x:bf P w H h a o):a < h.objs.size:=by
 cases o with
 | lst xs=>obtain⟨_,_,_,_,e⟩:=x;exact gs e
 | tup xs=>obtain⟨_,_,_,p⟩:=x;exact p.lt
 | dK kvs=>obtain⟨_,_,_,_,o,_,_,e,_⟩:=x;exact gs e
 | dT kvs=>obtain⟨_,_,_,_,o,_,_,e,_⟩:=x;exact gs e
 | set S n=>obtain⟨o,_,_,_,e,_⟩:=x;exact gs e
 | ins C dx fs=>obtain⟨_,_,_,e,_⟩:=x;exact gs e
 | own y=>obtain⟨_,e⟩:=x;exact gs e
 | xd fs=>obtain⟨_,⟨_,_,_,e,_⟩,_⟩:=x;exact gs e
 | rng lo hi=>obtain⟨_,_,_,e⟩:=x;exact gs e
 | frz ob u=>obtain⟨e,_⟩:=x;exact gs e
 | tbl ps=>exact gs (show h.get? a=some _ from x)
 | tab q=>obtain⟨_,e,_⟩:=x;exact gs e
 | met f y=>exact gs (show h.get? a=some _ from x)
 | ext φ=>obtain⟨_,⟨_,e⟩,_⟩:=x;exact gs e
theorem Paired.mapP {α β:Type} {F G:α->β->Prop} : ∀{l₁:List α} {z:List β},Paired F l₁ z->(∀a b,F a b->G a b)->Paired G l₁ z
 | _,_,.nil,_=>.nil
 | _,_,.cons r t,f=>.cons (f _ _ r) (Paired.mapP t f)
theorem bf.stay (x:bf P w H h a o) (k : ∀b u,(b=a\/H b=some (.own a))->h.get? b=some u->h'.get? b=some u)
  (U : ∀b,H b=some (.own a)->H' b=some (.own a)) (Y : ∀b xs,H b>>xs->H' b>>xs) (hz : ∀b o y,H b=some (.frz o (.own y))->H' b=some (.frz o (.own y)):=by exact λ_ _ _ q=>q):bf P w H' h' a o:=by
 induction o with
 | lst xs=>obtain⟨z,its,n,r,e⟩:=x;exact⟨z,its,n,r,k _ _ (.inl rfl) e⟩
 | tup xs=>obtain⟨z,its,r,ob,e,c⟩:=x;exact⟨z,its,r,ob,k _ _ (.inl rfl) e,c⟩
 | dK kvs=>obtain⟨z,y,vs,r,ob,es,ep,e,c⟩:=x;exact⟨z,y,vs,r,ob,es,ep,k _ _ (.inl rfl) e,c⟩
 | dT kvs =>
  obtain⟨z,y,xs,r,ob,es,ep,e,c⟩:=x;exact⟨z,y,xs,Paired.mapP r λp q z=>⟨z.1,Y _ _ z.2.1,z.2.2⟩,ob,es,ep,k _ _ (.inl rfl) e,c⟩
 | set S n=>obtain⟨ob,es,ep,t,e,c⟩:=x;exact⟨ob,es,ep,t,k _ _ (.inl rfl) e,c⟩
 | ins C dx fs =>
  obtain⟨d,z,ne,e,mA,⟨od,es,ep,e2,c⟩,r⟩:=x;exact⟨U _ d,z,ne,k _ _ (.inl rfl) e,mA,⟨od,es,ep,k _ _ (.inr d) e2,c⟩,r⟩
 | own y=>obtain⟨ob,e⟩:=x;exact⟨ob,k _ _ (.inl rfl) e⟩
 | xd fs=>obtain⟨mA,⟨od,es,ep,e,c⟩,r⟩:=x;exact⟨mA,⟨od,es,ep,k _ _ (.inl rfl) e,c⟩,r⟩
 | rng lo hi=>obtain⟨t,u,v,e⟩:=x;exact⟨t,u,v,k _ _ (.inl rfl) e⟩
 | frz ob u ih=>obtain⟨e,q⟩:=x;exact⟨k _ _ (.inl rfl) e,ih q⟩
 | tbl ps =>
  have e:h.get? a=some { cls:=.none,data:=.fields ps }:=x
  show h'.get? a=some { cls:=.none,data:=.fields ps }
  exact k a _ (.inl rfl) e
 | tab q =>
  obtain⟨ps,e,t,hc⟩:=x;refine⟨ps,k _ _ (.inl rfl) e,t,λpos Z z=>?_⟩
  obtain⟨c,oc,ec,ne,hw,hq⟩:=hc pos Z z;exact⟨c,oc,ec,ne,hz _ _ _ hw,hq⟩
 | met f y =>
  have e:h.get? a=some (methodObj (.ref f) (.ref y)):=x
  show h'.get? a=some (methodObj (.ref f) (.ref y))
  exact k a _ (.inl rfl) e
 | ext φ=>obtain⟨p,⟨o,e⟩,st⟩:=x;exact⟨st _ _ p λo q=>k _ _ (.inl rfl) q,⟨o,k _ _ (.inl rfl) e⟩,st⟩
theorem HOk.lt (x:HOk P w H h) (e:H a=some o):a < h.objs.size:=(x a o e).lt
theorem HOk.fresh (x:HOk P w H h) (e:h.objs.size<=a):H a=none:=by
 cases q:H a with
 | none=>rfl
 | some u=>exact absurd (l4 (x.lt q) e) (JR _)
theorem HOk.kept (x:HOk P w H h) (k : ∀b u,h.get? b=some u->h'.get? b=some u):HOk P w H h':=λa o e =>
 (x a o e).stay (λb u _ q=>k b u q) (λ_ q=>q) λ_ _ q=>q
theorem HOk.laid (x:HOk P w H h) (k : ∀b u,h.get? b=some u->h'.get? b=some u) (U:h.objs.size<=a) (new:bf P w (upd H a o) h' a o):HOk P w (upd H a o) h':=λb u e=>by
 have hn:=x.fresh U
 by_cases z:b=a
 .subst z;rw[ab] at e;cases e;exact new
 .rw[ai z] at e
  exact(x b u e).stay (λc v _ q=>k c v q) (λc q=>by rw[ai (ap q hn)];exact q) (λc xs q=>by rw[ai (ap q hn)];exact q) λc _ _ q=>by rw[ai (ap q hn)];exact q
end
def Rd (H:Hp) (a:Addr) (u:HO):Prop:=H a=some u\/∃o,H a=some (.frz o u)
theorem Rd.ok {H:Hp} {u:HO} (r:Rd H a u) (x:HOk P w H h):bf P w H h a u:=by
 rcases r with r | ⟨o,r⟩
 .exact x a u r
 .obtain⟨_,q⟩:=x a _ r
  exact q
def Mut:Option HO->Prop
 | some (.lst _)=>True
 | some (.dK _)=>True
 | some (.dT _)=>True
 | some (.set _ _)=>True
 | some (.ins _ _ _)=>True
 | some (.ext _)=>True
 | some (.tab _)=>True
 | _=>False
section
variable {H:Hp} {x e:Addr} {o':HO}
theorem HOk.write (ok:HOk P w H h) (Z:Mut (H x)) (he:e=x\/H e=some (.own x)) (k : ∀b u,b≠e->h.get? b=some u->h'.get? b=some u) (ac : ∃u,h'.get? e=some u)
  (new:bf P w (upd H x o') h' x o'):HOk P w (upd H x o') h':=λb u q=>by
 have Y : ∀c y,H c=some (.own y)->c≠x:=λc y r z=>by subst z;rw[r] at Z;exact Z
 have aa : ∀c xs,H c>>xs->c≠x:=λc xs r z=>by subst z;rw[r] at Z;exact Z
 by_cases hb:b=x
 .subst hb;rw[ab] at q;cases q;exact new
 .rw[ai hb] at q
  by_cases U:b=e
  .have q':H b=some (.own x):=by
    rcases he with z | z
    .exact absurd (U.trans z) hb
    .rw[U];exact z
   rw[q] at q';cases q';obtain⟨v,hv⟩:=ac;exact⟨v,by rw[U];exact hv⟩
  .refine(ok b u q).stay (λc v hc r=>k c v ?_ r) (λc r=>by rw[ai (Y c b r)];exact r) (λc xs r=>by rw[ai (aa c xs r)];exact r) λc _ _ r=>by rw[ai (λz=>by subst z;rw[r] at Z;exact Z)];exact r
   rcases hc with rfl | hc
   .exact U
   .rintro rfl
    rcases he with z | z
    .exact Y c b hc z
    .rw[hc] at z;cases z;exact hb rfl
end
structure Un (fs ex:List Addr) (H H':Hp) (h h':Heap):Prop where
 keep : ∀b o,h.get? b=some o->H b=none->b∉fs->b∉ex->h'.get? b=some o
 slot : ∀b o,h.get? b=some o->H b=none->b∈fs->b∉ex->∃sl,h'.get? b=some { o with slots:=sl }
 free : ∀b o,h.get? b=some o->H b=none->b∉ex->H' b=none
 there : ∀b o,h.get? b=some o->b∉ex->∃o',h'.get? b=some o'
 tups : ∀b xs,H b>>xs->H' b>>xs
 frzs : ∀b o u,H b=some (.frz o u)->H' b=some (.frz o u)
 tbls : ∀b ps,H b=some (.tbl ps)->∃more,H' b=some (.tbl (ps++more))
section
variable {fs fs' ex ex':List Addr} {H H1 H2:Hp} {h1 h2:Heap} {x e:Addr} {o:HO}
theorem Un.any (u:Un fs ex H H1 h h1) {b:Addr} {ob:Obj} (q:h.get? b=some ob) (n:H b=none) (z:b∉ex) : ∃sl,h1.get? b=some { ob with slots:=sl }:=by
 by_cases U:b∈fs
 .exact u.slot b ob q n U z
 .exact⟨ob.slots,u.keep b ob q n U z⟩
theorem Un.kept (k : ∀b u,h.get? b=some u->h'.get? b=some u):Un fs ex H H h h' :=
 ⟨λb ob q _ _ _=>k b ob q,λb ob q _ _ _=>⟨ob.slots,k b ob q⟩,λ_ _ _ n _=>n,λb ob q _=>⟨ob,k b ob q⟩,λ_ _ q=>q,λ_ _ _ q=>q,λ_ ps q=>⟨#[],by rw[q];simp⟩⟩
theorem Un.refl:Un fs ex H H h h:=Un.kept λ_ _ q=>q
theorem Un.laid (k : ∀b u,h.get? b=some u->h'.get? b=some u) (z:h.objs.size<=a) (hn:H a=none):Un fs ex H (upd H a o) h h' where
 keep:=λb u q _ _ _=>k b u q
 slot:=λb u q _ _ _=>⟨u.slots,k b u q⟩
 free:=λb u q n _=>by rw[ai (k_ (l4 (gs q) z))];exact n
 there:=λb u q _=>⟨u,k b u q⟩
 tups:=λb xs q=>by rw[ai (ap q hn)];exact q
 frzs:=λb u xs q=>by rw[ai (ap q hn)];exact q
 tbls:=λb ps q=>⟨#[],by rw[ai (ap q hn),q];simp⟩
theorem Un.write (Y:Mut (H x)) (he:e=x\/H e=some (.own x)) (k : ∀b u,b≠e->h.get? b=some u->h'.get? b=some u) (aa : ∃u,h'.get? e=some u):Un fs ex H (upd H x o) h h':=by
 have hx : ∀b,H b=none->b≠x:=λb n z=>by subst z;rw[n] at Y;exact Y
 have hb : ∀b,H b=none->b≠e:=λb n z=>by
  subst z;rcases he with r | r
  .exact hx b n r
  .rw[n] at r;cases r
 have Z : ∀b u,H b=some u->¬ Mut (some u)->b≠x:=λb u q nm z=>by subst z;rw[q] at Y;exact nm Y
 refine⟨λb u q n _ _=>k b u (hb b n) q,λb u q n _ _=>⟨u.slots,k b u (hb b n) q⟩,λb u q n _=>by rw[ai (hx b n)];exact n,λb u q _=>?_,
  λb xs q=>by rw[ai (Z b _ q λz=>z)];exact q,λb u xs q=>by rw[ai (Z b _ q λz=>z)];exact q,λb ps q=>⟨#[],by rw[ai (Z b _ q λz=>z),q];simp⟩⟩
 by_cases U:b=e
 .subst U;exact aa
 .exact⟨u,k b u U q⟩
end
def trk (h:Heap) (H:Hp):List Addr:=(range h.objs.size).filter λa=>(H a).isSome
def qd (h:Heap) (H:Hp):Heap:=PySem.W.hideAll h (trk h H)
theorem zU (h:Heap) (H:Hp):(qd h H).objs.size=h.objs.size:=PySem.W.hideAll_size _ _
theorem Bt {H:Hp} {o:Obj} (e:h.get? b=some o) (n:H b=none):(qd h H).get? b=some o :=
 PySem.W.hideAll_get _ e λz=>by
  have q:(H b).isSome=true:=(u7.mp z).2
  rw[n] at q;simp at q
theorem Dz {H:Hp} {o:Obj} (e:(qd h H).get? b=some o):h.get? b=some o/\H b=none:=by
 have U:h.get? b=some o:=PySem.W.of_hideAll (trk h H) e
 refine⟨U,?_⟩
 cases q:H b with
 | none=>rfl
 | some x =>
  have Y:b∈trk h H:=u7.mpr ⟨x8.mpr (gs U),by simp[q]⟩
  have z:(qd h H).get? b=none:=PySem.W.hideAll_none (trk h H) Y
  rw[z] at e;cases e
structure Mod (K:ge) (mg:Str->Option Value) (base:Heap):Prop where
 kin:K.In base
 glob:base.Ns o8 mg
 blt : ∃mb,base.Ns builtinsNs mb/\∀x:Str,x ≠ "__name__" -> mb x=If x
 nolimit:base.NoLimit
structure Cx where
 prog:Program
 w:World
 K:ge
 mg:Str->Option Value
 base:Heap
 A:Around
 N:List Str
 s₀:Shared
 H₀:Hp
 env:Env
 outer:List Env
 stack:List Env
 ex:List Addr
 fn:Str->Bool
 calm:Bool
 pn:List (Addr × Obj)
 xe:Value->Shared->Prop
def frs (l:List Env):List Addr:=l.filterMap (·.frame)
abbrev Cx.fs (X:Cx):List Addr:=frs X.outer
def Vis (sc:Scope) (x:Str):Prop:=sc.names.lookup x=some .local\/sc.names.lookup x=some .cell\/sc.names.lookup x=some .free
def Loc (sc:Scope) (x:Str):Prop:=sc.names.lookup x=some .local\/sc.names.lookup x=some .cell
def Jb (env:Env) (h:Heap) (m:Str->Option Value) (x:Str) (u:Value):Prop :=
 (env.kindOf x=some .local/\m x=some u)\/((env.kindOf x=some .cell\/env.kindOf x=some .free)/\∃c,env.cells.lookup x=some c/\h.IsCell c (some u))
structure Cx.Ok (X:Cx):Prop where
 mod:Mod X.K X.mg X.base
 kind:X.env.scope.kind = .function
 glob:X.env.globals=o8
 blt:X.env.builtins=builtinsNs
 above:X.s₀.heap.objs.size<=X.env.locals
 inj : ∀x y c,X.env.cells.lookup x=some c->X.env.cells.lookup y=some c->x=y
 has : ∀x,(X.env.kindOf x=some .cell\/X.env.kindOf x=some .free)->∃c,X.env.cells.lookup x=some c
 cab : ∀x c,X.fn x=true->X.env.cells.lookup x=some c->X.s₀.heap.objs.size<=c
 hd:X.calm=true->X.A.handled=none
 frames:X.A.frames=some X.stack
 stk:X.stack=X.outer\/(X.stack=X.env :: X.outer/\X.env.frame=some X.env.locals)
 exf : ∀b∈X.ex,b≠X.env.locals/\∀x c,X.env.cells.lookup x=some c->c≠b
 bs : ∀b o,X.base.get? b=some o->X.s₀.heap.get? b=some o/\X.H₀ b=none
 bsz:X.base.objs.size<=X.s₀.heap.objs.size
 noex : ∀b o,X.base.get? b=some o->b∉X.ex
 exfs : ∀b∈X.ex,b∉X.fs
 funs:X.s₀.heap.FunFrames X.base X.outer
 frf : ∀b∈X.fs,X.H₀ b=none
structure Inv (X:Cx) (pins:List (Addr × Obj)) (σ:List (Option V)) (H:Hp) (s:Shared):Prop where
 ok:X.Ok
 os:s.os=X.s₀.os
 bare:AllBare s.gens
 base:Un X.fs X.ex X.H₀ H X.s₀.heap s.heap
 loc : ∃m,s.heap.Ns X.env.locals m/\∀(i:Nat) (x:Str) (v:V),X.N[i]? = some x->σ[i]? = some (some v)->Vis X.env.scope x->∃u,be v u/\Jb X.env s.heap m x u
 cell : ∀x c,X.env.cells.lookup x=some c->∃v,s.heap.IsCell c v
 free:H X.env.locals=none
 freeC : ∀x c,X.env.cells.lookup x=some c->H c=none
 pin : ∀p∈X.pn++pins,s.heap.get? p.1=some p.2/\H p.1=none/\p.1≠X.env.locals/\p.1∉X.fs/\∀v,p.2.data≠.cell v
 hok:HOk X.prog X.w H s.heap
 len:σ.length=X.N.length
section
variable {X:Cx} {σ:List (Option V)} {H H':Hp}
theorem Cx.Ok.nofr (ok:X.Ok) {b:Addr} {o:Obj} (e:X.base.get? b=some o):b∉X.fs:=λz=>by
 have:=(ok.funs.mem z).1
 rw[e] at this;cases this
theorem Inv.bs (I:Inv X pins σ H s) : ∀b o,X.base.get? b=some o->s.heap.get? b=some o/\H b=none:=λb o e =>
 ⟨I.base.keep b o (I.ok.bs b o e).1 (I.ok.bs b o e).2 (I.ok.nofr e) (I.ok.noex b o e),I.base.free b o (I.ok.bs b o e).1 (I.ok.bs b o e).2 (I.ok.noex b o e)⟩
theorem Inv.bk (I:Inv X pins σ H s) : ∀b o,X.base.get? b=some o->s.heap.get? b=some o:=λb o e=>(I.bs b o e).1
theorem Inv.mod (I:Inv X pins σ H s):Mod X.K X.mg X.base:=I.ok.mod
theorem Inv.kIn (I:Inv X pins σ H s):X.K.In s.heap:=I.ok.mod.kin.keeps I.bk
theorem Inv.nolimit (I:Inv X pins σ H s):s.heap.NoLimit:=I.ok.mod.nolimit.keeps I.bk
theorem Inv.lt (I:Inv X pins σ H s):X.env.locals < s.heap.objs.size:=let ⟨_,hn,_⟩:=I.loc;hn.lt
theorem Inv.sz (I:Inv X pins σ H s):X.s₀.heap.objs.size<=s.heap.objs.size:=le_trans I.ok.above (ot I.lt)
theorem Inv.nofs (I:Inv X pins σ H s) {a:Addr} (h:s.heap.objs.size<=a):a∉X.fs:=λz=>by
 obtain⟨_,o,U,_⟩:=I.ok.funs.mem z;exact absurd (l4 (gs U) (le_trans I.sz h)) (JR _)
theorem Inv.cne (I:Inv X pins σ H s) : ∀x c,X.env.cells.lookup x=some c->c≠X.env.locals:=λx c e z=>by
 obtain⟨v,o,ho,Z⟩:=I.cell x c e;obtain⟨m,⟨o',es,ep,U,Y,_⟩,_⟩:=I.loc;rw[z,U] at ho;cases ho;rw[Y] at Z;cases Z
theorem Inv.funs (I:Inv X pins σ H s):s.heap.FunFrames X.base X.outer:=by
 have all : ∀(l:List Env),(∀b∈frs l,b∈X.fs)->X.s₀.heap.FunFrames X.base l->s.heap.FunFrames X.base l:=by
  intro l
  induction l with
  | nil=>intro _ _;trivial
  | cons env r ih =>
   intro hs hl;obtain⟨hk,⟨L,o,Y,hn,ho,hd⟩,hr⟩:=hl;have Z:L∈X.fs:=hs L (by unfold frs;rw[List.filterMap_cons,Y];exact j_)
   obtain⟨sl,e⟩:=I.base.slot L o ho (I.ok.frf L Z) Z λz=>I.ok.exfs L z Z
   exact⟨hk,⟨L,_,Y,hn,e,hd⟩,ih (λb U=>hs b (by unfold frs;rw[List.filterMap_cons,Y];exact j9 _ U)) hr⟩
 exact all X.outer (λ_ U=>U) I.ok.funs
theorem Inv.stack (I:Inv X pins σ H s):s.heap.FunFrames X.base X.stack:=by
 rcases I.ok.stk with e | ⟨e,hf⟩
 .rw[e];exact I.funs
 .rw[e]
  obtain⟨m,hn,_⟩:=I.loc;refine .cons (by rw[I.ok.kind];decide) hf hn ?_ I.funs
  exact Heap.get?_none_of_le (le_trans I.ok.bsz I.ok.above)
theorem Inv.stkSub (I:Inv X pins σ H s) : ∀b∈frs X.stack,b∈X.env.locals :: X.fs:=λb z=>by
 rcases I.ok.stk with e | ⟨e,hf⟩
 .rw[e] at z;exact j9 _ z
 .rw[e] at z
  unfold frs at z;rw[List.filterMap_cons,hf] at z;exact z
theorem Inv.stkFree (I:Inv X pins σ H s) : ∀b∈frs X.stack,H b=none:=λb U=>by
 rcases i6.mp (I.stkSub b U) with e | U
 .rw[e];exact I.free
 .obtain⟨_,o,ho,_⟩:=I.ok.funs.mem U
  exact I.base.free b o ho (I.ok.frf b U) λz=>I.ok.exfs b z U
theorem Inv.step (I:Inv X pins σ H s)
  (Z : ∀b∈ch,(b∈X.ex\/X.s₀.heap.objs.size<=b)/\b≠X.env.locals/\(∀x c,X.env.cells.lookup x=some c->c≠b)/\∀p∈X.pn++pins,p.1≠b)
  (keep : ∀b o,b≠X.env.locals->b∉X.fs->b∉ch->s.heap.get? b=some o->H b=none->h'.get? b=some o)
  (slot : ∀b o,b≠X.env.locals->b∈X.fs->b∉ch->s.heap.get? b=some o->H b=none->∃sl,h'.get? b=some { o with slots:=sl }) (free : ∀b o,b∉ch->s.heap.get? b=some o->H b=none->H' b=none)
  (there : ∀b o,b∉ch->s.heap.get? b=some o->∃o',h'.get? b=some o')
  (tups : ∀b xs,H b>>xs->H' b>>xs) (frzs : ∀b o u,H b=some (.frz o u)->H' b=some (.frz o u)) (tbls : ∀b ps,H b=some (.tbl ps)->∃more,H' b=some (.tbl (ps++more)))
  (ns : ∀m,s.heap.Ns X.env.locals m->h'.Ns X.env.locals m) (af:HOk X.prog X.w H' h') (hg:AllBare g') :
  Inv X pins σ H' { s with heap:=h',gens:=g',drawn:=d',toks:=t' }:=by
 have ad : ∀b o,X.s₀.heap.get? b=some o->b≠X.env.locals:=λb o e=>k_ (l4 (gs e) I.ok.above)
 have ac : ∀b o,X.s₀.heap.get? b=some o->b∉X.ex->b∉ch:=λb o e U hb=>by
  rcases (Z b hb).1 with z | z
  .exact U z
  .exact absurd (l4 (gs e) z) (JR _)
 have aa : ∀x c,X.env.cells.lookup x=some c->∀v,s.heap.IsCell c v->h'.IsCell c v:=λx c e v ⟨o,ho,hd⟩=>by
  have Y:c∉ch:=λz=>(Z c z).2.2.1 x c e rfl
  by_cases hc:c∈X.fs
  .obtain⟨sl,q⟩:=slot c o (I.cne x c e) hc Y ho (I.freeC x c e)
   exact⟨_,q,hd⟩
  .exact⟨o,keep c o (I.cne x c e) hc Y ho (I.freeC x c e),hd⟩
 refine⟨I.ok,I.os,hg,⟨λb o e n hb U=>?_,λb o e n hb U=>?_,λb o e n U=>?_,λb o e U=>?_,λb xs e=>tups b xs (I.base.tups b xs e),λb o xs e=>frzs b o xs (I.base.frzs b o xs e),λb ps e=>?_⟩,?_,λx c e=>?_,?_,λx c e=>?_,λp hp=>?_,af,I.len⟩
 .exact keep b o (ad b o e) hb (ac b o e U) (I.base.keep b o e n hb U) (I.base.free b o e n U)
 .obtain⟨sl,e1⟩:=I.base.slot b o e n hb U
  obtain⟨ae,e2⟩:=slot b _ (ad b o e) hb (ac b o e U) e1 (I.base.free b o e n U);exact⟨ae,e2⟩
 .obtain⟨o',e1⟩:=I.base.there b o e U
  exact free b o' (ac b o e U) e1 (I.base.free b o e n U)
 .obtain⟨o',e1⟩:=I.base.there b o e U
  exact there b o' (ac b o e U) e1
 .obtain⟨m1,e1⟩:=I.base.tbls b ps e
  obtain⟨m2,e2⟩:=tbls b _ e1;exact⟨m1++m2,by rw[e2,Array.append_assoc]⟩
 .obtain⟨m,hn,hl⟩:=I.loc
  refine⟨m,ns m hn,λi x v e1 e2 e3=>?_⟩
  obtain⟨u,r,l⟩:=hl i x v e1 e2 e3;refine⟨u,r,?_⟩
  rcases l with l | ⟨k,c,e,z⟩
  .exact .inl l
  .exact .inr ⟨k,c,e,aa x c e _ z⟩
 .obtain⟨v,z⟩:=I.cell x c e
  exact⟨v,aa x c e v z⟩
 .obtain⟨m,⟨o,_,_,ho,_⟩,_⟩:=I.loc
  exact free _ o (λz=>(Z _ z).2.1 rfl) ho I.free
 .obtain⟨v,o,ho,hd⟩:=I.cell x c e
  exact free c o (λz=>(Z c z).2.2.1 x c e rfl) ho (I.freeC x c e)
 .obtain⟨e,n,ne,nf,d⟩:=I.pin p hp
  have Y:p.1∉ch:=λz=>(Z p.1 z).2.2.2 p hp rfl
  exact⟨keep p.1 p.2 ne nf Y e n,free p.1 p.2 Y e n,ne,nf,d⟩
theorem Inv.un (I:Inv X pins σ H s) (u:Un X.fs [] H H' s.heap h') (Z:HOk X.prog X.w H' h'):Inv X pins σ H' { s with heap:=h',toks:=t' }:=by
 obtain⟨m,⟨o,es,ep,ho,r⟩,_⟩:=id I.loc;obtain⟨sl,hL⟩:=u.any ho I.free (by simp)
 exact I.step (g':=s.gens) (d':=s.drawn) (ch:=[]) (λ_ z=>nomatch z) (λb o _ Y _ e n=>u.keep b o e n Y (by simp)) (λb o _ Y _ e n=>u.slot b o e n Y (by simp)) (λb o _ e n=>u.free b o e n (by simp)) (λb o _ e=>u.there b o e (by simp)) u.tups u.frzs u.tbls (λm' hm=>by
  obtain⟨o',aa,ac,U,r'⟩:=hm;rw[ho] at U;cases U;exact⟨_,aa,ac,hL,r'⟩) Z I.bare
theorem Inv.call (I:Inv X pins σ H s) (u:Un (frs X.stack) ch H H' s.heap h') (aa:HOk X.prog X.w H' h') (hg:AllBare g')
  (Z : ∀b∈ch,(b∈X.ex\/X.s₀.heap.objs.size<=b)/\b≠X.env.locals/\(∀x c,X.env.cells.lookup x=some c->c≠b)/\∀p∈X.pn++pins,p.1≠b) :
  Inv X pins σ H' { s with heap:=h',gens:=g',drawn:=d',toks:=t' }:=by
 obtain⟨m,⟨o,es,ep,ho,r⟩,_⟩:=id I.loc;obtain⟨sl,hL⟩:=u.any ho I.free λz=>(Z _ z).2.1 rfl
 exact I.step (ch:=ch) Z (λb o hL hb U e n=>u.keep b o e n (λz=>(i6.mp (I.stkSub b z)).elim hL hb) U) (λb o _ _ U e n=>u.any e n U) (λb o U e n=>u.free b o e n U) (λb o U e=>u.there b o e U) u.tups u.frzs u.tbls (λm' hm=>by
  obtain⟨o',ac,ad,Y,r'⟩:=hm;rw[ho] at Y;cases Y;exact⟨_,ac,ad,hL,r'⟩) aa hg
theorem Inv.turned (I:Inv X pins σ H s) (k : ∀b o,b≠it->s.heap.get? b=some o->h'.get? b=some o) (hn:H it=none) (Z:it≠X.env.locals)
  (h1:it∈X.ex\/X.s₀.heap.objs.size<=it) (h2 : ∀x c,X.env.cells.lookup x=some c->c≠it) (h3 : ∀p∈X.pn++pins,p.1≠it):Inv X pins σ H { s with heap:=h',toks:=t' }:=by
 have Y : ∀b u,H b=some u->b≠it:=λb u e z=>by rw[z,hn] at e;cases e
 refine I.step (g':=s.gens) (d':=s.drawn) (ch:=[it]) (λb hb=>?_) (λb o _ _ U e _=>k b o (λz=>U (by simp[z])) e) (λb o _ _ U e _=>⟨o.slots,k b o (λz=>U (by simp[z])) e⟩) (λ_ _ _ _ n=>n)
  (λb o U e=>⟨o,k b o (λz=>U (by simp[z])) e⟩) (λ_ _ e=>e) (λ_ _ _ e=>e) (λb ps e=>⟨#[],by rw[e];simp⟩) (λm hm=>?_) (λb u e=>?_) I.bare
 .have e:b=it:=by simpa using hb
  subst e;exact⟨h1,Z,h2,h3⟩
 .obtain⟨o,es,ep,ho,r⟩:=hm
  exact⟨o,es,ep,k _ o (Jx Z) ho,r⟩
 .refine(I.hok b u e).stay (λc v U q=>k c v ?_ q) (λ_ q=>q) λ_ _ q=>q
  rcases U with z | z
  .rw[z];exact Y b u e
  .exact Y c _ z
theorem Inv.tok (I:Inv X pins σ H s) (t:Nat):Inv X pins σ H { s with toks:=t }:=I.un (h':=s.heap) (t':=t) Un.refl I.hok
theorem Inv.kept {t':Nat} (I:Inv X pins σ H s) (k : ∀b u,s.heap.get? b=some u->h'.get? b=some u):Inv X pins σ H { s with heap:=h',toks:=t' }:=I.un (Un.kept k) (I.hok.kept k)
theorem Inv.laid {a:Addr} {o:HO} {t':Nat} (I:Inv X pins σ H s) (k : ∀b u,s.heap.get? b=some u->h'.get? b=some u) (z:s.heap.objs.size<=a) (new:bf X.prog X.w (upd H a o) h' a o) :
  Inv X pins σ (upd H a o) { s with heap:=h',toks:=t' }:=I.un (Un.laid k z (I.hok.fresh z)) (I.hok.laid k z new)
theorem Inv.write {x e:Addr} {o:HO} {t':Nat} (I:Inv X pins σ H s) (Y:Mut (H x)) (U:e=x\/H e=some (.own x)) (k : ∀b u,b≠e->s.heap.get? b=some u->h'.get? b=some u) (z : ∃u,h'.get? e=some u)
  (new:bf X.prog X.w (upd H x o) h' x o):Inv X pins σ (upd H x o) { s with heap:=h',toks:=t' }:=I.un (Un.write Y U k z) (I.hok.write Y U k z new)
theorem Inv.weak {σ':List (Option V)} (I:Inv X pins σ H s) (hl:σ'.length=σ.length) (w : ∀(i:Nat) v,σ'[i]? = some (some v)->σ[i]? = some (some v)):Inv X pins σ' H s :=
 ⟨I.ok,I.os,I.bare,I.base,let ⟨m,hn,hl'⟩:=I.loc;⟨m,hn,λi x v e1 e2 z=>hl' i x v e1 (w i v e2) z⟩,I.cell,I.free,I.freeC,I.pin,I.hok,hl.trans I.len⟩
theorem Inv.pins_of (I:Inv X pins σ H s) (h : ∀p∈pins',s.heap.get? p.1=some p.2/\H p.1=none/\p.1≠X.env.locals/\p.1∉X.fs/\∀v,p.2.data≠.cell v):Inv X pins' σ H s :=
 ⟨I.ok,I.os,I.bare,I.base,I.loc,I.cell,I.free,I.freeC,λp U=>(j6.mp U).elim (λz=>I.pin p (t6 _ z)) (h p),I.hok,I.len⟩
theorem vZ (z:N.Nodup) {i j:Nat} {x:Str} (a:N[i]? = some x) (b:N[j]? = some x):i=j:=by
 obtain⟨h1,e1⟩:=i7.mp a;obtain⟨h2,e2⟩:=i7.mp b;exact(List.getElem_inj z).mp (e1.trans e2.symm)
theorem rO {v:V} {Q:Unit->Shared->Prop} (I:Inv X pins σ H s) (hN:X.N.Nodup) (hi:X.N[i]? = some x) (hx:Loc X.env.scope x) (r:be v u)
  (h : ∀s',Inv X pins (σ.set i (some v)) H s'->(∃a,K5 a s.heap s'.heap/\(a=X.env.locals\/X.env.cells.lookup x=some a))->Q Unit.unit s') (hf:X.fn x=true\/X.env.scope.names.lookup x=some .local:=by first | exact .inl rfl | exact .inr rfl | assumption):wpAny M A (storeName X.env x u) Q E s:=by
 obtain⟨m,hn,hl⟩:=id I.loc;have ag:(X.env.scope.kind == .class || (X.env.scope.kind == .module && X.env.locals != X.env.globals))=false:=by rw[I.ok.kind];rfl
 have ac:i < σ.length:=by rw[I.len];exact(i7.mp hi).1
 have cne:=I.cne;have Y : ∀{a:Addr} {h':Heap},(∃o,s.heap.get? a=some o/\H a=none)->K5 a s.heap h'->HOk X.prog X.w H h':=λ{a h'} ha U b ob e=>by
  obtain⟨_,_,aa⟩:=ha;refine(I.hok b ob e).stay (λc w' Z q=>(U.2 c ?_).trans q) (λ_ q=>q) λ_ _ q=>q
  rintro rfl
  rcases Z with rfl | Z
  .rw[aa] at e;cases e
  .rw[aa] at Z;cases Z
 rcases hx with hk | hk
 .refine wpAny_storeName_local hk hn (λh' ah U=>?_) ag
  obtain⟨oL,_,_,ai,_⟩:=id hn;refine h _ ⟨I.ok,I.os,I.bare,⟨λb o e n hb hx=>?_,λb o e n hb hx=>?_,I.base.free,λb o e hx=>?_,I.base.tups,I.base.frzs,I.base.tbls⟩,⟨_,ah,λj y v' e1 e2 e3=>?_⟩,λy c e=>?_,I.free,I.freeC,λp hp=>?_,Y ⟨oL,ai,I.free⟩ U,by simpa using I.len⟩ ⟨_,U,.inl rfl⟩
  .exact(U.2 b (k_ (l4 (gs e) I.ok.above))).trans (I.base.keep b o e n hb hx)
  .obtain⟨sl,e1⟩:=I.base.slot b o e n hb hx
   exact⟨sl,(U.2 b (k_ (l4 (gs e) I.ok.above))).trans e1⟩
  .obtain⟨o',e1⟩:=I.base.there b o e hx
   exact⟨o',(U.2 b (k_ (l4 (gs e) I.ok.above))).trans e1⟩
  .by_cases hj:j=i
   .subst hj
    rw[hi] at e1;cases e1;rw[List.getElem?_set_self ac] at e2;cases e2;exact⟨u,r,.inl ⟨hk,by simp⟩⟩
   .rw[KO (Jx hj)] at e2
    obtain⟨u',r',q⟩:=hl j y v' e1 e2 e3;refine⟨u',r',?_⟩
    rcases q with⟨k,e⟩ | ⟨k,c,e,z⟩
    .refine .inl ⟨k,?_⟩
     have:y≠x:=λe=>hj (vZ hN e1 (e ▸ hi))
     simp[this,e]
    .exact .inr ⟨k,c,e,z.sameBut U (cne y c e)⟩
  .obtain⟨w',z⟩:=I.cell y c e
   exact⟨w',z.sameBut U (cne y c e)⟩
  .obtain⟨e,n,ne,nf,d⟩:=I.pin p hp
   exact⟨(U.2 p.1 ne).trans e,n,ne,nf,d⟩
 .have hfn:X.fn x=true:=by
   rcases hf with z | z
   .exact z
   .rw[z] at hk;cases hk
  obtain⟨c,Z⟩:=I.ok.has x (.inl hk);obtain⟨w',z⟩:=I.cell x c Z;refine wpAny_storeName_cell I.ok.kind hk Z z (λh' ad U=>?_)
  obtain⟨oc,af,ae⟩:=id z;refine h { s with heap:=h' } ⟨I.ok,I.os,I.bare,⟨λb o e n hb hx=>?_,λb o e n hb hx=>?_,I.base.free,λb o e hx=>?_,I.base.tups,I.base.frzs,I.base.tbls⟩,⟨m,hn.sameBut U (Jx (cne x c Z)),λj y v' e1 e2 e3=>?_⟩,λy c' e=>?_,I.free,I.freeC,λp hp=>?_,Y ⟨oc,af,I.freeC x c Z⟩ U,by simpa using I.len⟩ ⟨c,U,.inr Z⟩
  .exact(U.2 b (k_ (l4 (gs e) (I.ok.cab x c hfn Z)))).trans (I.base.keep b o e n hb hx)
  .obtain⟨sl,e1⟩:=I.base.slot b o e n hb hx
   exact⟨sl,(U.2 b (k_ (l4 (gs e) (I.ok.cab x c hfn Z)))).trans e1⟩
  .obtain⟨o',e1⟩:=I.base.there b o e hx
   exact⟨o',(U.2 b (k_ (l4 (gs e) (I.ok.cab x c hfn Z)))).trans e1⟩
  .by_cases hj:j=i
   .subst hj
    rw[hi] at e1;cases e1;rw[List.getElem?_set_self ac] at e2;cases e2;exact⟨u,r,.inr ⟨.inl hk,c,Z,ad⟩⟩
   .rw[KO (Jx hj)] at e2
    obtain⟨u',r',q⟩:=hl j y v' e1 e2 e3;refine⟨u',r',?_⟩
    rcases q with q | ⟨k,c',e,z'⟩
    .exact .inl q
    .refine .inr ⟨k,c',e,z'.sameBut U ?_⟩
     rintro rfl
     exact hj (vZ hN e1 (I.ok.inj _ _ _ e Z ▸ hi))
  .by_cases hcc:c'=c
   .subst hcc;exact⟨_,ad⟩
   .obtain⟨w2,z2⟩:=I.cell y c' e
    exact⟨w2,z2.sameBut U hcc⟩
  .obtain⟨e,n,ne,nf,d⟩:=I.pin p hp
   refine⟨(U.2 p.1 ?_).trans e,n,ne,nf,d⟩
   intro q;rw[q,af] at e;have q':oc=p.2:=f_ e
   exact d w' (by rw[<- q'];exact ae)
theorem uA {v:V} {Q:Unit->Shared->Prop} (I:Inv X pins σ H s) (z:X.N.Nodup) (hi:X.N[i]? = some x) (Y:Loc X.env.scope x) (r:be v u)
  (h : ∀s',Inv X pins (σ.set i (some v)) H s'->Q Unit.unit s') (U:X.fn x=true\/X.env.scope.names.lookup x=some .local:=by first | exact .inl rfl | exact .inr rfl | assumption):wpAny M A (storeName X.env x u) Q E s :=
 rO I z hi Y r (λs' Z _=>h s' Z) U
theorem Inv.call' (I:Inv X pins σ H s) (Z:s'.os=s.os) (u:Un (frs X.stack) ch H H' s.heap s'.heap) (z:HOk X.prog X.w H' s'.heap) (Y:AllBare s'.gens)
  (U : ∀b∈ch,(b∈X.ex\/X.s₀.heap.objs.size<=b)/\b≠X.env.locals/\(∀x c,X.env.cells.lookup x=some c->c≠b)/\∀p∈X.pn++pins,p.1≠b):Inv X pins σ H' s':=by
 obtain⟨h',g',d',t',o'⟩:=s';have e:o'=s.os:=Z
 subst e;exact I.call (g':=g') (t':=t') (d':=d') u z Y U
end
abbrev XK:=Value->Option Addr->Hp->Prop
abbrev St:=List (Option V)
abbrev VK:=V->Hp->Prop
abbrev TE:=St->Hp->VK->Prop
abbrev TT:=St->Hp->(Bool->Hp->Prop)->Prop
abbrev TA:=St->Hp->(List V->Hp->Prop)->Prop
structure mH where
 nx:St->Hp->Prop
 rt:VK
 bk:St->Hp->Prop:=λ_ _=>False
 ct:St->Hp->Prop:=λ_ _=>False
abbrev TS:=mH->St->Hp->Prop
def EP (X:Cx) (pins:List (Addr × Obj)) (σ:St) (Q:VK) (u:Value) (s':Shared):Prop:=∃v H',Inv X pins σ H' s'/\be v u/\Q v H'
def TP (X:Cx) (pins:List (Addr × Obj)) (σ:St) (Q:Bool->Hp->Prop) (b:Bool) (s':Shared):Prop:=∃H',Inv X pins σ H' s'/\Q b H'
def AP (X:Cx) (pins:List (Addr × Obj)) (σ:St) (Q:List V->Hp->Prop) (us:List Value) (s':Shared):Prop:=∃vs H',Inv X pins σ H' s'/\aX vs us/\Q vs H'
def SP (X:Cx) (pins:List (Addr × Obj)) (D:mH) (f:Flow) (s':Shared):Prop :=
 match f with
 | .next=>∃ σ' H',Inv X pins σ' H' s'/\D.nx σ' H'
 | .brk=>∃ σ' H',Inv X pins σ' H' s'/\D.bk σ' H'
 | .cont=>∃ σ' H',Inv X pins σ' H' s'/\D.ct σ' H'
 | .ret u=>∃v σ' H',Inv X pins σ' H' s'/\be v u/\D.rt v H'
namespace Irr
set_option allowUnsafeReducibility true in
@[scoped irreducible] def _root_.L2.PE (X:Cx) (e:Expr) (t:TE):Prop :=
 ∀(pins:List (Addr × Obj)) (s:Shared) (σ:St) (H:Hp) (Q:VK),Inv X pins σ H s->t σ H Q->wpAny (model X.prog X.w) X.A (eval e X.env) (EP X pins σ Q) X.xe s
end Irr
namespace Irr
set_option allowUnsafeReducibility true in
@[scoped irreducible] def _root_.L2.PT (X:Cx) (e:Expr) (t:TT):Prop :=
 ∀(pins:List (Addr × Obj)) (s:Shared) (σ:St) (H:Hp) (Q:Bool->Hp->Prop),Inv X pins σ H s->t σ H Q->wpAny (model X.prog X.w) X.A (isTrue e X.env (eval e X.env)) (TP X pins σ Q) X.xe s
end Irr
namespace Irr
set_option allowUnsafeReducibility true in
@[scoped irreducible] def _root_.L2.PW (X:Cx) (e:Expr) (t:TT):Prop :=
 ∀(z:Sem Value) (pins:List (Addr × Obj)) (s:Shared) (σ:St) (H:Hp) (Q:Bool->Hp->Prop),Inv X pins σ H s->t σ H Q->wpAny (model X.prog X.w) X.A (isTrue e X.env z) (TP X pins σ Q) X.xe s
end Irr
theorem PW.pt {X:Cx} {t:TT} (h:PW X e t):PT X e t:=h _
namespace Irr
set_option allowUnsafeReducibility true in
@[scoped irreducible] def _root_.L2.PA (X:Cx) (es:List Expr) (t:TA):Prop :=
 ∀(pos:Pos) (pins:List (Addr × Obj)) (s:Shared) (σ:St) (H:Hp) (Q:List V->Hp->Prop),Inv X pins σ H s->t σ H Q->wpAny (model X.prog X.w) X.A (spliced (JS pos (m9 es X.env))) (AP X pins σ Q) X.xe s
end Irr
namespace Irr
set_option allowUnsafeReducibility true in
@[scoped irreducible] def _root_.L2.PS (X:Cx) (st:Stmt) (t:TS):Prop :=
 ∀(pins:List (Addr × Obj)) (s:Shared) (σ:St) (H:Hp) (D:mH),Inv X pins σ H s->t D σ H->wpAny (model X.prog X.w) X.A (exec st X.env) (SP X pins D) X.xe s
end Irr
namespace Irr
set_option allowUnsafeReducibility true in
@[scoped irreducible] def _root_.L2.PSs (X:Cx) (st:List Stmt) (t:TS):Prop :=
 ∀(pins:List (Addr × Obj)) (s:Shared) (σ:St) (H:Hp) (D:mH),Inv X pins σ H s->t D σ H->wpAny (model X.prog X.w) X.A (execs st X.env) (SP X pins D) X.xe s
end Irr
theorem thn {t:Sem α} {Q z:α->Shared->Prop} (h:wpAny M A t Q E s) (U : ∀a s,Q a s->z a s):wpAny M A t z E s:=y3 h U λ_ _ x=>x
section
variable {X:Cx}
def Db (i:Nat):TE:=λσ H Q=>∃v,σ[i]? = some (some v)/\Q v H
def tC (v:V):TE:=λ_ H Q=>Q v H
theorem Gx (hN:X.N[i]? = some x) (hv:Vis X.env.scope x) (Z:(x ==("__debug__" : Str))=false:=by decide) (Y:(x ==("__classdict__" : Str))=false:=by decide):PE X (.Name x pos) (Db i):=by
 intro pins s σ H Q I h;obtain⟨v,e,h⟩:=h;obtain⟨m,hn,hl⟩:=I.loc;obtain⟨u,r,l⟩:=hl i x v hN e hv;have z:EP X pins σ Q u s:=⟨v,H,I,r,h⟩
 rcases l with⟨U,hm⟩ | ⟨U,c,hc,hcell⟩
 .exact wpAny_Name (wpAny_loadName_local I.ok.kind U hn hm z) Z
 .rcases U with U | U
  .exact wpAny_Name (wpAny_loadName_cell I.ok.kind U hc hcell z) Z
  .exact wpAny_Name (wpAny_loadName_free I.ok.kind U hc hcell z Y) Z
theorem ae {i j pos}:PE X (.Constant (.int i) j pos) (tC (.int i)):=λ_ _ _ H _ I h=>wpAny_Constant_int ⟨.int i,H,I.tok _,⟨_,rfl⟩,h⟩
theorem ga {b j pos}:PE X (.Constant (.bool b) j pos) (tC (.bl b)):=λ_ _ _ H _ I h=>Constant_bool ⟨.bl b,H,I,rfl,h⟩
theorem gO {j pos}:PE X (.Constant .none j pos) (tC .non):=λ_ _ _ H _ I h=>Constant_none ⟨.non,H,I,rfl,h⟩
theorem aw {x j pos}:PE X (.Constant (.str x) j pos) (tC (.str x)):=λ_ _ _ H _ I h=>Calls.Constant_str ⟨.str x,H,I.tok _,⟨_,rfl⟩,h⟩
def Gl (X:Cx) (x:Str):Prop:=X.env.kindOf x=some .globalImplicit
theorem tD {σ:St} {H:Hp} (I:Inv X pins σ H s) (z:Gl X x) (Y:X.mg x=some u) (h:Q u s)
  (U:(x ==("__debug__" : Str))=false:=by decide):wpAny (model X.prog X.w) X.A (eval (.Name x pos) X.env) Q E s :=
 Calls.Name_function_global I.ok.kind z (Calls.loadGlobal_global (by rw[I.ok.glob];exact I.mod.glob.keeps I.bk) Y h) U
theorem dH {σ:St} {H:Hp} (I:Inv X pins σ H s) (U:Gl X x) (Z:X.mg x=none) (z:If x=some u) (h:Q u s)
  (hn:x ≠ "__name__" := by decide) (Y:(x ==("__debug__" : Str))=false:=by decide):wpAny (model X.prog X.w) X.A (eval (.Name x pos) X.env) Q E s:=by
 obtain⟨mb,h1,h2⟩:=I.mod.blt;exact Calls.Name_function_global I.ok.kind U (Calls.loadGlobal_builtin (by rw[I.ok.glob];exact I.mod.glob.keeps I.bk) Z (by rw[I.ok.blt];exact h1.keeps I.bk) ((h2 x hn).trans z) h) Y
theorem CU {v:V} (U:Gl X x) (Z:X.mg x=none) (z:If x=some u) (r:be v u) (hn:x ≠ "__name__" := by decide) (Y:(x ==("__debug__" : Str))=false:=by decide):PE X (.Name x pos) (tC v) :=
 λ_ _ _ H _ I h=>dH I U Z z ⟨v,H,I,r,h⟩ hn Y
variable {a b:Expr} {ta tb:TE}
def PC (X:Cx) (op:CmpOp) (a b:Expr) (t:TE):Prop :=
 ∀ (pins:List (Addr × Obj)) (s:Shared) (σ:St) (H:Hp) (Q:VK),Inv X pins σ H s->t σ H Q ->
  wpAny (model X.prog X.w) X.A (eval a X.env) (λv s₁=>wpAny (model X.prog X.w) X.A (eval b X.env) (λu z=>wpAny (model X.prog X.w) X.A (x3 op v u) (EP X pins σ Q) X.xe z) X.xe s₁) X.xe s
theorem AR (b:Expr) {op:CmpOp} (h:op≠.In) (h2:op≠.NotIn):Kt op b=false:=by
 have e1:(op == CmpOp.In)=false:=by cases op <;> first | rfl | exact absurd rfl h
 have e2:(op == CmpOp.NotIn)=false:=by cases op <;> first | rfl | exact absurd rfl h2
 cases b <;> simp[Kt,e1,e2]
def GC (ta:TE):TE:=λσ H Q=>ta σ H λx H1=>Q (.bl (decide (x = .non))) H1
def yq (ta:TE):TE:=λσ H Q=>ta σ H λx H1=>Q (.bl (!decide (x = .non))) H1
theorem be.none_iff {x:V} (r:be x v):(v == o9)=decide (x = .non):=by
 cases x with
 | non=>cases r;rfl
 | bl _=>cases r;rfl
 | int _=>obtain⟨t,rfl⟩:=r;rfl
 | str _=>obtain⟨t,rfl⟩:=r;rfl
 | byt _=>obtain⟨t,rfl⟩:=r;rfl
 | flt _=>obtain⟨t,rfl⟩:=r;rfl
 | ref _=>cases r;rfl
 | ty _=>cases r;rfl
theorem oy {j pos'} (Z:PE X a ta):PC X .Is a (.Constant .none j pos') (GC ta):=by
 intro pins s σ H Q I h;refine thn (Z pins s σ H _ I h) λv s1 z=>?_
 obtain⟨x,H1,U,r1,Y⟩:=z;exact Constant_none (is_none_gen ⟨.bl _,H1,U,by rw[r1.none_iff];rfl,Y⟩)
theorem Du {j pos'} (Y:PE X a ta):PC X .IsNot a (.Constant .none j pos') (yq ta):=by
 intro pins s σ H Q I h;refine thn (Y pins s σ H _ I h) λv s1 z=>?_
 obtain⟨x,H1,U,Z,q1⟩:=z;exact Constant_none (isnot_none_gen ⟨.bl _,H1,U,by rw[Z.none_iff];rfl,q1⟩)
def tB (t:TE):TT:=λσ H Q=>t σ H λx H1=>∃c,x = .bl c/\Q c H1
theorem fV {op:CmpOp} {t:TE} (h:PC X op a b t) (h1:Kt op b=false:=by first | exact AR _ ∅ ∅ | rfl):PT X (.Compare a [op] [b] pos) (tB t):=by
 intro pins s σ H Q I hw;refine wpAny_isTrue_Compare1 (thn (h pins s σ H _ I hw) λv s1 h1=>thn h1 λu s2 h2=>thn h2 λc s3 z=>?_) h1
 obtain⟨x,H1,U,Z,Y⟩:=z;obtain⟨d,rfl,q⟩:=Y;cases Z;exact J6 ⟨H1,U,q⟩
theorem dv {t:TE} (h:PE X e t) (he : ∀z,isTrue e X.env z=(do let v <- z;standAt e.pos;holding [v] (truthy v)):=by intro _;rfl):PT X e (tB t):=by
 intro pins s σ H Q I hw;refine isTrue_plain (thn (h pins s σ H _ I hw) λv s1 U=>?_) (he _)
 obtain⟨x,H1,Y,r1,Z⟩:=U;obtain⟨d,rfl,q⟩:=Z;cases r1;exact J6 ⟨H1,Y,q⟩
variable {tA tB':TT} {rest:List Expr}
def GW (t u:TT):TT:=λσ H Q=>t σ H λc H1=>if c=true then u σ H1 Q else Q false H1
def tOr (t u:TT):TT:=λσ H Q=>t σ H λc H1=>if c=true then Q true H1 else u σ H1 Q
def Gv (t:TT):TT:=λσ H Q=>t σ H λc H1=>Q (!c) H1
theorem gC (z:PT X a tA):PW X (.BoolOp .And [a] pos) tA:=by
 intro Y pins s σ H Q I h;refine isTrue_and (thn (z pins s σ H Q I h) λc U e=>?_)
 cases c with
 | true=>exact isTrue_and_nil e
 | false=>exact e
theorem gY (z:PT X a tA):PW X (.BoolOp .Or [a] pos) tA:=by
 intro Y pins s σ H Q I h;refine isTrue_or (thn (z pins s σ H Q I h) λc U e=>?_)
 cases c with
 | false=>exact isTrue_or_nil e
 | true=>exact e
theorem gL (ha:PT X a tA) (hb:PW X (.BoolOp .And (b :: rest) pos) tB'):PW X (.BoolOp .And (a :: b :: rest) pos) (GW tA tB'):=by
 intro wh pins s σ H Q I h;refine isTrue_and (thn (ha pins s σ H _ I h) λc Z z=>?_)
 obtain⟨H1,U,Y⟩:=z;cases c with
 | true=>exact hb wh pins Z σ H1 Q U Y
 | false=>exact⟨H1,U,Y⟩
theorem kM (ha:PT X a tA) (hb:PW X (.BoolOp .Or (b :: rest) pos) tB'):PW X (.BoolOp .Or (a :: b :: rest) pos) (tOr tA tB'):=by
 intro wh pins s σ H Q I h;refine isTrue_or (thn (ha pins s σ H _ I h) λc Z z=>?_)
 obtain⟨H1,U,Y⟩:=z;cases c with
 | true=>exact⟨H1,U,Y⟩
 | false=>exact hb wh pins Z σ H1 Q U Y
theorem lB (z:PT X a tA):PT X (.UnaryOp .Not a pos) (Gv tA):=by
 intro pins s σ H Q I h;exact isTrue_not (z pins s σ H (λc H1=>Q (!c) H1) I h)
def Aq (ta tb:TE):TE:=λσ H Q=>ta σ H λx H1=>∃c,x = .bl c/\if c=true then tb σ H1 Q else Q (.bl false) H1
def G7 (ta tb:TE):TE:=λσ H Q=>ta σ H λx H1=>∃c,x = .bl c/\if c=true then Q (.bl true) H1 else tb σ H1 Q
theorem BU {op} {t:TE} (h:PE X a t):PE X (.BoolOp op [a] pos) t:=λpins s σ H Q I hw=>BoolOp_one (h pins s σ H Q I hw)
theorem EX (ha:PE X a ta) (Z:PE X (.BoolOp .And (b :: rest) pos) tb):PE X (.BoolOp .And (a :: b :: rest) pos) (Aq ta tb):=by
 intro pins s σ H Q I h;refine BoolOp_and (thn (ha pins s σ H _ I h) λv s1 z=>?_)
 obtain⟨x,H1,Y,r1,U⟩:=z;obtain⟨c,rfl,U⟩:=U;cases r1;refine J6 ?_
 cases c with
 | true=>exact Z pins s1 σ H1 Q Y U
 | false=>exact⟨.bl false,H1,Y,rfl,U⟩
theorem Ij (ha:PE X a ta) (Z:PE X (.BoolOp .Or (b :: rest) pos) tb):PE X (.BoolOp .Or (a :: b :: rest) pos) (G7 ta tb):=by
 intro pins s σ H Q I h;refine BoolOp_or (thn (ha pins s σ H _ I h) λv s1 z=>?_)
 obtain⟨x,H1,Y,r1,U⟩:=z;obtain⟨c,rfl,U⟩:=U;cases r1;refine J6 ?_
 cases c with
 | false=>exact Z pins s1 σ H1 Q Y U
 | true=>exact⟨.bl true,H1,Y,rfl,U⟩
def tIf (t:TT) (ta tb:TE):TE:=λσ H Q=>t σ H λc H1=>if c=true then ta σ H1 Q else tb σ H1 Q
theorem AS {c:Expr} (hc:PT X c tA) (ha:PE X a ta) (hb:PE X b tb):PE X (.IfExp c a b pos) (tIf tA ta tb):=by
 intro pins s σ H Q I h;refine wpAny_IfExp (thn (hc pins s σ H _ I h) λd Y z=>?_)
 obtain⟨H1,U,Z⟩:=z;cases d with
 | true=>exact ha pins Y σ H1 Q U Z
 | false=>exact hb pins Y σ H1 Q U Z
end
def SqL (K:ge) (H:Hp) (a:Addr) (xs:List V):Prop :=
 Rd H a (.lst xs) \/
  ∃(o:Obj) (its:Array Value) (n:Nat),K.lookup a=some o/\o.cls = .type "list" /\ o.dict=none/\o.data = .seq its n/\its.size<=g0/\aX xs its.toList
def SqT (K:ge) (H:Hp) (a:Addr) (xs:List V):Prop :=
 Rd H a (.tup xs) \/
  ∃(o:Obj) (its:Array Value) (n:Nat),K.lookup a=some o/\o.cls = .type "tuple" /\ o.data = .seq its n/\its.size<=g0/\aX xs its.toList
def Im:Value->Option V
 | .none=>some .non
 | .bool b=>some (.bl b)
 | .int i _=>some (.int i)
 | .str x _=>some (.str x)
 | .bytes b _=>some (.byt b)
 | .float b _=>some (.flt b)
 | .ref a=>some (.ref a)
 | .type n=>some (.ty n)
 | _=>none
theorem be.abs {x:V} (r:be x u):Im u=some x:=by
 cases x with
 | non=>cases r;rfl
 | bl _=>cases r;rfl
 | int _=>obtain⟨t,rfl⟩:=r;rfl
 | str _=>obtain⟨t,rfl⟩:=r;rfl
 | byt _=>obtain⟨t,rfl⟩:=r;rfl
 | flt _=>obtain⟨t,rfl⟩:=r;rfl
 | ref _=>cases r;rfl
 | ty _=>cases r;rfl
theorem be.inj {x y:V} {u:Value} (r:be x u) (q:be y u):x=y:=f_ (r.abs.symm.trans q.abs)
theorem aX.inj : ∀{xs ys:List V} {us:List Value},aX xs us->aX ys us->xs=ys
 | _,_,_,.nil,.nil=>rfl
 | _,_,_,.cons r t,.cons r' t'=>by rw[r.inj r',aX.inj t t']
section
variable {X:Cx} {σ:St} {H:Hp} {xs ys:List V}
theorem SqL.of (h:H a*>xs):SqL K H a xs:=.inl (.inl h)
theorem SqT.of (h:H a>>xs):SqT K H a xs:=.inl (.inl h)
theorem Inv.list (I:Inv X pins σ H s) (h:SqL X.K H a xs) : ∃its:List Value,aX xs its/\PlainL s.heap a its.toArray/\xs.length<=g0:=by
 rcases h with h | ⟨o,its,n,hk,hc,hd,hs,hz,r⟩
 .obtain⟨z,its,n,r,e⟩:=h.ok I.hok
  exact⟨its,r,⟨_,n,e,rfl,rfl,rfl⟩,z⟩
 .refine⟨its.toList,r,⟨o,n,I.kIn a o hk,hc,hd,by simpa using hs⟩,?_⟩
  have e:=r.length;simp only[w9] at e;omega
theorem Inv.tuple (I:Inv X pins σ H s) (h:SqT X.K H a xs) : ∃its:List Value,aX xs its/\IsTup s.heap a its.toArray/\xs.length<=g0:=by
 rcases h with h | ⟨o,its,n,hk,hc,hs,hz,r⟩
 .obtain⟨z,its,r,p⟩:=h.ok I.hok
  exact⟨its,r,p,z⟩
 .refine⟨its.toList,r,⟨o,I.kIn a o hk,hc,n,by simpa using hs⟩,?_⟩
  have e:=r.length;simp only[w9] at e;omega
theorem Inv.list_inj (I:Inv X pins σ H s) (h:SqL X.K H a xs) (h':SqL X.K H a ys):xs=ys:=by
 obtain⟨its,r,⟨o,n,e,_,_,d⟩,_⟩:=I.list h;obtain⟨its',r',⟨o',U,z,_,_,d'⟩,_⟩:=I.list h';rw[e] at z;cases z;rw[d] at d'
 injection d' with d1 _
 have:its=its':=by simpa using congrArg Array.toList d1
 subst this;exact r.inj r'
theorem Inv.tuple_inj (I:Inv X pins σ H s) (h:SqT X.K H a xs) (h':SqT X.K H a ys):xs=ys:=by
 obtain⟨its,r,⟨o,e,_,n,d⟩,_⟩:=I.tuple h;obtain⟨its',r',⟨o',z,_,U,d'⟩,_⟩:=I.tuple h';rw[e] at z;cases z;rw[d] at d'
 injection d' with d1 _
 have:its=its':=by simpa using congrArg Array.toList d1
 subst this;exact r.inj r'
end
abbrev Cx.wish (X:Cx) (E:Value->Shared->Prop):Cx:={ X with xe:=E }
abbrev Cx.nox (X:Cx):Cx:=X.wish λ_ _=>False
theorem Cx.Ok.wish {X:Cx} (ok:X.Ok) (E:Value->Shared->Prop):(X.wish E).Ok :=
 ⟨ok.mod,ok.kind,ok.glob,ok.blt,ok.above,ok.inj,ok.has,ok.cab,ok.hd,ok.frames,ok.stk,ok.exf,ok.bs,ok.bsz,ok.noex,ok.exfs,ok.funs,ok.frf⟩
theorem Cx.Ok.unwish {X:Cx} (ok:(X.wish E).Ok):X.Ok :=
 ⟨ok.mod,ok.kind,ok.glob,ok.blt,ok.above,ok.inj,ok.has,ok.cab,ok.hd,ok.frames,ok.stk,ok.exf,ok.bs,ok.bsz,ok.noex,ok.exfs,ok.funs,ok.frf⟩
section
variable {X:Cx} {σ:St} {H:Hp}
theorem Inv.wish (I:Inv X pins σ H s) (E:Value->Shared->Prop):Inv (X.wish E) pins σ H s:=⟨I.ok.wish E,I.os,I.bare,I.base,I.loc,I.cell,I.free,I.freeC,I.pin,I.hok,I.len⟩
theorem Inv.unwish (I:Inv (X.wish E) pins σ H s):Inv X pins σ H s:=⟨I.ok.unwish,I.os,I.bare,I.base,I.loc,I.cell,I.free,I.freeC,I.pin,I.hok,I.len⟩
theorem SP.unwish {D:mH} {f:Flow} {s':Shared} (h:SP (X.wish E) pins D f s'):SP X pins D f s':=by
 cases f with
 | next=>obtain⟨σ',H',I,q⟩:=h;exact⟨σ',H',I.unwish,q⟩
 | brk=>obtain⟨σ',H',I,q⟩:=h;exact⟨σ',H',I.unwish,q⟩
 | cont=>obtain⟨σ',H',I,q⟩:=h;exact⟨σ',H',I.unwish,q⟩
 | ret u=>obtain⟨v,σ',H',I,r,q⟩:=h;exact⟨v,σ',H',I.unwish,r,q⟩
theorem PSs.nox {st:List Stmt} {t:TS} (h:PSs X.nox st t):PSs X st t:=λpins s σ H D I hw =>
 y3 (h pins s σ H D (I.wish _) hw) (λ_ _ q=>q.unwish) λ_ _ z=>J9 z
end
section
variable {X:Cx} {t u:TS} {te:TE}
def yl:TS:=λD σ H=>D.nx σ H
def zV (t u:TS):TS:=λD σ H=>t { D with nx:=u D } σ H
theorem aA:PSs X [] yl:=λ_ _ σ H _ I h=>wpAny_execs_nil ⟨σ,H,I,h⟩
theorem af (h1:PS X st t) (h2:PSs X rest u):PSs X (st :: rest) (zV t u):=by
 intro pins s σ H D I h;refine wpAny_execs_cons (thn (h1 pins s σ H { D with nx:=u D } I h) λf U q=>?_)
 cases f with
 | next =>
  obtain⟨σ',H',z,q⟩:=q;exact h2 pins U σ' H' D z q
 | ret v=>exact q
 | brk=>exact q
 | cont=>exact q
theorem ag (h1:PS X st t):PSs X [st] t:=by
 intro pins s σ H D I h;refine wpAny_execs_cons (thn (h1 pins s σ H D I h) λf z q=>?_)
 cases f with
 | next=>exact wpAny_execs_nil q
 | ret v=>exact q
 | brk=>exact q
 | cont=>exact q
theorem Inv.quiet {σ:St} {H:Hp} (I:Inv X pins σ H s):interactive X.env=false:=by simp[interactive,I.ok.kind]
def Bg (te:TE):TS:=λD σ H=>te σ H λ_ H1=>D.nx σ H1
theorem bu (Y:PE X e te) (Z:swapsWith e none pos.line X.env=pure false:=by rfl):PS X (.Expr e pos) (Bg te):=by
 intro pins s σ H D I h;exact wpAny_Expr_any (thn (Y pins s σ H _ I h) λv s1 z=>by obtain⟨x,H1,U,r1,q1⟩:=z;exact(⟨σ,H1,U,q1⟩)) I.quiet Z
def EE (te:TE):TS:=λD σ H=>te σ H D.rt
theorem aC (Y:PE X e te):PS X (.Return (some e) pos) (EE te):=by
 intro pins s σ H D I h;exact wpAny_Return_some (thn (Y pins s σ H _ I h) λv s1 z=>by obtain⟨x,H1,U,Z,q1⟩:=z;exact(⟨x,σ,H1,U,Z,q1⟩))
def Et (c:TT) (t u:TS):TS:=λD σ H=>c σ H λb H1=>if b=true then t D σ H1 else u D σ H1
theorem aJ {c:Expr} {a b:List Stmt} {tc:TT} (hc:PT X c tc) (ha:PSs X a t) (hb:PSs X b u):PS X (.If c a b pos) (Et tc t u):=by
 intro pins s σ H D I h;refine wpAny_If (thn (hc pins s σ H _ I h) λd Z z=>?_)
 obtain⟨H1,U,Y⟩:=z;cases d with
 | true=>exact ha pins Z σ H1 D U Y
 | false=>exact hb pins Z σ H1 D U Y
def wX:TS:=λ_ _ _=>False
theorem aN:PS X st wX:=λ_ _ _ _ _ _ h=>h.elim
end
abbrev TG:=V->St->Hp->(St->Hp->Prop)->Prop
abbrev TGs:=List V->St->Hp->(St->Hp->Prop)->Prop
def PG (X:Cx) (z:Expr) (t:TG):Prop :=
 ∀ (pins:List (Addr × Obj)) (s:Shared) (σ:St) (H:Hp) (v:V) (u:Value) (Q:St->Hp->Prop),Inv X pins σ H s->be v u->t v σ H Q ->
  wpAny (model X.prog X.w) X.A (assign z X.env u) (λ_ s'=>∃ σ' H',Inv X pins σ' H' s'/\Q σ' H') X.xe s
def PGs (X:Cx) (ts:List Expr) (t:TGs):Prop :=
 ∀ (pins:List (Addr × Obj)) (s:Shared) (σ:St) (H:Hp) (vs:List V) (us:List Value) (Q:St->Hp->Prop),Inv X pins σ H s->aX vs us->t vs σ H Q ->
  wpAny (model X.prog X.w) X.A (assignInOrder ((KP ts X.env).map (·.2)) us) (λ_ s'=>∃ σ' H',Inv X pins σ' H' s'/\Q σ' H') X.xe s
section
variable {X:Cx}
def fh (i:Nat):TG:=λv σ H Q=>Q (σ.set i (some v)) H
theorem az (i:Nat) {x:Str} (z:X.N.Nodup:=by first | assumption | exact of_decide_eq_true (by kernel_rfl)) (hi:X.N[i]? = some x:=by exact rfl) (Y:Loc X.env.scope x:=by first | exact Or.inl rfl | exact Or.inr rfl) (Z:X.fn x=true\/X.env.scope.names.lookup x=some .local:=by first | exact .inl rfl | exact .inr rfl | assumption):PG X (.Name x pos) (fh i):=by
 intro pins s σ H v u Q I r h;exact wpAny_assign_Name (uA I z hi Y r (λs' U=>⟨_,H,U,h⟩) Z)
def C1:TGs:=λvs σ H Q=>vs=[]/\Q σ H
def vE (t:TG) (u:TGs):TGs:=λvs σ H Q=>∃v r,vs=v :: r/\t v σ H λσ' H'=>u r σ' H' Q
theorem cG:PGs X [] C1:=by
 intro pins s σ H vs us Q I r h;obtain⟨e,h⟩:=h;subst e;cases r;exact assignInOrder_nil ⟨σ,H,I,h⟩
theorem aV {t:TG} {u:TGs} (h1:PG X e t) (h2:PGs X es u)
  (hs:(KP (e :: es) X.env).map (·.2)=assign e X.env ::(KP es X.env).map (·.2):=by rfl):PGs X (e :: es) (vE t u):=by
 intro pins s σ H vs us Q I r h;obtain⟨v,vr,e1,h⟩:=h;subst e1;cases r with
 | cons r rr =>
  rw[hs];refine assignInOrder_cons (thn (h1 pins s σ H _ _ _ I r h) λ_ s1 z=>?_)
  obtain⟨U,H1,Y,Z⟩:=z;exact h2 pins s1 U H1 _ _ Q Y rr Z
def Ix (K:ge) (n:Nat) (t:TGs):TG:=λv σ H Q=>∃a xs,v = .ref a/\SqT K H a xs/\xs.length=n/\t xs σ H Q
theorem Gw {t:TGs} (hc:X.calm=true) (h:PGs X es t)
  (hn:(KP es X.env).length=n:=by rfl) (z:(KP es X.env).findIdx? (·.1)=none:=by rfl):PG X (.Tuple es k pos) (Ix X.K n t):=by
 intro pins s σ H v u Q I r hw;obtain⟨a,xs,e1,hq,hl,hw⟩:=hw;subst e1;cases r;obtain⟨its,U,Z,hz⟩:=I.tuple hq;refine assign_Tuple_tuple (I.ok.hd hc) Z (by simp[hn,<- hl,U.length]) z λh' hx=>?_
 have Y:Inv X pins σ H { s with heap:=h' }:=I.kept (t':=s.toks) λb o e=>hx b o (k_ (gs e)) e
 exact h pins _ σ H xs _ Q Y (by simpa using U) hw
def xb (te:TE) (g:TG):TS:=λD σ H=>te σ H λx H1=>g x σ H1 D.nx
theorem wV {te:TE} {g:TG} (he:PE X e te) (Y:PG X tg g) (hs:swapsWithSole [tg] e pos.line X.env=pure false:=by rfl) (hw:swappedStores [tg] e X.env=pure none:=by rfl)
  (h1:(KP [tg] X.env).map (·.2)=[assign tg X.env]:=by rfl):PS X (.Assign [tg] e pos) (xb te g):=by
 intro pins s σ H D I h;refine wpAny_Assign_stores (thn (he pins s σ H _ I h) λv s1 z=>?_) hs hw
 obtain⟨x,H1,U,r1,Z⟩:=z;rw[h1];exact thn (Y pins s1 σ H1 x v _ U r1 Z) λ_ s2 q=>q
theorem aB (i:Nat) {x:Str} {e:Expr} {te:TE} {pos':Pos} (he:PE X e te) (hN:X.N.Nodup:=by assumption) (hi:X.N[i]? = some x:=by exact rfl) (hx:Loc X.env.scope x:=by first | exact Or.inl rfl | exact Or.inr rfl) (hs:swapsWith e (some (.Name x pos')) pos.line X.env=pure false:=by rfl) (Y:X.fn x=true\/X.env.scope.names.lookup x=some .local:=by first | exact .inl rfl | exact .inr rfl | assumption) :
  PS X (.Assign [.Name x pos'] e pos) (xb te (fh i)):=by
 intro pins s σ H D I h;refine wpAny_Assign_Name (thn (he pins s σ H _ I h) λv s1 z=>?_) hs
 obtain⟨y,H1,U,r1,Z⟩:=z;exact uA U hN hi hx r1 (λs2 I2=>⟨_,H1,I2,Z⟩) Y
end
section
variable {X:Cx}
def xo (c:TT) (tb:TS):TS:=λD σ H=>∃W:Nat->St->Hp->Prop,(∃m,W m σ H)/\∀m σ H,W m σ H ->
 c σ H λb H1=>if b=true then ∃N:St->Hp->Prop,(∀ σ' H',N σ' H'->∃z,z < m/\W z σ' H')/\tb { D with nx:=N,ct:=N,bk:=D.nx } σ H1 else D.nx σ H1
theorem fZ {c:Expr} {tc:TT} {tb:TS} (hp:PassesOwn (model X.prog X.w) X.A X.env X.xe) (hc:PT X c tc) (hb:PSs X body tb):PS X (.While c body [] pos) (xo tc tb):=by
 intro pins s σ H D I h;obtain⟨W,⟨m0,w0⟩,Z⟩:=h;refine wpAny_While (codeAny_whileLoop (λn s'=>∃ σ' H',Inv X pins σ' H' s'/\W n σ' H') ?_ m0 ⟨σ,H,I,w0⟩)
 rintro n s1 ⟨U,H1,I1,w1⟩
 refine JU hp (thn (hc pins s1 U H1 _ I1 (Z n U H1 w1)) λb s2 Y=>?_)
 obtain⟨H2,I2,q2⟩:=Y;cases b with
 | true =>
  obtain⟨N,hN,q2⟩:=q2;rw[if_pos rfl];refine JU hp (thn (hb pins s2 U H2 _ I2 q2) λf s3 q3=>?_)
  cases f with
  | next =>
   obtain⟨z,H3,I3,n3⟩:=q3;obtain⟨m',hm,w3⟩:=hN z H3 n3;exact⟨m',hm,z,H3,I3,w3⟩
  | cont =>
   obtain⟨z,H3,I3,n3⟩:=q3;obtain⟨m',hm,w3⟩:=hN z H3 n3;exact⟨m',hm,z,H3,I3,w3⟩
  | brk=>exact q3
  | ret v=>exact q3
 | false =>
  rw[if_neg i5];exact wpAny_execs_nil ⟨U,H2,I2,q2⟩
end
structure It where
 go:Nat->Hp->Prop
 yld:Nat->Hp->V->Hp->Prop
 stop:Nat->Hp->Prop
def pK (X:Cx) (pins:List (Addr × Obj)) (H:Hp) (b:Addr):Prop :=
 H b=none/\b≠X.env.locals/\b∉X.fs/\(b∈X.ex\/X.s₀.heap.objs.size<=b)/\(∀x c,X.env.cells.lookup x=some c->c≠b)/\∀p∈X.pn++pins,p.1≠b
theorem Inv.fpOk {X:Cx} {σ:St} {H H':Hp} (I:Inv X pins σ H s) (U:s.heap.objs.size<=b) (hn:H' b=none):pK X pins H' b:=by
 refine⟨hn,JQ (l4 I.lt U),I.nofs U,.inr (le_trans I.sz U),λx c e z=>?_,λp Y z=>?_⟩
 .obtain⟨v,q⟩:=I.cell x c e
  exact absurd (l4 q.lt (by rw[z];exact U)) (JR _)
 .exact absurd (l4 (gs (I.pin p Y).1) (by rw[z];exact U)) (JR _)
structure vy (P:Program) (w:World) (K:ge) (tg:Expr) (J:It) (fp:List Addr) (it:Addr) (tn:Nat->Heap->Prop):Prop where
 mem:it∈fp
 obj : ∀i h,tn i h->∀b∈fp,∃o,h.get? b=some o/\∀v,o.data≠.cell v
 keep : ∀i h h',tn i h->(∀b∈fp,∀o,h.get? b=some o->h'.get? b=some o)->tn i h'
 item : ∀(X:Cx),X.prog=P->X.w=w->X.K=K->X.calm=true->∀(i:Nat) (pins:List (Addr × Obj)) (s:Shared) (σ:St) (H:Hp) (E:Value->Shared->Prop),Inv X pins σ H s->(∀b∈fp,pK X pins H b)->tn i s.heap->J.go i H ->
  wpAny (model P w) X.A (pyNext (.ref it)) (λr s1=>∃u,r=some u /\
   wpAny (model P w) X.A (letOwnedTupleGo tg (.ref it) u) (λ_ s2=>∃x H',Inv X pins σ H' s2/\be x u/\J.yld i H x H'/\tn (i+1) s2.heap/\∀b∈fp,H' b=none) E s1) E s
 done : ∀(X:Cx),X.prog=P->X.w=w->X.K=K->X.calm=true->∀(i:Nat) (pins:List (Addr × Obj)) (s:Shared) (σ:St) (H:Hp) (E:Value->Shared->Prop),Inv X pins σ H s->(∀b∈fp,pK X pins H b)->tn i s.heap->J.stop i H ->
  wpAny (model P w) X.A (pyNext (.ref it)) (λr s1=>r=none/\Inv X pins σ H s1) E s
 self : ∀(A:Around) (i:Nat) (s:Shared) (Q:Value->Shared->Prop) (E:Value->Shared->Prop),tn i s.heap->Q (.ref it) s->wpAny (model P w) A (pyIter (.ref it)) Q E s
abbrev TI:=St->Hp->(It->Hp->Prop)->Prop
def PIE (X:Cx) (pins:List (Addr × Obj)) (σ:St) (tg:Expr) (R:It->Hp->Prop) (z:Value) (U:Shared):Prop :=
 ∃(it:Addr) (fp:List Addr) (tn:Nat->Heap->Prop) (J:It) (H':Hp),z = .ref it/\Inv X pins σ H' U/\vy X.prog X.w X.K tg J fp it tn/\tn 0 U.heap/\(∀b∈fp,pK X pins H' b)/\R J H'
def PI (X:Cx) (tg iter:Expr) (wi:TI):Prop :=
 ∀ (pins:List (Addr × Obj)) (s:Shared) (σ:St) (H:Hp) (R:It->Hp->Prop),Inv X pins σ H s->wi σ H R ->
  wpAny (model X.prog X.w) X.A (eval iter X.env) (λv z=>wpAny (model X.prog X.w) X.A (pyIter v) (PIE X pins σ tg R) X.xe z) X.xe s
theorem yf {o:Obj} {n:String} {vs:Array Value} {Q:Unit->Shared->Prop} (Z:s.heap.get? it=some o) (U:o.cls = .type n) (Y:o.data = .fields vs)
    (hn:["enumerate","zip","dict_itemiterator","dict_reverseitemiterator","odict_iterator","itertools.zip_longest","itertools.pairwise"].contains n=false) (z:Q Unit.unit s):wpAny M A (letOwnedTupleGo tg (.ref it) u) Q E s:=by
  unfold letOwnedTupleGo;cases tg <;> first
    | exact fy z
    | (cases u <;> first
        | exact fy z
        | (refine c_ (wpAny_load Z ?_)
           rw[U,Y]
           show wpAny M A (if (["enumerate","zip","dict_itemiterator","dict_reverseitemiterator","odict_iterator","itertools.zip_longest","itertools.pairwise"].contains n && vs[0]? == some (rawInt _))=true then _ else _) Q E s
           rw[if_neg (by intro h;rw[hn,Bool.false_and] at h;cases h)]
           exact fy z))
def Itl (K:ge) (a:Addr):It :=
 ⟨λi H=>∃xs x,SqL K H a xs/\xs[i]? = some x,λi H x H'=>H'=H/\∀xs,SqL K H a xs->xs[i]? = some x,λi H=>∃xs,SqL K H a xs/\xs.length<=i⟩
def Itt (K:ge) (a:Addr):It :=
 ⟨λi H=>∃xs x,SqT K H a xs/\xs[i]? = some x,λi H x H'=>H'=H/\∀xs,SqT K H a xs->xs[i]? = some x,λi H=>∃xs,SqT K H a xs/\xs.length<=i⟩
def Itr (lo:Int) (n:Nat):It:=⟨λi _=>i < n,λi H x H'=>H'=H/\x = .int (lo+i),λi _=>n<=i⟩
theorem qZ (a it:Addr):vy P w K tg (Itl K a) [it] it (λi h=>h.IsListIter it a i) where
 mem:=by simp
 obj:=λi h st b U=>by
  have e:b=it:=by simpa using U
  subst e;obtain⟨o,e,c,d⟩:=st;exact⟨o,e,λv z=>by rw[d] at z;cases z⟩
 keep:=λi h h' st k=>st.at λo e=>k it (by simp) o e
 item:=by
  intro X hP hw hK hc i pins s σ H E I Z st hg;subst hP hw hK;obtain⟨xs,x,hq,hx⟩:=hg;obtain⟨its,rv,p,hz⟩:=I.list hq;obtain⟨u,hu,ru⟩:=rv.get hx;obtain⟨f0,f1,f2,f3,f4,f5⟩:=Z it (by simp)
  refine wpAny_pyNext_list_item st p.isList (x:=u) (by simpa using hu) λh' Y sb=>?_
  have I1:Inv X pins σ H { s with heap:=h' }:=I.turned (t':=s.toks) (λb o U e=>(sb.2 b U).trans e) f0 f1 f3 f4 f5
  obtain⟨o,e,c,d⟩:=id Y;exact⟨u,rfl,yf (s:={ s with heap:=h' }) e c d ∅ ⟨x,H,I1,ru,⟨rfl,λys hy=>by rw[I.list_inj hy hq];exact hx⟩,Y,λb U=>(Z b U).1⟩⟩
 done:=by
  intro X hP hw hK hc i pins s σ H E I Z st hg;subst hP hw hK;obtain⟨xs,hq,hx⟩:=hg;obtain⟨its,rv,p,hz⟩:=I.list hq;obtain⟨f0,f1,f2,f3,f4,f5⟩:=Z it (by simp)
  have hl:=rv.length;exact wpAny_pyNext_list_end (I.ok.hd hc) st p.isList (by simp;omega) λh' eb=>⟨rfl,I.turned (t':=s.toks) (λb o U e=>eb b o U e) f0 f1 f3 f4 f5⟩
 self:=λ_ _ _ _ _ st h=>wpAny_pyIter_listiter st h
theorem oQ (a it:Addr):vy P w K tg (Itt K a) [it] it (λi h=>h.IsTupleIter it a i) where
 mem:=by simp
 obj:=λi h st b U=>by
  have e:b=it:=by simpa using U
  subst e;obtain⟨o,e,c,d⟩:=st;exact⟨o,e,λv z=>by rw[d] at z;cases z⟩
 keep:=λi h h' st k=>st.at λo e=>k it (by simp) o e
 item:=by
  intro X hP hw hK hc i pins s σ H E I Z st hg;subst hP hw hK;obtain⟨xs,x,hq,hx⟩:=hg;obtain⟨its,rv,p,hz⟩:=I.tuple hq;obtain⟨u,hu,ru⟩:=rv.get hx;obtain⟨f0,f1,f2,f3,f4,f5⟩:=Z it (by simp)
  refine wpAny_pyNext_tuple_item st (show s.heap.IsTuple a its.toArray from p) (x:=u) (by simpa using hu) λh' Y sb=>?_
  have I1:Inv X pins σ H { s with heap:=h' }:=I.turned (t':=s.toks) (λb o U e=>(sb.2 b U).trans e) f0 f1 f3 f4 f5
  obtain⟨o,e,c,d⟩:=id Y;exact⟨u,rfl,yf (s:={ s with heap:=h' }) e c d ∅ ⟨x,H,I1,ru,⟨rfl,λys hy=>by rw[I.tuple_inj hy hq];exact hx⟩,Y,λb U=>(Z b U).1⟩⟩
 done:=by
  intro X hP hw hK hc i pins s σ H E I Z st hg;subst hP hw hK;obtain⟨xs,hq,hx⟩:=hg;obtain⟨its,rv,p,hz⟩:=I.tuple hq;obtain⟨f0,f1,f2,f3,f4,f5⟩:=Z it (by simp)
  have hl:=rv.length;exact wpAny_pyNext_tuple_end (I.ok.hd hc) st (show s.heap.IsTuple a its.toArray from p) (by simp;omega) λh' eb=>⟨rfl,I.turned (t':=s.toks) (λb o U e=>eb b o U e) f0 f1 f3 f4 f5⟩
 self:=λ_ _ _ _ _ st h=>wpAny_pyIter_tupleiter st h
theorem wZ (it:Addr) (lo:Int) (n:Nat):vy P w K tg (Itr lo n) [it] it (λi h=>IsRangeIter h it (lo+(i:Nat) * 1) ((n:Int) - (i:Nat)) 1) where
 mem:=by simp
 obj := λi h st b U=>by
  have e:b=it:=by simpa using U
  subst e;exact⟨_,st,λv z=>by
   have z':Data.fields _=Data.cell v:=z
   cases z'⟩
 keep:=λi h h' st k=>k it (by simp) _ st
 item:=by
  intro X hP hw hK hc i pins s σ H E I Z st hg;subst hP hw hK;obtain⟨f0,f1,f2,f3,f4,f5⟩:=Z it (by simp)
  have W:=Walks.range (prog:=X.prog) (w:=X.w) (I.ok.hd hc) it lo 1 n;refine W.item i s _ _ hg st λv h' tk hv Y kk=>?_
  obtain⟨t,rfl⟩:=hv;have I1:Inv X pins σ H { s with heap:=h',toks:=tk }:=I.turned (λb o U e=>kk b o (by simpa using U) e) f0 f1 f3 f4 f5
  refine⟨_,rfl,yf (s:={ s with heap:=h',toks:=tk }) (n := "range_iterator") Y rfl rfl ∅ ⟨.int (lo+i),H,I1,⟨t,?_⟩,⟨rfl,rfl⟩,Y,λb U=>(Z b U).1⟩⟩
  rw[Int.mul_one]
 done:=by
  intro X hP hw hK hc i pins s σ H E I Z st hg;subst hP hw hK;obtain⟨f0,f1,f2,f3,f4,f5⟩:=Z it (by simp)
  exact wpAny_pyNext_range_end (I.ok.hd hc) st (by have:n<=i:=hg;omega) λh' eb=>⟨rfl,I.turned (t':=s.toks) (λb o U e=>eb b o U e) f0 f1 f3 f4 f5⟩
 self:=λ_ _ _ _ _ st h=>wpAny_pyIter_rangeiter st h
section
variable {X:Cx}
theorem ve {σ:St} {H:Hp} {R:It->Hp->Prop} {lo hi:Int} {t u v:Tok} (I:Inv X pins σ H s) (h1 : -(2 ^ 62)<=lo) (h2:lo < 2 ^ 62) (Y : -(2 ^ 62)<=hi) (Z:hi < 2 ^ 62)
  (q:R (Itr lo (hi - lo).toNat) H):wpAny (model X.prog X.w) X.A (pyIter (.ref s.heap.objs.size)) (PIE X pins σ tg R) E { s with heap:=s.heap.push { cls:=.type "range",data:=.fields #[.int lo t,.int hi u,.int 1 v] },toks:=tk }:=by
 refine wpAny_pyIter_range (IsRange.new ..) (small_one h1 h2 Y Z) ?_
 have z:Inv X pins σ H { s with heap:=s.heap.push { cls:=.type "range",data:=.fields #[.int lo t,.int hi u,.int 1 v] },toks:=tk }:=I.kept λb o e=>d_ _ e
 refine⟨(s.heap.push { cls:=.type "range",data:=.fields #[.int lo t,.int hi u,.int 1 v] }).objs.size,[(s.heap.push { cls:=.type "range",data:=.fields #[.int lo t,.int hi u,.int 1 v] }).objs.size],_,_,H,rfl,
  z.kept (t':=tk) λb o e=>d_ _ e,wZ _ lo (hi - lo).toNat,?_,λb U=>?_,q⟩
 .have e1:lo+((0:Nat):Int) * 1=lo:=by simp
  have e2:(((hi - lo).toNat:Nat):Int) - ((0:Nat):Int)=Kn lo hi 1:=by rw[rangeSize_one];split <;> omega
  show IsRangeIter _ _ (lo+((0:Nat):Int) * 1) ((((hi - lo).toNat:Nat):Int) - ((0:Nat):Int)) 1
  rw[e1,e2];exact g9 _ rfl
 .have e:b=(s.heap.push { cls:=.type "range",data:=.fields #[.int lo t,.int hi u,.int 1 v] }).objs.size:=by simpa using U
  subst e;exact z.fpOk (j5 _) (z.hok.fresh (j5 _))
def BT (ta:TA):TI:=λσ H R=>ta σ H λvs H1=>∃j:Int,vs=[.int j]/\-(2 ^ 62)<=j/\j < 2 ^ 62/\R (Itr 0 j.toNat) H1
def Bv (ta:TA):TI:=λσ H R=>ta σ H λvs H1=>∃i j:Int,vs=[.int i,.int j]/\(-(2 ^ 62)<=i/\i < 2 ^ 62/\-(2 ^ 62)<=j/\j < 2 ^ 62)/\R (Itr i (j - i).toNat) H1
theorem ci {a:Expr} {ta:TA} {p:Pos} (Z:Gl X "range") (hm:X.mg "range" = none) (ha:PA X [a] ta) (hs:m9 [a] X.env=[(false,eval a X.env)]:=by rfl):PI X tg (.Call (.Name "range" p) [a] [] pos) (BT ta):=by
 intro pins s σ H R I h;refine Call_ (dH I Z hm boot_range (o5 (thn (ha pos pins s σ H _ I h) λus s1 z=>?_) hs rfl))
 obtain⟨vs,H1,Y,r1,U⟩:=z;obtain⟨j,e,U,q2,q⟩:=U;subst e;cases r1 with
 | cons r rr =>
  cases rr;obtain⟨t,rfl⟩:=r;exact call_range_1 (ve Y () () U q2 (by simpa using q))
theorem zN {a b:Expr} {ta:TA} {p:Pos} (Z:Gl X "range") (hm:X.mg "range" = none) (ha:PA X [a,b] ta) (hs:m9 [a,b] X.env=[(false,eval a X.env),(false,eval b X.env)]:=by rfl) (z:m9 [b] X.env=[(false,eval b X.env)]:=by rfl) :
  PI X tg (.Call (.Name "range" p) [a,b] [] pos) (Bv ta):=by
 intro pins s σ H R I h;refine Call_ (dH I Z hm boot_range (o5 (thn (ha pos pins s σ H _ I h) λus s1 ⟨vs,H1,I1,r1,U⟩=>?_) (by rw[hs,z]) (by rw[z];rfl)))
 obtain⟨i,j,e,⟨U,q2,q3,q4⟩,q⟩:=U;subst e;cases r1 with
 | cons r Y =>
  cases Y with
  | cons r' Y =>
   cases Y;obtain⟨t,rfl⟩:=r;obtain⟨t',rfl⟩:=r';exact call_range_2 (ve I1 U q2 q3 q4 q)
def HD (wi:TI) (g:TG) (tb:TS):TS:=λD σ H=>wi σ H λJ H1=>∃W:Nat->Nat->St->Hp->Prop,(∃m,W 0 m σ H1)/\∀i m σ H,W i m σ H ->
 (J.stop i H/\D.nx σ H)\/(J.go i H/\∃N:St->Hp->Prop,(∀ σ' H',N σ' H'->∃U,U < m/\W (i+1) U σ' H')/\∀x H',J.yld i H x H'->g x σ H' λz H2=>tb { D with nx:=N,ct:=N,bk:=D.nx } z H2)
def mY (fp:List Addr) (h:Heap):List (Addr × Obj):=fp.filterMap λb=>(h.get? b).map λo=>(b,o)
theorem jH {o:Obj} (z:b∈fp) (e:h.get? b=some o):(b,o)∈mY fp h:=List.mem_filterMap.mpr ⟨b,z,by rw[e];rfl⟩
theorem zE {p:Addr × Obj} (U:p∈mY fp h):p.1∈fp/\h.get? p.1=some p.2:=by
 obtain⟨b,z,e⟩:=List.mem_filterMap.mp U;cases q:h.get? b with
 | none=>rw[q] at e;cases e
 | some o =>
  rw[q] at e;have Y:(b,o)=p:=f_ e
  subst Y;exact⟨z,q⟩
theorem Inv.pinned {σ:St} {H:Hp} (I:Inv X pins σ H s) (Z : ∀b∈fp,pK X pins H b) (ho : ∀b∈fp,∃o,s.heap.get? b=some o/\∀v,o.data≠.cell v):Inv X (pins++mY fp s.heap) σ H s :=
 I.pins_of λp hp=>(j6.mp hp).elim (λz=>I.pin p (uj _ z)) λz=>by
  obtain⟨U,e⟩:=zE z;obtain⟨f0,f1,f2,_⟩:=Z p.1 U;obtain⟨o,Y,d⟩:=ho p.1 U;rw[e] at Y;cases Y;exact⟨e,f0,f1,f2,d⟩
theorem Inv.unpinned {pl:List (Addr × Obj)} {σ:St} {H:Hp} (I:Inv X (pins++pl) σ H s):Inv X pins σ H s:=I.pins_of λp z=>I.pin p (uj _ (t6 _ z))
theorem bc {wi:TI} {g:TG} {tb:TS} (hi:PI X tg iter wi) (hg:PG X tg g) (Y:PSs X body tb) (hp:PassesOwn (model X.prog X.w) X.A X.env X.xe:=by exact JV) (hc:X.calm=true:=by exact rfl)
  (hs : ∀x,foldedSetIterable iter X.env x=pure x:=by intro _;rfl):PS X (.For tg iter body [] pos) (HD wi g tb):=by
 intro pins s σ H D I h;refine wpAny_For (thn (hi pins s σ H _ I h) λv s1 h1=>thn h1 λav s2 h2=>?_) hs
 obtain⟨it,fp,tn,J,H2,e,I2,T,au,f2,W,⟨m0,w0⟩,am⟩:=h2;subst e;have ad : ∀{H':Hp},(∀b∈fp,H' b=none)->∀b∈fp,pK X pins H' b:=λhn b Y=>⟨hn b Y,(f2 b Y).2⟩
 refine codeAny_forLoop_any (λn s'=>∃i σ' H',Inv X pins σ' H' s'/\tn i s'.heap/\(∀b∈fp,H' b=none)/\W i n σ' H') ?_ m0 ⟨0,σ,H2,I2,au,λb Y=>(f2 b Y).1,w0⟩
 rintro n s3 ⟨i,ac,H3,I3,an,ak,w3⟩
 rcases am i n ac H3 w3 with⟨ao,qn⟩ | ⟨go,N,hN,step⟩
 .refine JU hp (thn (T.done X rfl rfl rfl hc i pins s3 ac H3 X.xe I3 (ad ak) an ao) λr s4 af=>?_)
  obtain⟨hr,I4⟩:=af;subst hr;exact wpAny_execs_nil ⟨ac,H3,I4,qn⟩
 .refine JU hp (thn (T.item X rfl rfl rfl hc i pins s3 ac H3 X.xe I3 (ad ak) an go) λr s4 ah=>?_)
  obtain⟨u,hr,h4⟩:=ah;subst hr;refine JU hp (thn h4 λ_ s5 ae=>?_)
  obtain⟨x,H5,I5,r5,y5,ai,aq⟩:=ae;have ap:=I5.pinned (ad aq) (T.obj _ _ ai);refine JU hp (thn (hg _ s5 ac H5 x u _ ap r5 (step x H5 y5)) λ_ s6 ag=>?_)
  obtain⟨ar,H6,I6,q6⟩:=ag;refine JU hp (thn (Y _ s6 ar H6 _ I6 q6) λf s7 q7=>?_)
  have aa : ∀{z:St} {U:Hp},Inv X (pins++mY fp s5.heap) z U s7->N z U->∃m,m < n/\∃i σ' H',Inv X pins σ' H' s7/\tn i s7.heap/\(∀b∈fp,H' b=none)/\W i m σ' H':=λ{z U} Z n7=>by
   obtain⟨m',hm,w7⟩:=hN z U n7;refine⟨m',hm,i+1,z,U,Z.unpinned,T.keep _ _ _ ai λb Y o e=>(Z.pin (b,o) (uj _ (uj _ (jH Y e)))).1,λb Y=>?_,w7⟩
   obtain⟨o,e,d⟩:=T.obj _ _ ai b Y;exact(Z.pin (b,o) (uj _ (uj _ (jH Y e)))).2.1
  cases f with
  | next=>obtain⟨z,U,Z,n7⟩:=q7;exact aa Z n7
  | cont=>obtain⟨z,U,Z,n7⟩:=q7;exact aa Z n7
  | brk=>obtain⟨z,U,Z,q7⟩:=q7;exact⟨z,U,Z.unpinned,q7⟩
  | ret v=>obtain⟨x7,z,U,Z,r7,q7⟩:=q7;exact⟨x7,z,U,Z.unpinned,r7,q7⟩
end
abbrev R2:=V->V->Hp->VK->Prop
def OpR (X:Cx) (f:Value->Value->Sem Value) (r:R2):Prop :=
 ∀ (pins:List (Addr × Obj)) (s:Shared) (σ:St) (H:Hp) (x y:V) (v u:Value) (Q:VK),Inv X pins σ H s->be x v->be y u->r x y H Q ->
  wpAny (model X.prog X.w) X.A (f v u) (EP X pins σ Q) X.xe s
def UnR (X:Cx) (f:Value->Sem Value) (r:V->Hp->VK->Prop):Prop :=
 ∀ (pins:List (Addr × Obj)) (s:Shared) (σ:St) (H:Hp) (x:V) (v:Value) (Q:VK),Inv X pins σ H s->be x v->r x H Q ->
  wpAny (model X.prog X.w) X.A (f v) (EP X pins σ Q) X.xe s
def bH (X:Cx) (f:Value) (r:List V->Hp->VK->Prop):Prop :=
 ∀ (pins:List (Addr × Obj)) (s:Shared) (σ:St) (H:Hp) (xs:List V) (us:List Value) (Q:VK),Inv X pins σ H s->aX xs us->r xs H Q ->
  wpAny (model X.prog X.w) X.A (call f us) (EP X pins σ Q) X.xe s
def tOp (r:R2) (ta tb:TE):TE:=λσ H Q=>ta σ H λx H1=>tb σ H1 λy H2=>r x y H2 Q
def tUn (r:V->Hp->VK->Prop) (ta:TE):TE:=λσ H Q=>ta σ H λx H1=>r x H1 Q
def rI (C:Int->Int->Prop) (g:Int->Int->V):R2:=λx y H Q=>∃i j,x = .int i/\y = .int j/\C i j/\Q (g i j) H
def rI0 (g:Int->Int->V):R2:=λx y H Q=>∃i j,x = .int i/\y = .int j/\Q (g i j) H
def rU (g:Int->V):V->Hp->VK->Prop:=λx H Q=>∃i,x = .int i/\Q (g i) H
section
variable {X:Cx} {a b c:Expr} {ta tb tc:TE}
theorem GH (ha:PE X a ta) (hb:PE X b tb) {pins:List (Addr × Obj)} {s:Shared} {σ:St} {H:Hp} {R:V->V->Hp->Prop} (I:Inv X pins σ H s)
  (h:ta σ H λx H1=>tb σ H1 λy H2=>R x y H2) {Q:Value->Shared->Prop} {f:Value->Value->Sem Value}
  (hf : ∀v u Z x y H2,Inv X pins σ H2 Z->be x v->be y u->R x y H2->wpAny (model X.prog X.w) X.A (f v u) Q X.xe Z) :
  wpAny (model X.prog X.w) X.A (eval a X.env) (λv s₁=>wpAny (model X.prog X.w) X.A (eval b X.env) (λu Y=>wpAny (model X.prog X.w) X.A (f v u) Q X.xe Y) X.xe s₁) X.xe s:=by
 refine thn (ha pins s σ H _ I h) λv s1 z=>?_
 obtain⟨x,H1,I1,r1,q1⟩:=z;refine thn (hb pins s1 σ H1 _ I1 q1) λu Z U=>?_
 obtain⟨y,H2,I2,r2,q2⟩:=U;exact hf v u Z x y H2 I2 r1 r2 q2
theorem aO {op:Operator} {r:R2} (U:OpR X (JH op) r) (ha:PE X a ta) (Y:PE X b tb):PE X (.BinOp a op b pos) (tOp r ta tb):=by
 intro pins s σ H Q I h;exact wpAny_BinOp (GH ha Y I h λv u Z x y H2 I2 rx z q=>U pins Z σ H2 x y v u Q I2 rx z q)
theorem ji {op:UnaryOp} {r:V->Hp->VK->Prop} (Y:UnR X (unaryOp op) r) (ha:PE X a ta):PE X (.UnaryOp op a pos) (tUn r ta):=by
 intro pins s σ H Q I h;exact UnaryOp_ (thn (ha pins s σ H _ I h) λv s1 z=>by obtain⟨x,H1,U,r1,Z⟩:=z;exact(Y pins s1 σ H1 x v Q U r1 Z))
theorem opI {f:Value->Value->Sem Value} {C:Int->Int->Prop} {g:Int->Int->Int}
  (z : ∀(i j:Int) (t u:Tok) (s:Shared) (Q:Value->Shared->Prop) (E:Value->Shared->Prop),C i j->Q (.int (g i j) s.toks) { s with toks:=s.toks+1 }->wpAny (model X.prog X.w) X.A (f (.int i t) (.int j u)) Q E s) :
  OpR X f (rI C λi j=>.int (g i j)):=by
 intro pins s σ H x y v u Q I Z U h;obtain⟨i,j,rfl,rfl,Y,q⟩:=h;obtain⟨t,rfl⟩:=Z;obtain⟨t',rfl⟩:=U;exact z i j t t' s _ _ Y ⟨.int (g i j),H,I.tok _,⟨_,rfl⟩,q⟩
theorem Hi {f:Value->Value->Sem Value} {g:Int->Int->Int}
  (z : ∀(i j:Int) (t u:Tok) (s:Shared) (Q:Value->Shared->Prop) (E:Value->Shared->Prop),Q (.int (g i j) s.toks) { s with toks:=s.toks+1 }->wpAny (model X.prog X.w) X.A (f (.int i t) (.int j u)) Q E s) :
  OpR X f (rI0 λi j=>.int (g i j)):=by
 intro pins s σ H x y v u Q I Y U h;obtain⟨i,j,rfl,rfl,q⟩:=h;obtain⟨t,rfl⟩:=Y;obtain⟨t',rfl⟩:=U;exact z i j t t' s _ _ ⟨.int (g i j),H,I.tok _,⟨_,rfl⟩,q⟩
theorem HQ {f:Value->Value->Sem Value} {g:Int->Int->Bool}
  (z : ∀(i j:Int) (t u:Tok) (s:Shared) (Q:Value->Shared->Prop) (E:Value->Shared->Prop),Q (.bool (g i j)) s->wpAny (model X.prog X.w) X.A (f (.int i t) (.int j u)) Q E s) :
  OpR X f (rI0 λi j=>.bl (g i j)):=by
 intro pins s σ H x y v u Q I Y U h;obtain⟨i,j,rfl,rfl,q⟩:=h;obtain⟨t,rfl⟩:=Y;obtain⟨t',rfl⟩:=U;exact z i j t t' s _ _ ⟨.bl (g i j),H,I,rfl,q⟩
def Ca (i j:Int):Prop:=(-(2 ^ 64) < i/\i < 2 ^ 64)\/(-(2 ^ 64) < j/\j < 2 ^ 64)
theorem Ca.ok {i j:Int} (h:Ca i j):IntMulOk i j:=by
 rcases h with⟨h1,h2⟩ | ⟨h1,h2⟩
 .exact .of_left (intBits_le_64 h1 h2)
 .exact .of_right (intBits_le_64 h1 h2)
theorem bq:OpR X (JH .Add) (rI0 λi j=>.int (i+j)):=Hi λ_ _ _ _ _ _ _ q=>add_int q
theorem gx:OpR X (JH .Sub) (rI0 λi j=>.int (i - j)):=Hi λ_ _ _ _ _ _ _ q=>sub_int q
theorem iq:OpR X (JH .Mult) (rI Ca λi j=>.int (i * j)):=opI λ_ _ _ _ _ _ _ z q=>mul_int q z.ok
theorem gH:OpR X (JH .Mod) (rI (λ_ j=>0 < j) λi j=>.int (i % j)):=opI λi j _ _ _ _ _ z q=>by
 have h1:(0:Int) < j:=z
 exact mod_int' () (by rw[Int.fmod_eq_emod_of_nonneg i ()];exact q)
theorem unI {f:Value->Sem Value} {g:Int->Int}
  (z : ∀(i:Int) (t:Tok) (s:Shared) (Q:Value->Shared->Prop) (E:Value->Shared->Prop),Q (.int (g i) s.toks) { s with toks:=s.toks+1 }->wpAny (model X.prog X.w) X.A (f (.int i t)) Q E s) :
  UnR X f (rU λi=>.int (g i)):=by
 intro pins s σ H x v Q I U h;obtain⟨i,rfl,q⟩:=h;obtain⟨t,rfl⟩:=U;exact z i t s _ _ ⟨.int (g i),H,I.tok _,⟨_,rfl⟩,q⟩
theorem fW:UnR X (unaryOp .USub) (rU λi=>.int (Neg.neg i)):=unI λ_ _ _ _ _ q=>neg_int q
end
def qG:V->V->Bool
 | .non,.non=>true | .non,.int _=>true | .int _,.non=>true | .non,.bl _=>true | .bl _,.non=>true | .non,.str _=>true | .str _,.non=>true
 | .int _,.int _=>true | .bl _,.bl _=>true | .str _,.str _=>true | .byt _,.byt _=>true
 | .int _,.str _=>true | .str _,.int _=>true | .bl _,.str _=>true | .str _,.bl _=>true
 | _,_=>false
def rEq:R2:=λx y H Q=>qG x y=true/\Q (.bl (decide (x=y))) H
def rNe:R2:=λx y H Q=>qG x y=true/\Q (.bl (!decide (x=y))) H
theorem yo {i j:Int}:decide (V.int i=V.int j)=(i == j):=by
 rw[o_];simp
theorem BZ {i j:Bool}:decide (V.bl i=V.bl j)=(i == j):=by
 rw[o_];simp
theorem yc {i j:Str}:decide (V.str i=V.str j)=(i == j):=by
 rw[o_];simp
theorem yT {i j:Array UInt8}:decide (V.byt i=V.byt j)=(i.toList == j.toList):=by
 rw[o_];cases i;cases j;simp
section
variable {X:Cx} {a b c:Expr} {ta tb tc:TE}
theorem bx {σ:St} {H:Hp} {Q:VK} {k z:Bool} (I:Inv X pins σ H s) (q:Q (.bl k) H) (e:k=z):EP X pins σ Q (.bool z) s:=by
 subst e;exact⟨.bl k,H,I,rfl,q⟩
theorem aP:OpR X (x3 .Eq) rEq:=by
 intro pins s σ H x y v u Q I Y z h;obtain⟨U,q⟩:=h;cases x with
 | non =>
  cases Y;cases y with
  | non=>cases z;exact PySem.EqNone.eq_none_none (bx I q (by simp))
  | bl j=>cases z;exact PySem.EqNone.eq_none_bool (bx I q (by simp))
  | int j=>obtain⟨t',rfl⟩:=z;exact PySem.EqNone.eq_none_int (bx I q (by simp))
  | str j=>obtain⟨t',rfl⟩:=z;exact PySem.EqNone.eq_none_str (bx I q (by simp))
  | _=>exact absurd (show false=true from U) i5
 | bl i =>
  cases Y;cases y with
  | non=>cases z;exact PySem.EqNone.eq_bool_none (bx I q (by simp))
  | bl j=>cases z;exact eq_bool (bx I q BZ)
  | str j=>obtain⟨t',rfl⟩:=z;exact PySem.EqMixed.eq_bool_str (bx I q (by simp))
  | _=>exact absurd (show false=true from U) i5
 | int i =>
  obtain⟨t,rfl⟩:=Y;cases y with
  | non=>cases z;exact PySem.EqNone.eq_int_none (bx I q (by simp))
  | int j=>obtain⟨t',rfl⟩:=z;exact eq_int (bx I q yo)
  | str j=>obtain⟨t',rfl⟩:=z;exact PySem.EqMixed.eq_int_str (bx I q (by simp))
  | _=>exact absurd (show false=true from U) i5
 | str i =>
  obtain⟨t,rfl⟩:=Y;cases y with
  | non=>cases z;exact PySem.EqNone.eq_str_none (bx I q (by simp))
  | bl j=>cases z;exact PySem.EqMixed.eq_str_bool (bx I q (by simp))
  | int j=>obtain⟨t',rfl⟩:=z;exact PySem.EqMixed.eq_str_int (bx I q (by simp))
  | str j=>obtain⟨t',rfl⟩:=z;exact eq_str (bx I q yc)
  | _=>exact absurd (show false=true from U) i5
 | byt i =>
  obtain⟨t,rfl⟩:=Y;cases y with
  | byt j=>obtain⟨t',rfl⟩:=z;exact PySem.W.eq_bytes (bx I q yT)
  | _=>exact absurd (show false=true from U) i5
 | _=>cases y <;> exact absurd (show false=true from U) i5
theorem Be:OpR X (x3 .NotEq) rNe:=by
 intro pins s σ H x y v u Q I Y z h;obtain⟨U,q⟩:=h;cases x with
 | non =>
  cases Y;cases y with
  | non=>cases z;exact PySem.EqNone.ne_none_none (bx I q (by simp))
  | bl j=>cases z;exact PySem.EqNone.ne_none_bool (bx I q (by simp))
  | int j=>obtain⟨t',rfl⟩:=z;exact PySem.EqNone.ne_none_int (bx I q (by simp))
  | str j=>obtain⟨t',rfl⟩:=z;exact PySem.EqNone.ne_none_str (bx I q (by simp))
  | _=>exact absurd (show false=true from U) i5
 | bl i =>
  cases Y;cases y with
  | non=>cases z;exact PySem.EqNone.ne_bool_none (bx I q (by simp))
  | bl j=>cases z;exact ne_bool (bx I q (congrArg not BZ))
  | str j=>obtain⟨t',rfl⟩:=z;exact PySem.EqMixed.ne_bool_str (bx I q (by simp))
  | _=>exact absurd (show false=true from U) i5
 | int i =>
  obtain⟨t,rfl⟩:=Y;cases y with
  | non=>cases z;exact PySem.EqNone.ne_int_none (bx I q (by simp))
  | int j=>obtain⟨t',rfl⟩:=z;exact ne_int (bx I q (congrArg not yo))
  | str j=>obtain⟨t',rfl⟩:=z;exact PySem.EqMixed.ne_int_str (bx I q (by simp))
  | _=>exact absurd (show false=true from U) i5
 | str i =>
  obtain⟨t,rfl⟩:=Y;cases y with
  | non=>cases z;exact PySem.EqNone.ne_str_none (bx I q (by simp))
  | bl j=>cases z;exact PySem.EqMixed.ne_str_bool (bx I q (by simp))
  | int j=>obtain⟨t',rfl⟩:=z;exact PySem.EqMixed.ne_str_int (bx I q (by simp))
  | str j=>obtain⟨t',rfl⟩:=z;exact ne_str (bx I q (congrArg not yc))
  | _=>exact absurd (show false=true from U) i5
 | byt i =>
  obtain⟨t,rfl⟩:=Y;cases y with
  | byt j=>obtain⟨t',rfl⟩:=z;exact PySem.W.ne_bytes (bx I q (congrArg not yT))
  | _=>exact absurd (show false=true from U) i5
 | _=>cases y <;> exact absurd (show false=true from U) i5
theorem DI:OpR X (x3 .Lt) (rI0 λi j=>.bl (decide (i < j))):=HQ λ_ _ _ _ _ _ _ q=>lt_int q
theorem vg:OpR X (x3 .Gt) (rI0 λi j=>.bl (decide (j < i))):=HQ λ_ _ _ _ _ _ _ q=>gt_int q
theorem nomark (b:Expr) {op:CmpOp} (h:op≠.In:=by decide) (h2:op≠.NotIn:=by decide):Kt op b=false:=by
 have e1:(op == CmpOp.In)=false:=by cases op <;> first | rfl | exact absurd rfl h
 have e2:(op == CmpOp.NotIn)=false:=by cases op <;> first | rfl | exact absurd rfl h2
 cases b <;> simp[Kt,e1,e2]
theorem kx {op:CmpOp} {r:R2} (U:OpR X (x3 op) r) (ha:PE X a ta) (Y:PE X b tb) (hm:Kt op b=false:=by first | exact nomark _ | with_unfolding_all rfl):PE X (.Compare a [op] [b] pos) (tOp r ta tb):=by
 intro pins s σ H Q I h;exact wpAny_Compare1 (GH ha Y I h λv u Z x y H2 I2 rx z q=>U pins Z σ H2 x y v u Q I2 rx z q) hm
def uW (t:TE):TT:=λσ H Q=>t σ H λx H'=>∃k,x = .bl k/\Q k H'
theorem ay {op:CmpOp} {r:R2} (ho:OpR X (x3 op) r) (ha:PE X a ta) (U:PE X b tb) (Z:Kt op b=false:=by first | exact nomark _ | with_unfolding_all rfl):PT X (.Compare a [op] [b] pos) (uW (tOp r ta tb)):=by
 intro pins s σ H Q I h;refine wpAny_isTrue_Compare1 (thn (ha pins s σ H _ I h) λv s1 ⟨x,H1,I1,r1,q1⟩=>thn (U pins s1 σ H1 _ I1 q1) λu Y ⟨y,H2,I2,r2,q2⟩ =>
  thn (ho pins Y σ H2 x y v u _ I2 r1 r2 q2) λc s3 ⟨z,H3,I3,r3,k,e,q3⟩=>?_) Z
 subst e;cases r3;exact J6 ⟨H3,I3,q3⟩
theorem ju:(g0:Nat) < 2 ^ 63:=by rw[Jp];decide
theorem xi:OpR X (JH .Add) (λx y H Q=>∃i j,x = .str i/\y = .str j/\i.length+j.length<=g0/\Q (.str (i++j)) H):=by
 intro pins s σ H x y v u Q I U z h;obtain⟨i,j,rfl,rfl,hz,q⟩:=h;obtain⟨t,rfl⟩:=U;obtain⟨t',rfl⟩:=z;exact add_str (λt' tk=>⟨.str (i++j),H,I.tok _,⟨_,rfl⟩,q⟩) hz
theorem cK {x:V} (r:aX [x] us) : ∃u,us=[u]/\be x u:=by
 cases r with
 | cons U z=>cases z;exact⟨_,rfl,U⟩
theorem vG {x y:V} (r:aX [x,y] us) : ∃u z,us=[u,z]/\be x u/\be y z:=by
 cases r with
 | cons r1 Z =>
  cases Z with
  | cons Y U=>cases U;exact⟨_,_,rfl,r1,Y⟩
theorem zA (U:X.calm=true):bH X (.builtin "max") (λxs H Q=>∃i j,xs=[.int i,.int j]/\Q (.int (if j > i then j else i)) H):=by
 intro pins s σ H xs us Q I r h;obtain⟨i,j,rfl,q⟩:=h;obtain⟨u,Y,rfl,⟨t,rfl⟩,⟨t',rfl⟩⟩:=vG r;refine max_two_ints (I.ok.hd U) λh' tk k=>⟨_,H,I.kept k,?_,q⟩
 by_cases z:j > i
 .rw[if_pos z,if_pos z];exact⟨_,rfl⟩
 .rw[if_neg z,if_neg z];exact⟨_,rfl⟩
theorem zh (U:X.calm=true):bH X (.builtin "min") (λxs H Q=>∃i j,xs=[.int i,.int j]/\Q (.int (if j < i then j else i)) H):=by
 intro pins s σ H xs us Q I r h;obtain⟨i,j,rfl,q⟩:=h;obtain⟨u,Y,rfl,⟨t,rfl⟩,⟨t',rfl⟩⟩:=vG r;refine min_two_ints (I.ok.hd U) λh' tk k=>⟨_,H,I.kept k,?_,q⟩
 by_cases z:j < i
 .rw[if_pos z,if_pos z];exact⟨_,rfl⟩
 .rw[if_neg z,if_neg z];exact⟨_,rfl⟩
theorem zk:bH X (.type "int") (λxs H Q=>(∃i,xs=[.int i]/\Q (.int i) H)\/∃k,xs=[.bl k]/\Q (.int (if k then 1 else 0)) H):=by
 intro pins s σ H xs us Q I r h;rcases h with⟨i,rfl,q⟩ | ⟨k,rfl,q⟩
 .obtain⟨u,rfl,t,rfl⟩:=cK r
  exact call_int_int ⟨.int i,H,I,⟨_,rfl⟩,q⟩
 .obtain⟨u,rfl,r1⟩:=cK r
  cases r1;exact call_int_bool ⟨.int (if k then 1 else 0),H,I.tok _,⟨_,rfl⟩,q⟩
end
structure Ex (h:Heap) (x dx C:Addr) (mA:Str->Option Value):Prop where
 obj:h.get? x=some (instObj C dx)
 ns:h.Ns1 dx mA
 ne:dx≠x
theorem zj (n:h.Ns1 dx mA) : ∃od,h.get? dx=some od/\∀name,lookIn name od=some (mA name):=by
 obtain⟨o,es,ep,ho,hd,hk,_,Z⟩:=n;refine⟨o,ho,λname=>?_⟩
 have e:=Z name;unfold nsFind findBy at e;rw[<- Array.find?_toList] at e;unfold lookIn;rw[hd];dsimp only
 split
 .rename_i y q
  rw[q] at e;exact congrArg some e
 .rename_i q
  rw[q] at e;have a:es.toList.any (·.refKey)=false:=by
   rw[List.any_eq_false];intro y hy;obtain⟨z,t,U⟩:=hk y (Array.mem_toList_iff.mp hy);simp[DictEntry.refKey,U]
  have Y : ¬ es.toList.any (·.refKey)=true:=by rw[a];exact i5
  rw[if_neg Y];exact congrArg some e
theorem Ex.look {x C:Addr} (I:Ex h x dx C mA) : ∃od,PySem.W.InstAt h x (instObj C dx) C (some od)/\∀name,lookIn name od=some (mA name) :=
 let ⟨od,ho,hl⟩:=zj I.ns
 ⟨od,⟨I.obj,rfl,rfl,ho⟩,hl⟩
theorem lh.some_of {v:V} {o:Option Value} (r:lh (some v) o) : ∃u,o=some u/\be v u:=by
 cases o with
 | none=>exact(show False from r).elim
 | some u=>exact⟨u,rfl,r⟩
section
variable {H H':Hp} {C:Addr} {fs fs':List (Str × V)}
theorem Ci (U:HOk P w H h) (e:H a=some (.ins C dx fs)) : ∃mA,Ex h a dx C mA/\(∀f,lh (fs.lookup f) (mA f))/\PySem.Within mA (fs.map (·.1))/\fs.length<=1000/\H dx=some (.own a):=by
 obtain⟨d,z,ne,ob,mA,n,r,q⟩:=(show bf P w H h a (.ins C dx fs) from U a _ e)
 exact⟨mA,⟨ob,n,ne⟩,r,q,z,d⟩
end
structure Cls (K:ge) (C:Addr):Prop where
 pg:plainGet K C Str.empty=true
 hd:PySem.W.hasDictIn K C=true
 po:PySem.W.plainOver K C=true
 sa:findIn K (.ref C) "__setattr__" = some (some (.builtin "object.__setattr__"))
theorem Cls.get {C:Addr} (c:Cls K C) (f:Str):plainGet K C f=true:=c.pg
section
variable {X:Cx} {σ:St} {H:Hp} {c:Value} {b:Bool}
inductive lE (K:ge) (H:Hp):V->Value->Prop where
 | non:lE K H .non (.type "NoneType")
 | bl (x:Bool):lE K H (.bl x) (.type "bool")
 | int (i:Int):lE K H (.int i) (.type "int")
 | str (x:Str):lE K H (.str x) (.type "str")
 | flt (x:UInt64):lE K H (.flt x) (.type "float")
 | lst {a:Addr} {xs:List V} (e:H a*>xs):lE K H (.ref a) (.type "list")
 | frz {a:Addr} {o:Obj} {xs:List V} (e:H a=some (.frz o (.lst xs))):lE K H (.ref a) (.type "list")
 | tup {a:Addr} {xs:List V} (e:H a>>xs):lE K H (.ref a) (.type "tuple")
 | dK {a:Addr} {kvs:List (Key × V)} (e:H a<*kvs):lE K H (.ref a) (.type "dict")
 | dT {a:Addr} {kvs:List (List Key × V)} (e:H a=some (.dT kvs)):lE K H (.ref a) (.type "dict")
 | ins {a C dx:Addr} {fs:List (Str × V)} (e:H a=some (.ins C dx fs)) (cl:Cls K C) (ha:findIn K (.ref C) "__class__" = some (some (.builtin "object.__class__")))
   (hn:PySem.W.specialIn K (.builtin "object.__class__") "__get__" = some (some (.builtin "getset_descriptor.__get__"))) (htk:PySem.W.takesIn K (.builtin "object.__class__")=some true)
   (hm:PySem.W.mroIn K C (.type "object")=some true):lE K H (.ref a) (.ref C)
theorem zp {x:V} {t:Value} (I:Inv X pins σ H s) (U:be x u) (ty:lE X.K H x t) (e:kitOne X.K t c=some b) (h : ∀tk,Q (.bool b) { s with toks:=tk }) :
  wpAny (model X.prog X.w) A (call (.builtin "isinstance") [u,c]) Q E s:=by
 cases ty with
 | non=>cases (show u=o9 from U);exact KG PySem.W.kitx_none I.kIn ow e (λz=>nomatch z) h
 | bl y=>cases (show u=Value.bool y from U);exact KG PySem.W.kitx_bool I.kIn ow e (λz=>nomatch z) h
 | int i=>obtain⟨t,q⟩:=(show ∃t,u=Value.int i t from U);cases q;exact KG PySem.W.kitx_int I.kIn ow e (λz=>nomatch z) h
 | str y=>obtain⟨t,q⟩:=(show ∃t,u=Value.str y t from U);cases q;exact KG PySem.W.kitx_str I.kIn ow e (λz=>nomatch z) h
 | flt y=>obtain⟨t,q⟩:=(show ∃t,u=Value.float y t from U);cases q;exact KG PySem.W.kitx_float I.kIn ow e (λz=>nomatch z) h
 | @lst a xs ea =>
  cases (show u=m8 a from U)
  obtain⟨_,_,n,_,h1⟩:=(show bf X.prog X.w H s.heap a (.lst xs) from I.hok a _ ea)
  exact KG kitx_list I.kIn ⟨_,h1,rfl⟩ e (λz=>nomatch z) h
 | @frz a ob xs ea =>
  cases (show u=m8 a from U)
  obtain⟨_,_,_,n,_,h1⟩:=(show bf X.prog X.w H s.heap a (.frz ob (.lst xs)) from I.hok a _ ea)
  exact KG kitx_list I.kIn ⟨_,h1,rfl⟩ e (λz=>nomatch z) h
 | @tup a xs ea =>
  cases (show u=m8 a from U)
  obtain⟨_,_,_,p⟩:=(show bf X.prog X.w H s.heap a (.tup xs) from I.hok a _ ea)
  obtain⟨o,h1,h2,_⟩:=p;exact KG PySem.W.kitx_tuple I.kIn ⟨o,h1,h2⟩ e (λz=>nomatch z) h
 | @dK a kvs ea =>
  cases (show u=m8 a from U)
  obtain⟨_,_,vs,_,p⟩:=(show bf X.prog X.w H s.heap a (.dK kvs) from I.hok a _ ea)
  obtain⟨o,es,ep,h1,h2,_⟩:=p;exact KG kitx_dict I.kIn ⟨o,h1,h2.1⟩ e (λz=>nomatch z) h
 | @dT a kvs ea =>
  cases (show u=m8 a from U)
  obtain⟨_,_,xs,_,o,es,ep,h1,h2,_⟩:=(show bf X.prog X.w H s.heap a (.dT kvs) from I.hok a _ ea)
  exact KG kitx_dict I.kIn ⟨o,h1,h2.1⟩ e (λz=>nomatch z) h
 | @ins a C dx fs ea cl ha hn htk hm =>
  cases (show u=m8 a from U)
  obtain⟨mA,O,_⟩:=Ci I.hok ea;obtain⟨od,J,_⟩:=O.look;exact KG (PySem.W.kitx_own (cl.get _) cl.hd ha hn htk hm) I.kIn J e (λz=>nomatch z) h
end
structure cR (k:Nat) (A:Around):Prop where
 hd:A.handled=none
 dp:A.depth+3 * k+5 < recursionLimit
 un:A.units+16 * k+200 < cLine
theorem cR.mono (r:cR k A) (h:j<=k):cR j A:=⟨r.hd,by have:=r.dp;omega,by have:=r.un;omega⟩
theorem cR.deeper {k:Nat} {A:Around} (r:cR (k+1) A) (env:Env):cR k (A.deeper env) :=
 ⟨r.hd,by have:=r.dp;show A.depth+1+3 * k+5 < _;omega,by have:=r.un;show A.units+3+16 * k+200 < _;omega⟩
theorem cR.depth {k:Nat} {A:Around} (r:cR k A):A.depth < recursionLimit:=by have:=r.dp;omega
theorem cR.units {k:Nat} {A:Around} (r:cR k A):A.units+64 < cLine:=by have:=r.un;omega
def wx:TA:=λ_ H Q=>Q [] H
def ko (ta:TE) (z:TA):TA:=λσ H Q=>ta σ H λx H1=>z σ H1 λxs H2=>Q (x :: xs) H2
section
variable {X:Cx} {te:TE} {t:TA}
theorem ac:PA X [] wx:=λ_ _ _ _ H Q I h=>F_ ⟨[],H,I,.nil,h⟩
theorem aa (ha:PE X e te) (Z:PA X es t) (hs:m9 (e :: es) X.env=(false,eval e X.env) :: m9 es X.env:=by rfl):PA X (e :: es) (ko te t):=by
 intro pos pins s σ H Q I h;rw[hs]
 show wpAny _ _ (spliced ((false,eval e X.env) :: JS pos (m9 es X.env))) _ _ s
 refine u9 (thn (ha pins s σ H _ I h) λu s1 z=>?_)
 obtain⟨x,H1,Y,r1,q1⟩:=z;exact thn (Z pos pins s1 σ H1 _ Y q1) λus s2 U=>by obtain⟨xs,H2,I2,r2,q2⟩:=U;exact(⟨x :: xs,H2,I2,.cons r1 r2,q2⟩)
def Cf (t:TA):TE:=λσ H Q=>t σ H λxs H1=>xs.length<=g0/\∀p,H1 p=none->Q (.ref p) (upd H1 p (.tup xs))
def Co (t:TA):TE:=λσ H Q=>t σ H λxs H1=>xs.length<=g0/\∀p,H1 p=none->Q (.ref p) (upd H1 p (.lst xs))
theorem aI {x1} (h:PA X es t):PE X (.Tuple es x1 pos) (Cf t):=by
 intro pins s σ H Q I Y;refine wpAny_Tuple_spliced (thn (h pos pins s σ H _ I Y) λus U ⟨xs,H1,I1,r,z,q⟩=>⟨by rw[<- r.length];exact z,?_⟩)
 have Z:H1 U.heap.objs.size=none:=I1.hok.fresh (j5 _)
 refine⟨.ref U.heap.objs.size,upd H1 U.heap.objs.size (.tup xs),I1.laid (t':=U.toks) (λb u e=>d_ _ e) (j5 _) ?_,rfl,q _ Z⟩
 exact⟨z,us,r,⟨_,g9 _ rfl,rfl,_,rfl⟩⟩
theorem ba (h:PA X es t):PE X (.List es pos) (Co t):=by
 intro pins s σ H Q I Y;refine wpAny_List_spliced (thn (h pos pins s σ H _ I Y) λus U ⟨xs,H1,I1,r,z,q⟩=>⟨by rw[<- r.length];exact z,?_⟩)
 have Z:H1 U.heap.objs.size=none:=I1.hok.fresh (j5 _)
 refine⟨.ref U.heap.objs.size,upd H1 U.heap.objs.size (.lst xs),I1.laid (t':=U.toks) (λb u e=>d_ _ e) (j5 _) ?_,rfl,q _ Z⟩
 exact⟨z,us,0,r,g9 _ rfl⟩
end
abbrev Sp:=List V->Hp->VK->XK->Prop
abbrev CXT:=List Env->Hp->Shared->XK->Value->Shared->Prop
structure CS (P:Program) (w:World) (K:ge) (mg:Str->Option Value) (base:Heap) (A:Around) (outer:List Env) (s:Shared) (H:Hp):Prop where
 frames:A.frames=some outer
 mod:Mod K mg base
 bs : ∀b o,base.get? b=some o->s.heap.get? b=some o/\H b=none
 bsz:base.objs.size<=s.heap.objs.size
 funs:s.heap.FunFrames base outer
 frf : ∀b∈frs outer,H b=none
 hok:HOk P w H s.heap
 bare:AllBare s.gens
def CE (outer:List Env) (P:Program) (w:World) (H:Hp) (s:Shared) (Q:VK) (u:Value) (s':Shared):Prop :=
 ∃v H',s'.os=s.os/\AllBare s'.gens/\Un (frs outer) [] H H' s.heap s'.heap/\HOk P w H' s'.heap/\be v u/\Q v H'
def CR (CX:CXT) (outer:List Env) (P:Program) (w:World) (H:Hp) (s:Shared) (Q:VK) (E:XK) (r:Result) (s':Shared):Prop :=
 match r with
 | .ok (.ret u)=>CE outer P w H s Q u s'
 | .ok _=>False
 | .error e=>CX outer H s E e s'
structure gU (P:Program) (w:World) (K:ge) (mg:Str->Option Value) (base:Heap) (CX:CXT) (k:Nat) (f:Addr) (fd:FuncData) (ps:List Str) (sp:Sp):Prop where
 len : ∀vs H Q E,sp vs H Q E->vs.length=ps.length
 run : ∀(A:Around) (outer:List Env) (s:Shared) (H:Hp) (args:Args) (us:List Value) (vs:List V) (Q:VK) (E:XK),cR k A->CS P w K mg base A outer s H->BindsTo s fd args (ps.zip us)->aX vs us->sp vs H Q E ->
  codeAny (model P w) A (.call (.ref f) args) (CR CX outer P w H s Q E) s
theorem gU.mono {P:Program} {w:World} {K:ge} {mg:Str->Option Value} {base:Heap} {CX:CXT} {j k:Nat} {f:Addr} {fd:FuncData} {ps:List Str} {sp:Sp} (F:gU P w K mg base CX j f fd ps sp) (h:j<=k) :
  gU P w K mg base CX k f fd ps sp:=⟨F.len,λA outer s H args us vs Q E z=>F.run A outer s H args us vs Q E (z.mono h)⟩
theorem gU.imp {CX:CXT} {sp sp':Sp} (F:gU P w K mg base CX k f fd ps sp)
  (h : ∀vs H Q E,sp' vs H Q E->sp vs H Q E):gU P w K mg base CX k f fd ps sp' :=
 ⟨λvs H Q E q=>F.len vs H Q E (h _ _ _ _ q),λA outer s H args us vs Q E z he U Z Y=>F.run A outer s H args us vs Q E z he U Z (h _ _ _ _ Y)⟩
section
variable {X:Cx} {σ:St} {H:Hp}
theorem Inv.env0 (I:Inv X pins σ H s):CS X.prog X.w X.K X.mg X.base X.A X.stack s H :=
 ⟨I.ok.frames,I.ok.mod,I.bs,le_trans I.ok.bsz I.sz,I.stack,I.stkFree,I.hok,I.bare⟩
theorem Inv.after {Q:VK} (I:Inv X pins σ H s) (h:CE X.stack X.prog X.w H s Q u s'):EP X pins σ Q u s':=by
 obtain⟨v,H',os,U,un,Y,r,q⟩:=h;obtain⟨hh,g,d,t,Z⟩:=s';obtain rfl:Z=s.os:=os
 exact⟨v,H',I.call (h':=hh) (g':=g) (d':=d) (t':=t) (ch:=[]) un Y U (λb z=>absurd z (by simp)),r,q⟩
end
def uJ (sp:Sp) (dvs:List V) (E:XK) (t:TA):TE:=λσ H Q=>t σ H λvs H1=>sp (vs++dvs) H1 Q E
def jQ (K:ge) (fd:FuncData) (ps:List Str) (ds:List Value):Prop :=
 ∀(s:Shared) (us:List Value),K.In s.heap->(us++ds).length=ps.length->BindsTo s fd ⟨us,[]⟩ (ps.zip (us++ds))
theorem jQ.all (h : ∀us:List Value,us.length=ps.length->bindArgs fd ⟨us,[]⟩=pure (ps.zip us)):jQ K fd ps []:=λs us _ hl=>by
 rw[J8] at hl ⊢;exact .of_eq (h us hl)
def xB (CX:CXT) (X:Cx) (E:XK):Prop:=∀(pins:List (Addr × Obj)) (σ:St) (H:Hp) (s:Shared) (e:Value) (s':Shared),Inv X pins σ H s->CX X.stack H s E e s'->X.xe e s'
section
variable {X:Cx} {CX:CXT} {C:Addr} {sp:Sp} {dvs:List V} {ds:List Value} {E:XK} {m:Str} {p:Pos} {o:Expr} {ta:TE} {t:TA}
theorem su {σ:St} {H:Hp} {Q:VK} {vs:List V} (F:gU X.prog X.w X.K X.mg X.base CX k f fd ps sp) (Y:cR k X.A) (Z:jQ X.K fd ps ds) (hd:aX dvs ds) (hx:xB CX X E)
  (I:Inv X pins σ H s) (r:aX vs us) (h:sp (vs++dvs) H Q E):wpAny (model X.prog X.w) X.A (call (.ref f) us) (EP X pins σ Q) X.xe s:=by
 have U:aX (vs++dvs) (us++ds):=r.append hd
 have hl:(us++ds).length=ps.length:=by rw[<- U.length];exact F.len _ _ _ _ h
 refine wpAny_call (codeAny_mono (F.run X.A X.stack s H ⟨us,[]⟩ (us++ds) (vs++dvs) Q E Y I.env0 (Z s us I.kIn hl) U h) λr s' z=>?_)
 cases r with
 | error e=>exact hx pins σ H s e s' I z
 | ok fl =>
  cases fl with
  | ret u=>exact I.after z
  | next=>exact J9 z
  | brk=>exact J9 z
  | cont=>exact J9 z
theorem CP (F:gU X.prog X.w X.K X.mg X.base CX k f fd ps sp) (Z:cR k X.A) (Y:Gl X x) (hm:X.mg x=-f) (hk:keepIn X.K (.ref f)=true) (hb:jQ X.K fd ps ds) (hd:aX dvs ds) (hx:xB CX X E)
  (ha:PA X (e :: es) t) (z:(x ==("__debug__" : Str))=false:=by decide) (he:m9 (e :: es) X.env=(false,eval e X.env) :: m9 es X.env:=by rfl) (U:(JS pos (m9 es X.env)).any (·.1)=false:=by rfl) :
  PE X (.Call (.Name x p) (e :: es) [] pos) (uJ sp dvs E t):=by
 intro pins s σ H Q I h;refine x4 (tD I Y hm ?_ z)
 refine callWith_K (h₀:=X.base) I.ok.mod.kin hk (thn (ha pos pins s σ H _ I h) λus s1 ⟨vs,H1,I1,r,q⟩=>⟨I1.kIn,?_⟩) he U
 exact su F Z hb hd hx I1 r q
end
structure aH (N P:List Str) (sc:Scope):Prop where
 kind:sc.kind = .function
 co:sc.isCoroutine=false
 gen:sc.isGenerator=false
 nd:N.Nodup
 pre:N.take P.length=P
 par : ∀x∈P,sc.names.lookup x=some .local\/sc.names.lookup x=some .cell
 nofree : ∀y∈sc.names,y.2≠.free
theorem rG {z:Str->Option Is} {x:Str} : ∀{binds:List (Str × Value)} {m:Str->Option Value},(∀v,(x,v)∉binds)->bindL z binds m x=m x
 | [],_,_=>rfl
 | (n,v) :: r,m,h=>by
  unfold bindL;rw[rG λw hw=>h w (j9 _ hw)]
  split
  .have:x≠n:=by rintro rfl;exact h v j_
   simp[this]
  .rfl
theorem qY {z:Str->Option Is} {x:Str} : ∀{binds:List (Str × Value)} {m:Str->Option Value},(∀v,(x,v)∉binds)->bindC z binds m x=m x
 | [],_,_=>rfl
 | (n,v) :: r,m,h=>by
  unfold bindC;rw[qY λw hw=>h w (j9 _ hw)]
  split
  .rfl
  .have:x≠n:=by rintro rfl;exact h v j_
   simp[this]
theorem re {z:Str->Option Is} {x:Str} {v:Value} : ∀{P:List Str} {vs:List Value} {i:Nat} {m:Str->Option Value},P.Nodup->P[i]? = some x->vs[i]? = some v->z x=some .local ->
  bindL z (P.zip vs) m x=some v
 | [],_,_,_,_,h,_,_=>by simp at h
 | _ :: _,[],_,_,_,_,h,_=>by simp at h
 | p :: P,w :: vs,0,m,nd,h1,h2,hk=>by
  simp at h1 h2;subst h1;subst h2
  show bindL z ((p,w) :: P.zip vs) m p=_
  unfold bindL;rw[rG λv U=>(w5.mp nd).1 (of_mem_zip U).1,if_pos hk]
  simp
 | p :: P,w :: vs,i+1,m,nd,h1,h2,hk=>by
  show bindL z ((p,w) :: P.zip vs) m x=_
  unfold bindL;exact re (i:=i) (w5.mp nd).2 (by simpa using h1) (by simpa using h2) hk
theorem rD {z:Str->Option Is} {x:Str} {v:Value} : ∀{P:List Str} {vs:List Value} {i:Nat} {m:Str->Option Value},P.Nodup->P[i]? = some x->vs[i]? = some v->z x≠some .local ->
  bindC z (P.zip vs) m x=some v
 | [],_,_,_,_,h,_,_=>by simp at h
 | _ :: _,[],_,_,_,_,h,_=>by simp at h
 | p :: P,w :: vs,0,m,nd,h1,h2,hk=>by
  simp at h1 h2;subst h1;subst h2
  show bindC z ((p,w) :: P.zip vs) m p=_
  unfold bindC;rw[qY λv U=>(w5.mp nd).1 (of_mem_zip U).1,if_neg hk]
  simp
 | p :: P,w :: vs,i+1,m,nd,h1,h2,hk=>by
  show bindC z ((p,w) :: P.zip vs) m x=_
  unfold bindC;exact rD (i:=i) (w5.mp nd).2 (by simpa using h1) (by simpa using h2) hk
def gg (N:List Str) (vs:List V):St:=vs.map some++replicate (N.length - vs.length) none
def tu (CX:CXT) (P:Program) (w:World) (K:ge) (mg:Str->Option Value) (base:Heap) (N:List Str) (qual:Str) (scope:Scope) (f:Addr) (cd:Value) (A:Around) (outer:List Env) (s:Shared) (H:Hp) (E:XK):Cx where
 prog:=P
 w:=w
 K:=K
 mg:=mg
 base:=base
 A:=A.deeper (envOfC qual scope s.heap.objs.size f cd)
 N:=N
 s₀:=s
 H₀:=H
 env:=envOfC qual scope s.heap.objs.size f cd
 outer:=outer
 stack:=envOfC qual scope s.heap.objs.size f cd :: outer
 ex:=[]
 calm:=true
 fn:=λ_=>true
 pn:=[]
 xe:=λe s'=>wpAny (model P w) (A.deeper (envOfC qual scope s.heap.objs.size f cd)) (leaving (envOfC qual scope s.heap.objs.size f cd) e) (λ_ z=>CX outer H s E e z) (λU z=>CX outer H s E U z) s'
theorem vv (h:sc.names.lookup x=some .cell) : ∃c,(sn n sc.names []).lookup x=some c:=by
 have q:=PySem.W.cellsFrom_some sc.names n [] (.inl h);exact J5.mp q
theorem zi {CX:CXT} {s1:Shared} {H:Hp} {E:XK} {vs:List V}
  (S:aH N ps scope) (hd:A.handled=none) (U:CS P w K mg base A outer s H) (hl:vs.length=ps.length) (r:aX vs us)
  (x:InCallC s s.heap.objs.size (bindL (envOfC qual scope s.heap.objs.size f cd).kindOf (ps.zip us) λ_=>none) (sn (s.heap.objs.size+1) scope.names []) (bindC (envOfC qual scope s.heap.objs.size f cd).kindOf (ps.zip us) λ_=>none) s1) :
  Inv (tu CX P w K mg base N qual scope f cd A outer s H E) [] (gg N vs) H s1:=by
 have ac:ps.length<=N.length:=by have:=congrArg u8 S.pre;rw[pk] at this;omega
 obtain⟨h1,tk,rfl,hk⟩:=x.done;have Y : ∀b:Addr,b∉(tu CX P w K mg base N qual scope f cd A outer s H E).ex:=λb z=>absurd (show b∈([]:List Addr) from z) (by simp)
 refine⟨⟨U.mod,S.kind,rfl,rfl,j5 _,λy z c h1 h2=>?_,λy Z=>?_,λy c _ h=>?_,λ_=>hd,Around.frames_deeper U.frames,.inr ⟨rfl,rfl⟩,λb z=>absurd z (Y b),U.bs,U.bsz,λb _ _=>Y b,λb z=>absurd z (Y b),U.funs,U.frf⟩,
  rfl,U.bare,Un.kept hk,⟨_,x.toInCall.ns,λi y v h1 h2 h3=>?_⟩,λy c h=>⟨_,x.cell y c h⟩,U.hok.fresh (j5 _),λy c h=>?_,λp hp=>absurd (show p∈([]:List (Addr × Obj)) from hp) (by simp),U.hok.kept hk,?_⟩
 .exact name_of_addr x.apart (Kl h1) (Kl h2)
 .have Z:scope.names.lookup y=some .cell\/scope.names.lookup y=some .free:=Z
  rcases Z with Z | Z
  .exact vv Z
  .exact absurd rfl (S.nofree _ (Kl Z))
 .exact ot (x.above y c (Kl h))
 .have hi:i < vs.length:=by
   unfold gg at h2
   by_cases hi:i < vs.length
   .exact hi
   .rw[List.getElem?_append_right (by simpa using hi)] at h2
    rw[List.getElem?_replicate] at h2
    split at h2 <;> cases h2
  have ha:vs[i]? = some v:=by
   unfold gg at h2;rw[List.getElem?_append_left (by simpa using hi),e9] at h2
   cases e:vs[i]? with
   | none=>rw[e] at h2;cases h2
   | some a=>rw[e] at h2;cases h2;rfl
  obtain⟨u,hu,rv⟩:=r.get ha;have hp:ps[i]? = some y:=by
   rw[<- S.pre,List.getElem?_take_of_lt ()];exact h1
  have aa:ps.Nodup:=by rw[<- S.pre];exact S.nd.sublist (JF _ _)
  refine⟨u,rv,?_⟩
  rcases S.par y (i4 hp) with k | k
  .exact .inl ⟨k,re aa hp hu k⟩
  .obtain⟨c,e⟩:=vv (n:=s.heap.objs.size+1) k
   refine .inr ⟨.inl k,c,e,?_⟩
   have q:=x.cell y c e;rw[rD aa hp hu (by show scope.names.lookup y≠_;rw[k];decide)] at q
   exact q
 .exact U.hok.fresh (ot (x.above y c (Kl h)))
 .unfold gg
  show _=N.length
  rw[nH,a_,List.length_replicate];omega
theorem Eg {CX:CXT} {dV kV:Value} {an:Option Addr}
   {sp:Sp} (lk:K.lookup f=some ⟨oc,od,.func (fnOf name qual params body scope dV kV doc pm an cdv ct),osl⟩) (ad:codeIn K cdv qual=true) (S:aH N ps scope)
  (len : ∀vs H Q E,sp vs H Q E->vs.length=ps.length)
  (z : ∀(A:Around) (outer:List Env) (s:Shared) (H:Hp) (vs:List V) (Q:VK) (E:XK),cR k (A.deeper (envOfC qual scope s.heap.objs.size f cdv))->sp vs H Q E ->
   ∃t,PSs (tu CX P w K mg base N qual scope f cdv A outer s H E) body t/\t { nx:=λ_ H'=>Q .non H',rt:=Q } (gg N vs) H) :
  gU P w K mg base CX (k+1) f (fnOf name qual params body scope dV kV doc pm an cdv ct) ps sp:=by
 refine⟨len,λA outer s H args us vs Q E hr e0 hb r Z=>?_⟩
 have hl:=len _ _ _ _ Z;have KX:K.In s.heap:=e0.mod.kin.keeps λb o e=>(e0.bs b o e).1
 have ac:s.heap.NoLimit:=e0.mod.nolimit.keeps λb o e=>(e0.bs b o e).1
 have U : ∀y∈ps.zip us,scope.names.lookup y.1=some .local\/(scope.names.lookup y.1=some .cell/\((sn (s.heap.objs.size+1) scope.names []).lookup y.1).isSome=true):=λ⟨n,v⟩ hy=>by
  rcases S.par n (of_mem_zip hy).1 with q | q
  .exact .inl q
  .exact .inr ⟨q,PySem.W.cellsFrom_some _ _ _ (.inl q)⟩
 refine codeAny_call_function hr.depth (KX _ _ lk) rfl S.co S.gen rfl (PySem.W.codeRec_of KX ad) (hb _ _ _ _ ?_)
 refine wpAny_newFunctionEnv_cells S.kind U λenv he s1 x=>?_
 subst he;refine⟨ac.keeps x.toInCall.keep,codeAny_func ?_⟩
 obtain⟨t,ht,hq⟩:=z A outer s H vs Q E (hr.deeper _) Z;have I:Inv (tu CX P w K mg base N qual scope f cdv A outer s H E) [] (gg N vs) H s1:=zi S hr.hd e0 hl r x
 refine y3 (ht [] s1 (gg N vs) H _ I hq) (λfl s' Y=>?_) λe s' Y=>Y
 have aa : ∀{σ':St} {H':Hp} {v:V} {u:Value},Inv (tu CX P w K mg base N qual scope f cdv A outer s H E) [] σ' H' s'->be v u->Q v H'->CE outer P w H s Q u s' :=
  λ{σ' H' v u} J rv q=>⟨v,H',J.os,J.bare,J.base,J.hok,rv,q⟩
 cases fl with
 | ret u =>
  obtain⟨v,σ',H',J,rv,q⟩:=Y;exact aa J rv q
 | next =>
  obtain⟨σ',H',J,q⟩:=Y;exact aa (v:=V.non) (u:=o9) J rfl q
 | brk =>
  obtain⟨_,_,_,q⟩:=Y;exact J9 q
 | cont =>
  obtain⟨_,_,_,q⟩:=Y;exact J9 q
section
variable {X:Cx} {p:Pos} {t:TA} {id:String} {r:List V->Hp->VK->Prop}
def tCB (r:List V->Hp->VK->Prop) (t:TA):TE:=λσ H Q=>t σ H λvs H1=>r vs H1 Q
theorem aF (hc:bH X (.builtin id) r) (hm:X.mg x=none) (ha:PA X (e :: es) t) (hg:Gl X x:=by exact rfl) (hv:If x=some (.builtin id):=by decide+kernel) (hn:x ≠ "__name__" := by decide) (z:(x ==("__debug__" : Str))=false:=by decide)
  (he:m9 (e :: es) X.env=(false,eval e X.env) :: m9 es X.env:=by rfl) (U:(JS pos (m9 es X.env)).any (·.1)=false:=by rfl):PE X (.Call (.Name x p) (e :: es) [] pos) (tCB r t):=by
 intro pins s σ H Q I h;refine x4 (dH I hg hm hv ?_ hn z)
 exact PyProof.Rows.callWith_builtin1 (thn (ha pos pins s σ H _ I h) λus s1 Y=>by obtain⟨vs,H1,Z,r1,q1⟩:=Y;exact(hc pins s1 σ H1 vs us Q Z r1 q1)) he U
theorem aG (hc:bH X (.type T) r) (hm:X.mg x=none) (ha:PA X (e :: es) t) (hg:Gl X x:=by exact rfl) (hv:If x=some (.type T):=by decide+kernel) (hn:x ≠ "__name__" := by decide) (U:(x ==("__debug__" : Str))=false:=by decide)
  (he:m9 (e :: es) X.env=(false,eval e X.env) :: m9 es X.env:=by rfl) (Y:(JS pos (m9 es X.env)).any (·.1)=false:=by rfl):PE X (.Call (.Name x p) (e :: es) [] pos) (tCB r t):=by
 intro pins s σ H Q I h;refine x4 (dH I hg hm hv ?_ hn U)
 exact o5 (thn (ha pos pins s σ H _ I h) λus s1 z=>by obtain⟨vs,H1,Z,r1,q1⟩:=z;exact(hc pins s1 σ H1 vs us Q Z r1 q1)) he Y
end
end L2
variable {C:L2.Hp->Prop} {CX:L2.CXT} {D:L2.mH} {H H' H0 H1 H2:L2.Hp} {J:L2.It} {X:L2.Cx} {as:List (KM × L2.V × L2.V)} {dvs vs xs ys:List L2.V} {fs l0:List L2.Key} {fs':List (JN × L2.V)} {g:L2.TG} {ks ls m:List (L2.Key × L2.Key)} {kvs:List (L2.Key × L2.V)} {o o' u0:L2.HO} {r r':L2.V->Option Int->Option Int->L2.Hp->L2.VK->Prop} {sp sp':L2.Sp} {ta:L2.TA} {tb td te tl to tv tx ty:L2.TE} {tc:L2.TT} {trs:List (L2.TE × L2.TE)} {v1:Option L2.V} {wi:L2.TI} {y:L2.V} {zs:List (L2.V × JN)} {σ σ0:L2.St} {σ':List (Option L2.V)}
namespace HT
open PySem PyProof.Rows
theorem cat_tup {vs ws:List Value} (ht:IsTup s.heap t vs.toArray) (hb:IsTup s.heap b ws.toArray) (hv:vs≠[])
  (h1:ws=[]->Q (.ref t) s) (h2:ws≠[]->Q (.ref s.heap.objs.size) { s with heap:=s.heap.push { cls:=.type "tuple",data:=.seq (vs++ws).toArray } })
  (hsz:vs.length+ws.length<=g0):wpAny (model prog w) A (JH .Add (.ref t) (.ref b)) Q E s:=by
 obtain⟨⟨cls,dd,data,sl⟩,ho,hc,n,hd⟩:=id ht;obtain⟨⟨ad,aa,ac,Z⟩,z,Y,n2,U⟩:=id hb;simp only at hc hd Y U;subst hc hd Y U;have e:vs.toArray++ws.toArray=(vs++ws).toArray:=by simp
 by_cases hw:ws=[]
 .exact concat_meets ⟨_,ho,rfl⟩ ⟨_,z,rfl⟩ noFill_tuple_add seq_tuple_add PySem.F.slot_tuple_add PySem.F.entry_tuple_add (PySem.F.args_tuple_add_2 _ _)
   (tuple_addW1 t b vs.toArray ws.toArray n n2 dd aa sl Z (by simpa using hv) (by simp[hw])) ⟨ho,z,h1 hw⟩
 .refine concat_meets ⟨_,ho,rfl⟩ ⟨_,z,rfl⟩ noFill_tuple_add seq_tuple_add PySem.F.slot_tuple_add PySem.F.entry_tuple_add (PySem.F.args_tuple_add_2 _ _)
   (tuple_addW2 t b vs.toArray ws.toArray n n2 dd aa sl Z (by simpa using hv) (by simpa using hw) (by rw[g_,g_];exact hsz)) ⟨ho,z,?_⟩
  rw[e];exact h2 hw
def sIx (n d:Nat):Option Int->Nat
 | none=>d
 | some v=>if v < 0 then(v+(n:Int)).toNat else min v.toNat n
theorem sIx_none (n d:Nat):sIx n d none=d:=rfl
theorem sIx_nat (n d k:Nat):sIx n d (some (k:Int))=min k n:=by
 show(if (k:Int) < 0 then((k:Int)+(n:Int)).toNat else min (k:Int).toNat n)=min k n
 rw[if_neg (),Int.toNat_natCast]
theorem sIx_le (n d:Nat) (U:d<=n) (o:Option Int):sIx n d o<=n:=by
 cases o with
 | none=>exact U
 | some v =>
  show(if v < 0 then(v+(n:Int)).toNat else min v.toNat n)<=n
  by_cases z:v < 0
  .rw[if_pos z];omega
  .rw[if_neg z];exact Nat.min_le_right _ _
theorem yP (v:Int) (n d:Nat):(if v < 0 then max (v+(n:Int)) 0 else min v (n:Int))=((sIx n d (some v):Nat):Int):=by
 show(if v < 0 then max (v+(n:Int)) 0 else min v (n:Int))=(((if v < 0 then(v+(n:Int)).toNat else min v.toNat n):Nat):Int)
 by_cases z:v < 0
 .simp only[if_pos z];omega
 .simp only[if_neg z];omega
theorem xE (lo hi:Option Int) (n:Nat):Builtin.Slice.sliceAdjust lo hi 1 (n:Int)=(((sIx n 0 lo:Nat):Int),((sIx n n hi:Nat):Int)):=by
 have h1 : ¬ ((1:Int) < 0):=()
 unfold Builtin.Slice.sliceAdjust;simp only[h1,if_false];refine Prod.ext ?_ ?_
 .cases lo with
  | none=>rfl
  | some v=>exact yP v n 0
 .cases hi with
  | none=>rfl
  | some v=>exact yP v n n
theorem wz (i j:Nat):J_ (i:Int) (j:Int) 1=j - i:=by
 unfold J_;have h1:(1:Int) > 0:=()
 simp only[h1,if_true,Int.ediv_one]
 split <;> omega
theorem pz {o:Option Int} {Q:Option Int->Shared->Prop} (p:IsPart v o) (h:Q o s):wpAny (model prog w) A (Builtin.Slice.slicePartIndex v) Q E s:=by
 cases p with
 | none=>exact slicePart_none h
 | int i t=>exact slicePart_int h
theorem gl {sl:Addr} {Q:Int × Int × Nat->Shared->Prop} (hs:s.heap.IsSliceOf sl vl vu .none) (pl:IsPart vl lo) (Z:IsPart vu hi)
  (h:Q (((sIx n 0 lo:Nat):Int),1,sIx n n hi - sIx n 0 lo) s):wpAny (model prog w) A (Builtin.Slice.sliceApplied (.ref sl) (pure (n:Int))) Q E s:=by
 obtain⟨os,z,Y,U⟩:=id hs;unfold Builtin.Slice.sliceApplied Builtin.Slice.sliceFields;refine c_ (c_ (K0 z U (x:=vl) rfl (c_ (K0 z U (x:=vu) rfl (c_ (K0 z U (x:=.none) rfl (fy ?_)))))))
 refine c_ (slicePart_none ?_)
 show wpAny _ _ (if ((1:Int) == 0)=true then _ else _) _ _ s
 rw[if_neg ∅]
 refine c_ (pz pl (c_ (pz Z (c_ (fy ?_)))))
 show wpAny _ _ (match Builtin.Slice.sliceAdjust lo hi 1 (n:Int) with | (lo,hi)=>pure (lo,(1:Int),J_ lo hi 1)) _ _ s
 rw[xE lo hi n]
 show wpAny _ _ (pure (((sIx n 0 lo:Nat):Int),(1:Int),J_ ((sIx n 0 lo:Nat):Int) ((sIx n n hi:Nat):Int) 1)) _ _ s
 rw[wz];exact fy h
theorem zZ (xs:Array Value) (i k:Nat):((range k).filterMap λ(m:Nat)=>xs[((i:Int)+(m:Int) * 1).toNat]?).toArray=((xs.toList.drop i).take k).toArray:=by
 have e:(λ(m:Nat)=>xs[((i:Int)+(m:Int) * 1).toNat]?)=λm=>xs[i+m]? := by
  funext m
  have:((i:Int)+(m:Int) * 1).toNat=i+m:=()
  rw[this]
 rw[e];have:=pick_run xs i k
 rw[List.filterMap_map] at this;have e2:((λx=>xs[x]?) ∘ λx=>i+x)=λm=>xs[i+m]? := rfl
 rw[e2] at this;rw[this]
theorem getItem_tuple_cut {sl:Addr} (U:IsTup s.heap t items) (hs:s.heap.IsSliceOf sl vl vu .none) (pl:IsPart vl lo) (pu:IsPart vu hi)
  (hw : ¬ (sIx items.size 0 lo=0/\sIx items.size items.size hi=items.size))
  (h:Q (.ref s.heap.objs.size) { s with heap:=s.heap.push { cls:=.type "tuple",data:=.seq ((items.toList.drop (sIx items.size 0 lo)).take (sIx items.size items.size hi - sIx items.size 0 lo)).toArray } })
  (hsz:items.size<=g0):wpAny (model prog w) A (JM (.ref t) (.ref sl)) Q E s:=by
 have z:sizeOk (.seq ((items.toList.drop (sIx items.size 0 lo)).take (sIx items.size items.size hi - sIx items.size 0 lo)).toArray):=by
  show((items.toList.drop (sIx items.size 0 lo)).take (sIx items.size items.size hi - sIx items.size 0 lo)).toArray.size<=g0
  rw[g_,pk,D_,w9];omega
 have hj:sIx items.size items.size hi<=items.size:=sIx_le _ _ (j5 _) hi
 obtain⟨os,ac,Z,ad⟩:=id hs;have Y:s.TypeIs (.ref sl) "slice" :=⟨os,ac,Z⟩
 unfold JM
 try with_reducible refine C_ ?_
 first | refine c_ (fy ?_) | skip
 refine c_ (wpAny_sequenceKey U.typeIs ∅ ?_)
 refine c_ (Ko (name:=b_ "__getitem__") U.typeIs x6
  (y4 x6 U.typeIs entry_tuple_getitem ?_ (args_tuple_getitem _ _)))
 show wpAny _ _ (Builtin.Tuple.tupleItemsOf (.ref t) >>= _) _ _ s
 refine c_ (tupleItemsOf_ U ?_)
 refine c_ (KH Y ?_)
 rw[if_pos ∅]
 refine c_ (gl hs pl pu ?_)
 have aa : ¬ ((((sIx items.size 0 lo:Nat):Int) == 0 && (1:Int) == 1 && (sIx items.size items.size hi - sIx items.size 0 lo) == items.size)=true):=by
  intro q;rw[mx,mx] at q;have q1:((sIx items.size 0 lo:Nat):Int)=0:=eq_of_beq q.1.1
  have q2:sIx items.size items.size hi - sIx items.size 0 lo=items.size:=eq_of_beq q.2
  exact hw ⟨(),()⟩
 show wpAny _ _ (if (((sIx items.size 0 lo:Nat):Int) == 0 && (1:Int) == 1 && (sIx items.size items.size hi - sIx items.size 0 lo) == items.size)=true then _ else _) _ _ s
 rw[if_neg aa,zZ]
 first
  | exact c_ (m:=Ki _) (Gt (fy ⟨_,rfl,fy h⟩) z)
  | exact c_ (m:=Ki _) (Gt (c_ (fy (fy ⟨_,rfl,fy h⟩))) z)
  | exact c_ (c_ (m:=Ki _) (Gt (fy (fy ⟨_,rfl,fy h⟩)) z))
  | exact c_ (c_ (m:=Ki _) (Gt (fy ⟨_,rfl,fy h⟩) z))
end HT
namespace L2
open PySem PySem.Spec PyProof.Rows
abbrev TO:=St->Hp->(Option Int->Hp->Prop)->Prop
def PO (X:Cx) (e:Option Expr) (t:TO):Prop :=
 ∀ (pins:List (Addr × Obj)) (s:Shared) (σ:St) (H:Hp) (Q:Option Int->Hp->Prop),Inv X pins σ H s->t σ H Q ->
  wpAny (model X.prog X.w) X.A (evalPart e X.env) (λu s'=>∃o H',Inv X pins σ H' s'/\IsPart u o/\Q o H') X.xe s
def mR:TO:=λ_ H Q=>Q none H
def yr (t:TE):TO:=λσ H Q=>t σ H λx H1=>∃i,x = .int i/\Q (some i) H1
theorem dk : ∀{us:List Value},aX (ns.map V.int) us->E_ us ns:=by
 induction ns with
 | nil=>intro us r;rw[KF] at r;cases r;exact .nil
 | cons n ns U =>
  intro us r;rw[i_] at r;cases r with
  | cons Y z =>
   obtain⟨t,e⟩:=Y;subst e;exact .cons n t (U z)
section
variable {lo hi:Option Expr} {tl th:TO}
theorem cb:PO X none mR:=by
 intro pins s σ H Q I h;rw[evalPart_none];exact fy ⟨none,H,I,.none,h⟩
theorem bP (h:PE X e te):PO X (some e) (yr te):=by
 intro pins s σ H Q I hw;rw[evalPart_some];refine thn (h pins s σ H _ I hw) λu s1 z=>?_
 obtain⟨x,H1,U,Z,Y⟩:=z;obtain⟨i,rfl,q⟩:=Y;obtain⟨t,rfl⟩:=Z;exact⟨some i,H1,U,.int i t,q⟩
def SlR (X:Cx) (r:V->Option Int->Option Int->Hp->VK->Prop):Prop :=
 ∀ (pins:List (Addr × Obj)) (s:Shared) (σ:St) (H:Hp) (x:V) (v vl vu:Value) (lo hi:Option Int) (sl:Addr) (Q:VK),Inv X pins σ H s->be x v->s.heap.IsSliceOf sl vl vu .none->IsPart vl lo->IsPart vu hi->r x lo hi H Q ->
  ∃T id,KQ (.type T) "__getitem__" = pure (some (.builtin id))/\s.TypeIs v T/\wpAny (model X.prog X.w) X.A (JM v (.ref sl)) (EP X pins σ Q) X.xe s
def tSl (r:V->Option Int->Option Int->Hp->VK->Prop) (te:TE) (tl th:TO):TE:=λσ H Q=>te σ H λx H1=>tl σ H1 λl H2=>th σ H2 λu z=>r x l u z Q
theorem bI (hr:SlR X r) (he:PE X e te) (hl:PO X lo tl) (hu:PO X hi th):PE X (.Subscript e (.Slice lo hi none p2) pos) (tSl r te tl th):=by
 intro pins s σ H Q I h;refine KR (thn (he pins s σ H _ I h) λv s1 Y=>?_)
 obtain⟨x,H1,I1,r1,q1⟩:=Y;refine wpAny_Slice (thn (hl pins s1 σ H1 _ I1 q1) λvl s2 ⟨l,H2,I2,pl,q2⟩=>thn (hu pins s2 σ H2 _ I2 q2) λvu z U=>?_)
 obtain⟨u,Z,I3,pu,q3⟩:=U;rw[evalPart_none];refine fy ?_
 have I4:Inv X pins σ Z { z with heap:=z.heap.push { cls:=.type "slice",data:=.fields #[vl,vu,.none] } }:=I3.kept (t':=z.toks) λb ob q=>d_ _ q
 obtain⟨T,id,hT,ht,hg⟩:=hr pins { z with heap:=z.heap.push { cls:=.type "slice",data:=.fields #[vl,vu,.none] } } σ Z x v vl vu l u z.heap.objs.size Q I4 r1 (Heap.IsSliceOf.new ..) pl pu q3
 show wpAny (model X.prog X.w) X.A (subscriptTail e (.Slice lo hi none p2) v (.ref z.heap.objs.size)) (EP X pins σ Q) X.xe { z with heap:=z.heap.push { cls:=.type "slice",data:=.fields #[vl,vu,.none] } }
 exact tail_any (ops:=[.ref z.heap.objs.size,v]) ht hT hg (by with_unfolding_all rfl)
def dM (xs:List V) (lo hi:Option Int):List V:=(xs.drop (HT.sIx xs.length 0 lo)).take (HT.sIx xs.length xs.length hi - HT.sIx xs.length 0 lo)
theorem mf (xs:List V) (lo hi:Option Int):(dM xs lo hi).length<=xs.length:=by
 unfold dM;rw[pk,D_];omega
def Iw (K:ge):V->Option Int->Option Int->Hp->VK->Prop:=λx lo hi H Q=>∃a xs,x = .ref a/\SqT K H a xs /\
 ¬ (HT.sIx xs.length 0 lo=0/\HT.sIx xs.length xs.length hi=xs.length)/\∀p,H p=none->Q (.ref p) (upd H p (.tup (dM xs lo hi)))
theorem GZ:SlR X (Iw X.K):=by
 intro pins s σ H x v vl vu lo hi sl Q I rx Y pl pu h;obtain⟨a,xs,rfl,Z,hw,q⟩:=h;cases rx;obtain⟨its,r,U,hz⟩:=I.tuple Z;have z:its.toArray.size=xs.length:=by rw[g_];exact r.length.symm
 refine⟨"tuple",_,x6.lookup,U.typeIs,?_⟩
 refine HT.getItem_tuple_cut U Y pl pu (by rw[z];exact hw) ?_ (by rw[z];exact hz)
 rw[z];refine⟨.ref s.heap.objs.size,_,I.laid (t':=s.toks) (o:=.tup (dM xs lo hi)) (λb ob q=>d_ _ q) (j5 _) ?_,rfl,q _ (I.hok.fresh (j5 _))⟩
 exact⟨le_trans (mf xs lo hi) hz,_,(r.drop (HT.sIx xs.length 0 lo)).take (HT.sIx xs.length xs.length hi - HT.sIx xs.length 0 lo),IsTup.new _ _⟩
def HU (K:ge):R2:=λx y H Q=>∃a b xs ys,x = .ref a/\y = .ref b/\SqT K H a xs/\SqT K H b ys/\xs≠[]/\xs.length+ys.length<=g0 /\
 (ys=[]->Q (.ref a) H)/\(ys≠[]->∀p,H p=none->Q (.ref p) (upd H p (.tup (xs++ys))))
theorem aX.nil_iff (r:aX xs us):us=[]↔xs=[]:=by
 cases r with
 | nil=>simp
 | cons _ _=>simp
theorem Cp:OpR X (JH .Add) (HU X.K):=by
 intro pins s σ H x y v u Q I rx ry h;obtain⟨a,b,xs,ys,rfl,rfl,ha,hb,hx,hz,q1,q2⟩:=h;cases rx;cases ry;obtain⟨its,Y,p1,_⟩:=I.tuple ha;obtain⟨Z,U,p2,_⟩:=I.tuple hb;refine HT.cat_tup p1 p2 (λz=>hx (Y.nil_iff.mp z)) (λz=>⟨.ref a,H,I,rfl,q1 (U.nil_iff.mp z)⟩) (λz=>?_) (by rw[<- Y.length,<- U.length];exact hz)
 refine⟨.ref s.heap.objs.size,_,I.laid (t':=s.toks) (o:=.tup (xs++ys)) (λb ob q=>d_ _ q) (j5 _) ?_,rfl,q2 (λw=>z (U.nil_iff.mpr w)) _ (I.hok.fresh (j5 _))⟩
 exact⟨by rw[nH];exact hz,_,Y.append U,IsTup.new _ _⟩
end
def ixN (n:Nat) (i:Int):Option Nat:=if 0<=i then(if i < n then some i.toNat else none) else if -(n:Int)<=i then some (i+n).toNat else none
def atI {α:Type} (xs:List α) (i:Int):Option α:=(ixN xs.length i).bind λj=>xs[j]?
theorem Ck {i:Int} (h:ixN n i=some j):seqIndex? i n=some j/\j < n/\-(n:Int)<=i/\i < n:=by
 unfold ixN at h
 by_cases z:0<=i
 .rw[if_pos z] at h
  by_cases h1:i < n
  .rw[if_pos h1] at h
   have e:i.toNat=j:=f_ h
   exact⟨by rw[seqIndex_of z h1,e],(),(),h1⟩
  .rw[if_neg h1] at h;cases h
 .rw[if_neg z] at h
  by_cases h1 : -(n:Int)<=i
  .rw[if_pos h1] at h
   have e:(i+n).toNat=j:=f_ h
   exact⟨by rw[seqIndex_neg () h1,e],(),h1,()⟩
  .rw[if_neg h1] at h;cases h
theorem mQ {xs:List α} {i:Int} {v:α} (h:atI xs i=some v) : ∃j,seqIndex? i xs.length=some j/\xs[j]? = some v/\j < xs.length/\-(xs.length:Int)<=i/\i < xs.length:=by
 unfold atI at h;cases e:ixN xs.length i with
 | none=>rw[e] at h;cases h
 | some j =>
  rw[e] at h;obtain⟨h1,h2,z,U⟩:=Ck e;exact⟨j,h1,h,h2,z,U⟩
theorem aQ {xs:List α} {v:α} (h:xs[j]? = some v):atI xs (j:Int)=some v:=by
 have z:j < xs.length:=(i7.mp h).1
 have e:ixN xs.length (j:Int)=some j:=by
  unfold ixN;rw[if_pos (),if_pos ()];simp
 unfold atI;rw[e];exact h
theorem nY (xs:List α) (v:α):atI (xs++[v]) (-1)=some v:=by
 have hl:(xs++[v]).length=xs.length+1:=by simp
 have e:ixN (xs++[v]).length (-1)=some xs.length:=by
  unfold ixN;rw[hl,if_neg ∅,if_pos ()]
  congr 1
  omega
 unfold atI;rw[e]
 show(xs++[v])[xs.length]? = some v
 simp
def mT (b:Expr):Prop:=∀o i,subscripted b false o i=operate [o,i] (JM o i)
def IxR (X:Cx) (r:R2):Prop :=
 ∀ (value slice:Expr) (pins:List (Addr × Obj)) (s:Shared) (σ:St) (H:Hp) (x y:V) (v u:Value) (Q:VK),Inv X pins σ H s->be x v->be y u->r x y H Q ->
  subscripted slice false v u=operate [v,u] (JM v u)->wpAny (model X.prog X.w) X.A (subscriptTail value slice v u) (EP X pins σ Q) X.xe s
def MtR (X:Cx) (id:String) (r:V->List V->Hp->VK->Prop):Prop :=
 ∀ (pins:List (Addr × Obj)) (s:Shared) (σ:St) (H:Hp) (x:V) (xs:List V) (v:Value) (us:List Value) (Q:VK),Inv X pins σ H s->be x v->aX xs us->r x xs H Q ->
  wpAny (model X.prog X.w) X.A (call (.builtin id) (v :: us)) (EP X pins σ Q) X.xe s
section
variable {a b:Expr} {ta:TE}
theorem ak {r:R2} (z:IxR X r) (ha:PE X a ta) (Y:PE X b tb) (hs:mT b:=by exact λ_ _=>rfl):PE X (.Subscript a b pos) (tOp r ta tb):=by
 intro pins s σ H Q I h;exact KR (GH ha Y I h λv u Z x y H2 I2 rx U q=>z a b pins Z σ H2 x y v u Q I2 rx U q (hs _ _))
def Jg (K:ge):R2:=λx y H Q=>∃p xs i v,x = .ref p/\y = .int i/\SqL K H p xs/\atI xs i=some v/\Q v H
def IF (K:ge):R2:=λx y H Q=>∃p xs i v,x = .ref p/\y = .int i/\SqT K H p xs/\atI xs i=some v/\Q v H
def Jk:R2:=λx y H Q=>∃z i c,x = .str z/\y = .int i/\z.length<=g0/\atI z.cps.toList i=some c/\Q (.str ⟨#[c]⟩) H
theorem Dv:IxR X (Jg X.K):=by
 intro value slice pins s σ H x y v u Q I rx ry h Z;obtain⟨p,xs,i,z,rfl,rfl,hq,he,q⟩:=h;cases rx;obtain⟨t,rfl⟩:=ry;obtain⟨its,r,pl,hz⟩:=I.list hq;obtain⟨j,h1,h2,h3,h4,h5⟩:=mQ he;obtain⟨w,ew,Y⟩:=r.get h2;have hl:=r.length;have hn:=ju;have U:EP X pins σ Q w s:=⟨z,H,I,Y,q⟩
 by_cases h0:0<=i
 .have hj:i.toNat=j:=by
   rw[seqIndex_of h0 h5] at h1;exact f_ h1
  exact item_listR pl.isList h0 () (by rw[hj];simpa using ew) U Z
 .have hj:(i+(its.toArray.size:Int)).toNat=j:=by
   rw[seqIndex_neg () h4] at h1
   rw[g_,<- hl];exact f_ h1
  exact KC (x:=w) pl.isList.typeIs slot_list_getitem.lookup
   (wpAny_getItem_list_neg (Q:=λr s'=>r=w/\EP X pins σ Q r s') pl.isList () (by rw[g_] <;> omega) () (by rw[hj];simpa using ew) ⟨rfl,U⟩) Z
theorem EW:IxR X (IF X.K):=by
 intro value slice pins s σ H x y v u Q I rx Z h hs;obtain⟨p,xs,i,z,rfl,rfl,hq,he,q⟩:=h;cases rx;obtain⟨t,rfl⟩:=Z;obtain⟨its,r,pl,hz⟩:=I.tuple hq;obtain⟨j,h1,h2,h3,h4,h5⟩:=mQ he;obtain⟨w,ew,U⟩:=r.get h2;have hl:=r.length;have hn:=ju;have Y:EP X pins σ Q w s:=⟨z,H,I,U,q⟩
 exact KC (x:=w) pl.typeIs slot_tuple_getitem.lookup
  (getItem_tuple (j:=j) (Q:=λr s'=>r=w/\EP X pins σ Q r s') pl () () (by rw[g_,<- hl];exact h1) (by simpa using ew) ⟨rfl,Y⟩) hs
theorem GV:IxR X Jk:=by
 intro value slice pins s σ H x y v u Q I rx Y h Z;obtain⟨z,i,c,rfl,rfl,hz,he,q⟩:=h;obtain⟨t,rfl⟩:=rx;obtain⟨t',rfl⟩:=Y;obtain⟨j,h1,h2,h3,h4,U⟩:=mQ he;have hl:z.cps.toList.length=z.length:=by simp[Str.length]
 rw[hl] at h1 h4 U;have hn:=ju;exact tail_any (typeIs_str s z t) slot_str_getitem.lookup (getItem_str (c:=c) (by
  have e1:decide (i < -(2 ^ 63:Int))=false:=decide_eq_false ()
  have e2:decide (i >= 2 ^ 63)=false:=decide_eq_false ()
  rw[e1,e2,Bool.or_false]) (by rw[h1];simpa using h2) ⟨.str ⟨#[c]⟩,H,I.tok _,⟨_,rfl⟩,q⟩) Z
theorem sH (lo hi:Option Int) (n:Nat):(K1 lo hi none n).1=((HT.sIx n 0 lo:Nat):Int)/\(K1 lo hi none n).2.1=((HT.sIx n n hi:Nat):Int)/\(K1 lo hi none n).2.2=1:=by
 refine⟨?_,?_,rfl⟩
 .cases lo with
  | none=>simp[K1,HT.sIx]
  | some i =>
   simp only[K1,HT.sIx,getD_none,show(1:Int) > 0 by decide,if_true]
   by_cases h:i < 0
   .simp only[h,if_true] <;> omega
   .simp only[h,if_false] <;> omega
 .cases hi with
  | none=>simp[K1,HT.sIx]
  | some i =>
   simp only[K1,HT.sIx,getD_none,show(1:Int) > 0 by decide,if_true]
   by_cases h:i < 0
   .simp only[h,if_true] <;> omega
   .simp only[h,if_false] <;> omega
theorem qJ (its:List Value) (lo hi:Option Int):slicePick its.toArray lo hi none=((its.drop (HT.sIx its.length 0 lo)).take (HT.sIx its.length its.length hi - HT.sIx its.length 0 lo)).toArray:=by
 obtain⟨h1,h2,z⟩:=sH lo hi its.toArray.size;unfold slicePick;rw[h1,h2,z];simp only[sliceRange_one,pick_run,g_] <;> rfl
def Jo (K:ge):V->Option Int->Option Int->Hp->VK->Prop:=λx lo hi H Q=>∃a xs,x = .ref a/\SqL K H a xs/\∀p,H p=none->Q (.ref p) (upd H p (.lst (dM xs lo hi)))
theorem yD:SlR X (Jo X.K):=by
 intro pins s σ H x v vl vu lo hi sl Q I rx Y pl pu h;obtain⟨a,xs,rfl,Z,q⟩:=h;cases rx;obtain⟨its,r,U,hz⟩:=I.list Z;have z:=r.length;refine⟨"list",_,slot_list_getitem.lookup,U.isList.typeIs,?_⟩
 refine wpAny_getItem_list_slice U.isList Y pl pu .none (by simp) ?_ (by rw[g_] <;> omega)
 rw[qJ,<- z];refine⟨.ref s.heap.objs.size,_,I.laid (t':=s.toks) (o:=.lst (dM xs lo hi)) (λb ob q=>d_ _ q) (j5 _) ?_,rfl,q _ (I.hok.fresh (j5 _))⟩
 exact⟨le_trans (mf xs lo hi) hz,_,0,(r.drop (HT.sIx xs.length 0 lo)).take (HT.sIx xs.length xs.length hi - HT.sIx xs.length 0 lo),g9 _ rfl⟩
def fE:V->Bool
 | .non=>true
 | .bl _=>true
 | .int _=>true
 | .str _=>true
 | _=>false
def eqV:V->V->Bool
 | .non,.non=>true
 | .bl a,.bl b=>a == b
 | .bl a,.int b=>(if a then 1 else 0) == b
 | .int a,.bl b=>a ==(if b then 1 else 0)
 | .int a,.int b=>a == b
 | .str a,.str b=>a == b
 | _,_=>false
theorem Ep {x:V} (Y:be y u) (z:be x v) (Z:fE y=true) (U:fE x=true):SeqAt.EqAt A s u v (eqV y x):=by
 cases y with
 | non =>
  cases Y;cases x with
  | non=>cases z;exact SeqAt.EqAt.same _
  | bl b=>cases z;exact SeqAt.EqAt.none_bool b
  | int b=>obtain⟨t,rfl⟩:=z;exact SeqAt.EqAt.none_int b t
  | str b=>obtain⟨t,rfl⟩:=z;exact SeqAt.EqAt.none_str b t
  | _=>exact absurd (show false=true from U) i5
 | bl a =>
  cases Y;cases x with
  | non=>cases z;exact SeqAt.EqAt.bool_none a
  | bl b=>cases z;exact SeqAt.EqAt.bool_bool a b
  | int b=>obtain⟨t,rfl⟩:=z;exact SeqAt.EqAt.bool_int a b t
  | str b=>obtain⟨t,rfl⟩:=z;exact SeqAt.EqAt.bool_str a b t
  | _=>exact absurd (show false=true from U) i5
 | int a =>
  obtain⟨t',rfl⟩:=Y;cases x with
  | non=>cases z;exact SeqAt.EqAt.int_none a t'
  | bl b=>cases z;exact SeqAt.EqAt.int_bool a t' b
  | int b=>obtain⟨t,rfl⟩:=z;exact SeqAt.EqAt.int_int a t' b t
  | str b=>obtain⟨t,rfl⟩:=z;exact SeqAt.EqAt.int_str a t' b t
  | _=>exact absurd (show false=true from U) i5
 | str a =>
  obtain⟨t',rfl⟩:=Y;cases x with
  | non=>cases z;exact SeqAt.EqAt.str_none a t'
  | bl b=>cases z;exact SeqAt.EqAt.str_bool a t' b
  | int b=>obtain⟨t,rfl⟩:=z;exact SeqAt.EqAt.str_int a t' b t
  | str b=>obtain⟨t,rfl⟩:=z;exact SeqAt.EqAt.str_str a t' b t
  | _=>exact absurd (show false=true from U) i5
 | _=>exact absurd (show false=true from Z) i5
def eqU (x:V) (u:Value):Bool:=match u with
 | .none=>eqV .non x
 | .bool b=>eqV (.bl b) x
 | .int i _=>eqV (.int i) x
 | .str z _=>eqV (.str z) x
 | _=>false
theorem Bq {x:V} (r:be y u) (f:fE y=true):eqU x u=eqV y x:=by
 cases y with
 | non=>cases r;rfl
 | bl b=>cases r;rfl
 | int i=>obtain⟨t,rfl⟩:=r;rfl
 | str z=>obtain⟨t,rfl⟩:=r;rfl
 | _=>exact absurd (show false=true from f) i5
theorem kA {x:V} : ∀{xs:List V} {us:List Value},aX xs us->xs.all fE=true->us.any (eqU x)=xs.any λy=>eqV y x
 | _,_,.nil,_=>rfl
 | y :: xs,u :: us,.cons r t,f=>by
  rw[all_cons,mx] at f;rw[any_cons,any_cons,Bq r f.1,kA t f.2]
theorem ik {A:Around} {s:Shared} {x:V} {v:Value} (Y:be x v) (U:fE x=true) : ∀{xs:List V} {us:List Value},aX xs us->xs.all fE=true->∀u∈us,SeqAt.EqAt A s u v (eqU x u)
 | _,_,.nil,_=>λu z=>by cases z
 | y :: xs,u :: us,.cons r t,f=>λZ z=>by
  rw[all_cons,mx] at f;rcases i6.mp z with rfl | z
  .rw[Bq r f.1];exact Ep r Y f.1 U
  .exact ik Y U t f.2 Z z
def inV (x:V) (xs:List V):Bool:=xs.any λy=>eqV y x
def rIn (K:ge) (z:Bool):R2:=λx y H Q=>∃p xs,y = .ref p/\(SqL K H p xs\/SqT K H p xs)/\fE x=true/\xs.all fE=true/\Q (.bl (if z then !inV x xs else inV x xs)) H
theorem rB:OpR X (x3 .In) (rIn X.K false):=by
 intro pins s σ H x y v u Q I Y Z h;obtain⟨p,xs,rfl,z,U,fs,q⟩:=h;cases Z;rcases z with z | z
 .obtain⟨its,r,pl,hz⟩:=I.list z
  refine SeqAt.in_listAt (eqU x) pl.isList (λw hw=>ik Y U r fs w (by simpa using hw)) ⟨.bl _,H,I,rfl,?_⟩
  rw[show its.toArray.any (eqU x)=its.any (eqU x) by simp,kA r fs]
  exact q
 .obtain⟨its,r,pl,hz⟩:=I.tuple z
  refine SeqAt.in_tupleAt (eqU x) pl (λw hw=>ik Y U r fs w (by simpa using hw)) ⟨.bl _,H,I,rfl,?_⟩
  rw[show its.toArray.any (eqU x)=its.any (eqU x) by simp,kA r fs]
  exact q
theorem tU:OpR X (x3 .NotIn) (rIn X.K true):=by
 intro pins s σ H x y v u Q I Y Z h;obtain⟨p,xs,rfl,z,U,fs,q⟩:=h;cases Z;rcases z with z | z
 .obtain⟨its,r,pl,hz⟩:=I.list z
  refine SeqAt.notIn_listAt (eqU x) pl.isList (λw hw=>ik Y U r fs w (by simpa using hw)) ⟨.bl _,H,I,rfl,?_⟩
  rw[show its.toArray.any (eqU x)=its.any (eqU x) by simp,kA r fs]
  exact q
 .obtain⟨its,r,pl,hz⟩:=I.tuple z
  refine SeqAt.notIn_tupleAt (eqU x) pl (λw hw=>ik Y U r fs w (by simpa using hw)) ⟨.bl _,H,I,rfl,?_⟩
  rw[show its.toArray.any (eqU x)=its.any (eqU x) by simp,kA r fs]
  exact q
theorem ke:bH X (.builtin "len") (λxs H Q=>∃p ys,xs=[.ref p]/\(SqL X.K H p ys\/SqT X.K H p ys)/\Q (.int ys.length) H):=by
 intro pins s σ H xs us Q I r h;obtain⟨p,ys,rfl,U,q⟩:=h;obtain⟨u,rfl,Y⟩:=cK r;cases Y;have hn:=ju;rcases U with U | U
 .obtain⟨its,r',pl,hz⟩:=I.list U
  have z:=r'.length;exact Calls.call_len_list pl.isList (by simp only[g_] <;> omega) ⟨.int ys.length,H,I.tok _,⟨s.toks+1,by rw[g_,z]⟩,q⟩
 .obtain⟨its,r',pl,hz⟩:=I.tuple U
  have z:=r'.length;exact len_tuple pl (by simp only[g_] <;> omega) ⟨.int ys.length,H,I.tok _,⟨s.toks+1,by rw[g_,z]⟩,q⟩
theorem sN:bH X (.builtin "len") (λxs H Q=>∃z,xs=[.str z]/\z.length<=g0/\Q (.int z.length) H):=by
 intro pins s σ H xs us Q I r h;obtain⟨z,rfl,hz,q⟩:=h;obtain⟨u,rfl,t,rfl⟩:=cK r;have hn:=ju;exact len_str () ⟨.int z.length,H,I.tok _,⟨_,rfl⟩,q⟩
theorem kY:bH X (.type "list") (λxs H Q=>∃p ys,xs=[.ref p]/\(SqL X.K H p ys\/SqT X.K H p ys)/\∀l,H l=none->Q (.ref l) (upd H l (.lst ys))):=by
 intro pins s σ H xs us Q I r h;obtain⟨p,ys,rfl,Y,q⟩:=h;obtain⟨u,rfl,rx⟩:=cK r;cases rx;have U : ∀(its:List Value),aX ys its->ys.length<=g0->∀(h':Heap) (c':Nat),(∀b o',s.heap.get? b=some o'->h'.get? b=some o') ->
   h'.get? s.heap.objs.size=some { cls:=.type "list",dict:=none,data:=.seq its.toArray c',slots := #[] }->EP X pins σ Q (.ref s.heap.objs.size) { s with heap:=h' }:=λits r' hz h' c' z e =>
  ⟨.ref s.heap.objs.size,_,I.laid (t':=s.toks) z (j5 _) (show bf X.prog X.w _ h' _ (.lst ys) from⟨hz,its,c',r',e⟩),rfl,q _ (I.hok.fresh (j5 _))⟩
 rcases Y with Y | Y
 .obtain⟨its,r',pl,hz⟩:=I.list Y
  have Z:=r'.length;obtain⟨o,ho,hc,n,hd⟩:=pl.isList;exact call_list_seq p (.inl rfl) ho hc hd (λh' c' z e=>U its r' hz h' c' z e) (by simp only[g_] <;> omega)
 .obtain⟨its,r',pl,hz⟩:=I.tuple Y
  have Z:=r'.length;obtain⟨o,ho,hc,n,hd⟩:=pl;exact call_list_seq p (.inr rfl) ho hc hd (λh' c' z e=>U its r' hz h' c' z e) (by simp only[g_] <;> omega)
theorem qp:bH X (.type "tuple") (λxs H Q=>∃p ys,xs=[.ref p]/\((SqL X.K H p ys/\∀l,H l=none->Q (.ref l) (upd H l (.tup ys)))\/(SqT X.K H p ys/\Q (.ref p) H))):=by
 intro pins s σ H xs us Q I r h;obtain⟨p,ys,rfl,h⟩:=h;obtain⟨u,rfl,rx⟩:=cK r;cases rx;rcases h with⟨z,q⟩ | ⟨z,q⟩
 .obtain⟨its,r',pl,hz⟩:=I.list z
  have Y:=r'.length;refine call_tuple_list pl.isList (λh' Z=>?_) (by simp only[g_] <;> omega)
  have U:Inv X pins σ H { s with heap:=h' }:=I.kept (t':=s.toks) Z
  have I2:Inv X pins σ (upd H h'.objs.size (.tup ys)) { s with heap:=h'.push { cls:=.type "tuple",data:=.seq its.toArray } } :=
   U.laid (t':=s.toks) (λb o e=>d_ _ e) (j5 _) (show bf X.prog X.w _ _ _ (.tup ys) from⟨hz,its,r',IsTup.new _ _⟩)
  exact⟨.ref h'.objs.size,_,I2,rfl,q _ (U.hok.fresh (j5 _))⟩
 .obtain⟨its,r',pl,hz⟩:=I.tuple z
  exact call_tuple_same pl ⟨.ref p,H,I,rfl,q⟩
def tyV (K:ge) (T:String) (x:V) (H:Hp):Prop:=match x with
 | .str _=>T = "str"
 | .int _=>T = "int"
 | .ref p=>(T = "list"/\∃xs,SqL K H p xs)\/(T = "tuple"/\∃o,K.lookup p=some o/\o.cls = .type "tuple" /\ o.dict=none) \/
   (T = "dict" /\((∃kvs,H p<*kvs)\/∃kvs,H p=some (.dT kvs)))\/(T = "set"/\∃S n,H p=some (.set S n))
 | _=>False
theorem xH {x:V} (I:Inv X pins σ H s) (r:be x v) (ty:tyV X.K T x H) :
  s.TypeIs v T/\∀a,v = .ref a->∃ob,s.heap.get? a=some ob/\ob.dict=none:=by
 cases x with
 | str z =>
  obtain⟨t,rfl⟩:=r;cases (show T = "str" from ty)
  exact⟨typeIs_str s z t,λ_ e=>nomatch e⟩
 | int i =>
  obtain⟨t,rfl⟩:=r;cases (show T = "int" from ty)
  exact⟨typeIs_int s i t,λ_ e=>nomatch e⟩
 | ref p =>
  cases r;rcases ty with⟨rfl,xs,Z⟩ | ⟨rfl,o,U,hc,Y⟩ | ⟨rfl,U⟩ | ⟨rfl,S,n,U⟩
  .obtain⟨its,_,pl,_⟩:=I.list Z
   refine⟨pl.isList.typeIs,λa e=>?_⟩
   cases e;obtain⟨o,n,e,c,Y,_⟩:=pl;exact⟨o,e,Y⟩
  .refine⟨⟨o,I.kIn p o U,hc⟩,λa e=>?_⟩
   cases e;exact⟨o,I.kIn _ o U,Y⟩
  .have z : ∃o,s.heap.get? p=some o/\o.ExactDict:=by
    rcases U with⟨kvs,U⟩ | ⟨kvs,U⟩
    .obtain⟨_,_,_,_,o,_,_,e,ex,_⟩:=I.hok p _ U
     exact⟨o,e,ex⟩
    .obtain⟨_,_,_,_,o,_,_,e,ex,_⟩:=I.hok p _ U
     exact⟨o,e,ex⟩
   obtain⟨o,e,ex⟩:=z;refine⟨⟨o,e,ex.1⟩,λa e2=>?_⟩
   cases e2;exact⟨o,e,ex.2.1⟩
  .obtain⟨o,_,_,_,e,ex,_⟩:=I.hok p _ U
   refine⟨⟨o,e,ex.1⟩,λa e2=>?_⟩
   cases e2;exact⟨o,e,ex.2.1⟩
 | _=>exact J9 ty
variable {o:Expr} {t:TA} {id:String} {r:V->List V->Hp->VK->Prop}
end
def MtM (X:Cx) (id:String) (r:V->List V->Hp->VK->Prop):Prop :=
 ∀ (pins:List (Addr × Obj)) (s:Shared) (σ:St) (H:Hp) (x:V) (xs:List V) (v:Value) (us:List Value) (Q:VK),Inv X pins σ H s->be x v->aX xs us->r x xs H Q ->
  wpAny (model X.prog X.w) X.A (call (.builtin id) (v :: us)) (EP X pins σ Q) X.xe s
theorem aX.one : ∀{x:V} {us:List Value},aX [x] us->∃u,us=[u]/\be x u
 | _,_,.cons r .nil=>⟨_,rfl,r⟩
theorem aX.zero : ∀{us:List Value},aX [] us->us=[]
 | _,.nil=>rfl
theorem aX.dropLast {xs:List V} {us:List Value} (h:aX xs us):aX xs.dropLast us.dropLast:=by
 induction h with
 | nil=>exact .nil
 | cons r t z =>
  cases t with
  | nil=>exact .nil
  | cons q t'=>exact .cons r z
theorem aX.eraseIdx : ∀{xs:List V} {us:List Value} (i:Nat),aX xs us->aX (xs.eraseIdx i) (us.eraseIdx i)
 | _,_,_,.nil=>.nil
 | _,_,0,.cons _ t=>t
 | _,_,i+1,.cons r t=>.cons r (aX.eraseIdx i t)
theorem aX.reverse {xs:List V} {us:List Value} (h:aX xs us):aX xs.reverse us.reverse:=by
 induction h with
 | nil=>exact .nil
 | cons r t z=>rw[List.reverse_cons,List.reverse_cons];exact aX.append z (.cons r .nil)
theorem wM (l:List α):l.eraseIdx (l.length - 1)=l.dropLast:=by
 induction l with
 | nil=>rfl
 | cons a r z =>
  cases r with
  | nil=>rfl
  | cons b r =>
   have e:(a :: b :: r).length - 1=((b :: r).length - 1)+1:=by
    have h1:(a :: b :: r).length=r.length+2:=rfl
    have h2:(b :: r).length=r.length+1:=rfl
    omega
   rw[e,List.eraseIdx_cons_succ,z]
   all_goals rfl
theorem lu {α:Type} : ∀(l:List α) (i:Nat),(l.eraseIdx i).length<=l.length
 | [],_=>j5 _
 | _ :: _,0=>Ks _
 | _ :: r,i+1=>Nat.succ_le_succ (lu r i)
section
variable {zs:List V}
theorem Inv.lset {its':List Value} {f:Array Value->Array Value} (I:Inv X pins σ H s) (Y:H l*>xs)
  (e:s.heap.get? l=some { cls:=.type "list",data:=.seq its.toArray n }) (hf:f its.toArray=its'.toArray) (z:aX ys its') (hz:ys.length<=g0) :
  Inv X pins σ (upd H l (.lst ys)) { s with heap:=s.heap.update l (o6 f),toks:=t' }:=by
 have q:=PySem.IsL.update e f;rw[hf] at q;refine I.write (x:=l) (e:=l) (by rw[Y];exact trivial) (.inl rfl) (λb' u Z U=>(Heap.get?_update_other s.heap (o6 f) (Jx Z)).trans U) ⟨_,q⟩ ?_
 exact⟨hz,its',_,z,q⟩
theorem Inv.lnew (I:Inv X pins σ H s) (z:aX ys its) (hz:ys.length<=g0) :
  Inv X pins σ (upd H s.heap.objs.size (.lst ys)) { s with heap:=s.heap.push { cls:=.type "list",data:=.seq its.toArray },toks:=t' } :=
 I.laid (λ_ _ q=>d_ _ q) (j5 _) ⟨hz,its,0,z,g9 _ rfl⟩
theorem Inv.fresh (I:Inv X pins σ H s):H s.heap.objs.size=none:=I.hok.fresh (j5 _)
theorem Inv.lstM (I:Inv X pins σ H s) (U:H l*>xs):xs.length<=g0/\∃(its:List Value) (n:Nat),aX xs its/\xs.length=its.length/\s.heap.get? l=some { cls:=.type "list",data:=.seq its.toArray n }:=by
 obtain⟨z,its,n,r,e⟩:=I.hok l _ U;exact⟨z,its,n,r,r.length,e⟩
theorem ul (h:n<=g0):JI n=false:=by
 unfold JI;exact decide_eq_false ()
end
def CF:V->List V->Hp->VK->Prop:=λx vs H Q=>∃l xs y,x = .ref l/\vs=[y]/\H l*>xs/\xs.length < g0/\Q .non (upd H l (.lst (xs++[y])))
theorem rV:MtM X "list.append" CF:=by
 intro pins s σ H x vs v us Q I rx Y h;obtain⟨l,xs,y,rfl,rfl,U,hz,q⟩:=h;cases rx;obtain⟨u,rfl,Z⟩:=Y.one;obtain⟨z,its,n,r,hl,e⟩:=I.lstM U;refine Kw F.slot_list_append ⟨_,e,rfl⟩ F.entry_list_append (F.args_list_append_2 _ _) (PySem.list_append l its.toArray n u (by rw[g_];omega)) ⟨e,?_⟩
 refine⟨.non,_,I.lset (its':=its++[u]) U e (by simp) (r.append (.cons Z .nil)) ?_,rfl,q⟩
 rw[nH,List.length_singleton];omega
def Dc:V->List V->Hp->VK->Prop:=λx vs H Q=>∃l b xs zs,x = .ref l/\vs=[.ref b]/\H l*>xs/\H b*>zs/\xs.length+zs.length<=g0/\Q .non (upd H l (.lst (xs++zs)))
theorem zu:MtM X "list.extend" Dc:=by
 intro pins s σ H x vs v us Q I rx rv h;obtain⟨l,b,xs,zs,rfl,rfl,Z,hB,hz,q⟩:=h;cases rx;obtain⟨u,rfl,ru⟩:=rv.one;cases ru;obtain⟨z,its,n,r,hl,e⟩:=I.lstM Z;obtain⟨z2,U,n2,r2,hl2,e2⟩:=I.lstM hB;have hsz:its.toArray.size+U.toArray.size<=g0:=by rw[g_,g_];omega
 have Y : ¬ (!its.toArray.isEmpty && JI (its.toArray.size+U.toArray.size))=true:=by
  rw[ul hsz,Bool.and_false];exact i5
 refine Kw F.slot_list_extend ⟨_,e,rfl⟩ F.entry_list_extend (F.args_list_extend_2 _ _)
  (AutoSeq1.list_extend_list_list_0 l its.toArray n b U.toArray n2 Y (by rw[g_];omega) ()) ⟨e,e2,?_⟩
 refine⟨.non,_,I.lset (its':=its++U) Z e (by simp) (r.append r2) ?_,rfl,q⟩
 rw[nH];omega
def IL:V->List V->Hp->VK->Prop:=λx vs H Q=>∃l xs y,x = .ref l/\vs=[]/\H l*>xs/\xs[xs.length - 1]? = some y/\Q y (upd H l (.lst xs.dropLast))
theorem GK:MtM X "list.pop" IL:=by
 intro pins s σ H x vs v us Q I rx rv h;obtain⟨l,xs,y,rfl,rfl,Z,hy,q⟩:=h;cases rx;have Y:=rv.zero;subst Y;obtain⟨z,its,n,r,hl,e⟩:=I.lstM Z;obtain⟨u,hu,ru⟩:=r.get hy;have U:its.toArray[its.toArray.size - 1]? = some u:=by
  show its.toArray[its.length - 1]? = some u
  rw[<- KI,<- hl];exact hu
 refine Kw F.slot_list_pop ⟨_,e,rfl⟩ F.entry_list_pop (F.args_list_pop_1 _) (MeetsSeq.list_pop_last l its.toArray n u U (by rw[g_];omega)) ⟨e,?_⟩
 refine⟨y,_,I.lset (its':=its.dropLast) Z e ?_ r.dropLast ?_,ru,q⟩
 .show its.toArray.eraseIdxIfInBounds (its.toArray.size - 1)=its.dropLast.toArray
  rw[g_,Km,wM]
 .rw[List.length_dropLast]
  omega
def Gn:V->List V->Hp->VK->Prop:=λx vs H Q=>∃l xs i k y,x = .ref l/\vs=[.int i]/\H l*>xs/\-(2 ^ 63)<=i/\i < 2 ^ 63/\seqIndex? i xs.length=some k/\xs[k]? = some y/\Q y (upd H l (.lst (xs.eraseIdx k)))
theorem BL:MtM X "list.pop" Gn:=by
 intro pins s σ H x vs v us Q I rx Z h;obtain⟨l,xs,i,k,y,rfl,rfl,Y,h1,h2,hk,hy,q⟩:=h;cases rx;obtain⟨u,rfl,ru⟩:=Z.one;obtain⟨t,rfl⟩:=ru;obtain⟨z,its,n,r,hl,e⟩:=I.lstM Y;obtain⟨w,hw,U⟩:=r.get hy;refine Kw F.slot_list_pop ⟨_,e,rfl⟩ F.entry_list_pop (F.args_list_pop_2 _ _)
  (MeetsSeq.list_pop_at l its.toArray n i t k w (fitsIndex_both h1 h2) (by rw[g_,<- hl];exact hk) (by rw[<- KI];exact hw) (by rw[g_];omega)) ⟨e,?_⟩
 refine⟨y,_,I.lset (its':=its.eraseIdx k) Y e ?_ (r.eraseIdx k) ?_,U,q⟩
 .show its.toArray.eraseIdxIfInBounds k=(its.eraseIdx k).toArray
  rw[Km]
 .have:=lu xs k
  omega
def Iu:R2:=λx y H Q=>∃l b xs zs,x = .ref l/\y = .ref b/\H l*>xs/\H b*>zs/\xs.length+zs.length<=g0/\∀p,H p=none->Q (.ref p) (upd H p (.lst (xs++zs)))
theorem Gq:OpR X (JH .Add) Iu:=by
 intro pins s σ H x y v u Q I rx Y h;obtain⟨l,b,xs,zs,rfl,rfl,Z,hB,hz,q⟩:=h;cases rx;cases Y;obtain⟨z,its,n,r,hl,e⟩:=I.lstM Z;obtain⟨z2,U,n2,r2,hl2,e2⟩:=I.lstM hB;refine PySem.P.add_list e e2 ?_ (by rw[g_,g_];omega)
 have ea:its.toArray++U.toArray=(its++U).toArray:=by simp
 rw[ea];exact⟨.ref _,_,I.lnew (t':=s.toks) (r.append r2) (by rw[nH];omega),rfl,q _ I.fresh⟩
section
variable [DecidableEq κ]
def bg (kvs:List (κ × V)) (k:κ):Option V:=(kvs.find? λkv=>decide (kv.1=k)).map (·.2)
def bj (kvs:List (κ × V)) (k:κ) (v:V):List (κ × V) :=
 if (kvs.any λkv=>decide (kv.1=k))=true then kvs.map (λkv=>if kv.1=k then(kv.1,v) else kv) else kvs++[(k,v)]
theorem kG {k:κ}:bg ([]:List (κ × V)) k=none:=rfl
theorem bi {p:κ × V} {r:List (κ × V)} {k:κ} (e:p.1=k):bg (p :: r) k=some p.2:=by simp[bg,xq,e]
theorem aS {p:κ × V} {r:List (κ × V)} {k:κ} (e : ¬ p.1=k):bg (p :: r) k=bg r k:=by simp[bg,xq,e]
theorem eu (k:κ) : ∀kvs:List (κ × V),(kvs.any λkv=>decide (kv.1=k))=(bg kvs k).isSome
 | []=>rfl
 | p :: r=>by
  rw[any_cons]
  by_cases e:p.1=k
  .simp only[bi e,decide_eq_true e,Bool.true_or,isSome_some]
  .rw[aS e,decide_eq_false e,Bool.false_or];exact eu k r
theorem uZ (k j:κ) (y:V) : ∀kvs:List (κ × V),bg (kvs.map λkv=>if kv.1=k then(kv.1,y) else kv) j=(bg kvs j).map λx=>if j=k then y else x
 | []=>rfl
 | p :: r=>by
  have U:=uZ k j y r;rw[i_]
  by_cases h:p.1=k
  .rw[if_pos h]
   by_cases e:p.1=j
   .rw[bi (p:=(p.1,y)) e,bi e,Kh,if_pos (e.symm.trans h)]
   .rw[aS (p:=(p.1,y)) e,aS e,U]
  .rw[if_neg h]
   by_cases e:p.1=j
   .rw[bi (p:=p) e,bi e,Kh,if_neg (λz=>h (e.trans z))]
   .rw[aS (p:=p) e,aS e,U]
theorem rR (k j:κ) (y:V) : ∀kvs:List (κ × V),bg kvs k=none->bg (kvs++[(k,y)]) j=if j=k then some y else bg kvs j
 | [],_=>by
  by_cases e:k=j
  .rw[if_pos e.symm];exact bi (p:=(k,y)) e
  .rw[if_neg (λz=>e z.symm)];exact aS (p:=(k,y)) e
 | p :: r,hn=>by
  rw[KZ];have U : ¬ p.1=k:=λz=>by rw[bi z] at hn;cases hn
  rw[aS U] at hn;have Y:=rR k j y r hn
  by_cases e:p.1=j
  .rw[bi e,bi e,if_neg (λz=>U (e.trans z))]
  .rw[aS e,aS e,Y]
theorem nF (kvs:List (κ × V)) (k j:κ) (y:V):bg (bj kvs k y) j=if j=k then some y else bg kvs j:=by
 unfold bj
 by_cases a:(kvs.any λkv=>decide (kv.1=k))=true
 .rw[if_pos a,uZ]
  rw[eu] at a
  by_cases e:j=k
  .obtain⟨x,hx⟩:=J5.mp a
   rw[if_pos e,e,hx,Kh,if_pos rfl]
  .rw[if_neg e]
   cases bg kvs j with
   | none=>rfl
   | some x=>rw[Kh,if_neg e]
 .rw[if_neg a]
  refine rR k j y kvs ?_
  rw[eu] at a;cases q:bg kvs k with
  | none=>rfl
  | some x=>rw[q] at a;exact(a rfl).elim
theorem bT (kvs:List (κ × V)) (k:κ) (v:V):(bj kvs k v).length<=kvs.length+1:=by
 unfold bj
 split
 .rw[a_];omega
 .rw[nH,KA,length_nil];omega
theorem dC {kvs:List (κ × V)} {k:κ} (v:V) (h:bg kvs k=none):bj kvs k v=kvs++[(k,v)]:=by
 unfold bj;rw[eu,h];exact if_neg ∅
theorem lh.isSome_eq {o:Option V} {u:Option Value} (r:lh o u):o.isSome=u.isSome:=by
 cases o with
 | none=>cases u with
  | none=>rfl
  | some _=>exact(show False from r).elim
 | some _=>cases u with
  | none=>exact(show False from r).elim
  | some _=>rfl
theorem lh.getD {o:Option V} {u:Option Value} {d:V} {d':Value} (r:lh o u) (z:be d d'):be (o.getD d) (u.getD d'):=by
 cases o with
 | none=>cases u with
  | none=>exact z
  | some _=>exact(show False from r).elim
 | some _=>cases u with
  | none=>exact(show False from r).elim
  | some _=>exact r
theorem KV.val {kvs:List (κ × V)} {vs:List (κ × Value)} (r:KV kvs vs) (k:κ):lh (bg kvs k) (valueAt vs k):=by
 unfold KV at r
 induction r with
 | nil=>exact ow
 | @cons p q ps qs h t ih =>
  obtain⟨h1,h2⟩:=h
  by_cases e:p.1=k
  .have e':q.1=k:=h1.symm.trans e
   have b:valueAt (q :: qs) k=some q.2:=by simp[valueAt,xq,e']
   rw[bi e,b];exact h2
  .have e' : ¬ q.1=k:=λz=>e (h1.trans z)
   have b:valueAt (q :: qs) k=valueAt qs k:=by simp[valueAt,xq,e']
   rw[aS e,b];exact ih
theorem KV.any {kvs:List (κ × V)} {vs:List (κ × Value)} (r:KV kvs vs) (k:κ):(kvs.any λkv=>decide (kv.1=k))=vs.any λkv=>decide (kv.1=k):=by
 unfold KV at r
 induction r with
 | nil=>rfl
 | cons h t z=>rw[any_cons,any_cons,z,h.1]
theorem KV.repl {kvs:List (κ × V)} {vs:List (κ × Value)} (r:KV kvs vs) (k:κ) {y:V} {u:Value} (U:be y u) :
  KV (kvs.map λkv=>if kv.1=k then(kv.1,y) else kv) (vs.map λkv=>if kv.1=k then(kv.1,u) else kv):=by
 unfold KV at r ⊢
 induction r with
 | nil=>exact .nil
 | @cons p q ps qs h t ih =>
  rw[i_,i_];refine .cons ?_ ih
  obtain⟨h1,h2⟩:=h
  by_cases e:p.1=k
  .rw[if_pos e,if_pos (h1.symm.trans e)];exact⟨h1,U⟩
  .rw[if_neg e,if_neg (λz=>e (h1.trans z))];exact⟨h1,h2⟩
theorem KV.put {kvs:List (κ × V)} {vs:List (κ × Value)} (r:KV kvs vs) (k:κ) {y:V} {u:Value} (z:be y u):KV (bj kvs k y) (stored vs k u):=by
 unfold bj stored;rw[r.any k]
 by_cases e:(vs.any λkv=>decide (kv.1=k))=true
 .rw[if_pos e,if_pos e];exact r.repl k z
 .rw[if_neg e,if_neg e];exact Paired.snoc r ⟨rfl,z⟩
theorem KV.keys {kvs:List (κ × V)} {vs:List (κ × Value)} (r:KV kvs vs):kvs.map (·.1)=vs.map (·.1):=by
 unfold KV at r
 induction r with
 | nil=>rfl
 | cons h t z=>rw[i_,i_,z,h.1]
theorem KV.length {kvs:List (κ × V)} {vs:List (κ × Value)} (r:KV kvs vs):kvs.length=vs.length:=Paired.length r
end
theorem kH {k:Key} (r:be (kV k) u):(aY P w).is k u=true:=by
 cases k with
 | inl i=>obtain⟨t,e⟩:=(show ∃t,u=Value.int i t from r);subst e;exact uI P w i t
 | inr x=>obtain⟨t,e⟩:=(show ∃t,u=Value.str x t from r);subst e;exact uc P w x t
theorem qU {P:Program} {w:World} : ∀{ks:List Key} {us:List Value},aX (ks.map kV) us->ItemsAre (aY P w) ks us
 | [],_,r=>by rw[KF] at r;cases r;exact .nil
 | k :: ks,_,r=>by
  rw[i_] at r;cases r with
  | cons h t=>exact .cons (kH h) (qU t)
abbrev KT (H:Hp):List (List Key × V)->List (List Key × Addr × Value)->Prop:=Paired λp q=>p.1=q.1/\H q.2.1>>(p.1.map kV)/\be p.2 q.2.2
theorem KT.val {kvs:List (List Key × V)} {xs:List (List Key × Addr × Value)} (r:KT H kvs xs) (k:List Key):lh (bg kvs k) ((atKey xs k).map (·.2)):=by
 induction r with
 | nil=>exact ow
 | @cons p q ps qs h t ih =>
  obtain⟨h1,_,h2⟩:=h
  by_cases e:p.1=k
  .have e':q.1=k:=h1.symm.trans e
   have b:atKey (q :: qs) k=some q.2:=by simp[atKey,xq,e']
   rw[bi e,b];exact h2
  .have e' : ¬ q.1=k:=λz=>e (h1.trans z)
   have b:atKey (q :: qs) k=atKey qs k:=by simp[atKey,xq,e']
   rw[aS e,b];exact ih
theorem KT.repl {kvs:List (List Key × V)} {xs:List (List Key × Addr × Value)} (r:KT H kvs xs) (k:List Key) {y:V} {u:Value} (Y:be y u) :
  KT H (kvs.map λkv=>if kv.1=k then(kv.1,y) else kv) (xs.map (putAt k u)):=by
 induction r with
 | nil=>exact .nil
 | @cons p q ps qs h t ih =>
  rw[i_,i_];refine .cons ?_ ih
  obtain⟨h1,h2,U⟩:=h;unfold putAt
  by_cases e:p.1=k
  .rw[if_pos e,if_pos (h1.symm.trans e)];exact⟨h1,h2,Y⟩
  .rw[if_neg e,if_neg (λz=>e (h1.trans z))];exact⟨h1,h2,U⟩
theorem KT.put {kvs:List (List Key × V)} {xs:List (List Key × Addr × Value)} (r:KT H kvs xs) (k:List Key) {b:Addr} {y:V} {u:Value} (U:H b>>(k.map kV)) (z:be y u) :
  KT H (bj kvs k y) (storedH xs k b u):=by
 have e:(kvs.any λkv=>decide (kv.1=k))=(atKey xs k).isSome:=by
  rw[eu,(r.val k).isSome_eq,isSome_map]
 unfold bj storedH;rw[e]
 by_cases q:(atKey xs k).isSome=true
 .rw[if_pos q,if_pos q];exact r.repl k z
 .rw[if_neg q,if_neg q];exact Paired.snoc r ⟨rfl,U,z⟩
theorem KT.keeps {kvs:List (List Key × V)} {xs:List (List Key × Addr × Value)} (r:KT H kvs xs) (U : ∀b ys,H b>>ys->H' b>>ys):KT H' kvs xs :=
 Paired.mapP r λ_ _ z=>⟨z.1,U _ _ z.2.1,z.2.2⟩
theorem Em {u:HO} (ok:HOk P w H h) (e:Rd H a u):bf P w H h a u:=e.ok ok
theorem pE (ok:HOk P w H h) (e:Rd H a (.dK kvs)):kvs.length<=g0/\(a == Jq)=false/\∃vs,KV kvs vs/\h.DictOf (aY P w) a vs :=
 show bf P w H h a (.dK kvs) from Em ok e
theorem oZ (ok:HOk P w H h) (e:H a<*kvs):kvs.length<=g0/\(a == Jq)=false/\∃vs,KV kvs vs/\h.DictOf (aY P w) a vs:=pE ok (.inl e)
theorem lf {ks:List Key} (ok:HOk P w H h) (e:H a>>(ks.map kV)):(tupleKind (aY P w)).is h ks a:=by
 obtain⟨_,its,r,o,h1,h2,n,z⟩:=(show bf P w H h a (.tup (ks.map kV)) from ok a _ e)
 exact⟨o,its.toArray,n,h1,h2,z,by simpa using qU r⟩
theorem ox {kvs:List (List Key × V)} (ok:HOk P w H h) (e:Rd H a (.dT kvs)):kvs.length<=g0/\(a == Jq)=false /\
  ∃xs,KT H kvs xs/\h.DictOfH (tupleKind (aY P w)) a xs:=by
 obtain⟨z,y,xs,r,o,es,ep,h1,h2,Z,h4,Y⟩:=(show bf P w H h a (.dT kvs) from Em ok e)
 refine⟨z,y,xs,r,o,es,ep,h1,h2,Z,h4,λx U=>?_,Y⟩
 have all : ∀{l:List (List Key × V)} {m:List (List Key × Addr × Value)},KT H l m->∀x∈m,(tupleKind (aY P w)).is h x.1 x.2.1:=by
  intro l m q
  induction q with
  | nil=>intro x U;exact nomatch U
  | @cons p q ps qs hq t ih =>
   intro x U;rcases i6.mp U with e | U
   .subst e
    exact lf ok (by rw[<- hq.1];exact hq.2.1)
   .exact ih x U
 exact all r x U
theorem HP {kvs:List (List Key × V)} (ok:HOk P w H h) (e:H a=some (.dT kvs)):kvs.length<=g0/\(a == Jq)=false /\
  ∃xs,KT H kvs xs/\h.DictOfH (tupleKind (aY P w)) a xs:=ox ok (.inl e)
def qh (H:Hp) (a:Addr) (y:V) (r:Option V):Prop :=
 (∃kvs k,Rd H a (.dK kvs)/\y=kV k/\r=bg kvs k)\/∃kvs k b,Rd H a (.dT kvs)/\y = .ref b/\H b>>(k.map kV)/\r=bg kvs k
def Hj (H:Hp) (a:Addr) (y v:V) (H':Hp):Prop :=
 (∃kvs k,H a<*kvs/\y=kV k/\kvs.length < g0/\H'=upd H a (.dK (bj kvs k v))) \/
 ∃kvs k b,H a=some (.dT kvs)/\y = .ref b/\H b>>(k.map kV)/\kvs.length < g0/\H'=upd H a (.dT (bj kvs k v))
section
variable {v:V} {r:Value} {o:Option V}
theorem Inv.big (I:Inv X pins σ H s):Jq < s.heap.objs.size:=by
 have h:o8 < s.heap.objs.size:=(I.mod.glob.keeps I.bk).lt
 exact lt_trans ∅ h
theorem rS (hu:A.units+1 < cLine) (I:Inv X pins σ H s) (g:qh H a y (some v)) (ry:be y u) (h : ∀Z s',Inv X pins σ H s'->be v Z->Q Z s') :
  wpAny (model X.prog X.w) A (JM (.ref a) u) Q E s:=by
 rcases g with⟨kvs,k,e,ey,l⟩ | ⟨kvs,k,b,e,ey,eb,l⟩
 .subst ey
  obtain⟨z,hd,vs,U,dd⟩:=pE I.hok e;obtain⟨Z,hw,Y⟩:=lh.some_of (v:=v) (o:=valueAt vs k) (by rw[l];exact U.val k)
  exact wpAny_getItem_of (kH ry) dd.mapOf hw (h Z _ (I.tok _) Y)
 .subst ey
  cases (show u=m8 b from ry)
  obtain⟨z,hd,xs,U,dd⟩:=ox I.hok e;obtain⟨Z,hw,Y⟩:=lh.some_of (v:=v) (o:=(atKey xs k).map (·.2)) (by rw[l];exact U.val k)
  obtain⟨p,hp,aa⟩:=JG.mp hw;refine wpAny_getItem_heap (Kx hu) (lf I.hok eb) dd hp ?_
  rw[aa];exact h Z _ (I.tok _) Y
theorem IC (hu:A.units+1 < cLine) (I:Inv X pins σ H s) (g:qh H a y o) (ry:be y u) (h : ∀s',Inv X pins σ H s'->Q (.bool o.isSome) s') :
  wpAny (model X.prog X.w) A (x3 .In u (.ref a)) Q E s:=by
 rcases g with⟨kvs,k,e,ey,l⟩ | ⟨kvs,k,b,e,ey,eb,l⟩
 .subst ey
  obtain⟨z,Y,vs,U,Z⟩:=pE I.hok e;refine wpAny_in_of (kH ry) Y Z.mapOf ?_
  rw[<- (U.val k).isSome_eq,<- l];exact h _ (I.tok _)
 .subst ey
  cases (show u=m8 b from ry)
  obtain⟨z,Y,xs,U,Z⟩:=ox I.hok e;refine wpAny_in_heap (Kx hu) (lf I.hok eb) Y Z ?_
  have q:=(U.val k).isSome_eq;rw[isSome_map] at q;rw[<- q,<- l];exact h _ (I.tok _)
theorem CN (hu:A.units+1 < cLine) (I:Inv X pins σ H s) (g:qh H a y o) (ry:be y u) (h : ∀s',Inv X pins σ H s'->Q (.bool (!o.isSome)) s') :
  wpAny (model X.prog X.w) A (x3 .NotIn u (.ref a)) Q E s:=by
 rcases g with⟨kvs,k,e,ey,l⟩ | ⟨kvs,k,b,e,ey,eb,l⟩
 .subst ey
  obtain⟨z,Y,vs,U,Z⟩:=pE I.hok e;refine wpAny_notIn_of (kH ry) Y Z.mapOf ?_
  rw[<- (U.val k).isSome_eq,<- l];exact h _ (I.tok _)
 .subst ey
  cases (show u=m8 b from ry)
  obtain⟨z,Y,xs,U,Z⟩:=ox I.hok e;refine wpAny_notIn_heap (Kx hu) (lf I.hok eb) Y Z ?_
  have q:=(U.val k).isSome_eq;rw[isSome_map] at q;rw[<- q,<- l];exact h _ (I.tok _)
theorem kn {ob:HO} (I:Inv X pins σ H s) (mu:Mut (H a)) (Y:K5 a s.heap h') (U : ∃q,h'.get? a=some q) (new:bf X.prog X.w (upd H a ob) h' a ob) :
  Inv X pins σ (upd H a ob) { s with heap:=h',toks:=t' } :=
 I.write (x:=a) (e:=a) mu (.inl rfl) (λb q Z z=>(Y.2 b Z).trans z) U new
theorem wF {vs:List (Key × Value)} (z:kvs.length<=g0) (Y:(a == Jq)=false) (U:KV kvs vs) (Z:h'.DictOf (aY P w) a vs) :
  bf P w H' h' a (.dK kvs):=⟨z,Y,vs,U,Z⟩
theorem zO {Q:Unit->Shared->Prop} (hu:A.units+1 < cLine) (I:Inv X pins σ H s) (g:Hj H a y v H') (ry:be y u) (rv:be v r) (h : ∀s',Inv X pins σ H' s'->Q Unit.unit s') :
  wpAny (model X.prog X.w) A (setItem (.ref a) u r) Q E s:=by
 rcases g with⟨kvs,k,e,ey,l,eH⟩ | ⟨kvs,k,b,e,ey,eb,l,eH⟩
 .subst ey eH
  obtain⟨z,hd,vs,U,dd⟩:=oZ I.hok e;have hz:vs.length<=g0:=by rw[<- U.length];exact z
  have hl:(bj kvs k v).length<=g0:=by have:=bT kvs k v;omega
  refine wpAny_setItem_pairs (hsz:=hz) (kH ry) dd λh' Y hs=>h _ ?_
  have he : ∃q,h'.get? a=some q:=let ⟨q,_,_,Z,_⟩:=Y;⟨q,Z⟩
  exact kn I (by rw[e];exact ow) hs he (wF hl hd (U.put k rv) Y)
 .subst ey eH
  cases (show u=m8 b from ry)
  obtain⟨z,hd,xs,U,dd⟩:=HP I.hok e;have hz:xs.length<=g0:=by rw[<- Paired.length U];exact z
  have hl:(bj kvs k v).length<=g0:=by have:=bT kvs k v;omega
  refine wpAny_setItem_heap (hsz:=hz) (Kx hu) (lf I.hok eb) dd λh' Y hs=>h _ ?_
  obtain⟨q,es,ep,Z,h2,h3,h4,_,h5⟩:=Y;refine kn I (by rw[e];exact ow) hs ⟨q,Z⟩ ⟨hl,hd,_,(U.put k eb rv).keeps λc ys ec=>?_,q,es,ep,Z,h2,h3,h4,h5⟩
  rw[ai (bA ec e (λz=>nomatch z))]
  exact ec
end
def Ez (i:Expr):Prop:=∀U z,subscripted i false U z=operate [U,z] (JM U z)
theorem yJ {id:String}
  (hl:KQ (.type T) "__getitem__" = pure (some (.builtin id))) (hs:Ez slice)
  (h:wpAny (model prog w) A (eval value env) (λo s₁=>wpAny (model prog w) A (eval slice env) (λi z=>z.TypeIs o T/\wpAny (model prog w) A (JM o i) Q E z) E s₁) E s) :
  wpAny (model prog w) A (eval (.Subscript value slice pos) env) Q E s:=by
 refine KR (y3 h (λo s₁ aa=>y3 aa (λi z U=>?_) λ_ _ x=>x) λ_ _ x=>x)
 obtain⟨hT,U⟩:=U;unfold subscriptTail;refine c_ ?_
 rw[getitemInPython_of_ne hT.not_modules];refine c_ (JJ hT hl ?_)
 have Z:wpAny (model prog w) A (subscripted slice false o i) (λr Y=>wpAny (model prog w) A (letTemporaryGo value o r >>= λ_=>pure r) Q E Y) E z:=by
  rw[hs o i];exact wpAny_operating (y3 U (λr Y ac=>c_ (wpAny_letTemporaryGo (fy ac))) λ_ _ x=>x)
 first
  | exact fy (c_ Z)
  | exact c_ (fy (c_ Z))
  | exact c_ Z
theorem lW {o:Option V} (I:Inv X pins σ H s) (g:qh H a y o):s.TypeIs (.ref a) "dict" := by
 rcases g with⟨kvs,k,e,_,_⟩ | ⟨kvs,k,b,e,_,_,_⟩
 .obtain⟨_,_,vs,_,dd⟩:=pE I.hok e
  exact dd.typeIs
 .obtain⟨_,_,xs,_,dd⟩:=ox I.hok e
  exact dd.typeIs
theorem uz (h:Heap) (z:Jq < h.objs.size):bf P w H (h.push { cls:=.type "dict",data:=.dict #[] }) h.objs.size (.dK []) :=
 ⟨r_ _,beq_eq_false_iff_ne.mpr (Jx (k_ z)),[],.nil,Heap.DictOf.new h⟩
def wO:TE:=λ_ H Q=>∀p,H p=none->Q (.ref p) (upd H p (.dK []))
theorem cj:PE X (.Dict [] [] pos) wO:=λpins s σ H Q I h =>
 wpAny_Dict_empty ⟨.ref s.heap.objs.size,_,I.laid (a:=s.heap.objs.size) (o:=.dK []) (t':=s.toks) (λ_ _ q=>d_ _ q) (j5 _) (uz s.heap I.big),rfl,h _ (I.hok.fresh (j5 _))⟩
def nO:List (TE × TE)->St->Hp->(List (V × V)->Hp->Prop)->Prop
 | [],_,H,Q=>Q [] H
 | (tk,tv) :: r,σ,H,Q=>tk σ H λx H1=>tv σ H1 λy H2=>nO r σ H2 λps z=>Q ((x,y) :: ps) z
abbrev VV:List (V × V)->List (Value × Value)->Prop:=Paired λp q=>be p.1 q.1/\be p.2 q.2
def PPs (X:Cx) (pos:Pos) (keys:List (Option Expr)) (values:List Expr) (trs:List (TE × TE)):Prop :=
 ∀ (pins:List (Addr × Obj)) (s:Shared) (σ:St) (H:Hp) (Q:List (V × V)->Hp->Prop),Inv X pins σ H s->nO trs σ H Q ->
  wpAny (model X.prog X.w) X.A (evalPairs (pairTrees keys values X.env pos)) (λvs s'=>∃ps H',Inv X pins σ H' s'/\VV ps vs/\Q ps H') X.xe s
theorem yp:PPs X pos [] [] []:=λpins s σ H Q I h=>pairTrees_nil_walk ⟨[],H,I,.nil,h⟩
theorem gj {k v:Expr} {ks:List (Option Expr)} {vs:List Expr} {tk:TE} (hk:PE X k tk) (hv:PE X v tv) (Y:PPs X pos ks vs trs) :
  PPs X pos (some k :: ks) (v :: vs) ((tk,tv) :: trs):=λpins s σ H Q I h =>
 pairTrees_cons_walk (thn (hk pins s σ H _ I h) λu s1 ⟨x,H1,I1,rx,q1⟩=>thn (hv pins s1 σ H1 _ I1 q1) λw2 Z ⟨y,H2,I2,ry,q2⟩ =>
  thn (Y pins Z σ H2 _ I2 q2) λws s3 U=>by obtain⟨ps,H3,I3,z,q3⟩:=U;exact(⟨(x,y) :: ps,H3,I3,.cons ⟨rx,ry⟩ z,q3⟩))
def dN (kvs more:List (Key × V)):List (Key × V):=more.foldl (λacc kv=>bj acc kv.1 kv.2) kvs
theorem KV.merge : ∀{more:List (Key × V)} {rs:List (Key × Value)} {kvs:List (Key × V)} {vs:List (Key × Value)},KV more rs->KV kvs vs->KV (dN kvs more) (merged vs rs):=by
 intro more rs kvs vs r;unfold KV at r
 induction r generalizing kvs vs with
 | nil=>intro q;exact q
 | @cons p q ps qs h t ih =>
  intro z;have e:KV (bj kvs p.1 p.2) (stored vs q.1 q.2):=by
   have:=z.put p.1 h.2
   rw[<- h.1];exact this
  exact ih e
theorem fM : ∀(more kvs:List (Key × V)),(dN kvs more).length<=kvs.length+more.length
 | [],kvs=>by show kvs.length<=kvs.length+0;omega
 | p :: r,kvs=>by
  have h1:=fM r (bj kvs p.1 p.2);have h2:=bT kvs p.1 p.2
  show(dN (bj kvs p.1 p.2) r).length<=_
  rw[KA];omega
theorem oo {P:Program} {w:World} : ∀{kvs:List (Key × V)} {ws:List (Value × Value)},VV (kvs.map λkv=>(kV kv.1,kv.2)) ws->∃rs,Carries (aY P w) ws rs/\KV kvs rs
 | [],_,r=>by rw[KF] at r;cases r;exact⟨[],ow,.nil⟩
 | p :: kvs,_,r=>by
  rw[i_] at r;cases r with
  | @cons a b as bs h t =>
   obtain⟨rs,c,q⟩:=oo (P:=P) (w:=w) t;obtain⟨U,z⟩:=b;exact⟨(p.1,z) :: rs,⟨kH h.1,rfl,c⟩,.cons ⟨rfl,h.2⟩ q⟩
def AW (trs:List (TE × TE)):TE:=λσ H Q=>∀p,H p=none->nO trs σ (upd H p (.dK [])) λps H2=>H2 p<*[]/\∃kvs:List (Key × V),ps=kvs.map (λkv=>(kV kv.1,kv.2))/\kvs.length<=15/\Q (.ref p) (upd H2 p (.dK (dN [] kvs)))
theorem yu {keys:List (Option Expr)} (h:PPs X pos keys values trs) (Z:keys.all (·.isSome)=true) (hl:keys.length=values.length) (h0:keys≠[])
  (aa:keys.length<=15):PE X (.Dict keys values pos) (AW trs):=by
 intro pins s σ H Q I q;have hn:=I.hok.fresh (j5 s.heap.objs.size);have I1:=I.laid (a:=s.heap.objs.size) (o:=.dK []) (h':=s.heap.push { cls:=.type "dict",data:=.dict #[] }) (t':=s.toks) (λ_ _ q=>d_ _ q) (j5 _) (uz s.heap I.big)
 refine wpAny_Dict_walk (knd:=aY X.prog X.w) Z hl h0 aa (thn (h pins _ σ _ _ I1 (q _ hn)) λws s2 U=>?_)
 obtain⟨ps,H2,I2,ac,e,kvs,ep,lk,q2⟩:=U;subst ep;obtain⟨rs,c,rk⟩:=oo (P:=X.prog) (w:=X.w) ac;obtain⟨z,hd,ad,r0,dd⟩:=oZ I2.hok e;cases r0;refine⟨rs,c,dd,λh' Y hs=>⟨.ref s.heap.objs.size,_,?_,rfl,q2⟩⟩
 have hz:(dN [] kvs).length<=g0:=by
  have h1:=fM kvs [];rw[length_nil] at h1;rw[Jp];omega
 have he : ∃q,h'.get? s.heap.objs.size=some q:=let ⟨q,_,_,hq,_⟩:=Y;⟨q,hq⟩
 exact kn I2 (by rw[e];exact ow) hs he (wF hz hd (rk.merge .nil) Y)
structure M2 (X:Cx) (o:Expr) (m:Str) (apos:Pos) (e f:Expr) (cpos:Pos):Prop where
 base:attributeBase o m X.env (eval o X.env)=eval o X.env
 few:((JS cpos (m9 [e,f] X.env)).all (λx=>!x.1) && (backToKw cpos (keywordEach [] X.env)).all (λx=>x.1.isSome)
  && decide (([e,f]:List Expr).length+([]:List Keyword).length+(if ([]:List Keyword).isEmpty then 0 else 1) < 30))=true
 line:(apos.endLine == cpos.line)=true
 trees:JS cpos (m9 [e,f] X.env)=[(false,eval e X.env),(false,eval f X.env)]
def IsD (H:Hp) (a:Addr):Prop:=(∃kvs,Rd H a (.dK kvs))\/∃kvs,Rd H a (.dT kvs)
theorem wT (I:Inv X pins σ H s) (d:IsD H a) :
  s.TypeIs (.ref a) "dict" /\(∀b,m8 a = .ref b->∃ob,s.heap.get? b=some ob/\ob.dict=none)/\(a == Jq)=false:=by
 rcases d with⟨kvs,e⟩ | ⟨kvs,e⟩
 .obtain⟨_,hd,vs,_,dd⟩:=pE I.hok e
  refine⟨dd.typeIs,λb q=>?_,hd⟩
  cases q;obtain⟨ob,_,_,h1,h2,_⟩:=dd;exact⟨ob,h1,h2.2.1⟩
 .obtain⟨_,hd,xs,_,dd⟩:=ox I.hok e
  refine⟨dd.typeIs,λb q=>?_,hd⟩
  cases q;obtain⟨ob,_,_,h1,h2,_⟩:=dd;exact⟨ob,h1,h2.2.1⟩
section
variable {d:V} {r:Value} {o:Option V}
theorem Gd (hu:A.units+1 < cLine) (I:Inv X pins σ H s) (g:qh H a y o) (ry:be y u) (rd:be d r) (h : ∀w' s',Inv X pins σ H s'->be (o.getD d) w'->Q w' s') :
  wpAny (model X.prog X.w) A (call (.builtin "dict.get") [.ref a,u,r]) Q E s:=by
 rcases g with⟨kvs,k,e,Z,l⟩ | ⟨kvs,k,b,e,Z,eb,l⟩
 .subst Z
  obtain⟨z,hd,vs,U,Y⟩:=pE I.hok e;refine call_meetsIn JW Y.typeIs PySem.F.entry_dict_get (PySem.F.args_dict_get_3 _ _ _) (meets_dict_get_default (aY X.prog X.w) a (kH ry) hd r) ⟨_,Y.mapOf,h _ _ (I.tok _) ?_⟩
  rw[l];exact(U.val k).getD rd
 .subst Z
  cases (show u=m8 b from ry)
  obtain⟨z,hd,xs,U,Y⟩:=ox I.hok e;refine call_meetsIn JW Y.typeIs PySem.F.entry_dict_get (PySem.F.args_dict_get_3 _ _ _) (meetsH_dict_get_default (tupleKind (aY X.prog X.w)) a b hd r) ⟨Kx hu,k,xs,lf I.hok eb,Y,h _ _ (I.tok _) ?_⟩
  rw[l];exact(U.val k).getD rd
end
def fL (td ty tx:TE):TE:=λσ H Q=>td σ H λx H1=>∃a,x = .ref a/\IsD H1 a/\ty σ H1 λy H2=>tx σ H2 λz U=>∃o,qh U a y o/\Q (o.getD z) U
section
variable {o f:Expr}
theorem eA (hu:X.A.units+1 < cLine) (ho:PE X o td) (he:PE X e ty) (hf:PE X f tx) (m:M2 X o "get" apos e f cpos):PE X (.Call (.Attribute o "get" apos) [e,f] [] cpos) (fL td ty tx):=by
 intro pins s σ H Q I h;refine wpAny_Call_method m.base m.few m.line Kp JW PySem.F.type_dict_get (thn (ho pins s σ H _ I h) λu s1 U=>?_)
 obtain⟨x,H1,Z,rx,a,ex,d,q1⟩:=U;subst ex;obtain rfl:u=m8 a:=rx
 obtain⟨t1,t2,_⟩:=wT Z d;refine⟨t1,t2,?_⟩
 rw[m.trees];refine JA rfl (Ka (u9 (thn (he pins s1 σ H1 _ Z q1) λiv s2 ⟨y,H2,I2,ry,q2⟩ =>
  u9 (thn (hf pins s2 σ H2 _ I2 q2) λfv s3 ⟨z,H3,I3,rz,ov,g,q3⟩=>F_ ?_))))
 exact Gd hu I3 g ry rz λw' s4 I4 Y=>⟨_,H3,I4,Y,q3⟩
end
end L2
namespace Att
open PySem PySem.W PySem.Calls PyProof.Rows
theorem mD {P:Params} : ∀(ns:List Int) (vs:List Value),WellAll P h vs (ns.map WData.int)->E_ vs ns:=by
 intro ns
 induction ns with
 | nil =>
  intro vs w;rw[KF] at w;cases w;exact .nil
 | cons n ns z =>
  intro vs w;rw[i_] at w;cases w with
  | cons a b =>
   cases a;exact .cons _ _ (z _ b)
theorem zG {l:OpenLaw} (hn:l.most=some n) {P:Params} {h:Heap} {args:List WData} {z:List Value}
  (U:l.row.toRowW.claim.pre args=true) (aa:WellAll P h z args) :
  ∃a vs ns,z=[m8 a]/\args=[WData.list (ns.map WData.int)]/\h.get? a=some { cls:=.type "list",data:=.seq vs.toArray }/\E_ vs ns/\ns.length<=n:=by
 have ac:WShape.hasAll [] args [.list .int]=true:=(pre_splitW U).1
 have hc:l.pre.holds [] { args:=args }=true:=(pre_splitW U).2
 obtain⟨d,r,rfl,h1,h2⟩:=hasAllW_cons ac;obtain rfl:=hasAllW_nil h2
 obtain⟨xs,rfl,h3⟩:=hasW_list h1;obtain⟨ns,rfl⟩:=items_int h3;have Z:ns.length<=n:=by
  unfold OpenLaw.pre at hc;have h4:(WTm.not (.lt (.lit (.int (n:Int))) (.len (.arg 0)))).holds [] { args:=[.list (ns.map .int)] }=true:=by
   have h4:=(holds_andW hc).1;rw[hn] at h4;exact h4
  have h5:=condW_of h4 (w_not (w_lt w_lit (w_len_list (w_arg rfl))));rw[a_] at h5;refine Nat.le_of_not_lt λq=>?_
  have q':(n:Int) < ((ns.length:Nat):Int):=()
  first
   | (rw[decide_eq_true q'] at h5;exact absurd h5 ∅)
   | (simp at h5;omega)
 cases aa with
 | cons w1 w2 =>
  cases w2;cases w1 with
  | list ho Y=>exact⟨_,_,ns,rfl,rfl,ho,mD ns _ Y,Z⟩
theorem zR (l:OpenLaw) (args:List WData):l.row.toRowW.claim.post args (.bool true) args=true :=
 postW_of (r:=l.row.toRowW) (X:=(true == true))
  (show WShape.has [] (.bool true) .bool=true by first | rfl | decide | simp[WShape.has,WShape.arms,WShape.armsAll])
  (show(WTm.eq .res (.lit (.bool true))).value [] { args:=args,res:=some (.bool true),after:=args }=some (.bool (true == true)) from w_eq_bool (w_res rfl) w_lit) rfl
theorem attach_call {l:OpenLaw} {d:DefRec}
  (hn:l.most=some n) (ae:d.params.defaults=[])
  (call : ∀(w:World) (z s₁:Shared) (mg mb:Str->Option Value) (fa:Addr) (o:Obj) (pm cd doc:Value) (a:Addr) (vs:List Value) (ns:List Int),
   Ground q loose [] XP w z mg mb s₁.heap->YP w s₁.heap ->
   s₁.heap.get? fa=some o->o.data = .func (docDef d.name d.params d.body d.scope pm cd doc)->s₁.heap.CodeRec cd d.name->mg d.name=some (.ref fa) ->
   s₁.heap.get? a=some { cls:=.type "list",data:=.seq vs.toArray }->E_ vs ns->ns.length<=n->s₁.gens = #[] ->
   codeAny (model l.prog w) callerA (.call (.ref fa) ⟨[.ref a],[]⟩) (λr s'=>r = .ok (.ret (.bool true))/\OldK s₁.heap s'.heap/\s'.os=s₁.os/\AllBare s'.gens) s₁) :
  WalkO q loose XP YP l.row.toRowW d [] (λf vs=>PySem.call f vs):=by
 intro w z s₁ mg mb G Y fa o pm cd doc dV kV ho hd af hD ad hg args ah as aa ai ak ag am;obtain rfl:dV = .none:=Dflts.none hD ae
 obtain rfl:kV = .none:=Dflts.noKw hD
 obtain⟨a,vs,ns,rfl,rfl,Z,U,ac⟩:=zG hn aa ag;refine enter_call (codeAny_mono (call w z s₁ mg mb fa o pm cd doc a vs ns G Y ho (fd_plain hd) af ad Z U ac hg) λr s' hq=>?_)
 obtain⟨rfl,h2,h3,h4⟩:=hq;exact⟨.inl ⟨.bool true,.bool true,[],rfl,λ_=>rfl,.bool true,zR l _,λ_=>⟨List.Pairwise.nil,λ_ hm=>(nomatch hm)⟩⟩,h2,h3,h4⟩
end Att
namespace L2
open PySem PySem.Spec PyProof.Rows
theorem gm : ∀{vs:List Value} {ns:List Int},E_ vs ns->aX (ns.map V.int) vs
 | _,_,.nil=>.nil
 | _,_,.cons n t h=>.cons ⟨t,rfl⟩ (gm h)
def cZ (s:Stmt):Arguments:=match s with
 | .FunctionDef _ a _ _ _ _ _ _ _ _=>a
 | _=>{ posonlyargs:=[],args:=[],vararg:=none,kwonlyargs:=[],kw_defaults:=[],kwarg:=none,defaults:=[] }
def cq (s:Stmt):List Stmt:=match s with
 | .FunctionDef _ _ b _ _ _ _ _ _ _=>b
 | _=>[]
def am (s:Stmt):Scope:=match s with
 | .FunctionDef _ _ _ _ _ _ sc _ _ _=>sc
 | _=>{ kind:=.function,names:=[],isGenerator:=false,isCoroutine:=false }
abbrev CX0:CXT:=λ_ _ _ _ _ _=>False
abbrev E0:XK:=λ_ _ _=>False
theorem yy:xB CX0 X E0:=λ_ _ _ _ _ _ _ h=>h.elim
structure Fun (K:ge) (x qual:Str) (st:Stmt) (f:Addr) (fd:FuncData):Prop where
 ex : ∃(oc:Value) (od:Option Addr) (kV doc pm:Value) (an:Option Addr) (cdv ct:Value) (osl:Array (Option Value)),
  fd=fnOf x qual (cZ st) (cq st) (am st) .none kV doc pm an cdv ct/\K.lookup f=some ⟨oc,od,.func fd,osl⟩/\codeIn K cdv qual=true
 kp:keepIn K (.ref f)=true
section
variable {P:Program} {w:World} {K:ge} {mg:Str->Option Value} {base:Heap}
theorem Fun.ok (F:Fun K x qual st f fd) (S:aH N ps (am st)) (len : ∀vs H Q E,sp vs H Q E->vs.length=ps.length)
  (z : ∀(cdv:Value) (A:Around) (outer:List Env) (s:Shared) (H:Hp) (vs:List V) (Q:VK) (E:XK),cR k (A.deeper (envOfC qual (am st) s.heap.objs.size f cdv))->sp vs H Q E ->
   ∃t,PSs (tu CX0 P w K mg base N qual (am st) f cdv A outer s H E).nox (cq st) t/\t { nx:=λ_ H'=>Q .non H',rt:=Q } (gg N vs) H):gU P w K mg base CX0 (k+1) f fd ps sp:=by
 obtain⟨oc,od,kV,doc,pm,an,cdv,ct,osl,rfl,lk,Y⟩:=F.ex;refine Eg lk Y S len λA outer s H vs Q E Z U=>?_
 obtain⟨t,h,q⟩:=z cdv A outer s H vs Q E Z U;exact⟨t,h.nox,q⟩
theorem Fun.binds (F:Fun K x qual st f fd)
  (h : ∀(kV doc pm:Value) (z:Option Addr) (cdv ct:Value) (us:List Value),us.length=ps.length->bindArgs (fnOf x qual (cZ st) (cq st) (am st) .none kV doc pm z cdv ct) ⟨us,[]⟩=pure (ps.zip us)):jQ K fd ps []:=by
 obtain⟨oc,od,kV,doc,pm,z,cdv,ct,osl,rfl,lk,U⟩:=F.ex;exact .all (h kV doc pm z cdv ct)
theorem oF {z:Option Addr} {kV:Value} (l:K.lookup f=some ⟨oc,od,.func (fnOf x qual (cZ st) (cq st) (am st) .none kV doc pm z cdv ct),osl⟩)
  (c:codeIn K cdv qual=true) (k:keepIn K (.ref f)=true):Fun K x qual st f (fnOf x qual (cZ st) (cq st) (am st) .none kV doc pm z cdv ct):=⟨⟨oc,od,kV,doc,pm,z,cdv,ct,osl,rfl,l,c⟩,k⟩
end
theorem vH (z:cR k A):A.units+1 < cLine:=Nat.lt_of_le_of_lt (Nat.add_le_add_left (by decide:1<=64) _) z.units
theorem au (h:n<=1000):n < g0:=Nat.lt_of_le_of_lt h ∅
theorem cN {c A B:Prop} [Decidable c] (h1:c->A) (h2 : ¬ c->B):if c then A else B:=by
 by_cases h:c
 .rw[if_pos h]
  exact h1 h
 .rw[if_neg h]
  exact h2 h
def aj (H H':Hp):Prop:=∀b o,H b=some o->H' b=some o
theorem aj.refl (H:Hp):aj H H:=λ_ _ h=>h
theorem aj.trans (a:aj H H1) (b:aj H1 H2):aj H H2:=λc o h=>b c o (a c o h)
theorem aj.free (e:aj H H') {l:Addr} (h:H' l=Option.none):H l=Option.none:=by
 cases q:H l with
 | none=>rfl
 | some o =>
  rw[e l o q] at h;cases h
theorem aj.seq (e:aj H H') (h:SqL K H a xs):SqL K H' a xs:=by
 rcases h with(h | ⟨o,h⟩) | h
 .exact .inl (.inl (e _ _ h))
 .exact .inl (.inr ⟨o,e _ _ h⟩)
 .exact .inr h
section
variable [DecidableEq κ]
theorem Ai {kvs:List (κ × V)} {k:κ} (h:bg kvs k=none) : ¬ k∈kvs.map (·.1):=by
 intro m;obtain⟨p,z,e⟩:=e7.mp m;have q:(kvs.any λkv=>decide (kv.1=k))=true:=Ke.mpr ⟨p,z,decide_eq_true e⟩
 rw[eu,h] at q;exact absurd q (by simp)
theorem yg : ∀{l:List κ} {k:κ},l.Nodup->¬ k∈l->(l++[k]).Nodup
 | [],k,_,_=>by simp
 | a :: r,k,h,hk=>by
  obtain⟨h1,h2⟩:=w5.mp h
  show(a ::(r++[k])).Nodup
  refine w5.mpr ⟨λm=>?_,yg h2 λm=>hk (i6.mpr (Or.inr m))⟩
  rcases j6.mp m with q | q
  .exact h1 q
  .exact hk (i6.mpr (Or.inl (g7.mp q).symm))
theorem De {kvs:List (κ × V)} {k:κ} (v:V) (hn:(kvs.map (·.1)).Nodup) (h:bg kvs k=none):((bj kvs k v).map (·.1)).Nodup:=by
 rw[dC v h,ii];exact yg hn (Ai h)
end
theorem sS {z:Expr} {it acc:Value} (I:Nat->Shared->Prop)
  (ae : ∀ n s,I n s->wpAny (model prog w) A (pyNext it) (λr s₁=>match r with
   | none=>R (.ok .next) s₁
   | some v=>wpAny (model prog w) A (letOwnedTupleGo z it v) (λ_ s₁=>wpAny (model prog w) A (assign z env v) (λ_ ad =>
     wpAny (model prog w) A (forIn ifs true λc r=>if r=true then do let ok <- isTrue c env (eval c env);pure (JK ok) else pure (JK r)) (λok Y =>
      if ok=true then wpAny (model prog w) A (eval elt env) (λx aa =>
       wpAny (model prog w) A (call (.builtin "list.append") [acc,x]) (λ_ Z=>∃m,m < n/\I m Z) (notedBy (model prog w) A env λe s'=>R (.error e) s') aa) (notedBy (model prog w) A env λe s'=>R (.error e) s') Y
      else ∃m,m < n/\I m Y) (notedBy (model prog w) A env λe s'=>R (.error e) s') ad) (notedBy (model prog w) A env λe s'=>R (.error e) s') s₁) (notedBy (model prog w) A env λe s'=>R (.error e) s') s₁) (notedBy (model prog w) A env λe s'=>R (.error e) s') s)
  (n:Nat) (h:I n s) :
  codeAny (model prog w) A (.compLoop (.ListComp elt [⟨z,iter,ifs,0⟩] scope pos) 0 it acc env) R s:=by
 refine codeAny_loop rfl I (λn s hI=>?_) n h
 show wpAny _ A ((compTurn (.ListComp elt [⟨z,iter,ifs,0⟩] scope pos) 0 it acc env).onRaise (λx=>do noteFrame x env;theTreesLotGoes x)) _ _ s
 refine wpAny_noted ?_
 rw[compTurn_list];refine c_ (wpAny_standAt (c_ (y3 (ae n s hI) (λr s₁ U=>?_) λ_ _ h'=>h')))
 cases r with
 | none=>exact fy U
 | some v =>
  refine c_ (y3 U (λ_ s₁ U=>?_) λ_ _ h'=>h')
  refine c_ (y3 U (λ_ ad af=>c_ (y3 af (λok Y ac=>?_) λ_ _ h'=>h')) λ_ _ h'=>h')
  cases ok with
  | false=>exact fy ⟨rfl,ac⟩
  | true =>
   exact c_ (c_ (y3 ac (λx aa ag=>c_ (y3 ag (λ_ Z ah=>fy (fy ⟨rfl,ah⟩)) λ_ _ h'=>h')) λ_ _ h'=>h'))
def PTs (X:Cx) (ifs:List Expr) (t:TT):Prop :=
 ∀ (pins:List (Addr × Obj)) (s:Shared) (σ:St) (H:Hp) (Q:Bool->Hp->Prop),Inv X pins σ H s->t σ H Q ->
  wpAny (model X.prog X.w) X.A (forIn ifs true λc r=>if r=true then do let ok <- isTrue c X.env (eval c X.env);pure (JK ok) else pure (JK r)) (TP X pins σ Q) X.xe s
def uB:TT:=λ_ H Q=>Q true H
theorem aU:PTs X [] uB:=λ_ _ _ H _ I h=>wpAny_tests_nil ⟨H,I,h⟩
theorem fG {c:Expr} {t:TT} (z:PT X c t):PTs X [c] t:=λpins s σ H Q I h=>wpAny_tests_one (z pins s σ H Q I h)
theorem jA {env:Env} : ∀(names:List (Str × Is)) (acc:List (Str × Addr)),(∀x∈names,x.2 = .free->∃c,env.cells.lookup x.1=some c) ->
  ∃ cl,(forIn (m:=Sem) names acc λx r=>match x with
   | (name,kind)=>if (kind == w_)=true then do let c <- cellOf env name;pure (JK ((name,c) :: r)) else pure (JK r))=pure cl /\
   (∀x c,cl.lookup x=some c->acc.lookup x=some c\/env.cells.lookup x=some c)/\(∀x,(acc.lookup x).isSome=true->(cl.lookup x).isSome=true)/\(∀x,(x,w_)∈names->(cl.lookup x).isSome=true)
 | [],acc,_=>⟨acc,rfl,λx c h=>.inl h,λx h=>h,λx h=>nomatch h⟩
 | (n, k) :: r,acc,h=>by
  by_cases Y:k = .free
  .subst Y
   obtain⟨c,Z⟩:=h (n,.free) j_ rfl;obtain⟨cl,e,h1,h2,U⟩:=jA r ((n,c) :: acc) (λx z=>h x (j9 _ z))
   refine⟨cl,?_,λx d hd=>?_,λx z=>h2 x ?_,λx z=>?_⟩
   .simp only[forIn_cons,beq_self_eq_true,if_true,cellOf,Z]
    exact e
   .rcases h1 x d hd with q | q
    .simp only[x5] at q
     split at q
     .rename_i hb
      have:x=n:=by simpa using hb
      subst this;cases q;exact .inr Z
     .exact .inl q
    .exact .inr q
   .simp only[x5]
    split
    .rfl
    .exact z
   .rcases i6.mp z with q | q
    .cases q
     exact h2 n (by simp)
    .exact U x q
  .obtain⟨cl,e,h1,h2,U⟩:=jA r acc (λx z=>h x (j9 _ z))
   refine⟨cl,?_,h1,h2,λx z=>?_⟩
   .have:(k == w_)=false:=by simpa using Y
    simp only[forIn_cons,this,m_,if_false];exact e
   .rcases i6.mp z with q | q
    .cases q
     exact absurd rfl Y
    .exact U x q
def bZ (nt:Nat) (js:List Nat) (σ:St):St:=replicate nt none++js.map λj=>(σ[j]?).join
def Wk (σ0 z:St):Prop:=σ0.length=z.length/\∀(i:Nat) v,σ0[i]? = some (some v)->z[i]? = some (some v)
def Af (g:TG) (nt:Nat):Prop:=∀(x:V) (σ0:St) (H:Hp) (Q:St->Hp->Prop),(∀i,i < nt->σ0[i]? = some none)->g x σ0 H Q->g x σ0 H λz H2=>Wk σ0 z/\Q z H2
theorem Wk.set {σ0:St} {i:Nat} {v:V} (h:σ0[i]? = some none):Wk σ0 (σ0.set i (some v)):=by
 refine⟨by simp,λj w e=>?_⟩
 by_cases z:j=i
 .subst z;rw[h] at e;cases e
 .rw[KO (Jx z)];exact e
theorem Wk.trans {a b c:St} (h:Wk a b) (h':Wk b c):Wk a c:=⟨h.1.trans h'.1,λi v e=>h'.2 i v (h.2 i v e)⟩
theorem aL (hi:i < nt:=by decide):Af (fh i) nt:=λx σ0 H Q h q=>⟨Wk.set (h i hi),q⟩
theorem oN : ∀i,i < nt->(bZ nt js σ)[i]? = some none:=λi hi=>by
 unfold bZ;rw[List.getElem?_append_left (by simpa using hi)]
 simp[hi]
def yQ (nt:Nat) (js:List Nat) (wi:TI) (g:TG) (tc:TT) (te:TE):TE:=λσ H Q=>wi σ H λJ H1=>∀D,H1 D=none->∃W:Nat->Nat->List V->Hp->Prop,(∃m,W 0 m [] (upd H1 D (.lst []))) /\
 ∀ i m ys H2,W i m ys H2->(J.stop i H2/\Q (.ref D) H2)\/(J.go i H2/\∃N:List V->Hp->Prop,(∀U H',N U H'->∃m',m' < m/\W (i+1) m' U H') /\
  ∀x H',J.yld i H2 x H'->g x (bZ nt js σ) H' λz H3=>tc z H3 λb Z=>if b=true then te z Z λy Y=>Y D*>ys/\ys.length < g0/\N (ys++[y]) (upd Y D (.lst (ys++[y]))) else N ys Z)
theorem eI {env:Env} : ∀{names:List (Str × Is)} {x:Str},names.lookup x=some .free ->
  ((names.map λ(n,k)=>if (k == w_ && env.scope.kind == .function && env.kindOf n == some .cell) then(n,y6) else(n,k)).lookup x=some .cell\/(names.map λ(n,k)=>if (k == w_ && env.scope.kind == .function && env.kindOf n == some .cell) then(n,y6) else(n,k)).lookup x=some .free)
 | [],_,h=>by simp at h
 | (n,k) :: r,x,h=>by
  have U:=@eI env r x;simp only[i_];cases z:x == n with
  | true =>
   simp only[x5,z] at h;cases h
   by_cases q:(w_ == w_ && env.scope.kind == .function && env.kindOf n == some .cell)=true
   .rw[if_pos q];simp only[x5,z];simp
   .rw[if_neg q];simp only[x5,z];simp
  | false =>
   simp only[x5,z] at h
   by_cases q:(k == w_ && env.scope.kind == .function && env.kindOf n == some .cell)=true
   .rw[if_pos q];simp only[x5,z];exact U h
   .rw[if_neg q];simp only[x5,z];exact U h
theorem Inv.wk {Y:Cx} {z:St} (I:Inv Y pins z H s) (h:Wk σ0 z):Inv Y pins σ0 H s:=I.weak h.1 h.2
end L2
namespace PySem
open Sem (wp)
theorem zL:KQ (.type "list_reverseiterator") "__len__" = pure none:=by rw[typeLookup_type,KJ];kernel_rfl
theorem AE:KQ (.type "list_reverseiterator") "__length_hint__" = pure (some (.builtin "list_reverseiterator.__length_hint__")):=by rw[typeLookup_type,KJ];kernel_rfl
theorem xj (hh:A.handled=none) (S:Addr) (res:Value) (ad:Nat) (hS:s.heap.get? S=some { cls:=.type "list",data:=.seq #[] ad })
  {I l:Addr} {items:Array Value} (hi:s.heap.IsRevIter I l ((items.size:Int) - 1)) (hl:s.heap.IsList l items) (am:l≠I) (aa:S≠I) (ai:S≠l)
  (hR : ∀h' tk z c',(∀b o,b≠S->b≠I->s.heap.get? b=some o->h'.get? b=some o)->h'.get? S=some { cls:=.type "list",dict:=none,data:=.seq z c',slots := #[] } ->
   ItemsOf (λi v=>items[items.size - 1 - i]? = some v) z items.size->R (.ok (.ret res)) { s with heap:=h',toks:=tk }) (hn:items.size<=g0) :
  wpAny (model prog w) A.in1 (u_ (.ref S) (.ref I) res)
   (λak s'=>match ak with | .done f=>R (.ok f) s' | .again c'=>c'.quiet=true/\codeAny (model prog w) A c' R s') (λe s'=>R (.error e) s') s:=by
 have W:=(Walks.listRev (prog:=prog) (w:=w) (A:=A.in1) hh I l am items);have ag:S∉[I,l]:=λhm=>by
  rcases i6.mp hm with e | e
  .exact aa e
  .exact ai (g7.mp e)
 have ae:0<=items.size/\s.heap.IsRevIter I l ((items.size:Int) - 1 - ((0:Nat):Int))/\s.heap.IsList l items:=⟨r_ _,by simpa using hi,hl⟩
 unfold u_;refine c_ (KH hi.typeIs ?_)
 have h1:Builtin.List.listSameRef (.ref S) (.ref I)=false:=by simp[Builtin.List.listSameRef,aa]
 have h2:(KN "list_reverseiterator" == KN "list")=false:=∅
 have h3:(KN "list_reverseiterator" == KN "tuple")=false:=∅
 simp only[h1,h2,h3,Bool.or_false,m_,if_false];refine c_ (W.self 0 _ _ _ ae ?_)
 refine c_ (C_ ?_)
 unfold Builtin.List.listLengthHint;refine c_ (JJ hi.typeIs zL ?_)
 show wpAny _ A.in1 (specialOf (m8 I) (b_ "__length_hint__") >>= _) _ _ _
 refine c_ (JJ hi.typeIs AE ?_)
 (generalize Y:("list_reverseiterator.__length_hint__" : String)=Z;(fail_if_success (clear Y Z));wp_delta;rw[show splitId Z=some ("list_reverseiterator","__length_hint__") from by subst Y;decide+kernel];subst Y)
 refine c_ (wpAny_isInstance (b:=true) hi.typeIs (by rw[isSubtype_type];kernel_rfl) ?_)
 refine fy ?_
 rw[if_neg ∅]
 refine fy ⟨JZ F.plain_extend_loop _,codeAny_extend_loopS W.toS hn _ ag _ items.size 0 _ _ _ rfl (r_ _) ae hS (ItemsOf.nil _) λs' z c' hm af ac=>?_⟩
 rw[Moved.eq_with hm];refine hR s'.heap s'.toks z c' (λb ob hb ah e=>hm.heap b ob (λU=>?_) e) af ac
 rcases i6.mp U with e' | U
 .exact hb e'
 .exact ah (g7.mp U)
theorem qy (hh:A.handled=none) (S:Addr) (hS:s.heap.get? S=some { cls:=.type "list",data:=.seq #[] })
  {I l:Addr} {items:Array Value} (hi:s.heap.IsRevIter I l ((items.size:Int) - 1)) (hl:s.heap.IsList l items) (ah:l≠I) (Z:S≠I) (ac:S≠l)
  (hR : ∀h' tk z c',(∀b o,b≠S->b≠I->s.heap.get? b=some o->h'.get? b=some o)->h'.get? S=some { cls:=.type "list",dict:=none,data:=.seq z c',slots := #[] } ->
   ItemsOf (λi v=>items[items.size - 1 - i]? = some v) z items.size->R (.ok (.ret .none)) { s with heap:=h',toks:=tk }) (hn:items.size<=g0) :
  wpAny (model prog w) A.in1 (Builtin.«list.__init__» ⟨[.ref S,.ref I],[]⟩)
   (λaf s'=>match af with | .done f=>R (.ok f) s' | .again c'=>c'.quiet=true/\codeAny (model prog w) A c' R s') (λe s'=>R (.error e) s') s:=by
 show wpAny _ _ (do let ag <- Builtin.List.listItems (.ref S);Builtin.List.listUpdate (.ref S) (λ_ => #[]);letGo ag.toList.reverse;u_ (.ref S) (.ref I) .none) _ _ s
 refine c_ ?_
 unfold Builtin.List.listItems;refine c_ (wpAny_seqItems hS rfl (fy ?_))
 show wpAny _ _ (updateSeq S (λ_ => #[]) >>= λ_=>letGo (#[]:Array Value).toList.reverse >>= λ_=>u_ (.ref S) (.ref I) .none) _ _ s
 refine c_ (wpAny_updateSeq hS rfl ?_)
 have U:=Heap.get?_update_self (o6 (λ_=>(#[]:Array Value))) hS rfl
 have Y : ∀b o,b≠S->s.heap.get? b=some o->(s.heap.update S (o6 (λ_=>(#[]:Array Value)))).get? b=some o :=
  λb o hb e=>(Heap.get?_update_other _ _ (Jx hb)).trans e
 refine c_ (wpAny_letGo ?_)
 refine xj (s:={ s with heap:=s.heap.update S (o6 (λ_=>(#[]:Array Value))) }) hh S .none _ U (hi.at λo e=>Y _ o (Jx Z) e) (hl.at λo e=>Y _ o (Jx ac) e) ah Z ac (λh' tk z c' hk ad aa=>?_) hn
 exact hR h' tk z c' (λb o hb ae e=>hk b o hb ae (Y b o hb e)) ad aa
theorem qq (hh:A.handled=none) {I l:Addr} {items:Array Value} (hi:s.heap.IsRevIter I l ((items.size:Int) - 1)) (hl:s.heap.IsList l items) (ae:l≠I)
  (hQ : ∀h' tk z c',(∀b o,b≠I->s.heap.get? b=some o->h'.get? b=some o) ->
   h'.get? s.heap.objs.size=some { cls:=.type "list",dict:=none,data:=.seq z c',slots := #[] }->ItemsOf (λi v=>items[items.size - 1 - i]? = some v) z items.size->Q (.ref s.heap.objs.size) { s with heap:=h',toks:=tk }) (hn:items.size<=g0) :
  wpAny (model prog w) A (call (.type "list") [.ref I]) Q E s:=by
 refine callType_codes (Q₁:=λY s₁=>Y = .ref s.heap.objs.size/\s₁={ s with heap:=s.heap.push { cls:=.type "list",data:=.seq #[] } }) F.called_list (F.typeCall_list_1 _) F.entry_list_init
  (code_list_new _ ⟨rfl,rfl⟩) λY s₁ U=>?_
 obtain⟨rfl,rfl⟩:=U;have hS:(s.heap.push { cls:=.type "list",data:=.seq #[] }).get? s.heap.objs.size=some { cls:=.type "list",data:=.seq #[] }:=g9 _ rfl
 have up : ∀b o,s.heap.get? b=some o->(s.heap.push { cls:=.type "list",data:=.seq #[] }).get? b=some o:=λb o e=>d_ _ e
 obtain⟨oi,ac,_⟩:=id hi;obtain⟨ol,ad,_⟩:=id hl;refine⟨⟨_,hS,rfl⟩,F.args_list_init_2 _ _,qy (s:={ s with heap:=s.heap.push { cls:=.type "list",data:=.seq #[] } }) (A:=A.in1) hh _ hS (hi.at λo e=>up _ o e) (hl.at λo e=>up _ o e) ae (JQ (gs ac)) (JQ (gs ad)) (λh' tk z c' hk aa Z=>?_) hn⟩
 exact⟨rfl,hQ h' tk z c' (λb o hb e=>hk b o (k_ (gs e)) hb (up b o e)) aa Z⟩
end PySem
namespace L2
open PySem PySem.Spec PyProof.Rows
mutual
inductive Rep (K:ge) (H:Hp):V->j8->Prop
 | non:Rep K H .non .none
 | bl (b:Bool):Rep K H (.bl b) (.bool b)
 | int (i:Int):Rep K H (.int i) (.int i)
 | str (x:Str):Rep K H (.str x) (.str x)
 | tup {a:Addr} {vs:List V} {ds:List j8}:SqT K H a vs->cC K H vs ds->Rep K H (.ref a) (.tuple ds)
 | lst {a:Addr} {vs:List V} {ds:List j8}:SqL K H a vs->cC K H vs ds->Rep K H (.ref a) (.list ds)
inductive cC (K:ge) (H:Hp):List V->List j8->Prop
 | nil:cC K H [] []
 | cons {v:V} {vs:List V} {d:j8} {ds:List j8}:Rep K H v d->cC K H vs ds->cC K H (v :: vs) (d :: ds)
end
theorem aj.seqT (e:aj H H') (h:SqT K H a xs):SqT K H' a xs:=by
 rcases h with(h | ⟨o,h⟩) | h
 .exact .inl (.inl (e _ _ h))
 .exact .inl (.inr ⟨o,e _ _ h⟩)
 .exact .inr h
theorem cC.ints {K:ge} {H:Hp} : ∀(ns:List Int),cC K H (ns.map V.int) (ns.map Jr)
 | []=>.nil
 | _ :: ns=>.cons (.int _) (cC.ints ns)
theorem cC.strs {K:ge} {H:Hp} : ∀(ns:List Str),cC K H (ns.map V.str) (ns.map Kz)
 | []=>.nil
 | _ :: ns=>.cons (.str _) (cC.strs ns)
mutual
theorem Inv.reads (I:Inv X pins σ H s) : ∀{v:V} {d:j8} {u:Value},Rep X.K H v d->be v u->∃as,Reads s.heap u d as
 | _,_,_,.non,r=>by cases r;exact⟨_,.none⟩
 | _,_,_,.bl b,r=>by cases r;exact⟨_,.bool b⟩
 | _,_,_,.int b,r=>by obtain⟨t,rfl⟩:=r;exact⟨_,.int b t⟩
 | _,_,_,.str b,r=>by obtain⟨t,rfl⟩:=r;exact⟨_,.str b t⟩
 | _,_,_,.tup h q,r=>by
  cases r;obtain⟨its,U,⟨o,Z,z,n,Y⟩,_⟩:=I.tuple h;obtain⟨as,ra⟩:=Inv.readsAll I q U;exact⟨_,.tuple Z z Y (by simpa using ra)⟩
 | _,_,_,.lst h q,r=>by
  cases r;obtain⟨its,U,⟨o,n,Z,z,_,Y⟩,_⟩:=I.list h;obtain⟨as,ra⟩:=Inv.readsAll I q U;exact⟨_,.list Z z Y (by simpa using ra)⟩
theorem Inv.readsAll (I:Inv X pins σ H s) : ∀{v:List V} {d:List j8} {u:List Value},cC X.K H v d->aX v u->∃as,ReadsAll s.heap u d as
 | _,_,_,.nil,r=>by cases r;exact⟨_,.nil⟩
 | _,_,_,.cons h q,r=>by
  cases r with
  | cons Y U =>
   obtain⟨as,ra⟩:=Inv.reads I h Y;obtain⟨bs,z⟩:=Inv.readsAll I q U;exact⟨_,.cons ra z⟩
end
section
variable {a b c:Expr} {ta tc:TE}
def Iz (K:ge):R2:=λx y H Q=>∃dx z,Rep K H x dx/\Rep K H y z/\dx.canLay0=true/\z.canLay0=true/\dx.depth<=100/\Q (.bl (n_ dx z)) H
def CW (K:ge):R2:=λx y H Q=>∃dx z,Rep K H x dx/\Rep K H y z/\dx.canLay0=true/\z.canLay0=true/\dx.depth<=100/\Q (.bl (!PyData.eqv dx z)) H
theorem tG (hu:X.A.units+100 < cLine):OpR X (x3 .Eq) (Iz X.K):=by
 intro pins s σ H x y v u Q I rx z h;obtain⟨dx,dy,h1,h2,U,h4,h5,q⟩:=h;obtain⟨as,Z⟩:=I.reads h1 rx;obtain⟨bs,Y⟩:=I.reads h2 z;exact PySem.SeqAt.compareEq_reads Z Y U h4 () ⟨.bl _,H,I,rfl,q⟩
theorem jr (hu:X.A.units+100 < cLine):OpR X (x3 .NotEq) (CW X.K):=by
 intro pins s σ H x y v u Q I rx z h;obtain⟨dx,dy,h1,h2,U,h4,h5,q⟩:=h;obtain⟨as,Z⟩:=I.reads h1 rx;obtain⟨bs,Y⟩:=I.reads h2 z;exact PySem.SeqAt.compareNe_reads Z Y U h4 () ⟨.bl _,H,I,rfl,q⟩
theorem zz:OpR X (x3 .LtE) (λx y H Q=>∃i j,x = .str i/\y = .str j/\Q (.bl (!decide (j.cps.toList < i.cps.toList))) H):=by
 intro pins s σ H x y v u Q I U z h;obtain⟨i,j,rfl,rfl,q⟩:=h;obtain⟨t,rfl⟩:=U;obtain⟨t',rfl⟩:=z;exact PySem.P.le_str (bx I q rfl)
def IQ (K:ge):List V->Hp->VK->Prop:=λxs H Q=>∃x t T k,xs=[x,.ty T]/\lE K H x t/\kitOne K t (.type T)=some k/\Q (.bl k) H
theorem BH:bH X (.builtin "isinstance") (IQ X.K):=by
 intro pins s σ H xs us Q I r h;obtain⟨x,t,T,k,rfl,ty,e,q⟩:=h;obtain⟨u,Y,rfl,U,z⟩:=vG r;cases z;exact zp I U ty e λtk=>⟨.bl k,H,I.tok tk,rfl,q⟩
theorem yA (U:Gl X x) (Z:X.mg x=none) (z:If x=some (.type T)) (hn:x ≠ "__name__" := by decide) (Y:(x ==("__debug__" : Str))=false:=by decide):PE X (.Name x pos) (tC (.ty T)) :=
 CU U Z z rfl hn Y
theorem iC {its:Array Value} {bs:List Bool} (h:aX (bs.map V.bl) its.toList):TruthOf prog w A (λi v=>its[i]? = some v) (λi=>bs.getD i true):=by
 intro i v s Q E hP U;have h1:its.toList[i]? = some v:=by simpa using hP
 have z:i < its.toList.length:=(i7.mp h1).1
 have hl:=h.length;have Z:i < bs.length:=by rw[<- hl] at z;simpa using z
 obtain⟨u,Y,ru⟩:=h.get (i:=i) (x:=V.bl bs[i]) (by simp[Z])
 rw[h1] at Y;cases Y;cases ru;refine J6 ?_
 have e:bs.getD i true=bs[i]:=by simp[List.getD,Z]
 show Q bs[i] s
 have U:Q (bs.getD i true) s:=U
 rw[e] at U;exact U
theorem zn (bs:List Bool):(range bs.length).all (λi=>bs.getD i true)=bs.all id:=by
 rw[o_];simp only[Kd,x8]
 constructor
 .intro h b hb
  obtain⟨i,hi,e⟩:=Jy hb;have:=h i hi
  simp[List.getD,hi,e] at this
  simpa using this
 .intro h i hi
  have:=h bs[i] (A_ hi)
  simpa [List.getD,hi] using this
theorem zq (bs:List Bool):(range bs.length).any (λi=>bs.getD i true)=bs.any id:=by
 rw[o_];simp only[Ke,x8]
 constructor
 .rintro⟨i,hi,e⟩
  refine⟨bs[i],A_ hi,?_⟩
  simpa [List.getD,hi] using e
 .rintro⟨b,hb,e⟩
  obtain⟨i,hi,z⟩:=Jy hb;refine⟨i,hi,?_⟩
  simp only[List.getD,h_ hi,getD_some,z];exact e
def Gz (K:ge):List V->Hp->VK->Prop:=λxs H Q=>∃(p:Addr) (bs:List Bool),xs=[.ref p]/\SqL K H p (bs.map V.bl)/\Q (.bl (bs.all id)) H
def GN (K:ge):List V->Hp->VK->Prop:=λxs H Q=>∃(p:Addr) (bs:List Bool),xs=[.ref p]/\SqL K H p (bs.map V.bl)/\Q (.bl (bs.any id)) H
theorem xk (Z:X.calm=true):bH X (.builtin "all") (Gz X.K):=by
 intro pins s σ H xs us Q I r h;obtain⟨p,bs,rfl,Y,q⟩:=h;obtain⟨u,rfl,rx⟩:=cK r;cases rx;obtain⟨its,U,pl,hz⟩:=I.list Y;refine call_all_walk (J7 pl.isList ?_)
 have z:p≠s.heap.objs.size:=by
  obtain⟨o,n,ho,_⟩:=pl;exact k_ (gs ho)
 refine⟨_,_,_,_,_,_,λi=>bs.getD i true,rfl,Walks.list (A:=X.A.in1) (I.ok.hd Z) _ p z its.toArray,⟨⟨_,g9 _ rfl,rfl,rfl⟩,pl.isList.at λo e=>d_ _ e⟩,iC (by simpa using U),λh' tk hk=>?_⟩
 have hl:its.toArray.size=bs.length:=by have:=U.length;simp at this ⊢;omega
 rw[hl,zn];exact⟨.bl (bs.all id),H,I.kept λb o e=>hk b o (by simp;exact k_ (gs e)) (d_ _ e),rfl,q⟩
theorem xD (Z:X.calm=true):bH X (.builtin "any") (GN X.K):=by
 intro pins s σ H xs us Q I r h;obtain⟨p,bs,rfl,Y,q⟩:=h;obtain⟨u,rfl,rx⟩:=cK r;cases rx;obtain⟨its,U,pl,hz⟩:=I.list Y;refine call_any_walk (J7 pl.isList ?_)
 have z:p≠s.heap.objs.size:=by
  obtain⟨o,n,ho,_⟩:=pl;exact k_ (gs ho)
 refine⟨_,_,_,_,_,_,λi=>bs.getD i true,rfl,Walks.list (A:=X.A.in1) (I.ok.hd Z) _ p z its.toArray,⟨⟨_,g9 _ rfl,rfl,rfl⟩,pl.isList.at λo e=>d_ _ e⟩,iC (by simpa using U),λh' tk hk=>?_⟩
 have hl:its.toArray.size=bs.length:=by have:=U.length;simp at this ⊢;omega
 rw[hl,zq];exact⟨.bl (bs.any id),H,I.kept λb o e=>hk b o (by simp;exact k_ (gs e)) (d_ _ e),rfl,q⟩
theorem lX (ns:List Int) : ∀n,n<=ns.length->preSum (λi=>ns.getD i 0) n=(ns.take n).sum
 | 0,_=>by simp[preSum]
 | n+1,h=>by
  have z:=lX ns n ()
  have e:ns[n]? = some (ns[n]'()):=by simp
  show preSum (λi=>ns.getD i 0) n+ns.getD n 0=_
  rw[z,i8,e,List.sum_append,List.getD,e];simp
theorem uR (ns:List Int):preSum (λi=>ns.getD i 0) ns.length=ns.sum:=by
 rw[lX ns _ (j5 _),k9]
def DB (K:ge):List V->Hp->VK->Prop:=λxs H Q=>∃(p:Addr) (ns:List Int),xs=[.ref p]/\SqL K H p (ns.map V.int)/\Q (.int ns.sum) H
theorem xJ (hc:X.calm=true):bH X (.builtin "sum") (DB X.K):=by
 intro pins s σ H xs us Q I r h;obtain⟨p,ns,rfl,hq,q⟩:=h;obtain⟨u,rfl,rx⟩:=cK r;cases rx;obtain⟨its,Y,pl,hz⟩:=I.list hq;refine call_sum_walkG (J7 pl.isList ?_)
 have Z:p≠s.heap.objs.size:=by
  obtain⟨o,n,ho,_⟩:=pl;exact k_ (gs ho)
 refine⟨_,_,_,_,_,_,λi=>ns.getD i 0,rfl,Walks.list (A:=X.A.in1) (I.ok.hd hc) _ p Z its.toArray,⟨⟨_,g9 _ rfl,rfl,rfl⟩,pl.isList.at λo e=>d_ _ e⟩,λb U=>?_,λi v hv=>?_,λh' tk t' hk=>?_⟩
 .obtain⟨o,n,ho,_⟩:=pl
  rcases i6.mp U with e | e
  .rw[e];exact l4 (Nat.lt_succ_self _) (by simp)
  .rw[g7.mp e];exact l4 (gs ho) (by simp)
 .have h1:its[i]? = some v:=by simpa using hv
  have z:i < its.length:=(i7.mp h1).1
  have hl:=Y.length;have U:i < ns.length:=by rw[<- hl] at z;simpa using z
  obtain⟨u,hu,t,ru⟩:=Y.get (i:=i) (x:=V.int ns[i]) (by simp[U])
  rw[h1] at hu;cases hu;exact⟨t,by rw[ru];simp[List.getD,U]⟩
 .have hl:its.toArray.size=ns.length:=by have:=Y.length;simp at this ⊢;omega
  rw[hl,uR];exact⟨.int ns.sum,H,I.kept λb o e=>hk b o (by simp;exact k_ (gs e)) (d_ _ e),⟨t',rfl⟩,q⟩
def nj (t:TE):TE:=λσ H Q=>t σ H λx H1=>∃p,x = .ref p/\∃ys,H1 p*>ys/\∀l,H1 l=none->Q (.ref l) (upd H1 l (.lst ys.reverse))
end
section
variable {a b c:Expr} {ta tc:TE} {p:Pos}
theorem xK (hc:X.calm=true) (hg:Gl X "list") (hm:X.mg "list" = none) (ae:Gl X "reversed") (ad:X.mg "reversed" = none) (he:PE X e te) (ac:m9 [e] X.env=[(false,eval e X.env)]:=by rfl) :
  PE X (.Call (.Name "list" p) [.Call (.Name "reversed" p2) [e] [] pos2] [] pos) (nj te):=by
 intro pins s σ H Q I h;refine x4 (dH I hg hm (by decide+kernel:If "list" = some (.type "list")) ?_)
 refine o5 (u9 ?_) rfl rfl
 refine x4 (dH I ae ad boot_reversed ?_)
 refine o5 (Q:=_) ?_ ac rfl
 rw[ac];refine u9 (thn (he pins s σ H _ I h) λu Y ⟨x,H1,I1,r1,pp,e1,ys,hq',q⟩=>F_ ?_)
 subst e1;cases r1;have hq:SqL X.K H1 pp ys:=.of hq'
 obtain⟨its,rv,pl,hz⟩:=I1.list hq;have ag:=rv.length;refine call_reversed_list pl.isList ?_
 have af:pp < Y.heap.objs.size:=by
  obtain⟨o,n,ho,_⟩:=pl;exact gs ho
 refine F_ (qq (I.ok.hd hc) (I:=Y.heap.objs.size) (l:=pp) (items:=its.toArray) ⟨_,g9 _ rfl,rfl,rfl⟩ (pl.isList.at λo e=>d_ _ e) (k_ af) (λh' tk z c' hk hS U=>?_) (by simp only[g_];omega))
 have kp : ∀b o,Y.heap.get? b=some o->h'.get? b=some o:=λb o e=>hk b o (k_ (gs e)) (d_ _ e)
 have Z:z=its.reverse.toArray:=by
  apply Array.ext_getElem?
  intro i;have aa:=U.1;simp only[g_] at aa
  by_cases hi:i < its.length
  .have h1:z[i]? = some (z[i]'()):=by simp[aa,hi]
   have h2:=U.2 i _ h1;rw[h1,<- h2];simp only[g_,JX];rw[List.getElem?_reverse hi]
  .simp only[JX]
   rw[Array.getElem?_eq_none (),List.getElem?_eq_none (by simp;omega)]
 subst Z;have hsz:Y.heap.objs.size<=(Y.heap.push (revObj pp ((its.toArray.size:Int) - 1))).objs.size:=by rw[Js];exact Ks _
 exact⟨.ref (Y.heap.push (revObj pp ((its.toArray.size:Int) - 1))).objs.size,upd H1 _ (.lst ys.reverse),I1.laid (t':=tk) kp hsz ⟨by simp;omega,its.reverse,c',rv.reverse,hS⟩,rfl,q _ (I1.hok.fresh hsz)⟩
def C2:V->Option Int->Option Int->Hp->VK->Prop:=λx lo hi H Q=>∃z,x = .str z/\z.length<=g0/\Q (.str (JP z lo hi)) H
theorem wS:SlR X C2:=by
 intro pins s σ H x v vl vu lo hi sl Q I rx hs pl pu h;obtain⟨z,rfl,hz,q⟩:=h;obtain⟨t,rfl⟩:=rx;refine⟨"str",_,F.slot_str_getitem.lookup,typeIs_str _ _ _,?_⟩
 have U : ∀(t':Tok) (k:Nat),EP X pins σ Q (.str (JP z lo hi) t') { s with toks:=k }:=λt' k=>⟨.str _,H,I.tok k,⟨t',rfl⟩,q⟩
 obtain⟨o,h1,h2,Y⟩:=hs;cases pl with
 | none=>cases pu with
  | none=>exact Kq (l:=none) (u:=none) (st:=none) ⟨o,h1,h2,Y⟩ rfl (post_val_or_str ⟨le_trans (KL z _ _) hz,λt' k=>U t' k⟩)
  | int j Z=>exact Kq (l:=none) (u:=some (j,Z)) (st:=none) ⟨o,h1,h2,Y⟩ rfl (post_val_or_str ⟨le_trans (KL z _ _) hz,λt' k=>U t' k⟩)
 | int i ui=>cases pu with
  | none=>exact Kq (l:=some (i,ui)) (u:=none) (st:=none) ⟨o,h1,h2,Y⟩ rfl (post_val_or_str ⟨le_trans (KL z _ _) hz,λt' k=>U t' k⟩)
  | int j Z=>exact Kq (l:=some (i,ui)) (u:=some (j,Z)) (st:=none) ⟨o,h1,h2,Y⟩ rfl (post_val_or_str ⟨le_trans (KL z _ _) hz,λt' k=>U t' k⟩)
end
def FnL (K:ge) (mg:Str->Option Value) (x:Str) (st:Stmt) (ps:List Str):Prop :=
 ∃f fd,Fun K x x st f fd/\mg x=some (.ref f)/\jQ K fd ps []
def Fn (P:Program) (w:World) (K:ge) (mg:Str->Option Value) (base:Heap) (x:Str) (k:Nat) (ps:List Str) (sp:Sp):Prop :=
 ∃f fd,gU P w K mg base CX0 k f fd ps sp/\mg x=some (.ref f)/\keepIn K (.ref f)=true/\jQ K fd ps []
section
variable {P:Program} {w:World} {K:ge} {mg:Str->Option Value} {base:Heap}
theorem FnL.ok {x:Str} {st:Stmt} {N ps:List Str} {k:Nat} {sp:Sp} (F:FnL K mg x st ps) (S:aH N ps (am st)) (len : ∀vs H Q E,sp vs H Q E->vs.length=ps.length)
  (z : ∀(f:Addr) (cdv:Value) (A:Around) (outer:List Env) (s:Shared) (H:Hp) (vs:List V) (Q:VK) (E:XK),cR k (A.deeper (envOfC x (am st) s.heap.objs.size f cdv))->sp vs H Q E ->
   ∃t,PSs (tu CX0 P w K mg base N x (am st) f cdv A outer s H E).nox (cq st) t/\t { nx:=λ_ H'=>Q .non H',rt:=Q } (gg N vs) H):Fn P w K mg base x (k+1) ps sp:=by
 obtain⟨f,fd,F,m,b⟩:=F;exact⟨f,fd,F.ok S len (z f),m,F.kp,b⟩
theorem Fn.mono {x:Str} {j k:Nat} {ps:List Str} {sp:Sp} (F:Fn P w K mg base x j ps sp) (h:j<=k):Fn P w K mg base x k ps sp:=by
 obtain⟨f,fd,F,m,z,b⟩:=F;exact⟨f,fd,F.mono h,m,z,b⟩
theorem Gf {z:Option Addr} {kV:Value} (X:K.In h) (G:h.Ns o8 mg)
  (a:nsIn K o8 x=some (-f))
  (l:K.lookup f=some ⟨oc,od,.func (fnOf x x (cZ st) (cq st) (am st) .none kV doc pm z cdv ct),osl⟩)
  (c:codeIn K cdv x=true) (k:keepIn K (.ref f)=true)
  (U : ∀(kV doc pm:Value) (z:Option Addr) (cdv ct:Value) (us:List Value),us.length=ps.length->bindArgs (fnOf x x (cZ st) (cq st) (am st) .none kV doc pm z cdv ct) ⟨us,[]⟩=pure (ps.zip us)):FnL K mg x st ps :=
 ⟨f,_,oF l c k,mg_of X G a,(oF l c k).binds U⟩
end
section
variable {p:Pos} {t:TA}
theorem ah (F:Fn X.prog X.w X.K X.mg X.base x k ps sp) (ha:PA X (e :: es) t) (Z:cR k X.A:=by exact cR.mono (by assumption) (by first | decide | omega)) (Y:Gl X x:=by exact rfl) (z:(x ==("__debug__" : Str))=false:=by decide)
  (he:m9 (e :: es) X.env=(false,eval e X.env) :: m9 es X.env:=by rfl) (U:(JS pos (m9 es X.env)).any (·.1)=false:=by rfl) :
  PE X (.Call (.Name x p) (e :: es) [] pos) (uJ sp [] E0 t):=by
 obtain⟨f,fd,F,m,kp,b⟩:=F;exact CP F Z Y m kp b .nil yy ha z he U
end
structure Wlk (J:It) (xs:List V) (C:Hp->Prop):Prop where
 go : ∀i H,C H->i < xs.length->J.go i H
 yld : ∀i H x H',C H->i < xs.length->J.yld i H x H'->xs[i]? = some x/\H'=H
 stop : ∀i H,C H->xs.length<=i->J.stop i H
theorem bz:Wlk (Itl K a) xs (λH=>SqL K H a xs) :=
 ⟨λi H h hi=>⟨xs,xs[i],h,by simp[hi]⟩,λi H x H' h _ y=>⟨y.2 xs h,y.1⟩,λi H h hi=>⟨xs,h,hi⟩⟩
theorem aT:Wlk (Itt K a) xs (λH=>SqT K H a xs) :=
 ⟨λi H h hi=>⟨xs,xs[i],h,by simp[hi]⟩,λi H x H' h _ y=>⟨y.2 xs h,y.1⟩,λi H h hi=>⟨xs,h,hi⟩⟩
def km (lo:Int) (n:Nat):List V:=(range n).map λ(i:Nat)=>V.int (lo+(i:Int))
theorem aK (lo:Int) (n:Nat):(km lo n).length=n:=by simp[km]
theorem er {lo:Int} (h:i < n):(km lo n)[i]? = some (.int (lo+i)):=by simp[km,h]
theorem bM {lo:Int}:Wlk (Itr lo n) (km lo n) (λ_=>True) :=
 ⟨λi H _ hi=>by rw[aK] at hi;exact hi,λi H x H' _ hi y=>by
  obtain⟨e,y⟩:=y;rw[aK] at hi;rw[er hi,y];exact⟨rfl,e⟩,λi H _ hi=>by rw[aK] at hi;exact hi⟩
theorem Dg (w:Wlk J xs C) {g:TG} {tb:TS} {D:mH} {σ:St} {H:Hp} (U:Nat->St->Hp->Prop) (h0:U 0 σ H) (hl : ∀i σ H,U i σ H->C H)
  (hs : ∀i x σ H,i < xs.length->xs[i]? = some x->U i σ H->g x σ H λY H2=>tb { D with nx:=U (i+1),ct:=U (i+1),bk:=D.nx } Y H2) (hd : ∀ σ H,U xs.length σ H->D.nx σ H) :
  ∃ W:Nat->Nat->St->Hp->Prop,(∃m,W 0 m σ H)/\∀i m σ H,W i m σ H ->
   (J.stop i H/\D.nx σ H)\/(J.go i H/\∃N:St->Hp->Prop,(∀ σ' H',N σ' H'->∃Z,Z < m/\W (i+1) Z σ' H')/\∀x H',J.yld i H x H'->g x σ H' λY H2=>tb { D with nx:=N,ct:=N,bk:=D.nx } Y H2):=by
 refine⟨λi m σ H=>m=xs.length - i/\i<=xs.length/\U i σ H,⟨xs.length,by simp,r_ _,h0⟩,?_⟩
 rintro i m σ H ⟨rfl,hi,p⟩
 have q:=hl i σ H p
 by_cases z:i < xs.length
 .refine .inr ⟨w.go i H q z,U (i+1),λσ' H' p'=>⟨xs.length - (i+1),(),rfl,z,p'⟩,λx H' y=>?_⟩
  obtain⟨e1,e2⟩:=w.yld i H x H' q z y;subst e2;exact hs i x σ _ z e1 p
 .have e:i=xs.length:=()
  subst e;exact .inl ⟨w.stop _ H q (j5 _),hd σ H p⟩
theorem AD (w:Wlk J xs C) {g:TG} {tc:TT} {te:TE} {σ0:St} {Q:VK} {H1:Hp} {D:Addr} (Y:Nat->List V->Hp->Prop) (h0:Y 0 [] (upd H1 D (.lst []))) (hl : ∀i ys H,Y i ys H->C H)
  (hs : ∀i x ys H,i < xs.length->xs[i]? = some x->Y i ys H->g x σ0 H λz H3=>tc z H3 λb H4=>if b=true then te z H4 λy Z=>Z D*>ys/\ys.length < g0/\Y (i+1) (ys++[y]) (upd Z D (.lst (ys++[y]))) else Y (i+1) ys H4)
  (hd : ∀ys H,Y xs.length ys H->Q (.ref D) H) :
  ∃ W : Nat->Nat->List V->Hp->Prop,(∃m,W 0 m [] (upd H1 D (.lst []))) /\
   ∀ i m ys H2,W i m ys H2->(J.stop i H2/\Q (.ref D) H2)\/(J.go i H2/\∃N:List V->Hp->Prop,(∀aa H',N aa H'->∃m',m' < m/\W (i+1) m' aa H') /\
    ∀x H',J.yld i H2 x H'->g x σ0 H' λz H3=>tc z H3 λb H4=>if b=true then te z H4 λy Z=>Z D*>ys/\ys.length < g0/\N (ys++[y]) (upd Z D (.lst (ys++[y]))) else N ys H4):=by
 refine⟨λi m ys H=>m=xs.length - i/\i<=xs.length/\Y i ys H,⟨xs.length,by simp,r_ _,h0⟩,?_⟩
 rintro i m ys H ⟨rfl,hi,p⟩
 have q:=hl i ys H p
 by_cases U:i < xs.length
 .refine .inr ⟨w.go i H q U,Y (i+1),λσ' H' p'=>⟨xs.length - (i+1),(),rfl,U,p'⟩,λx H' y=>?_⟩
  obtain⟨e1,e2⟩:=w.yld i H x H' q U y;subst e2;exact hs i x ys _ U e1 p
 .have e:i=xs.length:=()
  subst e;exact .inl ⟨w.stop _ H q (j5 _),hd ys H p⟩
end L2
namespace HT
open PySem PyProof.Rows
open PySem.SeqAt
open PySem.AutoSeq1 (wpAny_loadPart')
open PySem.MeetsSeq PySem.MeetsSeq2 PySem.MeetsSeq3
theorem getItem_tuple_whole {sl:Addr} (z:IsTup s.heap t items) (hs:s.heap.IsSliceOf sl vl vu .none) (pl:IsPart vl lo) (pu:IsPart vu hi)
  (h1:sIx items.size 0 lo=0) (h2:sIx items.size items.size hi=items.size)
  (h:Q (.ref t) s):wpAny (model prog w) A (JM (.ref t) (.ref sl)) Q E s:=by
 obtain⟨os,Z,U,aa⟩:=id hs;have Y:s.TypeIs (.ref sl) "slice" :=⟨os,Z,U⟩
 unfold JM
 try with_reducible refine C_ ?_
 first | refine c_ (fy ?_) | skip
 refine c_ (wpAny_sequenceKey z.typeIs ∅ ?_)
 refine c_ (Ko (name:=b_ "__getitem__") z.typeIs x6
  (y4 x6 z.typeIs entry_tuple_getitem ?_ (args_tuple_getitem _ _)))
 show wpAny _ _ (Builtin.Tuple.tupleItemsOf (.ref t) >>= _) _ _ s
 refine c_ (tupleItemsOf_ z ?_)
 refine c_ (KH Y ?_)
 rw[if_pos ∅]
 refine c_ (gl hs pl pu ?_)
 rw[h1,h2]
 show wpAny _ _ (if (((0:Nat):Int) == 0 && (1:Int) == 1 && (items.size - 0) == items.size)=true then _ else _) _ _ s
 rw[if_pos (by simp)]
 unfold Builtin.Tuple.tupleIsExact;refine c_ (c_ (KH z.typeIs (fy ?_)))
 rw[if_pos ∅]
 exact c_ (wpAny_rule (fy ⟨_,rfl,fy h⟩))
end HT
namespace L2
open PySem PySem.Spec PyProof.Rows
def gD (xs:List (Str × Is)) (x:Str):Bool:=xs.lookup x == some .cell || xs.lookup x == some .free
theorem ix {xs:List (Str × Is)} (h:gD xs x=true):xs.lookup x=some .cell\/xs.lookup x=some .free:=by
 unfold gD at h;rw[Bool.or_eq_true] at h;simpa using h
def HS (K:ge):V->Option Int->Option Int->Hp->VK->Prop:=λx lo hi H Q=>∃a xs,x = .ref a/\SqT K H a xs/\(dM xs lo hi=xs->Q (.ref a) H)/\(∀p,H p=none->Q (.ref p) (upd H p (.tup (dM xs lo hi))))
theorem Cg:SlR X (HS X.K):=by
 intro pins s σ H x v vl vu lo hi sl Q I rx Y pl pu h;obtain⟨a,xs,e,Z,q1,q2⟩:=h
 by_cases hw:HT.sIx xs.length 0 lo=0/\HT.sIx xs.length xs.length hi=xs.length
 .subst e
  cases rx;obtain⟨its,r,U,hz⟩:=I.tuple Z;have z:its.toArray.size=xs.length:=by rw[g_];exact r.length.symm
  refine⟨"tuple",_,x6.lookup,U.typeIs,?_⟩
  refine HT.getItem_tuple_whole U Y pl pu (by rw[z];exact hw.1) (by rw[z];exact hw.2) ⟨.ref a,H,I,rfl,q1 ?_⟩
  unfold dM;rw[hw.1,hw.2];simp
 .exact GZ pins s σ H x v vl vu lo hi sl Q I rx Y pl pu ⟨a,xs,e,Z,hw,q2⟩
theorem Hs {s:Str} {P:Key->Prop}:(∃k,V.str s=kV k/\P k)↔P (e_ s):=by
 constructor
 .rintro⟨k,e,p⟩
  cases k with
  | inl i=>cases e
  | inr x=>cases e;exact p
 .exact λp=>⟨_,rfl,p⟩
theorem Ha {i:Int} {P:Key->Prop}:(∃k,V.int i=kV k/\P k)↔P (i9 i):=by
 constructor
 .rintro⟨k,e,p⟩
  cases k with
  | inl i=>cases e;exact p
  | inr x=>cases e
 .exact λp=>⟨_,rfl,p⟩
section
variable {o i:Expr}
def tDG (td ty:TE):TE:=λσ H Q=>td σ H λx H1=>ty σ H1 λy H2=>∃a,x = .ref a/\∃k,y=kV k/\∃kvs v,H2 a<*kvs/\bg kvs k=some v/\Q v H2
theorem dY (Z:X.A.units+1 < cLine) (ho:PE X o td) (hi:PE X i ty) (hs:Ez i:=by exact λ_ _=>rfl):PE X (.Subscript o i pos) (tDG td ty):=by
 intro pins s σ H Q I h;refine yJ Kb.lookup hs (thn (ho pins s σ H _ I h) λu s1 ⟨x,H1,I1,rx,q1⟩=>thn (hi pins s1 σ H1 _ I1 q1) λiv s2 z=>?_)
 obtain⟨y,H2,Y,ry,a,ex,k,ey,kvs,v,hd,hv,q2⟩:=z;subst ex;obtain rfl:u=m8 a:=rx
 have g:qh H2 a y (some v):=.inl ⟨kvs,k,.inl hd,ey,hv.symm⟩
 exact⟨lW Y g,rS Z Y g ry λw' s3 I3 U=>⟨v,H2,I3,U,q2⟩⟩
def sDP (td ty tv:TE):TS:=λD σ H=>tv σ H λv H1=>td σ H1 λx H2=>ty σ H2 λy z=>∃a,x = .ref a/\∃k,y=kV k/\∃kvs,z a<*kvs/\kvs.length < g0/\D.nx σ (upd z a (.dK (bj kvs k v)))
theorem fH (Y:X.A.units+1 < cLine) (ho:PE X o td) (hi:PE X i ty) (hv:PE X value tv) (hs:swapsWith value (some (.Subscript o i pos')) pos.line X.env=pure false) :
  PS X (.Assign [.Subscript o i pos'] value pos) (sDP td ty tv):=by
 intro pins s σ H D I h;refine wpAny_Assign_Subscript (thn (hv pins s σ H _ I h) λr s1 ⟨v,H1,I1,rv,q1⟩=>thn (ho pins s1 σ H1 _ I1 q1) λu s2 ⟨x,H2,I2,rx,q2⟩=>thn (hi pins s2 σ H2 _ I2 q2) λiv s3 z=>?_) hs
 obtain⟨y,U,I3,Z,a,ex,k,ey,kvs,hd,hl,q3⟩:=z;subst ex;obtain rfl:u=m8 a:=rx
 have g:Hj U a y v (upd U a (.dK (bj kvs k v))):=.inl ⟨kvs,k,hd,ey,hl,rfl⟩
 exact zO Y I3 g Z rv λs4 I4=>⟨σ,_,I4,q3⟩
def tDI (ty td:TE):TE:=λσ H Q=>ty σ H λy H1=>td σ H1 λx H2=>∃a,x = .ref a/\∃k,y=kV k/\∃kvs,H2 a<*kvs/\Q (.bl (bg kvs k).isSome) H2
end
theorem gb {c:TT} {tb:TS} (W:Nat->St->Hp->Prop) (z:St->Hp->Prop) (h0 : ∃m,W m σ H)
  (Z : ∀R:St->Hp->Prop,(∀ σ H,z σ H->R σ H)->∀m σ H,W m σ H->c σ H λb H1=>if b=true then ∃N:St->Hp->Prop,(∀ σ' H',N σ' H'->∃Y,Y < m/\W Y σ' H')/\tb { D with nx:=N,ct:=N,bk:=R } σ H1 else R σ H1)
  (U : ∀ σ H,z σ H->D.nx σ H):xo c tb D σ H:=⟨W,h0,λm σ H w=>Z D.nx U m σ H w⟩
theorem cxK {q:Str} {o:List Env} {E:XK} :
  (tu CX P w K mg base N q sc f cd A o s H E).K=K:=rfl
theorem CC (i j:Int):qG (.int i) (.int j)=true:=rfl
theorem Dw (i j:Str):qG (.str i) (.str j)=true:=rfl
theorem CV (i j:Bool):qG (.bl i) (.bl j)=true:=rfl
theorem CZ:qG .non .non=true:=rfl
theorem CA (i:Int):qG (.int i) .non=true:=rfl
theorem CG (s:Str) (i:Int):qG (.str s) (.int i)=true:=rfl
section
variable {a b o l:Expr} {ta:TE} {t:TA}
theorem OpR.imp {f:Value->Value->Sem Value} {r r':R2} (h:OpR X f r) (i : ∀x y H Q,r' x y H Q->r x y H Q):OpR X f r':=λpins s σ H x y v u Q I z U q=>h pins s σ H x y v u Q I z U (i _ _ _ _ q)
theorem bH.imp {f:Value} {r r':List V->Hp->VK->Prop} (h:bH X f r) (i : ∀x H Q,r' x H Q->r x H Q):bH X f r':=λpins s σ H xs us Q I z q=>h pins s σ H xs us Q I z (i _ _ _ q)
theorem IxR.imp {r r':R2} (h:IxR X r) (i : ∀x y H Q,r' x y H Q->r x y H Q):IxR X r':=λvalue slice pins s σ H x y v u Q I Y z q U=>h value slice pins s σ H x y v u Q I Y z (i _ _ _ _ q) U
theorem SlR.imp (h:SlR X r) (i : ∀x lo hi H Q,r' x lo hi H Q->r x lo hi H Q):SlR X r':=λpins s σ H x v vl vu lo hi sl Q I Y z pl U q=>h pins s σ H x v vl vu lo hi sl Q I Y z pl U (i _ _ _ _ _ q)
def Ap:List V->Hp->VK->Prop:=λxs H Q=>∃p,xs=[.ref p]/\∃ys,H p*>ys/\Q (.int ys.length) H
def AL:List V->Hp->VK->Prop:=λxs H Q=>∃p,xs=[.ref p]/\∃ys,H p>>ys/\Q (.int ys.length) H
theorem rA:bH X (.builtin "len") Ap:=ke.imp λ_ _ _ z=>by obtain⟨p,e,ys,h,q⟩:=z;exact(⟨p,ys,e,.inl (.of h),q⟩)
theorem cB:bH X (.builtin "len") AL:=ke.imp λ_ _ _ z=>by obtain⟨p,e,ys,h,q⟩:=z;exact(⟨p,ys,e,.inr (.of h),q⟩)
def rIL:R2:=λx y H Q=>∃p,x = .ref p/\∃i,y = .int i/\∃xs,H p*>xs/\∃v,atI xs i=some v/\Q v H
def rIT:R2:=λx y H Q=>∃p,x = .ref p/\∃i,y = .int i/\∃xs,H p>>xs/\∃v,atI xs i=some v/\Q v H
theorem dE:IxR X rIL:=Dv.imp λ_ _ _ _ z=>by obtain⟨p,e,i,e2,xs,h,v,U,q⟩:=z;exact(⟨p,xs,i,v,e,e2,.of h,U,q⟩)
theorem wm:IxR X rIT:=EW.imp λ_ _ _ _ z=>by obtain⟨p,e,i,e2,xs,h,v,U,q⟩:=z;exact(⟨p,xs,i,v,e,e2,.of h,U,q⟩)
def rIS:R2:=λx y H Q=>∃z,x = .str z/\∃i,y = .int i/\z.length<=g0/\∃c,atI z.cps.toList i=some c/\Q (.str ⟨#[c]⟩) H
theorem Cm:IxR X rIS:=GV.imp λ_ _ _ _ U=>by obtain⟨z,e,i,e2,h,c,Y,q⟩:=U;exact(⟨z,i,c,e,e2,h,Y,q⟩)
def rSL:V->Option Int->Option Int->Hp->VK->Prop:=λx lo hi H Q=>∃a,x = .ref a/\∃xs,H a*>xs/\∀p,H p=none->Q (.ref p) (upd H p (.lst (dM xs lo hi)))
theorem A1:SlR X rSL:=yD.imp λ_ _ _ _ _ z=>by obtain⟨a,e,xs,h,q⟩:=z;exact(⟨a,xs,e,.of h,q⟩)
def rSQ (K:ge):V->Option Int->Option Int->Hp->VK->Prop:=λx lo hi H Q=>∃a,x = .ref a/\∃xs,SqL K H a xs/\∀p,H p=none->Q (.ref p) (upd H p (.lst (dM xs lo hi)))
theorem Id:SlR X (rSQ X.K):=yD.imp λ_ _ _ _ _ z=>by obtain⟨a,e,xs,h,q⟩:=z;exact(⟨a,xs,e,h,q⟩)
def rST:V->Option Int->Option Int->Hp->VK->Prop:=λx lo hi H Q=>∃a,x = .ref a/\∃xs,H a>>xs/\(dM xs lo hi=xs->Q (.ref a) H)/\(∀p,H p=none->Q (.ref p) (upd H p (.tup (dM xs lo hi))))
theorem IT:SlR X rST:=Cg.imp λ_ _ _ _ _ z=>by obtain⟨a,e,xs,h,q⟩:=z;exact(⟨a,xs,e,.of h,q⟩)
def iL (K:ge) (tl:TE):TI:=λσ H R=>tl σ H λx H1=>∃a,x = .ref a/\∃xs,H1 a*>xs/\R (Itl K a) H1
def iT (K:ge) (tl:TE):TI:=λσ H R=>tl σ H λx H1=>∃a,x = .ref a/\∃xs,H1 a>>xs/\R (Itt K a) H1
theorem Ir (hl:PE X l tl):PI X tg l (iL X.K tl):=by
 intro pins s σ H R I h;refine thn (hl pins s σ H _ I h) λv Y z=>?_
 obtain⟨x,H1,U,r1,a,e,xs,hq,q⟩:=z;subst e;cases r1;obtain⟨its,rv,p,hz⟩:=U.list (SqL.of hq);refine J7 p.isList ?_
 refine⟨Y.heap.objs.size,[Y.heap.objs.size],_,_,H1,rfl,U.kept (t':=Y.toks) λb o e=>d_ _ e,qZ a _,⟨_,g9 _ rfl,rfl,rfl⟩,λb Z=>?_,q⟩
 have e:b=Y.heap.objs.size:=by simpa using Z
 subst e;exact U.fpOk (j5 _) (U.hok.fresh (j5 _))
theorem IB (hl:PE X l tl):PI X tg l (iT X.K tl):=by
 intro pins s σ H R I h;refine thn (hl pins s σ H _ I h) λv U z=>?_
 obtain⟨x,H1,Y,r1,a,e,xs,hq,q⟩:=z;subst e;cases r1;obtain⟨its,rv,p,hz⟩:=Y.tuple (SqT.of hq);refine JT (show U.heap.IsTuple a its.toArray from p) ?_
 refine⟨U.heap.objs.size,[U.heap.objs.size],_,_,H1,rfl,Y.kept (t':=U.toks) λb o e=>d_ _ e,oQ a _,⟨_,g9 _ rfl,rfl,rfl⟩,λb Z=>?_,q⟩
 have e:b=U.heap.objs.size:=by simpa using Z
 subst e;exact Y.fpOk (j5 _) (Y.hok.fresh (j5 _))
abbrev RM:=Addr->List V->Hp->VK->Prop
def MtL (X:Cx) (id:String) (r:RM):Prop:=MtR X id λx vs H Q=>∃p,x = .ref p/\r p vs H Q
def tML (r:RM) (to:TE) (t:TA):TE:=λσ H Q=>to σ H λx H1=>∃p,x = .ref p/\(∃xs,H1 p*>xs)/\t σ H1 λvs H2=>r p vs H2 Q
variable {id:String} {r:RM}
theorem cA (ac:Slot "list" name id) (ad:typeOf (.builtin id)=pure (.type "method_descriptor")) (hm:MtL X id r) (ho:PE X o to) (ha:PA X (e :: es) t)
  (Y:attributeBase o name X.env (eval o X.env)=eval o X.env:=by rfl)
  (aa:((JS cpos (m9 (e :: es) X.env)).all (λx=>!x.1) && (backToKw cpos (keywordEach [] X.env)).all (λx=>x.1.isSome)
   && decide ((e :: es).length+([]:List Keyword).length+(if ([]:List Keyword).isEmpty then 0 else 1) < 30))=true:=by rfl)
  (Z:(apos.endLine == cpos.line)=true:=by rfl) (hs:m9 (e :: es) X.env=(false,eval e X.env) :: m9 es X.env:=by rfl) (z:(JS cpos (m9 es X.env)).any (·.1)=false:=by rfl) :
  PE X (.Call (.Attribute o name apos) (e :: es) [] cpos) (tML r to t):=by
 intro pins s σ H Q I h;refine wpAny_Call_method_late Y aa Z rfl (thn (ho pins s σ H _ I h) λv s1 ⟨x,H1,I1,r1,p,ex,⟨xs,hp⟩,q1⟩=>?_)
 subst ex;have ty:tyV X.K "list" (.ref p) H1:=.inl ⟨rfl,xs,.of hp⟩
 obtain⟨h1,h2⟩:=xH I1 r1 ty;refine⟨"list",id,PySem.F.plainAttrs_list,ac,ad,h1,h2,?_⟩
 have hA:=ha cpos pins s1 σ H1 _ I1 q1;rw[hs] at hA ⊢;refine JA (by show(false || (JS cpos (m9 es X.env)).any (·.1))=false;rw[z] <;> rfl) (Ka ?_)
 refine thn hA λus s2 U=>?_
 obtain⟨vs,H2,I2,rr,q2⟩:=U;exact hm pins s2 σ H2 (.ref p) vs v us Q I2 r1 rr ⟨p,rfl,q2⟩
theorem G1 (Y:Slot "list" name id) (Z:typeOf (.builtin id)=pure (.type "method_descriptor")) (hm:MtL X id r) (ho:PE X o to)
  (z:attributeBase o name X.env (eval o X.env)=eval o X.env:=by rfl) (U:(apos.endLine == cpos.line)=true:=by rfl):PE X (.Call (.Attribute o name apos) [] [] cpos) (tML r to wx):=by
 intro pins s σ H Q I h;refine wpAny_Call_method0_late z U (thn (ho pins s σ H _ I h) λv s1 ⟨x,H1,I1,r1,p,ex,⟨xs,hp⟩,q1⟩=>?_)
 subst ex;have ty:tyV X.K "list" (.ref p) H1:=.inl ⟨rfl,xs,.of hp⟩
 obtain⟨h1,h2⟩:=xH I1 r1 ty;exact⟨"list",id,PySem.F.plainAttrs_list,Y,Z,h1,h2,JA rfl (PySem.evalArgs_none (hm pins s1 σ H1 _ [] v [] Q I1 r1 .nil ⟨p,rfl,q1⟩))⟩
def oq:RM:=λp vs H Q=>∃y,vs=[y]/\∃xs,H p*>xs/\xs.length < g0/\Q .non (upd H p (.lst (xs++[y])))
theorem bo:MtL X "list.append" oq:=λpins s σ H x vs v us Q I Y U z=>by obtain⟨p,e,y,e2,xs,h,hl,q⟩:=z;exact(rV pins s σ H x vs v us Q I Y U ⟨p,xs,y,e,e2,h,hl,q⟩)
def pO:RM:=λp vs H Q=>∃b,vs=[.ref b]/\∃xs,H p*>xs/\∃zs,H b*>zs/\xs.length+zs.length<=g0/\Q .non (upd H p (.lst (xs++zs)))
theorem zC:MtL X "list.extend" pO:=λpins s σ H x vs v us Q I Y U z=>by obtain⟨p,e,b,e2,xs,h,zs,h2,hl,q⟩:=z;exact(zu pins s σ H x vs v us Q I Y U ⟨p,b,xs,zs,e,e2,h,h2,hl,q⟩)
def Av:RM:=λp vs H Q=>vs=[]/\∃xs,H p*>xs/\∃y,xs[xs.length - 1]? = some y/\Q y (upd H p (.lst xs.dropLast))
theorem G3:MtL X "list.pop" Av:=λpins s σ H x vs v us Q I Y U z=>by obtain⟨p,e,e2,xs,h,y,hl,q⟩:=z;exact(GK pins s σ H x vs v us Q I Y U ⟨p,xs,y,e,e2,h,hl,q⟩)
def oS:RM:=λp vs H Q=>∃i y,vs=[.int i,y]/\∃xs,H p*>xs/\0<=i/\i<=xs.length/\xs.length < g0/\Q .non (upd H p (.lst (xs.take i.toNat++y :: xs.drop i.toNat)))
theorem zF:MtL X "list.insert" oS:=by
 intro pins s σ H x vs v us Q I rx rv h;obtain⟨p,rfl,i,y,rfl,xs,Z,i0,i1,hz,q⟩:=h;cases rx;obtain⟨u,w',rfl,ru,Y⟩:=vG rv;obtain⟨t,rfl⟩:=ru;obtain⟨z,its,n,rr,hl,e⟩:=I.lstM Z;have U:Builtin.List.listFitsIndex i=true:=by
  have aa:=ju;simp only[Builtin.List.listFitsIndex,mx,decide_eq_true_eq];omega
 refine Kw F.slot_list_insert ⟨_,e,rfl⟩ F.entry_list_insert (F.args_list_insert_3 _ _ _) (PySem.AutoSeq1.list_insert_list_int_val_1 p its.toArray n i t w' (by rw[U];decide) (by rw[g_];omega)) ⟨e,?_⟩
 refine⟨.non,_,I.lset (its':=its.take i.toNat++w' :: its.drop i.toNat) Z e ?_ ((rr.take i.toNat).append (.cons Y (rr.drop i.toNat))) ?_,rfl,q⟩
 .have hk:(if i < 0 then(i+(its.toArray.size:Int)).toNat else min i.toNat its.toArray.size)=i.toNat:=by
   rw[if_neg (),g_];omega
  simp only[hk]
  apply ext'
  simp
  rw[t4 (by simp)]
 .simp
  omega
def rCL:R2:=λx y H Q=>∃l,x = .ref l/\∃b,y = .ref b/\∃xs,H l*>xs/\∃zs,H b*>zs/\xs.length+zs.length<=g0/\∀p,H p=none->Q (.ref p) (upd H p (.lst (xs++zs)))
theorem sP:OpR X (JH .Add) rCL:=Gq.imp λ_ _ _ _ z=>by obtain⟨l,e,b,e2,xs,h,zs,h2,hl,q⟩:=z;exact(⟨l,b,xs,zs,e,e2,h,h2,hl,q⟩)
def zg (z:Bool):R2:=λx y H Q=>∃p,y = .ref p/\∃xs,H p*>xs/\fE x=true/\xs.all fE=true/\Q (.bl (if z then !inV x xs else inV x xs)) H
def F7 (z:Bool):R2:=λx y H Q=>∃p,y = .ref p/\∃xs,H p>>xs/\fE x=true/\xs.all fE=true/\Q (.bl (if z then !inV x xs else inV x xs)) H
theorem Br:OpR X (x3 .In) (zg false):=rB.imp λ_ _ _ _ z=>by obtain⟨p,e,xs,h,f1,f2,q⟩:=z;exact(⟨p,xs,e,.inl (.of h),f1,f2,q⟩)
theorem oB:OpR X (x3 .In) (F7 false):=rB.imp λ_ _ _ _ z=>by obtain⟨p,e,xs,h,f1,f2,q⟩:=z;exact(⟨p,xs,e,.inr (.of h),f1,f2,q⟩)
theorem zx:OpR X (x3 .NotIn) (zg true):=tU.imp λ_ _ _ _ z=>by obtain⟨p,e,xs,h,f1,f2,q⟩:=z;exact(⟨p,xs,e,.inl (.of h),f1,f2,q⟩)
def wR:List V->Hp->VK->Prop:=λxs H Q=>∃p,xs=[.ref p]/\∃ys,H p>>ys/\∀l,H l=none->Q (.ref l) (upd H l (.lst ys))
def BJ:List V->Hp->VK->Prop:=λxs H Q=>∃p,xs=[.ref p]/\∃ys,H p*>ys/\∀l,H l=none->Q (.ref l) (upd H l (.tup ys))
theorem fj:bH X (.type "list") wR:=kY.imp λ_ _ _ z=>by obtain⟨p,e,ys,h,q⟩:=z;exact(⟨p,ys,e,.inr (.of h),q⟩)
theorem aM:bH X (.type "tuple") BJ:=qp.imp λ_ _ _ z=>by obtain⟨p,e,ys,h,q⟩:=z;exact(⟨p,ys,e,.inl ⟨.of h,q⟩⟩)
def rCS:R2:=λx y H Q=>∃i,x = .str i/\∃j,y = .str j/\i.length+j.length<=g0/\Q (.str (i++j)) H
theorem tT:OpR X (JH .Add) rCS:=xi.imp λ_ _ _ _ z=>by obtain⟨i,e,j,e2,h,q⟩:=z;exact(⟨i,j,e,e2,h,q⟩)
def BW:List V->Hp->VK->Prop:=λxs H Q=>∃z,xs=[.str z]/\z.length<=g0/\Q (.int z.length) H
theorem zd:bH X (.builtin "len") BW:=sN
def EO:R2:=λx y H Q=>∃i,x = .str i/\∃j,y = .str j/\Q (.bl (!decide (j.cps.toList < i.cps.toList))) H
theorem Er:OpR X (x3 .LtE) EO:=zz.imp λ_ _ _ _ z=>by obtain⟨i,e,j,e2,q⟩:=z;exact(⟨i,j,e,e2,q⟩)
end
def kB (J:It) (σ0:St) (g:TG) (tc:TT) (te:TE) (Q:VK) (H1:Hp) (D:Addr):Prop:=∃W:Nat->Nat->List V->Hp->Prop,(∃m,W 0 m [] (upd H1 D (.lst []))) /\
 ∀ i m ys H2,W i m ys H2->(J.stop i H2/\Q (.ref D) H2)\/(J.go i H2/\∃N:List V->Hp->Prop,(∀U H',N U H'->∃m',m' < m/\W (i+1) m' U H') /\
  ∀x H',J.yld i H2 x H'->g x σ0 H' λz H3=>tc z H3 λb Z=>if b=true then te z Z λy Y=>Y D*>ys/\ys.length < g0/\N (ys++[y]) (upd Y D (.lst (ys++[y]))) else N ys Z)
theorem A0 (nt:Nat) (js:List Nat) (wi:TI) (g:TG) (tc:TT) (te:TE):yQ nt js wi g tc te=λσ H Q=>wi σ H λJ H1=>∀D,H1 D=none->kB J (bZ nt js σ) g tc te Q H1 D:=rfl
def C9 (J:It) (g:TG) (tb:TS) (D:mH) (σ:St) (H1:Hp):Prop:=∃W:Nat->Nat->St->Hp->Prop,(∃m,W 0 m σ H1)/\∀i m σ H,W i m σ H ->
 (J.stop i H/\D.nx σ H)\/(J.go i H/\∃N:St->Hp->Prop,(∀ σ' H',N σ' H'->∃U,U < m/\W (i+1) U σ' H')/\∀x H',J.yld i H x H'->g x σ H' λz H2=>tb { D with nx:=N,ct:=N,bk:=D.nx } z H2)
theorem Cu (wi:TI) (g:TG) (tb:TS):HD wi g tb=λD σ H=>wi σ H λJ H1=>C9 J g tb D σ H1:=rfl
theorem bK (w:Wlk J xs C) {g:TG} {tb:TS} {D:mH} {σ:St} {H:Hp} (z:Nat->St->Hp->Prop) (h0:z 0 σ H) (hl : ∀i σ H,z i σ H->C H)
  (Z : ∀i x σ H,i < xs.length->xs[i]? = some x->z i σ H->g x σ H λU H2=>tb { D with nx:=z (i+1),ct:=z (i+1),bk:=D.nx } U H2) (Y : ∀ σ H,z xs.length σ H->D.nx σ H):C9 J g tb D σ H :=
 Dg w z h0 hl Z Y
theorem bL (w:Wlk J xs C) {g:TG} {tc:TT} {te:TE} {σ0:St} {Q:VK} {H1:Hp} {D:Addr} (z:Nat->List V->Hp->Prop) (h0:z 0 [] (upd H1 D (.lst []))) (hl : ∀i ys H,z i ys H->C H)
  (hs : ∀i x ys H,i < xs.length->xs[i]? = some x->z i ys H->g x σ0 H λU H3=>tc U H3 λb Z=>if b=true then te U Z λy Y=>Y D*>ys/\ys.length < g0/\z (i+1) (ys++[y]) (upd Y D (.lst (ys++[y]))) else z (i+1) ys Z)
  (hd : ∀ys H,z xs.length ys H->Q (.ref D) H):kB J σ0 g tc te Q H1 D:=AD w z h0 hl hs hd
theorem Gg (js:List Nat) (σ:St):bZ 0 js σ=js.map λj=>(σ[j]?).join:=rfl
theorem GU (js:List Nat) (σ:St):bZ 1 js σ=none :: js.map λj=>(σ[j]?).join:=rfl
theorem GL (js:List Nat) (σ:St):bZ 2 js σ=none :: none :: js.map λj=>(σ[j]?).join:=rfl
theorem ES (js:List Nat) (σ:St):bZ 3 js σ=none :: none :: none :: js.map λj=>(σ[j]?).join:=rfl
theorem aj.upd_new (s:aj H H1) (z:H1 p=none):aj H (upd H1 p o):=λb u e=>by
 have e1:=s b u e;rw[ai (ap e1 z)];exact e1
theorem aj.upd0 (z:H p=none):aj H (upd H p o):=(aj.refl H).upd_new z
def IsB (H:Hp) (x:V) (T:String) (k:Bool):Prop:=match x with
 | .non=>k=false
 | .bl _=>k=(T == "bool" || T == "int")
 | .int _=>k=(T == "int")
 | .str _=>k=(T == "str")
 | .ref a=>(∃vs,H a>>vs/\k=(T == "tuple"))\/(∃vs,H a*>vs/\k=(T == "list"))
 | _=>False
def GD:List V->Hp->VK->Prop:=λxs H Q=>∃x T,xs=[x,.ty T]/\(T = "int" \/ T = "str" \/ T = "bool" \/ T = "tuple" \/ T = "list")/\∃k,IsB H x T k/\Q (.bl k) H
theorem Dt (K:ge) {T:String} (h:T = "int" \/ T = "str" \/ T = "bool" \/ T = "tuple" \/ T = "list") :
  kitOne K (.type "NoneType") (.type T)=some false/\kitOne K (.type "bool") (.type T)=some (T == "bool" || T == "int")/\kitOne K (.type "int") (.type T)=some (T == "int") /\
  kitOne K (.type "str") (.type T)=some (T == "str")/\kitOne K (.type "tuple") (.type T)=some (T == "tuple")/\kitOne K (.type "list") (.type T)=some (T == "list"):=by
 rcases h with rfl | rfl | rfl | rfl | rfl
 all_goals exact⟨rfl,rfl,rfl,rfl,rfl,rfl⟩
theorem jZ:bH X (.builtin "isinstance") GD:=BH.imp λxs H Q ⟨x,T,e,hT,k,hk,q⟩=>by
 obtain⟨Z,k2,k3,z,Y,U⟩:=Dt X.K hT;cases x with
 | non=>cases hk;exact⟨_,_,T,_,e,.non,Z,q⟩
 | bl b=>cases hk;exact⟨_,_,T,_,e,.bl b,k2,q⟩
 | int b=>cases hk;exact⟨_,_,T,_,e,.int b,k3,q⟩
 | str b=>cases hk;exact⟨_,_,T,_,e,.str b,z,q⟩
 | ref a =>
  rcases hk with⟨vs,h,rfl⟩ | ⟨vs,h,rfl⟩
  .exact⟨_,_,T,_,e,.tup h,Y,q⟩
  .exact⟨_,_,T,_,e,.lst h,U,q⟩
 | _=>exact hk.elim
def cU (c:Nat):Bool:=decide (97<=c) && decide (c<=122)
theorem pB (a b:Str):(a++b).length=a.length+b.length:=by
 show(a++b).cps.size=a.cps.size+b.cps.size
 exact size_append
theorem iw (z:cR k A):A.units+100 < cLine:=by have:=z.un;omega
end L2
namespace HT
open PySem PyProof.Rows
theorem cat_tup0 {vs ws:List Value} (ht:IsTup s.heap t vs.toArray) (hb:IsTup s.heap b ws.toArray) (hv:vs=[])
  (h1:Q (.ref b) s):wpAny (model prog w) A (JH .Add (.ref t) (.ref b)) Q E s:=by
 obtain⟨⟨cls,dd,data,sl⟩,ho,hc,n,hd⟩:=id ht;obtain⟨⟨ad,ac,aa,Z⟩,Y,U,n2,z⟩:=id hb;simp only at hc hd U z;subst hc hd U z;exact concat_meets ⟨_,ho,rfl⟩ ⟨_,Y,rfl⟩ noFill_tuple_add seq_tuple_add PySem.F.slot_tuple_add PySem.F.entry_tuple_add (PySem.F.args_tuple_add_2 _ _)
   (tuple_addW0 t b vs.toArray ws.toArray n n2 dd ac sl Z (by simp[hv])) ⟨ho,Y,h1⟩
end HT
namespace L2
open PySem PySem.Spec PyProof.Rows
section
variable {a b o l:Expr} {ta:TE} {t:TA}
def rCT:R2:=λx y H Q=>∃l,x = .ref l/\∃b,y = .ref b/\∃xs,H l>>xs/\∃ys,H b>>ys/\xs.length+ys.length<=g0 /\
 (xs=[]->Q (.ref b) H)/\(xs≠[]->ys=[]->Q (.ref l) H)/\(xs≠[]->ys≠[]->∀p,H p=none->Q (.ref p) (upd H p (.tup (xs++ys))))
theorem zX:OpR X (JH .Add) rCT:=by
 intro pins s σ H x y v u Q I rx U h;obtain⟨a,rfl,b,rfl,xs,ha,ys,Y,hz,q0,q1,q2⟩:=h
 by_cases z:xs=[]
 .cases rx
  cases U;obtain⟨its,r1,p1,_⟩:=I.tuple (SqT.of ha);obtain⟨Z,r2,p2,_⟩:=I.tuple (SqT.of Y);exact HT.cat_tup0 p1 p2 (r1.nil_iff.mpr z) ⟨.ref b,H,I,rfl,q0 z⟩
 .exact Cp pins s σ H _ _ v u Q I rx U ⟨a,b,xs,ys,rfl,rfl,.of ha,.of Y,z,hz,q1 z,q2 z⟩
def He (i j:Int):Prop:=0 < j/\j < 18446744073709551616
theorem AU:OpR X (JH .FloorDiv) (rI He λi j=>.int (i / j)):=opI λi j _ _ _ _ _ z q=>by
 have h1:(0:Int) < j:=z.1
 have h2:j < 18446744073709551616:=z.2
 refine floordiv_int () (by rw[Int.fdiv_eq_ediv_of_nonneg i ()];exact q) (.inl (PyProof.noPylong_of_log2 ?_))
 have U:j.natAbs < 2 ^ 64:=()
 exact lt_trans ((Nat.log2_lt ()).mpr U) ∅
abbrev RMS:=Str->List V->Hp->VK->Prop
def MtS (X:Cx) (id:String) (r:RMS):Prop:=MtR X id λx vs H Q=>∃p,x = .str p/\r p vs H Q
def tMS (r:RMS) (to:TE) (t:TA):TE:=λσ H Q=>to σ H λx H1=>∃p,x = .str p/\t σ H1 λvs H2=>r p vs H2 Q
variable {id:String} {r:RMS}
theorem DX (ad:Slot "str" name id) (ae:typeOf (.builtin id)=pure (.type "method_descriptor")) (hm:MtS X id r) (ho:PE X o to) (ha:PA X (e :: es) t)
  (Z:attributeBase o name X.env (eval o X.env)=eval o X.env:=by rfl)
  (ac:((JS cpos (m9 (e :: es) X.env)).all (λx=>!x.1) && (backToKw cpos (keywordEach [] X.env)).all (λx=>x.1.isSome)
   && decide ((e :: es).length+([]:List Keyword).length+(if ([]:List Keyword).isEmpty then 0 else 1) < 30))=true:=by rfl)
  (aa:(apos.endLine == cpos.line)=true:=by rfl) (hs:m9 (e :: es) X.env=(false,eval e X.env) :: m9 es X.env:=by rfl) (z:(JS cpos (m9 es X.env)).any (·.1)=false:=by rfl) :
  PE X (.Call (.Attribute o name apos) (e :: es) [] cpos) (tMS r to t):=by
 intro pins s σ H Q I h;refine wpAny_Call_method_late Z ac aa rfl (thn (ho pins s σ H _ I h) λv s1 U=>?_)
 obtain⟨x,H1,I1,r1,p,ex,q1⟩:=U;subst ex;obtain⟨h1,h2⟩:=xH I1 r1 (show tyV X.K "str" (.str p) H1 from rfl)
 refine⟨"str",id,PySem.F.plainAttrs_str,ad,ae,h1,h2,?_⟩
 have hA:=ha cpos pins s1 σ H1 _ I1 q1;rw[hs] at hA ⊢;refine JA (by show(false || (JS cpos (m9 es X.env)).any (·.1))=false;rw[z] <;> rfl) (Ka ?_)
 refine thn hA λus s2 Y=>?_
 obtain⟨vs,H2,I2,rr,q2⟩:=Y;exact hm pins s2 σ H2 (.str p) vs v us Q I2 r1 rr ⟨p,rfl,q2⟩
theorem wP {ns:List Str} : ∀{us:List Value},aX (ns.map V.str) us->StrsAre us ns:=by
 induction ns with
 | nil=>intro us h;cases h;exact .nil
 | cons n ns Y =>
  intro us h;cases h with
  | cons z U =>
   obtain⟨t,rfl⟩:=z;exact .cons _ _ (Y U)
def xG:RMS:=λz vs H Q=>∃p,vs=[.ref p]/\∃ys:List Str,H p*>(ys.map V.str)/\(ys.map (·.length)).sum+ys.length * z.length<=16777216/\Q (.str (Txt.join z ys)) H
theorem CI:MtS X "str.join" xG:=by
 intro pins s σ H x vs v us Q I rx Y h;obtain⟨z,rfl,p,rfl,ys,Z,U,q⟩:=h;obtain⟨t,rfl⟩:=rx;obtain⟨u,rfl,ru⟩:=cK Y;cases ru;obtain⟨its,r,pl,hz⟩:=I.list (SqL.of Z);exact join_list pl.isList (ys:=ys) (by simpa using wP r) U λt' k=>⟨.str _,H,I.tok k,⟨t',rfl⟩,q⟩
def mU:RMS:=λz vs H Q=>∃y,vs=[.str y]/\∃i rest,Kr z y 0 z.length 1=i :: rest/\Q (.int (i:Nat)) H
theorem AA:MtS X "str.index" mU:=by
 intro pins s σ H x vs v us Q I Z U h;obtain⟨z,rfl,y,rfl,i,rest,ho,q⟩:=h;obtain⟨t,rfl⟩:=Z;obtain⟨u,rfl,Y⟩:=cK U;obtain⟨t',rfl⟩:=Y;exact SC.index ho ⟨.int i,H,I.tok _,⟨_,rfl⟩,q⟩
end
theorem C3 {a b:Str} (h:a.cps.toList=b.cps.toList):a=b:=by
 cases a;cases b;congr 1;exact ext' h
theorem jB (a b:Str):(a++b).cps.toList=a.cps.toList++b.cps.toList:=by
 show(a.cps++b.cps).toList=_
 simp
theorem gn (l:List Nat) (s:Nat) : ∀n,s+n<=l.length->((range n).map λk=>s+k).filterMap (λi=>l[i]?)=(l.drop s).take n
 | 0,_=>by simp
 | n+1,h=>by
  rw[range_succ,ii,List.filterMap_append,gn l s n (),i8]
  have e:l[s+n]? = some (l[s+n]'()):=by simp
  simp[e,List.getElem?_drop]
theorem EI (lo hi:Option Int) (n:Nat):Builtin.Str.strSliceIndices lo hi 1 n=(range (HT.sIx n n hi - HT.sIx n 0 lo)).map λk=>HT.sIx n 0 lo+k:=by
 have z : ∀(v:Int) (d:Nat),(if (1:Int) > 0 then max 0 (min (if v < 0 then v+(n:Int) else v) (n:Int)) else max (-1) (min (if v < 0 then v+(n:Int) else v) ((n:Int) - 1)))=((HT.sIx n d (some v):Nat):Int):=λv d=>by
  rw[if_pos ∅]
  show max 0 (min (if v < 0 then v+(n:Int) else v) (n:Int))=(((if v < 0 then(v+(n:Int)).toNat else min v.toNat n):Nat):Int)
  split <;> rw[Int.max_def,Int.min_def] <;> split <;> split <;> omega
 have base : ∀(a b:Nat),sliceRange (a:Int) (b:Int) 1=(range (b - a)).map λk=>a+k:=λa b=>by
  unfold sliceRange;simp only[show(1:Int) > 0 by decide,if_true,Int.one_mul]
  have e:(if (a:Int) < (b:Int) then((b:Int) - (a:Int)+1 - 1) / 1 else 0).toNat=b - a:=by
   split
   .rw[Int.ediv_one];omega
   .show(0:Int).toNat=b - a
    rw[Int.toNat_zero];omega
  rw[e];refine q_ λk _=>?_
  omega
 unfold Builtin.Str.strSliceIndices;cases lo with
 | none=>cases hi with
  | none=>exact base 0 n
  | some v=>simp only[];rw[z v n];exact base 0 _
 | some u=>cases hi with
  | none=>simp only[];rw[z u 0];exact base _ n
  | some v=>simp only[];rw[z u 0,z v n];exact base _ _
theorem lx (x:Str) (lo hi:Option Int):(JP x lo hi).cps.toList=(x.cps.toList.drop (HT.sIx x.length 0 lo)).take (HT.sIx x.length x.length hi - HT.sIx x.length 0 lo):=by
 have h1:=HT.sIx_le x.length x.length (j5 _) hi;have U:=HT.sIx_le x.length 0 (r_ _) lo;have hl:x.cps.toList.length=x.length:=by show x.cps.toList.length=x.cps.size;simp
 unfold JP;rw[EI]
 split
 .rename_i h
  simp only[beq_self_eq_true,Bool.true_and,a_,Kf,beq_iff_eq] at h;have z:HT.sIx x.length 0 lo=0:=()
  rw[h,z,drop_zero,<- hl,k9]
 .show((J0 _ _).filterMap (λi=>x.cps[i]?)).toArray.toList=_
  rw[List.toList_toArray];rw[<- gn _ _ _ ()]
  refine congrArg (λf=>List.filterMap f _) (funext λi=>?_)
  simp
theorem Al (ys:List Str):(Txt.join (b_ "") ys).cps.toList=ys.flatMap λy=>y.cps.toList:=by
 have key : ∀(l:List Str) (acc:Array Nat),(l.foldl (λacc p=>acc++(b_ "").cps++p.cps) acc).toList=acc.toList++l.flatMap λy=>y.cps.toList:=by
  intro l
  induction l with
  | nil=>intro acc;simp
  | cons a l z =>
   intro acc;rw[List.foldl_cons,z];have e:(b_ "").cps = #[]:=by decide+kernel
   simp[e]
 show((ys.drop 1).foldl _ (ys.headD Str.empty).cps).toList=_
 rw[key];cases ys with
 | nil=>simp;decide+kernel
 | cons a l=>simp
structure cD (w:Str):Prop where
 pos:1<=w.length
 le:w.length<=8
 small : ∀c∈w.cps.toList,cU c=true
theorem jY (x:Str):x.cps.toList.length=x.length:=by show x.cps.toList.length=x.cps.size;simp
theorem cD.cons {w:Str} (h:cD w) : ∃c cs,w.cps.toList=c :: cs/\cU c=true/\(∀x∈cs,cU x=true)/\cs.length<=7:=by
 have hl:=jY w;cases e:w.cps.toList with
 | nil=>rw[e] at hl;have:=h.pos;simp at hl;omega
 | cons c cs =>
  rw[e] at hl;have:=h.le
  exact⟨c,cs,rfl,h.small c (by rw[e];simp),λx z=>h.small x (by rw[e];simp[z]),by simp at hl;omega⟩
theorem cD.of {w:Str} {c:Nat} {cs:List Nat} (e:w.cps.toList=c :: cs) (Y:cU c=true) (z : ∀x∈cs,cU x=true) (hl:cs.length<=7):cD w:=by
 have h:=jY w;rw[e] at h;simp at h
 refine⟨(),(),λx U=>?_⟩
 rw[e] at U;rcases i6.mp U with rfl | q
 .exact Y
 .exact z x q
theorem nZ {r:Int} (z:0<=r) (h1:r < 26):atI (b_ "abcdefghijklmnopqrstuvwxyz").cps.toList r=some (97+r.toNat):=by
 obtain⟨n,rfl⟩:=Jt z;rw[show(b_ "abcdefghijklmnopqrstuvwxyz").cps.toList=range' 97 26 by decide+kernel]
 refine aQ ?_
 rw[List.getElem?_range' ()]
 simp
theorem lZ:(b_ "abcdefghijklmnopqrstuvwxyz").length<=g0:=by decide+kernel
theorem qD {c:Nat} (h:cU c=true):Kr (b_ "abcdefghijklmnopqrstuvwxyz") ⟨#[c]⟩ 0 (b_ "abcdefghijklmnopqrstuvwxyz").length 1=(c - 97) :: []:=by
 have key : ∀i:Fin 26,Kr (b_ "abcdefghijklmnopqrstuvwxyz") ⟨#[97+i.1]⟩ 0 (b_ "abcdefghijklmnopqrstuvwxyz").length 1=[i.1]:=by decide+kernel
 simp only[cU,mx,decide_eq_true_eq] at h;have:=key ⟨c - 97,()⟩
 simp only[show 97+(c - 97)=c by omega] at this
 exact this
def uP (c:Nat):Nat:=97+(c - 97+1) % 26
def C0:List Nat->List Nat
 | []=>[]
 | c :: cs=>uP c :: cs
def pT (w:Str):Str:=⟨(C0 w.cps.toList).toArray⟩
def pL:Nat->Str->Str
 | 0,w=>w
 | n+1,w=>pL n (pT w)
theorem pG (c:Nat):cU (uP c)=true:=by
 have:=Nat.mod_lt (c - 97+1) (show 0 < 26 by decide)
 unfold cU uP;rw[mx,decide_eq_true_eq,decide_eq_true_eq];exact⟨(),()⟩
theorem Cj {w:Str} (h:cD w):cD (pT w):=by
 obtain⟨c,cs,e,U,z,hl⟩:=h.cons;exact .of (c:=uP c) (cs:=cs) (by simp[pT,e,C0]) (pG c) z hl
theorem AQ {c:Nat} {cs:List Nat} : ∀(n:Nat) {w:Str},w.cps.toList=c :: cs->cU c=true->(pL n w).cps.toList=(97+(c - 97+n) % 26) :: cs:=by
 intro n
 induction n generalizing c with
 | zero =>
  intro w e z;simp only[cU,mx,decide_eq_true_eq] at z;rw[pL,e]
  congr 1
  omega
 | succ n U =>
  intro w e z;rw[pL,U (c:=uP c) (by simp[pT,e,C0]) (pG c)]
  congr 1
  simp only[uP];omega
theorem uO {α:Type} [BEq α] [LawfulBEq α] : ∀{xs ys:List α},xs.Nodup->(∀x∈xs,x∈ys)->xs.length<=ys.length
 | [],_,_,_=>by simp
 | x :: xs,ys,hn,h=>by
  have U:=w5.mp hn;have Z:=h x (by simp)
  have:=uO (xs:=xs) (ys:=ys.erase x) U.2 λz hz=>by
   have Y:z≠x:=λe=>U.1 (e ▸ hz)
   exact(List.mem_erase_of_ne Y).mpr (h z (by simp[hz]))
  rw[List.length_erase_of_mem Z] at this;have:=List.length_pos_of_mem Z
  simp
  omega
theorem zP {w:Str} (h:cD w) {F:List Str} (hF:F.length < 26) : ∃n,pL n w∉F:=by
 obtain⟨c,cs,e,hc,ac,hl⟩:=h.cons;have U : ∀i j,i < 26->j < 26->pL i w=pL j w->i=j:=λi j hi hj q=>by
  have q2:=congrArg (λz:Str=>z.cps.toList) q
  simp only[AQ _ e hc] at q2;have q3:=(List.cons.inj q2).1;omega
 refine Classical.byContradiction λaa=>?_
 have Y : ∀n,pL n w∈F:=λn=>Classical.byContradiction λq=>aa ⟨n,q⟩
 have Z:((range 26).map λn=>pL n w).Nodup:=by
  refine l9.mpr (List.Pairwise.imp_of_mem (λ{i j} hi hj q e=>q (U i j (x8.mp hi) (x8.mp hj) e)) (List.nodup_range (n:=26)))
 have:=uO (ys:=F) Z λx hx=>by
  obtain⟨n,_,rfl⟩:=e7.mp hx;exact Y n
 simp at this
 omega
theorem CY (a b:Str):eqV (.str a) (.str b)=decide (a=b):=by
 show(a == b)=decide (a=b)
 rw[o_];simp
theorem kS (x:Str) (ys:List Str):inV (.str x) (ys.map V.str)=decide (x∈ys):=by
 rw[o_];simp only[inV,List.any_map,Ke,Function.comp,CY,decide_eq_true_eq]
 constructor
 .rintro⟨y,hy,rfl⟩;exact hy
 .exact λh=>⟨x,h,rfl⟩
theorem lr (ys:List Str):(ys.map V.str).all fE=true:=by
 rw[Kd];intro x z;obtain⟨y,_,rfl⟩:=e7.mp z;rfl
def eC:List Str:=["in","from","to","end"]
structure eO (ws:List Str):Prop where
 nm : ∀w∈ws,cD w
 nd:ws.Nodup
 nomark : ∀w∈ws,w∉eC
theorem eO.nil:eO []:=⟨by simp,by simp,by simp⟩
theorem eO.snoc {w:Str} (h:eO ws) (hw:cD w) (hn:w∉ws) (Y:w∉eC):eO (ws++[w]):=by
 refine⟨λx z=>?_,?_,λx z=>?_⟩
 .rcases j6.mp z with q | q
  .exact h.nm x q
  .rw[g7.mp q];exact hw
 .rw[x_]
  refine⟨h.nd,by simp,λa U b Z=>?_⟩
  rw[g7.mp Z];rintro rfl
  exact hn U
 .rcases j6.mp z with q | q
  .exact h.nomark x q
  .rw[g7.mp q];exact Y
theorem il (x:α) (xs:List α):atI (x :: xs) 0=some x:=aQ (j:=0) rfl
theorem C7 {z:Str} {r:Int} {c:Nat} (hz:cD z) (Z:cU c=true) (r0:0<=r) (r1:r < z.length):cD (JP z none (some r)++(Str.mk #[c])++JP z (some (r+1)) none):=by
 obtain⟨n,rfl⟩:=Jt r0;have hn:n < z.length:=()
 have hl:=jY z;have e:(JP z none (some (n:Int))++(Str.mk #[c])++JP z (some ((n:Int)+1)) none).cps.toList=z.cps.toList.take n++[c]++z.cps.toList.drop (n+1):=by
  rw[jB,jB,lx,lx,HT.sIx_none,HT.sIx_nat,HT.sIx_none,show((n:Int)+1)=((n+1:Nat):Int) by omega,HT.sIx_nat,min_eq_left (),min_eq_left ()]
  rw[drop_zero,Nat.sub_zero,t4 (i:=z.length - (n+1)) (by rw[D_,hl];omega)]
 have h8:=hz.le;have U:(JP z none (some (n:Int))++(Str.mk #[c])++JP z (some ((n:Int)+1)) none).length=z.length:=by
  rw[<- jY,e];simp only[nH,pk,D_,KA,length_nil,hl];omega
 refine⟨(),(),λx Y=>?_⟩
 rw[e] at Y;rcases j6.mp Y with q | q
 .rcases j6.mp q with q | q
  .exact hz.small x (v_ q)
  .rw[g7.mp q];exact Z
 .exact hz.small x (List.mem_of_mem_drop q)
theorem xn (cs:List Nat):(Txt.join (b_ "") (cs.map λc=>Str.mk #[c])).cps.toList=cs:=by
 rw[Al]
 induction cs with
 | nil=>rfl
 | cons c cs z=>simp[z]
theorem Ae (cs:List Nat):((cs.map λc=>Str.mk #[c]).map λx=>x.length).sum=cs.length:=by
 induction cs with
 | nil=>rfl
 | cons c cs z =>
  rw[i_,i_,List.sum_cons,z]
  show 1+cs.length=cs.length+1
  omega
def EU:V->Option Int->Option Int->Hp->VK->Prop:=λx lo hi H Q=>∃a,x = .ref a/\∃xs,H a>>xs/\∀p H',H' p>>(dM xs lo hi)->aj H H'->Q (.ref p) H'
theorem nM:SlR X EU:=IT.imp λ_ _ _ _ _ z=>by obtain⟨a,e,xs,h,q⟩:=z;exact(⟨a,e,xs,h,λhw=>q a _ (by rw[hw];exact h) (aj.refl _),λp U=>q p _ ab (aj.upd0 U)⟩)
def GY:R2:=λx y H Q=>∃l,x = .ref l/\∃b,y = .ref b/\∃xs,H l>>xs/\∃ys,H b>>ys/\xs.length+ys.length<=g0/\∀p H',H' p>>(xs++ys)->aj H H'->Q (.ref p) H'
theorem eh:OpR X (JH .Add) GY:=zX.imp λ_ _ _ _ ⟨l,e,b,e2,xs,h,ys,h2,hl,q⟩=>⟨l,e,b,e2,xs,h,ys,h2,hl,
 λU=>q b _ (by rw[U];exact h2) (aj.refl _),λ_ Y=>q l _ (by rw[Y,J8];exact h) (aj.refl _),λ_ _ p z=>q p _ ab (aj.upd0 z)⟩
theorem iN (f:α->V) (xs:List α) (n:Nat):dM (xs.map f) none (some (n:Int))=(xs.take n).map f:=by
 unfold dM;rw[HT.sIx_none,HT.sIx_nat,drop_zero,Nat.sub_zero,a_,map_take]
 by_cases h:n<=xs.length
 .rw[min_eq_left h]
 .rw[Nat.min_eq_right (),t4 (by simp),t4 (by simp;omega)]
theorem kE (f:α->V) (xs:List α) (n:Nat):dM (xs.map f) (some (n:Int)) none=(xs.drop n).map f:=by
 unfold dM;rw[HT.sIx_none,HT.sIx_nat,a_,map_drop]
 by_cases h:n<=xs.length
 .rw[min_eq_left h,t4 (by simp)]
 .rw[Nat.min_eq_right (),List.drop_of_length_le (l:=J0 f xs) (i:=n) (by simp;omega)]
  simp
theorem IK (x:α) (xs:List α):atI (x :: xs) 0=some x:=aQ (j:=0) rfl
theorem IU (x y:α) (xs:List α):atI (x :: y :: xs) 1=some y:=aQ (j:=1) rfl
theorem IY (x y z:α) (xs:List α):atI (x :: y :: z :: xs) 2=some z:=aQ (j:=2) rfl
theorem IX (x y z a:α) (xs:List α):atI (x :: y :: z :: a :: xs) 3=some a:=aQ (j:=3) rfl
theorem IE (x y z a b:α) (xs:List α):atI (x :: y :: z :: a :: b :: xs) 4=some b:=aQ (j:=4) rfl
theorem Dx {a b:String}:(b_ a=b_ b)=(a=b):=by
 refine propext ⟨λh=>?_,λh=>by rw[h]⟩
 rw[Str.ofString_eq_toList,Str.ofString_eq_toList] at h;have h1:=congrArg (λs:Str=>s.cps.toList) h
 simp only[List.toList_toArray] at h1;have key : ∀(U z:List Char),U.map Char.toNat=z.map Char.toNat->U=z:=by
  intro U
  induction U with
  | nil=>intro z h;cases z with
   | nil=>rfl
   | cons a b=>cases h
  | cons a b Y=>intro z h;cases z with
   | nil=>cases h
   | cons c d =>
    rw[i_,i_,w6] at h;rw[Y d h.2,Char.toNat_inj.mp h.1]
 exact String.toList_injective (key _ _ h1)
theorem PG.imp {g':TG} (h:PG X tg g) (i : ∀v σ H Q,g' v σ H Q->g v σ H Q):PG X tg g':=λpins s σ H v u Q I r q=>h pins s σ H v u Q I r (i _ _ _ _ q)
def xU (n:Nat) (t:TGs):TG:=λv σ H Q=>∃a,v = .ref a/\∃xs,H a>>xs/\xs.length=n/\t xs σ H Q
theorem cH {t:TGs} (Y:X.calm=true) (h:PGs X es t)
  (hn:(KP es X.env).length=n:=by rfl) (U:(KP es X.env).findIdx? (·.1)=none:=by rfl):PG X (.Tuple es k pos) (xU n t) :=
 (Gw Y h hn U).imp λ_ _ _ _ z=>by obtain⟨a,e,xs,h,hl,q⟩:=z;exact(⟨a,xs,e,.of h,hl,q⟩)
theorem cD.lay {w:Str} (h:cD w):y8 (.str w)=true:=by
 show(w.cps.all (· < 0x110000))=true
 rw[Array.all_eq_true_iff_forall_mem];intro c z;have:=h.small c (by simpa using z)
 simp only[cU,mx,decide_eq_true_eq] at this;exact decide_eq_true ()
theorem on : ∀{ws:List Str},(∀w∈ws,cD w)->l_ (ws.map Kz)=true
 | [],_=>rfl
 | w :: ws,h=>by
  rw[i_,l_,(h w (by simp)).lay,on λx z=>h x (by simp[z])]
  rfl
theorem df : ∀(ws:List Str),l8 (ws.map Kz)=0
 | []=>rfl
 | w :: ws=>by
  rw[i_,l8,t3,df ws];rfl
def oE:V->Bool
 | .non=>true
 | .bl _=>true
 | .int _=>true
 | .str _=>true
 | .ref _=>true
 | _=>false
theorem jK {κ:Type} [DecidableEq κ] : ∀{kvs:List (κ × V)} {k:κ} {v:V},(kvs.map (·.1)).Nodup->(k,v)∈kvs->bg kvs k=some v
 | (a,b) :: r,k,v,hn,hm=>by
  rw[i_,w5] at hn;rcases i6.mp hm with e | e
  .cases e
   exact bi rfl
  .have hne : ¬ a=k:=λz=>hn.1 (by subst z;exact e7.mpr ⟨(a,v),e,rfl⟩)
   rw[aS hne];exact jK hn.2 e
def sF:List V->Hp->VK->Prop:=λxs H Q=>∃p,xs=[.ref p]/\∃ns:List Int,H p*>(ns.map V.int)/\ns.length < 64/\∀(q:Addr) (ms:List Int),H q=none->ms.Perm ns->ms.Pairwise (·<=·)->Q (.ref q) (upd H q (.lst (ms.map V.int)))
theorem me:bH X (.builtin "sorted") sF:=by
 intro pins s σ H xs us Q I r h;obtain⟨p,rfl,ns,hp,hl,q⟩:=h;obtain⟨u,rfl,ru⟩:=cK r;cases ru;obtain⟨its,rv,pl,hz⟩:=I.list (SqL.of hp);have U:=rv.length;rw[a_] at U;refine sorted_ints pl.isList (dk rv) () λout ms Z z Y=>?_
 obtain⟨e,he⟩:=sortedAll_at s.heap its out;have aa:out=out.toList.toArray:=by simp
 refine⟨.ref (s.heap.objs.size+1),_,I.laid (a:=s.heap.objs.size+1) (o:=.lst (ms.map V.int)) (t':=s.toks) (λb o e=>sortedAll_old e) (Ks _) ⟨?_,out.toList,e,gm Z,?_⟩,rfl,q _ ms (I.hok.fresh (Ks _)) z Y⟩
 .rw[a_,z.length_eq];exact ot (au ())
 .rw[he]
def tN:RM:=λp vs H Q=>∃i,vs=[.int i]/\∃xs,H p*>xs/\0<=i/\i < xs.length/\xs.length<=1000/\∀y,xs[i.toNat]? = some y->Q y (upd H p (.lst (xs.eraseIdx i.toNat)))
theorem uQ:MtL X "list.pop" tN:=λpins s σ H x vs v us Q I U Y ⟨p,e,i,e2,xs,h,i0,i1,hl,q⟩=>by
 have z:i.toNat < xs.length:=()
 exact BL pins s σ H x vs v us Q I U Y ⟨p,xs,i,i.toNat,xs[i.toNat],e,e2,h,(),(),seqIndex_of i0 i1,by simp[z],q _ (by simp[z])⟩
def qN (mg:Str->Option Value) (x:Str):Addr:=match mg x with | some (.ref a)=>a | _=>0
theorem A9 {C:Addr} (h:mg x=-C):qN mg x=C:=by unfold qN;rw[h]
def Go (z:ScopeKind) (A xs:List (Str × Is)):List (Str × Is):=xs.map λ(n,k)=>if (k == .free && z == .function && A.lookup n == some .cell) then(n,.cell) else(n,k)
section
variable {l:Expr}
theorem qV (K:ge) (hl:PE X l tl) (hK:X.K=K:=by exact rfl):PI X tg l (iL K tl):=by subst hK;exact Ir hl
theorem bR (K:ge) (hl:PE X l tl) (hK:X.K=K:=by exact rfl):PI X tg l (iT K tl):=by subst hK;exact IB hl
def Az:List V->Hp->VK->Prop:=λxs H Q=>∃p,xs=[.ref p]/\∃bs:List Bool,H p*>(bs.map V.bl)/\Q (.bl (bs.all id)) H
def Aa:List V->Hp->VK->Prop:=λxs H Q=>∃p,xs=[.ref p]/\∃bs:List Bool,H p*>(bs.map V.bl)/\Q (.bl (bs.any id)) H
theorem zw (U:X.calm=true):bH X (.builtin "all") Az:=(xk U).imp λ_ _ _ z=>by obtain⟨p,e,bs,h,q⟩:=z;exact(⟨p,bs,e,.of h,q⟩)
theorem qR (U:X.calm=true):bH X (.builtin "any") Aa:=(xD U).imp λ_ _ _ z=>by obtain⟨p,e,bs,h,q⟩:=z;exact(⟨p,bs,e,.of h,q⟩)
end
theorem tz (w:Wlk J xs C) {tc:TT} {te:TE} {σ0:St} {Q:VK} {H1:Hp} {D:Addr} (p:V->Bool) (f:V->V) (hD:H1 D=none) (hC : ∀H',aj H1 H'->C H') (hn:xs.length<=1000)
  (hc : ∀(x:V) (H2:Hp) (Y:Bool->Hp->Prop),x∈xs->aj H1 H2->(∀z,aj H2 z->Y (p x) z)->tc (σ0.set 0 (some x)) H2 Y)
  (he : ∀(x:V) (H2:Hp) (Y:VK),x∈xs->p x=true->aj H1 H2->(∀z,aj H2 z->Y (f x) z)->te (σ0.set 0 (some x)) H2 Y)
  (Z : ∀H2,aj H1 H2->H2 D*>((xs.filter p).map f)->Q (.ref D) H2):kB J σ0 (fh 0) tc te Q H1 D:=by
 refine bL w (λi ys H=>ys=((xs.take i).filter p).map f/\i<=xs.length/\aj H1 H/\H D*>ys) ⟨by simp,r_ _,aj.upd0 hD,ab⟩ (λi ys H h=>hC _ h.2.2.1) ?_ ?_
 .rintro i x ys H hi hx ⟨rfl,hle,sm,Z⟩
  refine hc x H _ (i4 hx) sm λz U=>?_
  have aa:((xs.take i).filter p).length<=xs.length:=le_trans (t_ _ _) (by simp;omega)
  cases hp:p x with
  | true =>
   simp only[if_true];refine he x z _ (i4 hx) hp (sm.trans U) λH4 s4=>⟨s4 _ _ (U _ _ Z),by simp;exact au (),?_,hi,?_,ab⟩
   .rw[i8,hx];simp[hp]
   .exact λb o e=>by rw[ai (ap e hD)];exact s4 _ _ (U _ _ (sm b o e))
  | false =>
   simp only[m_,if_false];exact⟨by rw[i8,hx];simp[hp],hi,sm.trans U,U _ _ Z⟩
 .rintro ys H ⟨rfl,_,sm,hd'⟩
  rw[k9] at hd';exact Z H sm hd'
theorem dr (w:Wlk J xs C) {te:TE} {σ0:St} {Q:VK} {H1:Hp} {D:Addr} (f:V->V) (hD:H1 D=none) (hC : ∀H',aj H1 H'->C H') (hn:xs.length<=10000)
  (he : ∀(x:V) (H2:Hp) (Z:VK),x∈xs->aj H1 H2->(∀U,aj H2 U->Z (f x) U)->te (σ0.set 0 (some x)) H2 Z)
  (z : ∀H2,aj H1 H2->H2 D*>(xs.map f)->Q (.ref D) H2):kB J σ0 (fh 0) uB te Q H1 D:=by
 refine bL w (λi ys H=>ys=(xs.take i).map f/\i<=xs.length/\aj H1 H/\H D*>ys) ⟨by simp,r_ _,aj.upd0 hD,ab⟩ (λi ys H h=>hC _ h.2.2.1) ?_ ?_
 .rintro i x ys H hi hx ⟨rfl,hle,sm,z⟩
  simp only[fh,uB,if_true];refine he x H _ (i4 hx) sm λH4 Y=>⟨Y _ _ z,by simp;exact Nat.lt_of_le_of_lt (le_trans (Nat.min_le_right _ _) hn) ∅,?_,hi,?_,ab⟩
  .rw[i8,hx];simp
  .exact λb o e=>by rw[ai (ap e hD)];exact Y _ _ (sm b o e)
 .rintro ys H ⟨rfl,_,sm,hd'⟩
  rw[k9] at hd';exact z H sm hd'
theorem Dy (a b:Int):eqV (.int a) (.int b)=decide (a=b):=by
 show(a == b)=decide (a=b)
 rw[o_];simp
theorem AC (x:Int) (ys:List Int):inV (.int x) (ys.map V.int)=decide (x∈ys):=by
 rw[o_];simp only[inV,List.any_map,Ke,Function.comp,Dy,decide_eq_true_eq]
 constructor
 .rintro⟨y,hy,rfl⟩;exact hy
 .exact λh=>⟨x,h,rfl⟩
theorem zI (ys:List Int):(ys.map V.int).all fE=true:=by
 rw[Kd];intro x z;obtain⟨y,_,rfl⟩:=e7.mp z;rfl
theorem pI {α:Type} : ∀{l:List α} {n:Nat} (h:n < l.length),(l[n] :: l.eraseIdx n).Perm l
 | a :: l,0,h=>by simp
 | a :: l,n+1,h=>by
  have h':n < l.length:=by simpa using h
  have:=pI h'
  simp only[List.getElem_cons_succ,List.eraseIdx_cons_succ];exact(List.Perm.swap _ _ _).trans (List.Perm.cons a this)
section
def Gr (ty td:TE):TE:=λσ H Q=>ty σ H λy H1=>td σ H1 λx H2=>∃a,x = .ref a/\∃k,y=kV k/\∃kvs,H2 a<*kvs/\Q (.bl (!(bg kvs k).isSome)) H2
variable {o i:Expr}
theorem yH (U:X.A.units+1 < cLine) (hi:PE X i ty) (ho:PE X o td):PC X .In i o (tDI ty td):=by
 intro pins s σ H Q I h;refine thn (hi pins s σ H _ I h) λiv s1 ⟨y,H1,I1,ry,q1⟩=>thn (ho pins s1 σ H1 _ I1 q1) λu s2 z=>?_
 obtain⟨x,H2,I2,rx,a,ex,k,Y,kvs,hd,q2⟩:=z;subst ex;subst Y;obtain rfl:u=m8 a:=rx
 have g:qh H2 a (kV k) (bg kvs k):=.inl ⟨kvs,k,.inl hd,rfl,rfl⟩
 exact IC U I2 g ry λs3 Z=>⟨.bl (bg kvs k).isSome,H2,Z,rfl,q2⟩
theorem oh (U:X.A.units+1 < cLine) (hi:PE X i ty) (ho:PE X o td):PC X .NotIn i o (Gr ty td):=by
 intro pins s σ H Q I h;refine thn (hi pins s σ H _ I h) λiv s1 ⟨y,H1,I1,ry,q1⟩=>thn (ho pins s1 σ H1 _ I1 q1) λu s2 z=>?_
 obtain⟨x,H2,I2,rx,a,ex,k,Y,kvs,hd,q2⟩:=z;subst ex;subst Y;obtain rfl:u=m8 a:=rx
 have g:qh H2 a (kV k) (bg kvs k):=.inl ⟨kvs,k,.inl hd,rfl,rfl⟩
 exact CN U I2 g ry λs3 Z=>⟨.bl (!(bg kvs k).isSome),H2,Z,rfl,q2⟩
end
theorem Inv.retag (I:Inv X pins σ H s) (Y:H a=some u0) (n1 : ∀y,u0≠.own y) (n2 : ∀xs,u0≠.tup xs) (n3 : ∀ob u,X.H₀ a≠some (.frz ob u)) (n4 : ∀ps,u0≠.tbl ps)
  (ok:bf X.prog X.w H s.heap a o') (n5 : ∀ob y,u0≠.frz ob (.own y):=by intro _ _ z;cases z):Inv X pins σ (upd H a o') s:=by
 have U : ∀b,H b=none->b≠a:=λb n z=>by subst z;rw[Y] at n;cases n
 have ho : ∀b y,H b=some (.own y)->upd H a o' b=some (.own y):=λb y e=>by
  rw[ai (λz=>by subst z;rw[Y] at e;exact n1 y (f_ e))];exact e
 have Z : ∀b xs,H b>>xs->upd H a o' b>>xs:=λb xs e=>by
  rw[ai (λz=>by subst z;rw[Y] at e;exact n2 xs (f_ e))];exact e
 have hz : ∀b ob y,H b=some (.frz ob (.own y))->upd H a o' b=some (.frz ob (.own y)):=λb ob y e=>by
  rw[ai (λz=>by subst z;rw[Y] at e;exact n5 ob y (f_ e))];exact e
 refine⟨I.ok,I.os,I.bare,⟨I.base.keep,I.base.slot,λb o q n hx=>?_,I.base.there,λb xs q=>Z b xs (I.base.tups b xs q),λb ob u q=>?_,λb ps q=>?_⟩,I.loc,I.cell,?_,λx c e=>?_,λp hp=>?_,λb u e=>?_,I.len⟩
 .have:=I.base.free b o q n hx
  rw[ai (U b this)];exact this
 .rw[ai (λz=>by subst z;exact n3 ob u q)];exact I.base.frzs b ob u q
 .obtain⟨more,e⟩:=I.base.tbls b ps q
  exact⟨more,by rw[ai (λz=>by subst z;rw[Y] at e;exact n4 _ (f_ e))];exact e⟩
 .rw[ai (U _ I.free)];exact I.free
 .have:=I.freeC x c e
  rw[ai (U c this)];exact this
 .obtain⟨p1,p2,p3⟩:=I.pin p hp
  exact⟨p1,by rw[ai (U _ p2)];exact p2,p3⟩
 .by_cases hb:b=a
  .subst hb
   rw[ab] at e;cases e;exact ok.stay (λ_ _ _ q=>q) (λc q=>ho c _ q) Z hz
  .rw[ai hb] at e
   exact(I.hok b u e).stay (λ_ _ _ q=>q) (λc q=>ho c _ q) Z hz
def Itd (a:Addr) (o:Obj) (kvs:List (Key × V)):It :=
 ⟨λi H=>H a=some (.frz o (.dK kvs))/\i < kvs.length,λi H x H'=>H'=H/\∃k v,kvs[i]? = some (k,v)/\x=kV k,λi H=>H a=some (.frz o (.dK kvs))/\kvs.length<=i⟩
theorem KV.get {vs:List (Key × Value)} (r:KV kvs vs) : ∀{i:Nat} {k:Key} {v:V},kvs[i]? = some (k,v)->∃u,vs[i]? = some (k,u)/\be v u:=by
 unfold KV at r
 induction r with
 | nil=>intro i k v h;simp at h
 | @cons p q ps qs h _ ih =>
  intro i k v e;cases i with
  | zero =>
   simp at e
   subst e;obtain⟨z,u⟩:=q;obtain⟨h1,h2⟩:=h;dsimp only at h1 h2;subst h1;exact⟨u,by simp,h2⟩
  | succ i =>
   simp at e
   obtain⟨u,h1,h2⟩:=ih e;exact⟨u,by simpa using h1,h2⟩
theorem tF {k:Key} {key:Value} (h:(aY P w).is k key=true):be (kV k) key:=by
 rcases bE (k:=k) (v:=key) h with⟨i,t,rfl,rfl⟩ | ⟨x,t,rfl,rfl⟩
 .exact⟨t,rfl⟩
 .exact⟨t,rfl⟩
theorem C4 (a it:Addr) (o:Obj) (kvs:List (Key × V)) (ep:Nat) (ag : ∃es,o.data = .dict es ep):vy P w K tg (Itd a o kvs) [it] it (λi h=>h.IsKeyIter it a i kvs.length ep) where
 mem:=by simp
 obj:=λi h st b hb=>by
  have e:b=it:=by simpa using hb
  subst e;obtain⟨ob,e,c,d⟩:=st;exact⟨ob,e,λv z=>by rw[d] at z;cases z⟩
 keep:=λi h h' st k=>st.at λob e=>k it (by simp) ob e
 item:=by
  intro X hP hw hK hc i pins s σ H E I hf st hg;subst hP hw hK;obtain⟨ha,hi⟩:=hg;obtain⟨ho,hz,hd,vs,aa,od,es,Z,Y,hr⟩:=(show s.heap.get? a=some o/\bf X.prog X.w H s.heap a (.dK kvs) from I.hok a _ ha)
  rw[ho] at Y;cases Y;obtain⟨ai,ae⟩:=ag;have af:Z=ep:=by
   have:=hr.2.1
   rw[ae] at this;cases this;rfl
  subst af;have U:=aa.length;obtain⟨k,v,ah⟩ : ∃k v,kvs[i]? = some (k,v):=⟨kvs[i].1,kvs[i].2,by simp[hi]⟩
  obtain⟨u,hu,ru⟩:=aa.get ah;obtain⟨f0,f1,f2,f3,f4,f5⟩:=hf it (by simp)
  have ac:s.heap.IsKeyIter it a i vs.length Z:=by rw[<- U];exact st
  refine wpAny_pyNext_dict_item (knd:=aY X.prog X.w) (v:=u) ac ⟨o,es,ho,hr⟩ hu λkey h' hk ad sb=>?_
  have I1:Inv X pins σ H { s with heap:=h' }:=I.turned (t':=s.toks) (λb ob hb e=>(sb.2 b hb).trans e) f0 f1 f3 f4 f5
  rw[<- U] at ad;obtain⟨ob,e,c,d⟩:=id ad;exact⟨key,rfl,yf (s:={ s with heap:=h' }) e c d ∅ ⟨kV k,H,I1,tF hk,⟨rfl,k,v,ah,rfl⟩,ad,λb hb=>(hf b hb).1⟩⟩
 done:=by
  intro X hP hw hK hc i pins s σ H E I hf st hg;subst hP hw hK;obtain⟨ha,hi⟩:=hg;obtain⟨ho,hz,hd,vs,aa,od,es,Z,Y,hr⟩:=(show s.heap.get? a=some o/\bf X.prog X.w H s.heap a (.dK kvs) from I.hok a _ ha)
  rw[ho] at Y;cases Y;obtain⟨ai,ae⟩:=ag;have af:Z=ep:=by
   have:=hr.2.1
   rw[ae] at this;cases this;rfl
  subst af;have U:=aa.length;obtain⟨f0,f1,f2,f3,f4,f5⟩:=hf it (by simp)
  have ac:s.heap.IsKeyIter it a i vs.length Z:=by rw[<- U];exact st
  exact wpAny_pyNext_dict_end (knd:=aY X.prog X.w) (I.ok.hd hc) ac ⟨o,es,ho,hr⟩ (List.getElem?_eq_none_iff.mpr ()) λh' eb=>⟨rfl,I.turned (t':=s.toks) (λb ob hb e=>eb b ob hb e) f0 f1 f3 f4 f5⟩
 self:=λ_ _ _ _ _ st h=>wpAny_pyIter_keyiter st h
theorem wL {o:Obj}:Wlk (Itd a o kvs) (kvs.map λx=>kV x.1) (λH=>H a=some (.frz o (.dK kvs))) :=
 ⟨λi H h hi=>⟨h,by simpa using hi⟩,λi H x H' h _ y=>by
  obtain⟨e,k,v,z,rfl⟩:=y;exact⟨by rw[e9,z];rfl,e⟩,λi H h hi=>⟨h,by simpa using hi⟩⟩
def iD (tl:TE):TI:=λσ H R=>tl σ H λx H1=>∃a,x = .ref a/\∃kvs,H1 a<*kvs/\∀o,R (Itd a o kvs) (upd H1 a (.frz o (.dK kvs)))
theorem GM {l:Expr} (hl:PE X l tl):PI X tg l (iD tl):=by
 intro pins s σ H R I h;refine thn (hl pins s σ H _ I h) λv Z Y=>?_
 obtain⟨x,H1,I1,r1,a,e,kvs,hq,q⟩:=Y;subst e;cases r1;obtain⟨hz,hd,vs,ae,od,es,ep,aa,hr⟩:=oZ I1.hok hq;refine wpAny_pyIter_dict (knd:=aY X.prog X.w) hd ⟨od,es,aa,hr⟩ ?_
 have hn : ∀ob u,X.H₀ a≠some (.frz ob u):=λob u e=>by have:=I1.base.frzs a ob u e;rw[hq] at this;cases this
 have I2:Inv X pins σ H1 { Z with heap:=Z.heap.push { cls:=.type "dict_keyiterator",data:=.fields #[.ref a,.int 0 0,.int vs.length 0,.int ep 0] } }:=I1.kept (t':=Z.toks) λb o e=>d_ _ e
 have ad:=I2.hok a _ hq;have I3:=I2.retag (o':=.frz od (.dK kvs)) hq (by intro y z;cases z) (by intro y z;cases z) hn (by intro y z;cases z) ⟨d_ _ aa,ad⟩
 have ac:=ae.length;refine⟨Z.heap.objs.size,[Z.heap.objs.size],_,_,_,rfl,I3,C4 a _ od kvs ep ⟨es,hr.2.1⟩,⟨_,g9 _ rfl,rfl,by rw[ac];rfl⟩,λb hb=>?_,q od⟩
 have e:b=Z.heap.objs.size:=by simpa using hb
 subst e;have U:H1 Z.heap.objs.size=none:=I1.hok.fresh (j5 _)
 obtain⟨f0,f1,f2,f3,f4,f5⟩:=I1.fpOk (j5 _) U;exact⟨by rw[ai (λz=>by rw[z,hq] at U;cases U)];exact U,f1,f2,f3,f4,f5⟩
def HX (a:Addr) (kvs:List (Key × V)) (D:mH):mH where
 nx:=λσ H=>(∃o,H a=some (.frz o (.dK kvs)))/\D.nx σ (upd H a (.dK kvs))
 rt:=λv H=>(∃o,H a=some (.frz o (.dK kvs)))/\D.rt v (upd H a (.dK kvs))
 bk:=λσ H=>(∃o,H a=some (.frz o (.dK kvs)))/\D.bk σ (upd H a (.dK kvs))
 ct:=λσ H=>(∃o,H a=some (.frz o (.dK kvs)))/\D.ct σ (upd H a (.dK kvs))
def Ad (t:TS):TS:=λD σ H=>∃a kvs,H a<*kvs/\t (HX a kvs D) σ H
theorem yV {t:TS} (h:PS X st t):PS X st (Ad t):=by
 intro pins s σ H D I ⟨a,kvs,ha,ht⟩;have hn : ∀ob u,X.H₀ a≠some (.frz ob u):=λob u e=>by have:=I.base.frzs a ob u e;rw[ha] at this;cases this
 have U : ∀{σ' H' s'},Inv X pins σ' H' s'->(∃o,H' a=some (.frz o (.dK kvs)))->Inv X pins σ' (upd H' a (.dK kvs)) s':=λ{σ' H' s'} Y ⟨o,e⟩ =>
  Y.retag e (by intro y z;cases z) (by intro y z;cases z) hn (by intro y z;cases z) (show s'.heap.get? a=some o/\bf X.prog X.w H' s'.heap a (.dK kvs) from Y.hok a _ e).2
 refine thn (h pins s σ H _ I ht) λf s' Z=>?_
 cases f with
 | next=>obtain⟨σ',H',Y,e,q⟩:=Z;exact⟨σ',_,U Y e,q⟩
 | brk=>obtain⟨σ',H',Y,e,q⟩:=Z;exact⟨σ',_,U Y e,q⟩
 | cont=>obtain⟨σ',H',Y,e,q⟩:=Z;exact⟨σ',_,U Y e,q⟩
 | ret u=>obtain⟨v,σ',H',Y,r,e,q⟩:=Z;exact⟨v,σ',_,U Y e,r,q⟩
end L2
namespace PySem
open Sem (wp)
theorem GR {J T:Addr} {vs:Array Value} (a:s.heap.IsTupleIter J T i) (b:s.heap.IsTuple T vs) (c:vs[i]? = some v)
  (k : ∀g,g.IsTupleIter J T (i+1)->K5 J s.heap g->Q v { s with heap:=g }):wpAny (model prog w) A (Kc (.ref J)) Q E s:=by
 obtain⟨oJ,U,a2,z⟩:=id a;obtain⟨oT,Z,_,bn,Y⟩:=b;unfold Kc;refine c_ (Ko (name:=b_ "__next__") a.typeIs J1 (y4 J1 a.typeIs F.entry_tuple_iterator_next ?_ (F.args_tuple_iterator_next_1 _)))
 change wpAny _ _ (field (.ref J) 0 >>= _) _ _ s;refine c_ (K0 U z (x:=.ref T) rfl ?_)
 change wpAny _ _ (if (m8 T == o9)=true then _ else _) _ _ s;rw[if_neg (show ¬ ((m8 T == o9)=true) from i5)]
 change wpAny _ _ (field (.ref J) 1 >>= _) _ _ s;refine c_ (K0 U z (x:=.int i 0) rfl ?_)
 change wpAny _ _ (seqItems? (.ref T) >>= _) _ _ s;refine c_ (wpAny_seqItems Z Y ?_)
 simp only[Int.toNat_natCast,c];refine c_ (wpAny_setField U z (by simp) (fy ⟨v,rfl,fy (k _ ⟨_,Heap.get?_update_self _ U (Obj.isFreed_of_fields (Obj.data_mapFields z _)),(Obj.cls_mapFields ..).trans a2,?_⟩ (Heap.SameBut.update ..))⟩))
 rw[Obj.data_mapFields z];simp[rawInt]
theorem ww {J T:Addr} {vs:Array Value} (Y:A.handled=none) (a:s.heap.IsTupleIter J T i) (b:s.heap.IsTuple T vs) (c:vs[i]? = none)
  (k : ∀g e,Heap.ExtBut J s.heap g->(∃o,g.get? e=some o/\o.cls = .type "StopIteration")->E (.ref e) { s with heap:=g }):wpAny (model prog w) A (Kc (.ref J)) Q E s:=by
 obtain⟨oJ,z,a2,U⟩:=id a;obtain⟨oT,b1,_,bn,Z⟩:=b;unfold Kc;refine c_ (Ko (name:=b_ "__next__") a.typeIs J1 (y4 J1 a.typeIs F.entry_tuple_iterator_next ?_ (F.args_tuple_iterator_next_1 _)))
 change wpAny _ _ (field (.ref J) 0 >>= _) _ _ s;refine c_ (K0 z U (x:=.ref T) rfl ?_)
 change wpAny _ _ (if (m8 T == o9)=true then _ else _) _ _ s;rw[if_neg (show ¬ ((m8 T == o9)=true) from i5)]
 change wpAny _ _ (field (.ref J) 1 >>= _) _ _ s;refine c_ (K0 z U (x:=.int i 0) rfl ?_)
 change wpAny _ _ (seqItems? (.ref T) >>= _) _ _ s;refine c_ (wpAny_seqItems b1 Z ?_)
 simp only[Int.toNat_natCast,c];refine c_ (wpAny_rule (c_ (wpAny_setField z U (by simp) ?_)))
 change wpAny _ _ (newExc (.type "StopIteration") [] >>= _) _ _ _;refine c_ (by
  simp only[newExc,newTuple];refine c_ (Gt ?_ (by size_fits))
  refine c_ (m:=firstArgMember _ _) (wpAny_of_eq (a:=o9) (by first | rfl | (simp only[firstArgMember];rfl)) ?_)
  refine Gt ?_ (by size_fits)
  (simp only[raiseNew];refine c_ (wpAny_handled ?_))
  first | rw[show A.in1.handled=none from Y] | rw[Y]
  refine c_ (fy (wpAny_throw (k _ _ (((Heap.SameBut.update ..).extBut.push _).push _) ⟨_,g9 _ rfl,rfl⟩))))
end PySem
namespace L2
open PySem PySem.Spec PyProof.Rows
theorem Inv.turnedL {g:Heap} (I:Inv X pins σ H s) (k : ∀b o,b∉fp->s.heap.get? b=some o->g.get? b=some o) (Y : ∀b∈fp,pK X pins H b):Inv X pins σ H { s with heap:=g,toks:=t' }:=by
 have Z : ∀b u,H b=some u->b∉fp:=λb u e z=>by rw[(Y b z).1] at e;cases e
 refine I.step (g':=s.gens) (d':=s.drawn) (ch:=fp) (λb hb=>⟨(Y b hb).2.2.2.1,(Y b hb).2.1,(Y b hb).2.2.2.2.1,(Y b hb).2.2.2.2.2⟩) (λb o _ _ U e _=>k b o U e) (λb o _ _ U e _=>⟨o.slots,k b o U e⟩) (λ_ _ _ _ n=>n)
  (λb o U e=>⟨o,k b o U e⟩) (λ_ _ e=>e) (λ_ _ _ e=>e) (λb ps e=>⟨#[],by rw[e];simp⟩) (λm hm=>?_) (λb u e=>?_) I.bare
 .obtain⟨o,es,ep,ho,r⟩:=hm
  exact⟨o,es,ep,k _ o (λz=>(Y _ z).2.1 rfl) ho,r⟩
 .refine(I.hok b u e).stay (λc v U q=>k c v ?_ q) (λ_ q=>q) λ_ _ q=>q
  rcases U with z | z
  .rw[z];exact Z b u e
  .exact Z c _ z
theorem Inv.turnedNew {g:Heap} (I:Inv X pins σ H s) (k : ∀b o,b∉fp->s.heap.get? b=some o->g.get? b=some o) (hf : ∀b∈fp,pK X pins H b) (ha:s.heap.objs.size<=a)
  (ok:bf X.prog X.w (upd H a u0) g a u0):Inv X pins σ (upd H a u0) { s with heap:=g,toks:=t' }:=by
 have aa : ∀b u,H b=some u->b∉fp:=λb u e z=>by rw[(hf b z).1] at e;cases e
 have na : ∀b o,s.heap.get? b=some o->b≠a:=λb o e z=>by rw[z] at e;exact absurd (l4 (gs e) ha) (JR _)
 have hn:H a=none:=I.hok.fresh ha
 have Z : ∀b u,H b=some u->b≠a:=λb u e z=>by rw[z,hn] at e;cases e
 refine I.step (g':=s.gens) (d':=s.drawn) (ch:=fp) (λb U=>⟨(hf b U).2.2.2.1,(hf b U).2.1,(hf b U).2.2.2.2.1,(hf b U).2.2.2.2.2⟩) (λb o _ _ Y e _=>k b o Y e) (λb o _ _ Y e _=>⟨o.slots,k b o Y e⟩) (λb o _ e n=>by rw[ai (na b o e)];exact n)
  (λb o Y e=>⟨o,k b o Y e⟩) (λb xs e=>by rw[ai (Z b _ e)];exact e) (λb o u e=>by rw[ai (Z b _ e)];exact e) (λb ps e=>⟨#[],by rw[ai (Z b _ e),e];simp⟩) (λm hm=>?_) (λb u e=>?_) I.bare
 .obtain⟨o,es,ep,ho,r⟩:=hm
  exact⟨o,es,ep,k _ o (λz=>(hf _ z).2.1 rfl) ho,r⟩
 .by_cases U:b=a
  .subst U
   rw[ab] at e;cases e;exact ok
  .rw[ai U] at e
   refine(I.hok b u e).stay (λc v Y q=>k c v ?_ q) (λc q=>by rw[ai (Z c _ q)];exact q) (λc xs q=>by rw[ai (Z c _ q)];exact q) λc _ _ q=>by rw[ai (Z c _ q)];exact q
   rcases Y with z | z
   .rw[z];exact aa b u e
   .exact aa c _ z
section
variable {e2:Expr} {p:Pos} {x1:Nat}
theorem dj (hi:i < nt:=by decide) (hj:j < nt:=by decide) (z:i≠j:=by decide):Af (xU n (vE (fh i) (vE (fh j) C1))) nt:=by
 intro x σ0 H Q h q;obtain⟨a,e,xs,sq,l,v,r,e2,U,r',Z,Y,q⟩:=q;refine⟨a,e,xs,sq,l,v,r,e2,U,r',Z,Y,(Wk.set (h i hi)).trans (Wk.set ?_),q⟩
 rw[KO z];exact h j hj
end
end L2
namespace PyProof.Rows
open PySem PySem.Spec
theorem mq {Q:List Value->Shared->Prop} (Z:s.heap.IsTuple t us.toArray) (hn:us.length<=1000)
  (k:Q us { s with heap:=(s.heap.push (n9 "list" #[] 0)).update s.heap.objs.size (o6 (· ++ us.toArray)) }):wpAny (model prog w) A (collect (.ref t)) Q E s:=by
 obtain⟨U,h1,h2,n,Y⟩:=id Z;unfold collect;refine c_ (wpAny_runValue (H_ entry_proto_collect' ?_))
 change wpAny _ _ (do again (.builtin "list.__iadd__" ⟨[<- newList [],.ref t],[]⟩)) _ _ s;refine c_ (Ku (fy ⟨Code.quiet_builtin _ (by decide+kernel),H_ entry_list_iadd' ?_⟩))
 change wpAny _ _ (u_ (.ref s.heap.objs.size) (.ref t) (.ref s.heap.objs.size)) _ _ { s with heap:=s.heap.push (n9 "list" #[] 0) }
 unfold u_;have z:(s.heap.push (n9 "list" #[] 0)).get? t=some U:=d_ _ h1
 refine c_ (KH (T := "tuple") ⟨U,z,h2⟩ ?_)
 have q1:(KN "tuple" == KN "tuple")=true:=by rfl
 rw[if_pos (by rw[q1];simp)]
 refine c_ (listItems_at z Y (c_ (listItems_at (xs := #[]) (n:=0) (g9 _ rfl) rfl ?_)))
 rw[if_neg (by simp)]
 have hz:us.length<=g0:=le_trans hn ∅
 refine c_ (J2 (xs := #[]) (n:=0) (g9 _ rfl) rfl (fy ?_) (r_ _) (by show(#[]++us.toArray).size<=g0+1;simp only[size_append,g_,length_nil];omega))
 refine c_ (m:=load s.heap.objs.size) (wpAny_load (K3 (g9 _ rfl) _) ?_)
 change wpAny _ _ (pure ((#[]:Array Value)++us.toArray).toList) Q E _;rw[show((#[]:Array Value)++us.toArray).toList=us by simp]
 exact fy k
theorem sE (Y:s.heap.IsTuple t us.toArray) (hi:E_ us ns) (hl:us.length < 64)
  (k : ∀(out:Array Value) (ms:List Int),E_ out.toList ms->ms.Perm ns->ms.Pairwise (·<=·)->Q (.ref (s.heap.objs.size+1)) { s with heap:=sortedAll s.heap us out }) :
  wpAny (model prog w) A (call (.builtin "sorted") [.ref t]) Q E s:=by
 refine Calls.call_function_entry kind_sorted plain_sorted entry_sorted (args_sorted1 _) ?_
 unfold Builtin.«sorted»;refine c_ (m:=checkCount "sorted" 1 1 _) (fy (c_ (mq Y () (c_ (Ku ?_)))))
 have U:((s.heap.push (n9 "list" #[] 0)).update s.heap.objs.size (o6 (· ++ us.toArray))).objs.size=s.heap.objs.size+1:=by rw[JB,size_push']
 have z:(((s.heap.push (n9 "list" #[] 0)).update s.heap.objs.size (o6 (· ++ us.toArray))).push (n9 "list" us.toArray 0)).get? (s.heap.objs.size+1)=some (n9 "list" us.toArray 0):=by rw[<- U];exact g9 _ rfl
 change wpAny _ _ _ _ _ { s with heap:=((s.heap.push (n9 "list" #[] 0)).update s.heap.objs.size (o6 (· ++ us.toArray))).push (n9 "list" us.toArray 0) }
 rw[U];refine c_ (C_ (y4 slot_list_sort ⟨_,z,rfl⟩ entry_list_sort (list_sort_tree z hi hl λout ms Z a2 a3=>⟨_,rfl,fy ⟨_,rfl,k out ms Z a2 a3⟩⟩) (args_list_sort _)))
end PyProof.Rows
namespace L2
open PySem PySem.Spec PyProof.Rows
def nC:List V->Hp->VK->Prop:=λxs H Q=>∃p,xs=[.ref p]/\∃ns:List Int,H p>>(ns.map V.int)/\ns.length < 64/\∀(q:Addr) (ms:List Int),H q=none->ms.Perm ns->ms.Pairwise (·<=·)->Q (.ref q) (upd H q (.lst (ms.map V.int)))
theorem gJ:bH X (.builtin "sorted") nC:=by
 intro pins s σ H xs us Q I r h;obtain⟨p,rfl,ns,hp,hl,q⟩:=h;obtain⟨u,rfl,ru⟩:=cK r;cases ru;obtain⟨its,rv,pl,hz⟩:=I.tuple (SqT.of hp);have U:=rv.length;rw[a_] at U;refine sE (show s.heap.IsTuple p its.toArray from pl) (dk rv) () λout ms Z z Y=>?_
 obtain⟨e,he⟩:=sortedAll_at s.heap its out;have aa:out=out.toList.toArray:=by simp
 refine⟨.ref (s.heap.objs.size+1),_,I.laid (a:=s.heap.objs.size+1) (o:=.lst (ms.map V.int)) (t':=s.toks) (λb o e=>sortedAll_old e) (Ks _) ⟨?_,out.toList,e,gm Z,by rw[he]⟩,rfl,q _ ms (I.hok.fresh (Ks _)) z Y⟩
 rw[a_,z.length_eq];exact ot (au ())
def Aw:List V->Hp->VK->Prop:=λxs H Q=>∃p,xs=[.ref p]/\∃ns:List Int,H p*>(ns.map V.int)/\ns≠[]/\∀m,m∈ns->(∀x∈ns,m<=x)->Q (.int m) H
def Bi:List V->Hp->VK->Prop:=λxs H Q=>∃p,xs=[.ref p]/\∃ns:List Int,H p*>(ns.map V.int)/\ns≠[]/\∀m,m∈ns->(∀x∈ns,x<=m)->Q (.int m) H
theorem Cl {xs:Array (Int × Tok)} (z:ns=xs.toList.map (·.1)) (Z:0 < xs.size):numAt xs (argBest (λi j=>decide (numAt xs i < numAt xs j)) (xs.size - 1))∈ns/\∀a∈ns,numAt xs (argBest (λi j=>decide (numAt xs i < numAt xs j)) (xs.size - 1))<=a:=by
 obtain⟨h1,h2⟩:=argBest_lt (numAt xs) (xs.size - 1);refine⟨?_,λa U=>?_⟩
 .rw[z,numAt_eq];exact PySem.getD_mem (by rw[a_,w9];omega)
 .rw[z] at U
  obtain⟨j,Y,rfl⟩:=mem_getD U;rw[a_,w9] at Y;rw[<- numAt_eq];exact h2 j ()
theorem Cq {xs:Array (Int × Tok)} (z:ns=xs.toList.map (·.1)) (Z:0 < xs.size):numAt xs (argBest (λi j=>decide (numAt xs i > numAt xs j)) (xs.size - 1))∈ns/\∀a∈ns,a<=numAt xs (argBest (λi j=>decide (numAt xs i > numAt xs j)) (xs.size - 1)):=by
 obtain⟨h1,h2⟩:=argBest_gt (numAt xs) (xs.size - 1);refine⟨?_,λa U=>?_⟩
 .rw[z,numAt_eq];exact PySem.getD_mem (by rw[a_,w9];omega)
 .rw[z] at U
  obtain⟨j,Y,rfl⟩:=mem_getD U;rw[a_,w9] at Y;rw[<- numAt_eq];exact h2 j ()
theorem pX (hi:E_ its ns) (U:ns≠[]) : ∃xs:Array (Int × Tok),its.toArray=intItems xs/\ns=xs.toList.map (·.1)/\0 < xs.size:=by
 obtain⟨xs,e⟩:=hi.allInts.items;have z:ns=xs.toList.map (·.1):=by rw[<- hi.numsOf,<- nums_intItems,<- e]
 refine⟨xs,e,z,?_⟩
 have Y:=length_pos_iff.mpr U;rw[z,a_,w9] at Y;exact Y
theorem zt (hc:X.calm=true):bH X (.builtin "min") Aw:=by
 intro pins s σ H xs us Q I r h;obtain⟨p,rfl,ns,hp,Y,q⟩:=h;obtain⟨u,rfl,ru⟩:=cK r;cases ru;obtain⟨its,rv,pl,hz⟩:=I.list (SqL.of hp);obtain⟨xs,e,U,Z⟩:=pX (dk rv) Y;have z:=pl.isList;rw[e] at z;refine min_intList (I.ok.hd hc) z Z λv g tk hv hk=>?_
 obtain⟨t,rfl⟩:=intItems_at hv;obtain⟨b1,b2⟩:=Cl U Z;exact⟨V.int _,H,I.kept (t':=tk) hk,⟨t,rfl⟩,q _ b1 b2⟩
theorem zc (hc:X.calm=true):bH X (.builtin "max") Bi:=by
 intro pins s σ H xs us Q I r h;obtain⟨p,rfl,ns,hp,Y,q⟩:=h;obtain⟨u,rfl,ru⟩:=cK r;cases ru;obtain⟨its,rv,pl,hz⟩:=I.list (SqL.of hp);obtain⟨xs,e,U,Z⟩:=pX (dk rv) Y;have z:=pl.isList;rw[e] at z;refine max_intList (I.ok.hd hc) z Z λv g tk hv hk=>?_
 obtain⟨t,rfl⟩:=intItems_at hv;obtain⟨b1,b2⟩:=Cq U Z;exact⟨V.int _,H,I.kept (t':=tk) hk,⟨t,rfl⟩,q _ b1 b2⟩
def xC (H:Hp) (p:Addr) (ys:List V):Prop:=H p*>ys\/H p>>ys
def sf:List V->Hp->VK->Prop:=λxs H Q=>∃p,xs=[.ref p]/\∃ys,xC H p ys/\∀l,H l=none->Q (.ref l) (upd H l (.lst ys))
theorem jw:bH X (.type "list") sf:=kY.imp λ_ _ _ z=>by obtain⟨p,e,ys,h,q⟩:=z;exact(⟨p,ys,e,h.imp .of .of,q⟩)
def inD (d:j8) (ds:List j8):Bool:=ds.any λe=>n_ e d
def DO (K:ge) (z:Bool):R2:=λx y H Q=>∃dx ds,Rep K H x dx/\Rep K H y (.list ds)/\dx.canLay0=true/\l_ ds=true/\dx.depth<=100/\Q (.bl (if z then !inD dx ds else inD dx ds)) H
theorem jE (hu:X.A.units+102 < cLine):OpR X (x3 .NotIn) (DO X.K true):=by
 intro pins s σ H x y v u Q I rx z h;obtain⟨dx,ds,h1,h2,U,h4,h5,q⟩:=h;obtain⟨as,Z⟩:=I.reads h1 rx;obtain⟨bs,Y⟩:=I.reads h2 z;exact PySem.SeqAt.notIn_list_reads Y Z h4 U () ⟨.bl _,H,I,rfl,q⟩
theorem xN (z:cR k A):A.units+102 < cLine:=by have:=z.un;omega
theorem lay_ints : ∀ns:List Int,l_ (ns.map Jr)=true
 | []=>rfl
 | n :: ns=>by
  rw[i_];unfold l_;rw[lay_ints ns];rfl
theorem depth_ints : ∀ns:List Int,l8 (ns.map Jr)=0
 | []=>rfl
 | n :: ns=>by
  rw[i_];unfold l8;rw[depth_ints ns];rfl
def gF (r:List Int):j8:=.tuple (r.map Jr)
theorem fA (r:List Int):(gF r).canLay0=true:=by unfold gF y8;exact lay_ints r
theorem ja (r:List Int):(gF r).depth<=1:=by unfold gF t3;rw[depth_ints];decide
theorem ib : ∀(a b:List Int),t5 (a.map Jr) (b.map Jr)=decide (a=b)
 | [],[]=>rfl
 | [],_ :: _=>by simp[t5]
 | _ :: _,[]=>by simp[t5]
 | x :: a,y :: b=>by
  rw[i_,i_];unfold t5;rw[ib a b];have:n_ (.int x) (.int y)=decide (x=y):=by
   simp only[n_];rw[o_];simp
  rw[this]
  by_cases h:x=y <;> by_cases h2:a=b <;> simp[h,h2]
theorem sV (a b:List Int):n_ (gF a) (gF b)=decide (a=b):=by
 unfold gF;unfold n_;exact ib a b
theorem vQ : ∀rs:List (List Int),l_ (rs.map gF)=true
 | []=>rfl
 | r :: rs=>by
  rw[i_];unfold l_;rw[vQ rs,fA];rfl
theorem Bj (r:List Int) (rs:List (List Int)):inD (gF r) (rs.map gF)=decide (r∈rs):=by
 unfold inD
 induction rs with
 | nil=>rfl
 | cons q rs z =>
  rw[i_,any_cons,z,sV]
  by_cases h:q=r
  .simp[h]
  .simp[h]
   exact λe=>absurd e.symm h
def dJ (H:Hp) (vs:List V) (rows:List (List Int)):Prop:=∃as:List (Addr × List Int),vs=as.map (λx=>V.ref x.1)/\rows=as.map (·.2)/\∀x∈as,H x.1>>(x.2.map V.int)
theorem dJ.nil:dJ H [] []:=⟨[],rfl,rfl,λx z=>by simp at z⟩
theorem dJ.keep (h:dJ H vs rows) (k : ∀a xs,H a>>xs->H' a>>xs):dJ H' vs rows:=by
 obtain⟨as,h1,h2,z⟩:=h;exact⟨as,h1,h2,λx U=>k _ _ (z x U)⟩
theorem dJ.snoc {r:List Int} (h:dJ H vs rows) (Y:H t>>(r.map V.int)):dJ H (vs++[.ref t]) (rows++[r]):=by
 obtain⟨as,h1,h2,U⟩:=h;refine⟨as++[(t,r)],by simp[h1],by simp[h2],λx Z=>?_⟩
 rcases j6.mp Z with z | z
 .exact U x z
 .rw[g7.mp z];exact Y
theorem dJ.length {H:Hp} {vs:List V} {rows:List (List Int)} (h:dJ H vs rows):vs.length=rows.length:=by
 obtain⟨as,h1,h2,z⟩:=h;rw[h1,h2,a_,a_]
theorem dJ.reps (h:dJ H vs rows):cC K H vs (rows.map gF):=by
 obtain⟨as,rfl,rfl,z⟩:=h
 induction as with
 | nil=>exact .nil
 | cons x as U=>exact .cons (.tup (.of (z x (by simp))) (cC.ints _)) (U λy Y=>z y (by simp[Y]))
theorem wK {w:Addr} {r:List Int} {Q:VK} (z:H t>>(r.map V.int)) (hw:H w*>vs) (U:dJ H vs rows) (q:Q (.bl (!decide (r∈rows))) H):DO K true (.ref t) (.ref w) H Q :=
 ⟨gF r,rows.map gF,.tup (.of z) (cC.ints r),.lst (.of hw) U.reps,fA r,vQ rows,le_trans (ja r) ∅,by rw[Bj];exact q⟩
end L2
namespace PySem
open Sem (wp)
open AutoSeq1 (wpAny_loadPart')
theorem Draws.tup (Z:A.handled=none) (J T:Addr) (z:T≠J) (vs:Array Value) :
  Draws prog w A J [J,T] vs.size (λi v=>vs[i]? = some v) (λi h=>h.IsTupleIter J T i/\h.IsTuple T vs) where
 live:=λ_ _ st=>let ⟨o,ho,_⟩:=st.1;⟨o,ho⟩
 frame:=λ_ _ _ st Y=>⟨st.1.at λo e=>Y J (by simp) o e,st.2.at λo e=>Y T (by simp) o e⟩
 item:=λi s Q E hi st U=>GR st.1 st.2 (Array.getElem?_eq_getElem hi) λg a b=>U _ g s.toks (Array.getElem?_eq_getElem hi) ⟨a,st.2.at λo e=>(b.2 T z).trans e⟩ b
 done:=λs Q E st U=>ww Z st.1 st.2 (Array.getElem?_eq_none (j5 _)) U
theorem wB (T:Addr) (vs:Array Value) (n:Nat) (Z:Option Addr) (sl:Array (Option Value)) :
  Meets (Builtin.«enumerate.__new__» ⟨[.type "enumerate",.ref T],[]⟩) (λ_ R s=>s.heap.get? T=some { cls:=.type "tuple",dict:=Z,data:=.seq vs n,slots:=sl } /\
   R (.ok (.ret (.ref (s.heap.push { cls:=.type "tuple_iterator",data:=.fields #[.ref T,.int 0 0] }).objs.size)))
    { s with heap:=(s.heap.push { cls:=.type "tuple_iterator",data:=.fields #[.ref T,.int 0 0] }).push { cls:=.type "enumerate",data:=.fields #[.none,.bool false,.ref s.heap.objs.size,rawInt 0,.none,.none] } }) :=
 .of_wp λprog w A R s h=>by
  obtain⟨hp,g,d,tk,os⟩:=s;obtain⟨z,h⟩:=h;have Y:=sub_enumerate;have U:Heap.IsTuple (Shared.heap ⟨hp,g,d,tk,os⟩) T vs:=⟨_,z,rfl,n,rfl⟩
  wp_walk using wpAny_loadPart' z
  refine wpAny_stack_any λst=>fy ?_
  split
  .rename_i c _ _ _ _ _
   cases (c == KN "enumerate")
   .wp_walk using wpAny_loadPart' z,JT U
    exact⟨_,rfl,h⟩
   .wp_walk using wpAny_loadPart' z,JT U
    exact⟨_,rfl,h⟩
  .wp_walk using wpAny_loadPart' z,JT U
   exact⟨_,rfl,h⟩
theorem wq {T:Addr} {vs:Array Value} (ht:s.heap.IsTuple T vs)
  (k : ∀g e J,IsEnum g e J 0 .none->g.IsTupleIter J T 0->e≠J->s.heap.objs.size<=e->s.heap.objs.size<=J->(∀b o,s.heap.get? b=some o->g.get? b=some o)->Q (.ref e) { s with heap:=g }) :
  wpAny (model prog w) A (call (.type "enumerate") [.ref T]) Q E s:=by
 obtain⟨⟨cls,dd,data,sl⟩,h1,h2,n,Y⟩:=ht;simp only at h2 Y;subst h2 Y;refine callType_new F.called_enumerate ∅ (F.typeCall_enumerate_1 _) (F.newCall_enumerate_1 _) (λz=>F.args_object_init_2 z _) F.entry_enumerate_new (wB T vs n dd sl) ⟨h1,?_⟩
 have Z:(s.heap.push { cls:=.type "tuple_iterator",data:=.fields #[.ref T,.int 0 0] }).objs.size=s.heap.objs.size+1:=Js ..
 have U:((s.heap.push { cls:=.type "tuple_iterator",data:=.fields #[.ref T,.int 0 0] }).push { cls:=.type "enumerate",data:=.fields #[.none,.bool false,.ref s.heap.objs.size,rawInt 0,.none,.none] }).get? (s.heap.push { cls:=.type "tuple_iterator",data:=.fields #[.ref T,.int 0 0] }).objs.size=some _:=g9 _ rfl
 have g2:((s.heap.push { cls:=.type "tuple_iterator",data:=.fields #[.ref T,.int 0 0] }).push { cls:=.type "enumerate",data:=.fields #[.none,.bool false,.ref s.heap.objs.size,rawInt 0,.none,.none] }).get? s.heap.objs.size=some _:=d_ _ (g9 _ rfl)
 refine⟨⟨_,U,rfl⟩,k _ _ s.heap.objs.size U ⟨_,g2,rfl,rfl⟩ ?_ ?_ (j5 _) λb o e=>d_ _ (d_ _ e)⟩
 .rw[Z];exact Nat.succ_ne_self _
 .rw[Z];exact Ks _
end PySem
namespace L2
open PySem PySem.Spec PyProof.Rows
def Ite (K:ge) (a:Addr):It :=
  ⟨λi H=>∃xs x,SqT K H a xs/\xs[i]? = some x,
   λi H v H'=>∃t x,H t=none/\v = .ref t/\H'=upd H t (.tup [.int (i:Nat),x])/\∀xs,SqT K H a xs->xs[i]? = some x,
   λi H=>∃xs,SqT K H a xs/\xs.length=i⟩
theorem xa {x1} {pos:Pos} (a e J:Addr) (ac:e≠J) :
  vy P w K (.Tuple es x1 pos) (Ite K a) [e,J] e (λi h=>(∃Y,IsEnum h e J i Y)/\h.IsTupleIter J a i) where
 mem:=by simp
 obj:=λi h st c U=>by
  obtain⟨⟨Y,Z⟩,oi,i1,i2,i3⟩:=st;simp only[i6,p_,or_false] at U;rcases U with rfl | rfl
  .exact⟨_,Z,λv z=>by cases z⟩
  .exact⟨oi,i1,λv z=>by rw[i3] at z;cases z⟩
 keep:=λi h h' st k=>by
  obtain⟨⟨Y,Z⟩,hi⟩:=st;exact⟨⟨Y,k e (by simp) _ Z⟩,hi.at λo q=>k J (by simp) o q⟩
 item:=by
  intro X hP hw hK U i pins s σ H E In hf st hg;subst hP hw hK;obtain⟨xs,x,hq,hx⟩:=hg;obtain⟨its,rv,p,hz⟩:=In.tuple hq;obtain⟨u,hu,ru⟩:=rv.get hx;obtain⟨⟨Y,Z⟩,hi⟩:=st;have pl:s.heap.IsTuple a its.toArray:=p
  have aa:a≠J:=λz=>by
   obtain⟨o1,q1,q2,_⟩:=hi;obtain⟨o2,q3,q4,_⟩:=id pl;rw[<- z,q3] at q1;cases q1;rw[q4] at q2;exact absurd q2 (by simp)
  have ak:e∉[J,a]:=λhm=>by
   rcases i6.mp hm with z | z
   .exact ac z
   .have z:=g7.mp z
    obtain⟨o2,q3,q4,_⟩:=id pl;rw[<- z,Z] at q3;cases q3;exact absurd q4 (by simp)
  have an:i < its.toArray.size:=by simpa using (i7.mp hu).1
  refine wpAny_pyNext_enum_itemD (Draws.tup (A:=X.A.in1) (show X.A.in1.handled=none from In.ok.hd U) J a aa its.toArray) Z ⟨hi,pl⟩ an ac ak λv g tk hv ho ag ht hs hk=>?_
  have ah:v=u:=by
   simp only[JX] at hv;rw[hu] at hv;exact(f_ hv).symm
  subst ah;refine⟨_,rfl,wpAny_letOwnedTupleGo_enum (s:={ s with heap:=g,toks:=tk+1 }) ho λg2 am s2=>?_⟩
  have ae:e < s.heap.objs.size:=gs Z
  have ao:J < s.heap.objs.size:=by obtain⟨o1,q1,_⟩:=hi;exact gs q1
  have ad:H s.heap.objs.size=none:=In.hok.fresh (j5 _)
  have I2:Inv X pins σ (upd H s.heap.objs.size (.tup [.int (i:Nat),x])) { s with heap:=g2,toks:=tk+1 }:=In.turnedNew (t':=tk+1) (fp:=[e,J]) (λc o U q=>by
    simp only[i6,p_,or_false,not_or] at U;exact(s2.2 c U.1).trans (hk c o U.1 U.2 q)) hf (j5 _)
   ⟨by show 2<=g0;decide,[.int i tk,v],.cons ⟨tk,rfl⟩ (.cons ru .nil),⟨_,(s2.2 _ (JQ ae)).trans ht,rfl,_,rfl⟩⟩
  refine⟨.ref s.heap.objs.size,_,I2,rfl,⟨_,x,ad,rfl,rfl,λzs af=>by rw[In.tuple_inj af hq];exact hx⟩,⟨⟨v,by simpa using am⟩,ag.1.at λo q=>(s2.2 J ac.symm).trans q⟩,λc U=>?_⟩
  simp only[i6,p_,or_false] at U;rcases U with rfl | rfl
  .rw[ai (k_ ae)];exact(hf _ (by simp)).1
  .rw[ai (k_ ao)];exact(hf _ (by simp)).1
 done:=by
  intro X hP hw hK U i pins s σ H E In hf st hg;subst hP hw hK;obtain⟨xs,hq,hx⟩:=hg;obtain⟨its,rv,p,hz⟩:=In.tuple hq;obtain⟨⟨Y,Z⟩,hi⟩:=st;have pl:s.heap.IsTuple a its.toArray:=p
  have aa:a≠J:=λz=>by
   obtain⟨o1,q1,q2,_⟩:=hi;obtain⟨o2,q3,q4,_⟩:=id pl;rw[<- z,q3] at q1;cases q1;rw[q4] at q2;exact absurd q2 (by simp)
  have hn:its.toArray.size=i:=by have:=rv.length;simp;omega
  subst hn;refine wpAny_pyNext_enum_endD (Draws.tup (A:=X.A.in1) (show X.A.in1.handled=none from In.ok.hd U) J a aa its.toArray) Z ⟨hi,pl⟩ λg hk=>⟨rfl,In.turnedL (t':=s.toks) (fp:=[e,J]) (λc o U q=>hk c o (λz=>U (by simp[z])) q) hf⟩
 self:=λ_ _ _ _ _ st h=>by
  obtain⟨⟨Y,Z⟩,_⟩:=st;exact wpAny_pyIter_enum Z h
def iE (K:ge) (ta:TA):TI:=λσ H R=>ta σ H λvs H1=>∃a,vs=[.ref a]/\∃xs,H1 a>>xs/\R (Ite K a) H1
theorem nW:If "enumerate" = some (.type "enumerate"):=by decide+kernel
theorem ou {p:Pos} {x1} (hK:X.K=K) (hg:Gl X "enumerate") (hm:X.mg "enumerate" = none) (ha:PA X [e1] ta) (hs:m9 [e1] X.env=[(false,eval e1 X.env)]:=by rfl) :
  PI X (.Tuple es x1 pos') (.Call (.Name "enumerate" p) [e1] [] pos) (iE K ta):=by
 subst hK;intro pins s σ H R I h;refine Call_ (dH I hg hm nW (o5 (thn (ha pos pins s σ H _ I h) λus U ⟨vs,H1,I1,r1,q1⟩=>?_) (by rw[hs];rfl) rfl))
 obtain⟨a,e,xs,z,q⟩:=q1;subst e;obtain⟨u,rfl,ru⟩:=cK r1;cases ru;obtain⟨its,rv,pl,hz⟩:=I1.tuple (SqT.of z);refine wq (show U.heap.IsTuple a its.toArray from pl) λg e J he hJ Y l1 Z kg=>?_
 refine wpAny_pyIter_enum (s:={ U with heap:=g }) he ⟨e,[e,J],_,_,H1,rfl,I1.kept (t':=U.toks) kg,xa a e J Y,⟨⟨_,he⟩,hJ⟩,λc hc=>?_,q⟩
 simp only[i6,p_,or_false] at hc;rcases hc with rfl | rfl
 .exact I1.fpOk l1 (I1.hok.fresh l1)
 .exact I1.fpOk Z (I1.hok.fresh Z)
theorem GT {tb:TS} (z:Nat->St->Hp->Prop) (h0:z 0 σ H) (hl : ∀i σ H,z i σ H->SqT K H a xs)
  (hs : ∀(i:Nat) (x:V) (σ:St) (H:Hp) (t:Addr),xs[i]? = some x->z i σ H->H t=none->g (.ref t) σ (upd H t (.tup [.int (i:Nat),x])) λY H2=>tb { D with nx:=z (i+1),ct:=z (i+1),bk:=D.nx } Y H2)
  (hd : ∀ σ H,z xs.length σ H->D.nx σ H):C9 (Ite K a) g tb D σ H:=by
 refine⟨λi m σ H=>z i σ H/\i<=xs.length/\m=xs.length - i,⟨_,h0,r_ _,rfl⟩,?_⟩
 rintro i m σ H ⟨Z,hi,rfl⟩
 have sa:=hl i σ H Z
 by_cases U:i=xs.length
 .left
  subst U;exact⟨⟨xs,sa,rfl⟩,hd σ H Z⟩
 .right
  have h1:i < xs.length:=()
  refine⟨⟨xs,xs[i],sa,by simp[h1]⟩,λσ' H'=>z (i+1) σ' H',λσ' H' h=>⟨_,(),h,(),rfl⟩,?_⟩
  rintro v H' ⟨t,x,ht,rfl,rfl,e1⟩
  exact hs i x σ H t (e1 xs sa) Z ht
end L2
namespace PySem
open Sem (wp)
theorem bC : ∀(names:List (Str × Is)) (n:Nat) (acc:List (Str × Addr)),sn n names acc=sn n names []++acc
 | [],n,acc=>rfl
 | (x,k) :: r,n,acc=>by
  unfold sn
  split
  .rw[bC r (n+1) ((x,n) :: acc),bC r (n+1) [(x,n)]]
   simp
  .exact bC r n acc
theorem dR : ∀(names:List (Str × Is)) (n:Nat) (x:Str) (c:Addr),(x,c)∈sn n names []->(x,y6)∈names
 | [],n,x,c,h=>absurd h (by simp[sn])
 | (y, k) :: r,n,x,c,h=>by
  unfold sn at h
  split at h
  .rename_i hk
   rw[bC] at h;rcases j6.mp h with q | q
   .exact j9 _ (dR r (n+1) x c q)
   .have e:(x,c)=(y,n):=by simpa using q
    cases e;have:k = .cell:=by simpa using hk
    subst this;exact j_
  .exact j9 _ (dR r n x c h)
theorem kw {l:List (Str × Addr)}:(x,c)∈l->(l.lookup x).isSome=true:=by
 induction l with
 | nil=>intro h;exact absurd h (by simp)
 | cons p r U =>
  intro h;rw[x5];cases z:x == p.1 with
  | true=>rfl
  | false =>
   rcases i6.mp h with q | q
   .subst q;simp at z
   .exact U q
theorem fJ : ∀(names:List (Str × Is)) (n:Nat) (x:Str),(x,y6)∈names->∃c,(x,c)∈sn n names []
 | [],n,x,h=>absurd h (by simp)
 | (y, k) :: r,n,x,h=>by
  unfold sn;rcases i6.mp h with q | q
  .cases q
   simp only[beq_self_eq_true,if_true];rw[bC];exact⟨n,uj _ (by simp)⟩
  .split
   .rw[bC]
    obtain⟨c,z⟩:=fJ r (n+1) x q;exact⟨c,t6 _ z⟩
   .exact fJ r n x q
theorem nN {l r:List (Str × Addr)} (h:(l++r).lookup x=some c):l.lookup x=some c\/(l.lookup x=none/\r.lookup x=some c):=by
 induction l with
 | nil=>exact .inr ⟨rfl,h⟩
 | cons p t U =>
  rw[KZ,x5] at h;rw[x5];cases z:x == p.1 with
  | true=>rw[z] at h;exact .inl h
  | false=>rw[z] at h;exact U h
theorem sj {l r:List (Str × Addr)} (z:l.lookup x=none) (h:r.lookup x=some c):(l++r).lookup x=some c:=by
 induction l with
 | nil=>exact h
 | cons p t Y =>
  rw[x5] at z;rw[KZ,x5];cases U:x == p.1 with
  | true=>rw[U] at z;cases z
  | false=>rw[U] at z;exact Y z
theorem sD {l r:List (Str × Addr)} (h:l.lookup x=some c):(l++r).lookup x=some c:=by
 induction l with
 | nil=>cases h
 | cons p t U =>
  rw[x5] at h;rw[KZ,x5];cases z:x == p.1 with
  | true=>rw[z] at h;exact h
  | false=>rw[z] at h;exact U h
theorem eL {U:Addr} {Z:Value} {Y:Env} {z:Addr} {Q:Env->Shared->Prop}
  (hQ:(pushCells (s.heap.push { cls:=.type "dict",data:=.dict #[] }) scope.names).Ns s.heap.objs.size (λ_=>none) ->
   Q (newEnv scope s.heap.objs.size U (sn (s.heap.objs.size+1) scope.names closure) qual func Z (some Y) z) { s with heap:=pushCells (s.heap.push { cls:=.type "dict",data:=.dict #[] }) scope.names }) :
  wpAny M A (newFunctionEnv scope U closure [] qual func Z (some Y) z) Q E s:=by
 simp only[newFunctionEnv,isSome_some,if_true];simp only[newEnv] at hQ;refine c_ (wpAny_alloc ?_)
 refine c_ (wpAny_layCells _ (λname kind cells=>by cases aa:kind == y6 <;> simp[aa]) _ _ _ _ ?_)
 rw[show({ s with heap:=s.heap.push { cls:=.type "dict",data:=.dict #[] } }:Shared).heap.objs.size=s.heap.objs.size+1 from Js ..]
 exact c_ (fy (fy (hQ ((Heap.Ns.new s.heap (.type "dict")).keeps (pushCells_keeps _ _)))))
end PySem
namespace L2
open PySem PySem.Spec PyProof.Rows
def cF (X:Cx) (scope:Scope) (N:List Str) (cl:List (Str × Addr)) (C:Addr) (fp:List Addr) (s:Shared) (H:Hp) (xe:Value->Shared->Prop):Cx where
 prog:=X.prog
 w:=X.w
 K:=X.K
 mg:=X.mg
 base:=X.base
 A:=X.A
 N:=N
 s₀:=s
 H₀:=H
 env:=compEnvC scope cl C X.env
 outer:=X.stack
 stack:=X.stack
 ex:=fp
 fn:=λx=>scope.names.lookup x == some .cell
 calm:=X.calm
 pn:=[]
 xe:=xe
theorem Jn {C:Addr}:(cF X sc N cl C fp s H xe).K=X.K:=rfl
structure jN (X:Cx) (scope:Scope) (N:List Str) (nt:Nat) (js:List Nat):Prop where
 kind:scope.kind = .function
 nd:N.Nodup
 len:N.length=nt+js.length
 at_ : ∀(k:Nat) (j:Nat) (x:Str),js[k]? = some j->N[nt+k]? = some x->X.N[j]? = some x/\(X.env.scope.names.lookup x=some .cell\/X.env.scope.names.lookup x=some .free)
 frl : ∀(k:Nat) (x:Str),N[nt+k]? = some x->scope.names.lookup x=some .free
 own : ∀y∈scope.names,y.2 = .cell->scope.names.lookup y.1=some .cell
 loc : ∀y∈scope.names,y.2 = .local->scope.names.lookup y.1=some .local
 free : ∀y∈scope.names,y.2 = .free->X.env.scope.names.lookup y.1=some .cell\/X.env.scope.names.lookup y.1=some .free
theorem cY : ∀{names:List (Str × Is)} {x:Str} {k:Is},names.lookup x=some k->(x,k)∈names
 | [],_,_,h=>by simp at h
 | (n,k') :: r,x,k,h=>by
  rw[x5] at h;cases z:x == n with
  | true=>rw[z] at h;cases h;rw[beq_iff_eq.mp z];exact j_
  | false=>rw[z] at h;exact j9 _ (cY h)
theorem qr : ∀{names:List (Str × Is)} {x:Str},((names.map λ(n,k)=>if (k == w_ && env.scope.kind == .function && env.kindOf n == some .cell) then(n,y6) else(n,k)).lookup x=some .cell\/(names.map λ(n,k)=>if (k == w_ && env.scope.kind == .function && env.kindOf n == some .cell) then(n,y6) else(n,k)).lookup x=some .free) ->
  (x,w_)∈names\/(x,y6)∈names:=by
 intro names x h;have key : ∀Z,(names.map λ(n,k)=>if (k == w_ && env.scope.kind == .function && env.kindOf n == some .cell) then(n,y6) else(n,k)).lookup x=some Z->(Z = .cell\/Z = .free)->(x,w_)∈names\/(x,y6)∈names:=by
  intro Z e hk;obtain⟨⟨n,k⟩,Y,U⟩:=e7.mp (cY e);dsimp only at U
  by_cases q:(k == w_ && env.scope.kind == .function && env.kindOf n == some .cell)=true
  .rw[if_pos q] at U
   cases U;simp only[mx,beq_iff_eq] at q;rw[q.1.1] at Y;exact .inl Y
  .rw[if_neg q] at U
   cases U;rcases hk with z | z
   .subst z;exact .inr Y
   .subst z;exact .inl Y
 rcases h with h | h
 .exact key _ h (.inl rfl)
 .exact key _ h (.inr rfl)
theorem uv {C:Addr} {m:Str->Option Value}
  (S:jN X scope N nt js) (I:Inv X pins σ H s) (hf : ∀b∈fp,pK X pins H b) (Y : ∀x c,cl.lookup x=some c->X.env.cells.lookup x=some c) (ad : ∀x,(x,w_)∈scope.names->(cl.lookup x).isSome=true)
  (U : ∀x c,(x,c)∈sn (C+1) scope.names []->h'.IsCell c none/\C+1<=c) (an:(sn (C+1) scope.names []).Pairwise λx y=>x.2≠y.2) (af : ∀c,C<=c->H1 c=none)
  (ai : ∀b∈fp,b < s.heap.objs.size) (hC:s.heap.objs.size<=C) (k : ∀b o,s.heap.get? b=some o->h'.get? b=some o) (hs : ∀b o,H b=some o->H1 b=some o) (ag : ∀b,H b=none->b < s.heap.objs.size->H1 b=none) (am:HOk X.prog X.w H1 h') (hn:h'.Ns C m)
  (hm : ∀x,m x=none) :
  Inv (cF X scope N (sn (C+1) scope.names cl) C fp s H xe) [] (bZ nt js σ) H1 { s with heap:=h',toks:=tk }:=by
 have ap : ∀b∈fp,b∉frs X.stack:=λb hb z=>by
  obtain⟨f0,f1,f2,_⟩:=hf b hb;rcases i6.mp (I.stkSub b z) with q | q
  .exact f1 q
  .exact f2 q
 have ah : ∀x c,cl.lookup x=some c->c < s.heap.objs.size:=λx c e=>by
  obtain⟨v,oc,Z,hd⟩:=I.cell x c (Y x c e);exact gs Z
 have cs : ∀x c,(sn (C+1) scope.names cl).lookup x=some c->(x,c)∈sn (C+1) scope.names []\/cl.lookup x=some c:=λx c e=>by
  rw[bC] at e;rcases nN e with q | q
  .exact .inl (mem_of_lookup q)
  .exact .inr q.2
 have ae : ∀x,(x,y6)∈scope.names->∃c,(sn (C+1) scope.names cl).lookup x=some c/\(x,c)∈sn (C+1) scope.names []:=λx hx=>by
  obtain⟨c,hc⟩:=fJ scope.names (C+1) x hx;obtain⟨c',ac⟩:=J5.mp (kw hc);refine⟨c',?_,mem_of_lookup ac⟩
  rw[bC];exact sD ac
 have aa : ∀x c,(∀c,(x,c)∉sn (C+1) scope.names [])->cl.lookup x=some c->(sn (C+1) scope.names cl).lookup x=some c:=λx c hx e=>by
  rw[bC];refine sj ?_ e
  cases q:(sn (C+1) scope.names []).lookup x with
  | none=>rfl
  | some c'=>exact absurd (mem_of_lookup q) (hx c')
 refine⟨⟨I.ok.mod,S.kind,I.ok.glob,I.ok.blt,hC,λx y c h1 h2=>?_,λx hx=>?_,λx c z e=>?_,I.ok.hd,I.ok.frames,.inl rfl,λb hb=>?_,I.bs,le_trans I.ok.bsz I.sz,λb o e hb=>?_,ap,I.stack,I.stkFree⟩,
  rfl,I.bare,?_,⟨m,hn,λi x v h1 h2 h3=>?_⟩,λx c e=>?_,af C (j5 _),λx c e=>?_,λp hp=>absurd (show p∈([]:List (Addr × Obj)) from hp) (by simp),am,?_⟩
 .rcases cs x c h1 with a | a <;> rcases cs y c h2 with b | b
  .exact name_of_addr an a b
  .exact absurd (l4 (ah y c b) (le_trans hC (KW (U x c a).2))) (JR _)
  .exact absurd (l4 (ah x c a) (le_trans hC (KW (U y c b).2))) (JR _)
  .exact I.ok.inj x y c (Y x c a) (Y y c b)
 .by_cases hxc:(x,y6)∈scope.names
  .obtain⟨c,hc,_⟩:=ae x hxc
   exact⟨c,hc⟩
  .rcases qr (env:=X.env) hx with q | q
   .obtain⟨c,hc⟩:=J5.mp (ad x q)
    exact⟨c,aa x c (λc' z=>hxc (dR _ _ _ _ z)) hc⟩
   .exact absurd q hxc
 .have hxc:(x,y6)∈scope.names:=by
   have:scope.names.lookup x=some .cell:=by simpa [cF] using z
   exact cY this
  obtain⟨c',ac,ar⟩:=ae x hxc;have e':(sn (C+1) scope.names cl).lookup x=some c:=e
  rw[ac] at e';cases e';exact le_trans hC (KW (U x _ ar).2)
 .obtain⟨f0,f1,f2,f3,f4,f5⟩:=hf b hb
  refine⟨k_ (l4 (ai b hb) hC),λx c e=>?_⟩
  rcases cs x c e with a | a
  .exact JQ (l4 (ai b hb) (le_trans hC (KW (U x c a).2)))
  .exact f4 x c (Y x c a)
 .have:=hf b hb
  obtain⟨f0,f1,f2,f3,f4,f5⟩:=this;rcases f3 with f3 | f3
  .exact I.ok.noex b o e f3
  .exact absurd (l4 (gs e) (le_trans I.ok.bsz f3)) (JR _)
 .refine⟨λb o e n _ _=>k b o e,λb o e n _ _=>⟨o.slots,k b o e⟩,λb o e n _=>ag b n (gs e),λb o e _=>⟨o,k b o e⟩,λb xs e=>hs b _ e,λb o u e=>hs b _ e,λb ps e=>⟨#[],by rw[hs b _ e];simp⟩⟩
 .by_cases hi:i < nt
  .rw[oN i hi] at h2;cases h2
  .obtain⟨k',rfl⟩ : ∃k',i=nt+k':=⟨i - nt,()⟩
   unfold bZ at h2;rw[List.getElem?_append_right (by simp)] at h2
   simp only[List.length_replicate,Nat.add_sub_cancel_left,e9] at h2;cases ej:js[k']? with
   | none=>rw[ej] at h2;cases h2
   | some j =>
    rw[ej] at h2;simp only[Kh,Ju] at h2;obtain⟨hN,hk⟩:=S.at_ k' j x ej h1;have ak:σ[j]? = some (some v):=by
     cases q:σ[j]? with
     | none=>rw[q] at h2;cases h2
     | some z=>rw[q] at h2;simp only[Option.join] at h2;rw[<- h2];rfl
    have ao:Vis X.env.scope x:=by rcases hk with q | q;exact .inr (.inl q);exact .inr (.inr q)
    obtain⟨m0,au,aq⟩:=I.loc;obtain⟨u,r,l⟩:=aq j x v hN ak ao;refine⟨u,r,?_⟩
    rcases l with⟨q,_⟩ | ⟨q,c,e,z⟩
    .have q':X.env.scope.names.lookup x=some .local:=q
     rw[q'] at hk;rcases hk with hk | hk <;> cases hk
    .have fr:=S.frl k' x h1
     have hv:(relabel scope X.env).names.lookup x=some .cell\/(relabel scope X.env).names.lookup x=some .free:=eI (env:=X.env) fr
     have q:(x,w_)∈scope.names:=cY fr
     obtain⟨c',e'⟩:=J5.mp (ad x q);have e2:=Y x c' e';rw[e] at e2;cases e2;obtain⟨oc,Z,hd⟩:=z;exact .inr ⟨hv,c,aa x c (λc' z=>by
      have:=S.own _ (dR _ _ _ _ z) rfl
      rw[fr] at this;cases this) e',oc,k _ _ Z,hd⟩
 .rcases cs x c e with a | a
  .exact⟨none,(U x c a).1⟩
  .obtain⟨v,oc,Z,hd⟩:=I.cell x c (Y x c a)
   exact⟨v,oc,k _ _ Z,hd⟩
 .rcases cs x c e with a | a
  .exact af c (KW (U x c a).2)
  .have e2:=Y x c a
   obtain⟨v,oc,Z,hd⟩:=I.cell x c e2;exact ag c (I.freeC x c e2) (gs Z)
 .unfold bZ
  show _=N.length
  rw[S.len];simp
def vd (U:List Str) (xs z:List (Str × Is)) (N:List Str) (nt:Nat) (js:List Nat):Bool :=
 decide N.Nodup && N.length == nt+js.length && (js.zip (N.drop nt)).all (λp=>U[p.1]? == some p.2 && gD xs p.2) && (N.drop nt).all (λx=>z.lookup x == some .free)
  && z.all (λy=>y.2 != .cell || z.lookup y.1 == some .cell) && z.all (λy=>y.2 != .local || z.lookup y.1 == some .local) && z.all (λy=>y.2 != .free || gD xs y.1)
theorem aE (Y:List Str) (xs:List (Str × Is)) (hk:scope.kind = .function:=by exact rfl) (hN:X.N=Y:=by exact rfl) (hx:X.env.scope.names=xs:=by exact rfl)
  (h:vd Y xs scope.names N nt js=true:=by decide+kernel):jN X scope N nt js:=by
 subst hN hx;unfold vd at h;simp only[mx] at h;obtain⟨⟨⟨⟨⟨⟨h1,h2⟩,h3⟩,h4⟩,Z⟩,h6⟩,h7⟩:=h;refine⟨hk,of_decide_eq_true h1,by simpa using h2,λk j x e1 e2=>?_,λk x e=>?_,λy U e=>?_,λy U e=>?_,λy U e=>?_⟩
 .have hm:(j,x)∈js.zip (N.drop nt):=by
   have z:(N.drop nt)[k]? = some x:=by rw[List.getElem?_drop];exact e2
   have:(js.zip (N.drop nt))[k]? = some (j,x):=by rw[List.getElem?_zip_eq_some];exact⟨e1,z⟩
   exact i4 this
  have q:=Kd.mp h3 _ hm;rw[mx] at q;exact⟨by simpa using q.1,ix q.2⟩
 .have hm:x∈N.drop nt:=by
   have z:(N.drop nt)[k]? = some x:=by rw[List.getElem?_drop];exact e
   exact i4 z
  simpa using Kd.mp h4 _ hm
 .have q:=Kd.mp Z _ U
  rw[e] at q;simpa using q
 .have q:=Kd.mp h6 _ U
  rw[e] at q;simpa using q
 .have q:=Kd.mp h7 _ U
  rw[e] at q;exact ix (by simpa using q)
end L2
namespace PySem.W
open PySem PySem.Calls PyProof.Rows
def bp (n:Nat) (p:Array Nat):Prop:=p.toList.Perm (range n)
theorem bp.lt {p:Array Nat} (h:bp n p) (hn:0 < n) (i:Nat):p.getD i 0 < n:=by
 by_cases hi:i < p.size
 .have e:p.getD i 0=p[i]:=by simp[Array.getD,hi]
  rw[e];have:p[i]∈p.toList:=by simp
  exact x8.mp (h.mem_iff.mp this)
 .have e:p.getD i 0=0:=by simp[Array.getD,hi]
  rw[e];exact hn
theorem bp.rev {p:Array Nat} (h:bp n p) (i j:Nat):bp n (kas_rev p i j):=(Array.perm_iff_toList_perm.mp (mirror_perm p i j _)).trans h
theorem bp.bub {p:Array Nat} (h:bp n p) (i j:Nat):bp n (bubble p i j):=(Array.perm_iff_toList_perm.mp (bubble_perm p i j)).trans h
end PySem.W
namespace L2
open PySem PySem.Spec PyProof.Rows
def G5 (td ty:TE):TE:=λσ H Q=>td σ H λx H1=>ty σ H1 λy H2=>∃a,x = .ref a/\∃k,y=kV k/\∃o kvs v,H2 a=some (.frz o (.dK kvs))/\bg kvs k=some v/\Q v H2
theorem xM {o i:Expr} (Z:X.A.units+1 < cLine) (ho:PE X o td) (hi:PE X i ty) (hs:Ez i:=by exact λ_ _=>rfl):PE X (.Subscript o i pos) (G5 td ty):=by
 intro pins s σ H Q I h;refine yJ Kb.lookup hs (thn (ho pins s σ H _ I h) λu s1 ⟨x,H1,I1,rx,q1⟩=>thn (hi pins s1 σ H1 _ I1 q1) λiv s2 z=>?_)
 obtain⟨y,H2,Y,ry,a,ex,k,ey,ob,kvs,v,hd,hv,q2⟩:=z;subst ex;obtain rfl:u=m8 a:=rx
 have g:qh H2 a y (some v):=.inl ⟨kvs,k,.inr ⟨ob,hd⟩,ey,hv.symm⟩
 exact⟨lW Y g,rS Z Y g ry λw' s3 I3 U=>⟨v,H2,I3,U,q2⟩⟩
end L2
namespace PySem
open L2 PyProof.Rows PySem.Calls
def ir:Int:=0xFCA86420
theorem tZ {Q:Int->Shared->Prop} (h:Q ir { s with toks:=s.toks+1 }):wpAny (model prog w) A (pyHash .none) Q E s:=by
 have U:s.TypeIs o9 "NoneType" := rfl
 show wpAny _ _ (pyHashByItsType .none) Q E s
 unfold pyHashByItsType;refine c_ ?_
 rw[cRoomFor,if_neg (by rw[show[o9].any Value.onHeap=false from rfl];exact i5)]
 refine fy (c_ (JJ U J4.lookup ?_))
 refine wpAny_ite_split (λz=>by cases z) λ_=>?_
 refine c_ (JJ U J4.lookup ?_)
 refine wpAny_ite_split (λz=>by cases z) λ_=>?_
 refine c_ (wpAny_callSpecialIfBoundUnlessNone?_slot U J4 (y4 J4 U PySem.F.entry_NoneType_hash (show wpAny _ _ (do ret (<- mkInt ir)) _ _ s from wpAny_ret_mkInt ?_) (PySem.F.args_NoneType_hash_1 _)))
 show wpAny _ _ (if (decide (-(2:Int) ^ 63<=ir) && decide (ir < 2 ^ 63))=true then _ else _) Q E _
 rw[if_pos ∅]
 exact fy h
theorem um {Q:Bool->Shared->Prop} (h:Q true s):wpAny (model prog w) A (eqBool .none .none) Q E s:=by
 unfold eqBool;refine C_ ?_
 rw[if_pos ∅]
 exact c_ (wpAny_rule (fy h))
end PySem
namespace L2
open PySem PySem.Spec PyProof.Rows
def EA (K:ge) (a:Addr):It :=
  ⟨λi H=>∃xs x,SqL K H a xs/\xs[i]? = some x,
   λi H v H'=>∃t x,H t=none/\v = .ref t/\H'=upd H t (.tup [.int (i:Nat),x])/\∀xs,SqL K H a xs->xs[i]? = some x,
   λi H=>∃xs,SqL K H a xs/\xs.length=i⟩
theorem wG {x1} {pos:Pos} (a e J:Addr) (ac:e≠J) :
  vy P w K (.Tuple es x1 pos) (EA K a) [e,J] e (λi h=>(∃Y,IsEnum h e J i Y)/\h.IsListIter J a i) where
 mem:=by simp
 obj:=λi h st c U=>by
  obtain⟨⟨Y,Z⟩,oi,i1,i2,i3⟩:=st;simp only[i6,p_,or_false] at U;rcases U with rfl | rfl
  .exact⟨_,Z,λv z=>by cases z⟩
  .exact⟨oi,i1,λv z=>by rw[i3] at z;cases z⟩
 keep:=λi h h' st k=>by
  obtain⟨⟨Y,Z⟩,hi⟩:=st;exact⟨⟨Y,k e (by simp) _ Z⟩,hi.at λo q=>k J (by simp) o q⟩
 item:=by
  intro X hP hw hK U i pins s σ H E In hf st hg;subst hP hw hK;obtain⟨xs,x,hq,hx⟩:=hg;obtain⟨its,rv,p,hz⟩:=In.list hq;obtain⟨u,hu,ru⟩:=rv.get hx;obtain⟨⟨Y,Z⟩,hi⟩:=st;have pl:s.heap.IsList a its.toArray:=p.isList
  have aa:a≠J:=λz=>by
   obtain⟨o1,q1,q2,_⟩:=hi;obtain⟨o2,q3,q4,_⟩:=id pl;rw[<- z,q3] at q1;cases q1;rw[q4] at q2;exact absurd q2 (by simp)
  have ak:e∉[J,a]:=λhm=>by
   rcases i6.mp hm with z | z
   .exact ac z
   .have z:=g7.mp z
    obtain⟨o2,q3,q4,_⟩:=id pl;rw[<- z,Z] at q3;cases q3;exact absurd q4 (by simp)
  have an:i < its.toArray.size:=by simpa using (i7.mp hu).1
  refine wpAny_pyNext_enum_itemD (Draws.list (A:=X.A.in1) (show X.A.in1.handled=none from In.ok.hd U) J a aa its.toArray) Z ⟨hi,pl⟩ an ac ak λv g tk hv ho ag ht hs hk=>?_
  have ah:v=u:=by
   simp only[JX] at hv;rw[hu] at hv;exact(f_ hv).symm
  subst ah;refine⟨_,rfl,wpAny_letOwnedTupleGo_enum (s:={ s with heap:=g,toks:=tk+1 }) ho λg2 am s2=>?_⟩
  have ae:e < s.heap.objs.size:=gs Z
  have ao:J < s.heap.objs.size:=by obtain⟨o1,q1,_⟩:=hi;exact gs q1
  have ad:H s.heap.objs.size=none:=In.hok.fresh (j5 _)
  have I2:Inv X pins σ (upd H s.heap.objs.size (.tup [.int (i:Nat),x])) { s with heap:=g2,toks:=tk+1 }:=In.turnedNew (t':=tk+1) (fp:=[e,J]) (λc o U q=>by
    simp only[i6,p_,or_false,not_or] at U;exact(s2.2 c U.1).trans (hk c o U.1 U.2 q)) hf (j5 _)
   ⟨by show 2<=g0;decide,[.int i tk,v],.cons ⟨tk,rfl⟩ (.cons ru .nil),⟨_,(s2.2 _ (JQ ae)).trans ht,rfl,_,rfl⟩⟩
  refine⟨.ref s.heap.objs.size,_,I2,rfl,⟨_,x,ad,rfl,rfl,λzs af=>by rw[In.list_inj af hq];exact hx⟩,⟨⟨v,by simpa using am⟩,ag.1.at λo q=>(s2.2 J ac.symm).trans q⟩,λc U=>?_⟩
  simp only[i6,p_,or_false] at U;rcases U with rfl | rfl
  .rw[ai (k_ ae)];exact(hf _ (by simp)).1
  .rw[ai (k_ ao)];exact(hf _ (by simp)).1
 done:=by
  intro X hP hw hK U i pins s σ H E In hf st hg;subst hP hw hK;obtain⟨xs,hq,hx⟩:=hg;obtain⟨its,rv,p,hz⟩:=In.list hq;obtain⟨⟨Y,Z⟩,hi⟩:=st;have pl:s.heap.IsList a its.toArray:=p.isList
  have aa:a≠J:=λz=>by
   obtain⟨o1,q1,q2,_⟩:=hi;obtain⟨o2,q3,q4,_⟩:=id pl;rw[<- z,q3] at q1;cases q1;rw[q4] at q2;exact absurd q2 (by simp)
  have hn:its.toArray.size=i:=by have:=rv.length;simp;omega
  subst hn;refine wpAny_pyNext_enum_endD (Draws.list (A:=X.A.in1) (show X.A.in1.handled=none from In.ok.hd U) J a aa its.toArray) Z ⟨hi,pl⟩ λg hk=>⟨rfl,In.turnedL (t':=s.toks) (fp:=[e,J]) (λc o U q=>hk c o (λz=>U (by simp[z])) q) hf⟩
 self:=λ_ _ _ _ _ st h=>by
  obtain⟨⟨Y,Z⟩,_⟩:=st;exact wpAny_pyIter_enum Z h
def iEl (K:ge) (ta:TA):TI:=λσ H R=>ta σ H λvs H1=>∃a,vs=[.ref a]/\∃xs,H1 a*>xs/\R (EA K a) H1
theorem An {p:Pos} {x1} (hK:X.K=K) (hg:Gl X "enumerate") (hm:X.mg "enumerate" = none) (ha:PA X [e1] ta) (hs:m9 [e1] X.env=[(false,eval e1 X.env)]:=by rfl) :
  PI X (.Tuple es x1 pos') (.Call (.Name "enumerate" p) [e1] [] pos) (iEl K ta):=by
 subst hK;intro pins s σ H R I h;refine Call_ (dH I hg hm nW (o5 (thn (ha pos pins s σ H _ I h) λus z ⟨vs,H1,I1,r1,q1⟩=>?_) (by rw[hs];rfl) rfl))
 obtain⟨a,e,xs,Y,q⟩:=q1;subst e;obtain⟨u,rfl,ru⟩:=cK r1;cases ru;obtain⟨its,rv,pl,hz⟩:=I1.list (SqL.of Y);refine call_enumerate_list (show z.heap.IsList a its.toArray from pl.isList) λg U hJ _ kg=>?_
 generalize ac:z.heap.objs.size+1=e at U;generalize aa:z.heap.objs.size=J at U hJ;have Z:e≠J:=()
 have l1:z.heap.objs.size<=e:=()
 have l2:z.heap.objs.size<=J:=()
 refine wpAny_pyIter_enum (s:={ z with heap:=g }) U ⟨e,[e,J],_,_,H1,rfl,I1.kept (t':=z.toks) kg,wG a e J Z,⟨⟨_,U⟩,hJ⟩,λc hc=>?_,q⟩
 simp only[i6,p_,or_false] at hc;rcases hc with rfl | rfl
 .exact I1.fpOk l1 (I1.hok.fresh l1)
 .exact I1.fpOk l2 (I1.hok.fresh l2)
theorem CH {tb:TS} (z:Nat->St->Hp->Prop) (h0:z 0 σ H) (hl : ∀i σ H,z i σ H->SqL K H a xs)
  (hs : ∀(i:Nat) (x:V) (σ:St) (H:Hp) (t:Addr),xs[i]? = some x->z i σ H->H t=none->g (.ref t) σ (upd H t (.tup [.int (i:Nat),x])) λY H2=>tb { D with nx:=z (i+1),ct:=z (i+1),bk:=D.nx } Y H2)
  (hd : ∀ σ H,z xs.length σ H->D.nx σ H):C9 (EA K a) g tb D σ H:=by
 refine⟨λi m σ H=>z i σ H/\i<=xs.length/\m=xs.length - i,⟨_,h0,r_ _,rfl⟩,?_⟩
 rintro i m σ H ⟨Z,hi,rfl⟩
 have sa:=hl i σ H Z
 by_cases U:i=xs.length
 .left
  subst U;exact⟨⟨xs,sa,rfl⟩,hd σ H Z⟩
 .right
  have h1:i < xs.length:=()
  refine⟨⟨xs,xs[i],sa,by simp[h1]⟩,λσ' H'=>z (i+1) σ' H',λσ' H' h=>⟨_,(),h,(),rfl⟩,?_⟩
  rintro v H' ⟨t,x,ht,rfl,rfl,e1⟩
  exact hs i x σ H t (e1 xs sa) Z ht
end L2
namespace PySem
section
variable {K:Type} [DecidableEq K] {knd:HeapKind prog w K} {A:Around} {E:Value->Shared->Prop} {s:Shared} {d a:Addr} {k:K} {xs:List (K × Addr × Value)}
theorem iG {α β:Type} (f:α->β) : ∀(l:List α) (j:Nat),(l.map f).eraseIdx j=(l.eraseIdx j).map f
 | [],_=>rfl
 | _ :: _,0=>rfl
 | x :: r,j+1=>by show f x ::(r.map f).eraseIdx j=f x ::(r.eraseIdx j).map f;rw[iG f r j]
end
end PySem
namespace L2
open PySem PySem.Spec PyProof.Rows
def wD (t:TE):TE:=λσ H Q=>∃a kvs,H a<*kvs/\t σ H λv H'=>(∃o,H' a=some (.frz o (.dK kvs)))/\Q v (upd H' a (.dK kvs))
theorem yG {t:TE} (h:PE X e t):PE X e (wD t):=by
 intro pins s σ H Q I ⟨a,kvs,ha,ht⟩;have hn : ∀ob u,X.H₀ a≠some (.frz ob u):=λob u e=>by have:=I.base.frzs a ob u e;rw[ha] at this;cases this
 refine thn (h pins s σ H _ I ht) λu s' ⟨v,H',I',rv,⟨o,eo⟩,q⟩=>?_
 exact⟨v,_,I'.retag eo (by intro y z;cases z) (by intro y z;cases z) hn (by intro y z;cases z) (show s'.heap.get? a=some o/\bf X.prog X.w H' s'.heap a (.dK kvs) from I'.hok a _ eo).2,rv,q⟩
end L2
namespace PySem
open L2 PyProof.Rows PySem.Calls
section
variable {K:Type} [DecidableEq K] {knd:KeyKind prog w K} {d:Addr} {kvs:List (K × Value)} {ep:Nat}
theorem tE {Q : List Value->Shared->Prop} (hh:A.handled=none) (lo:(d == Jq)=false) (Z:s.heap.DictAt knd d kvs ep) (hn:kvs.length<=g0)
  (k : ∀(vs:List Value) (h':Heap) (tk:Nat),vs.length=kvs.length->(∀(j:Nat) v,vs[j]? = some v->∃q x,kvs[j]? = some (q,x)/\knd.is q v=true)->s.heap.objs.size < h'.objs.size->(∀b o,s.heap.get? b=some o->h'.get? b=some o)->Q vs { s with heap:=h',toks:=tk }):wpAny (model prog w) A (collect (.ref d)) Q E s:=by
 unfold collect;refine c_ (wpAny_runValue (H_ PySem.F.entry_proto_collect ?_))
 rw[B_ PySem.F.plain_proto_collect _];refine c_ (m:=newList []) (Gt (fy ⟨JZ PySem.F.plain_list_iadd _,H_ PySem.F.entry_list_iadd ?_⟩))
 rw[B_ PySem.F.plain_list_iadd _];have Y:=Z.push { cls:=.type "list",data:=.seq ([]:List Value).toArray };have gS:(s.heap.push { cls:=.type "list",data:=.seq ([]:List Value).toArray }).get? s.heap.objs.size=some { cls:=.type "list",data:=.seq ([]:List Value).toArray }:=g9 _ rfl
 have U:s.heap.objs.size≠d:=JQ Z.lt_size
 show wpAny _ A.in1 (u_ (.ref s.heap.objs.size) (.ref d) (.ref s.heap.objs.size)) _ _ _
 refine PySem.W.kdl_extend (R:=λr s'=>match r with
   | Except.ok (Flow.ret v)=>wpAny (model prog w) A (match v with
     | m8 a=>do
      let o <- load a
      match o.data with
       | Data.seq xs _=>pure xs.toList
       | _=>unsupported "internal:collect"
     | _=>unsupported "internal:collect") Q E s'
   | Except.ok _=>False
   | Except.error e=>E e s') (s:={ s with heap:=s.heap.push { cls:=.type "list",data:=.seq ([]:List Value).toArray } }) (kdl_dict (knd:=knd) (kvs:=kvs) (ep:=ep) lo) hh Y _ U U _ 0 gS (λh' tk acc c hk g z=>?_) hn
 refine c_ (wpAny_load g (fy (k _ _ _ ?_ (λj v e=>?_) (gs g) λb o e=>hk b o (k_ (gs e)) (d_ _ e))))
 .rw[w9];exact z.1
 .exact z.2 j v (by rw[<- KI];exact e)
end
end PySem
namespace L2
open PySem PySem.Spec PyProof.Rows
noncomputable def fe (i:Nat):TE:=λσ H Q=>match σ[i]? with | some (some v)=>Q v H | _=>False
theorem BD {Q:VK} (h:fe i σ H Q):Db i σ H Q:=by
 unfold fe at h
 split at h
 .exact⟨_,by assumption,h⟩
 .exact h.elim
theorem pvM (i:Nat) {x:Str} {pos:Pos} (U:X.N[i]? = some x:=by rfl) (Y:Vis X.env.scope x:=by first | exact Or.inl rfl | exact Or.inr (Or.inl rfl) | exact Or.inr (Or.inr rfl)) (Z:(x ==("__debug__" : Str))=false:=by decide)
  (z:(x ==("__classdict__" : Str))=false:=by decide):PE X (.Name x pos) (fe i):=λpins s σ H Q I h=>Gx U Y Z z pins s σ H Q I (BD h)
end L2
namespace PySem
open Sem (wp)
section
variable {o:Obj} {xs:Array Value} {Q:Option Value->Shared->Prop}
theorem lR (hx:s.heap.get? a=some o) (hc:o.cls = .type "tuple") (z:o.data = .seq xs k) (hd:o.dict=none) (U:KQ (.type "tuple") name=pure none) (Y:(["__module__","__name__","__qualname__","__doc__","__annotations__"]:List Str).contains name=false) (hA:A.handled=none)
  (h : ∀h' tk,(∀b u,s.heap.get? b=some u->h'.get? b=some u)->Q none { s with heap:=h',toks:=tk }) (hsz:name.length+100<=g0:=by size_fits) :
  wpAny (model prog w) A (getAttr? (.ref a) name) Q E s:=by
 obtain⟨c,ac,dat,sl⟩:=o;simp only at hc z hd;subst hc z hd;obtain⟨hp,g,d,tk,os⟩:=s;have hT : ∀Z,(⟨hp,g,d,Z,os⟩:Shared).TypeIs (.ref a) "tuple" := λ_=>⟨_,hx,rfl⟩
 have f1:=sub_AttributeError;have f3:=F.slot_tuple_getattribute.lookup;have f4:=F.slot_tuple_getattribute.bind (.ref a);have f5:=am_tuple_getattr_none;unfold getAttr? getAttrBy? getAttrBy
 repeat (any_goals (first | assumption | exact hT _ | ((with_reducible show wpAny _ _ (call (Value.builtin "tuple.__getattribute__") _ _) _ _ _);refine Kw F.slot_tuple_getattribute (hT _) am_entry_tuple_getattribute (F.args_tuple_getattribute_2 _ _) (meets_getattribute_miss_tuple a xs k sl name _ U Y hsz) ⟨hx,hA,λh' Z e aa=>?_⟩) | wp_step))
 obtain⟨t',u',he⟩:=aa.there
 show wpAny _ _ (getattributeRaised _ _ _ _ _ _ _) _ _ _
 unfold getattributeRaised
 repeat (any_goals (first | assumption | wp_step))
 exact h _ _ aa.keeps
theorem mJ (hx:s.heap.get? a=some o) (hc:o.cls = .type "list") (z:o.data = .seq xs k) (hd:o.dict=none) (U:KQ (.type "list") name=pure none) (Y:(["__module__","__name__","__qualname__","__doc__","__annotations__"]:List Str).contains name=false) (hA:A.handled=none)
  (h : ∀h' tk,(∀b u,s.heap.get? b=some u->h'.get? b=some u)->Q none { s with heap:=h',toks:=tk }) (hsz:name.length+100<=g0:=by size_fits) :
  wpAny (model prog w) A (getAttr? (.ref a) name) Q E s:=by
 obtain⟨c,ac,dat,sl⟩:=o;simp only at hc z hd;subst hc z hd;obtain⟨hp,g,d,tk,os⟩:=s;have hT : ∀Z,(⟨hp,g,d,Z,os⟩:Shared).TypeIs (.ref a) "list" := λ_=>⟨_,hx,rfl⟩
 have f1:=sub_AttributeError;have f3:=F.slot_list_getattribute.lookup;have f4:=F.slot_list_getattribute.bind (.ref a);have f5:=am_list_getattr_none;unfold getAttr? getAttrBy? getAttrBy
 repeat (any_goals (first | assumption | exact hT _ | ((with_reducible show wpAny _ _ (call (Value.builtin "list.__getattribute__") _ _) _ _ _);refine Kw F.slot_list_getattribute (hT _) am_entry_list_getattribute (F.args_list_getattribute_2 _ _) (meets_getattribute_miss_list a xs k sl name _ U Y hsz) ⟨hx,hA,λh' Z e aa=>?_⟩) | wp_step))
 obtain⟨t',u',he⟩:=aa.there
 show wpAny _ _ (getattributeRaised _ _ _ _ _ _ _) _ _ _
 unfold getattributeRaised
 repeat (any_goals (first | assumption | wp_step))
 exact h _ _ aa.keeps
end
namespace F
theorem entry_dict_update_loop:entryFor table "dict.update.loop" = some Builtin.«dict.update.loop» := entryFor_of_tree (by kernel_rfl)
theorem plain_dict_update_loop:plainId "dict.update.loop" = true:=by decide+kernel
theorem lk_tuple_keys:KQ (.type "tuple") "keys" = pure none:=by rw[typeLookup_type,KJ];kernel_rfl
theorem lk_list_keys:KQ (.type "list") "keys" = pure none:=by rw[typeLookup_type,KJ];kernel_rfl
end F
section
variable {K:Type} [DecidableEq K] {knd:KeyKind prog w K} {A:Around} {R:Result->Shared->Prop} {I:Addr} {fp wr:List Addr} {G:Array GenState->Array GenState->Prop} {n:Nat} {P:Nat->Value->Prop} {St:Nat->Shared->Prop}
theorem fk (W:WalksS prog w A.in1 I fp wr G n P St) (D:Addr) (ag:D∉fp) (h0:Heap) (key:Nat->K) (val:Nat->Value) (kv:Nat->List (K × Value))
  (ac : ∀i v,i < n->P i v->∃q o k0 m,v = .ref q/\q∉D :: wr/\h0.get? q=some o/\o.cls = .type "tuple" /\ o.data = .seq #[k0,val i] m/\knd.is (key i) k0=true)
  (ar : ∀i,i < n->kv (i+1)=stored (kv i) (key i) (val i)) (hsz : ∀i,i<=n->(kv i).length<=g0) :
  ∀ (k i:Nat) (s:Shared) (tok:Tok),n - i=k->i<=n->St i s->s.heap.DictOf knd D (kv i)->(∀b o,b∉D :: wr->h0.get? b=some o->s.heap.get? b=some o) ->
   (∀s',Moved (D :: wr) G s s'->s'.heap.DictOf knd D (kv n)->R (.ok (.ret .none)) s') ->
   codeAny (model prog w) A (.builtin "dict.update.loop" ⟨[.ref D,.ref I,.int i tok,.none],[]⟩) R s:=by
 have af:D∉wr:=λh=>ag (W.sub _ h)
 have U : ∀b∈wr,b∈D :: wr:=λb Y=>j9 _ Y
 intro k
 induction k with
 | zero =>
  intro i s tok hk hi ad hD ae hR;have ao:i=n:=()
  subst ao;refine H_ F.entry_dict_update_loop ?_
  rw[B_ F.plain_dict_update_loop _]
  show wpAny _ A.in1 (pyNext (.ref I) >>= _) _ _ s
  refine c_ (W.done s _ _ ad λs' hm=>?_)
  show wpAny _ A.in1 (do Builtin.Dict.addKeywords D [];ret o9) _ _ s'
  refine c_ (fy (fy (hR s' (hm.mono U) ?_)))
  obtain⟨o,es,ep,ho,rest⟩:=hD;exact⟨o,es,ep,hm.heap D _ af ho,rest⟩
 | succ k ih =>
  intro i s tok hk hi ad hD ae hR;have Z:i < n:=()
  refine H_ F.entry_dict_update_loop ?_
  rw[B_ F.plain_dict_update_loop _]
  show wpAny _ A.in1 (pyNext (.ref I) >>= _) _ _ s
  refine c_ (W.item i s _ _ Z ad λv s' hP am hm=>?_)
  obtain⟨q,o,k0,m,rfl,hq,hg,hc,hd,au⟩:=ac i v Z hP;have ap:s'.heap.DictOf knd D (kv i):=by
   obtain⟨o,es,ep,ho,rest⟩:=hD;exact⟨o,es,ep,hm.heap D _ af ho,rest⟩
  have ak:s'.heap.get? q=some o:=hm.heap q o (λz=>hq (U _ z)) (ae q o hq hg)
  obtain⟨c,av,dat,sl⟩:=o;simp only at hc hd;subst hc hd;have hT:s'.TypeIs (.ref q) "tuple" :=⟨_,ak,rfl⟩
  dsimp only;refine c_ (C_ (c_ ?_))
  refine wpAny_tryCatch ?_
  unfold Builtin.Dict.pairItems;refine c_ (KH hT ?_)
  rw[if_pos ∅]
  refine c_ (wpAny_seqItems ak rfl ?_)
  refine fy ?_
  show wpAny _ _ (holding [k0,val i] (dictSet D k0 (val i))) _ _ s'
  refine C_ (wpAny_dictSet_pairs au ap (λh' an aa=>?_) (hsz i hi))
  refine fy ⟨JZ F.plain_dict_update_loop _,ih (i+1) _ _ () Z (W.frame _ s' _ _ am (Ks _) λb Y o e=>?_) (by rw[ar i Z];exact an) (λb o Y e=>?_) λaq ah ai=>?_⟩
  .rw[aa.2 b (λh:b=D=>ag (by rw[<- h];exact Y))];exact e
  .rw[aa.2 b (λh:b=D=>Y (by rw[h];exact j_))]
   exact hm.heap b o (λz=>Y (U _ z)) (ae b o Y e)
  .refine hR aq (Moved.trans W.gtrans ((hm.mono U).then_heap (Ks _) λb o Y e=>?_) ah) ai
   rw[aa.2 b (λh:b=D=>Y (by rw[h];exact j_))];exact e
theorem call_dict_pairs {o:Obj} {m:Nat} {key:Nat->K} {val:Nat->Value} {kv:Nat->List (K × Value)}
  (an:T = "tuple" \/ T = "list") (hh:A.handled=none) (hl:s.heap.get? l=some o) (hc:o.cls = .type T) (z:o.data = .seq items m) (hd:o.dict=none)
  (ag : ∀i v,items[i]? = some v->∃q o k0 m,v = .ref q/\s.heap.get? q=some o/\o.cls = .type "tuple" /\ o.data = .seq #[k0,val i] m/\knd.is (key i) k0=true)
  (h0:kv 0=[]) (au : ∀i,i < items.size->kv (i+1)=stored (kv i) (key i) (val i)) (hsz : ∀i,i<=items.size->(kv i).length<=g0)
  (h : ∀h' tk,h'.DictOf knd s.heap.objs.size (kv items.size)->(∀b o,s.heap.get? b=some o->h'.get? b=some o)->Q (.ref s.heap.objs.size) { s with heap:=h',toks:=tk }) :
  wpAny (model prog w) A (call (.type "dict") [.ref l]) Q E s:=by
 refine callType_codes (Q₁:=λai s₁=>ai = .ref s.heap.objs.size/\s₁={ s with heap:=s.heap.push { cls:=.type "dict",data:=.dict #[] } }) F.kt_called_dict (F.kt_typeCall_dict_1 _) F.entry_dict_init (kt_code_dict_new _ ⟨rfl,rfl⟩) ?_
 rintro ai s₁ ⟨rfl,rfl⟩
 have ac:(s.heap.push { cls:=.type "dict",data:=.dict #[] }).DictOf knd s.heap.objs.size []:=Heap.DictOf.new s.heap
 refine⟨ac.typeIs,F.args_dict_init_2 _ _,?_⟩
 unfold Builtin.«dict.__init__»;refine c_ ?_
 unfold Builtin.Dict.selfAndRest;refine c_ (wpAny_notOrdered_dict ac.typeIs ?_)
 show wpAny _ _ (pure (s.heap.objs.size,[m8 l])) _ _ _
 refine fy ?_
 show wpAny _ _ (Builtin.Dict.updateFrom "dict.__init__" s.heap.objs.size (.ref l) [] .none) _ _ _
 unfold Builtin.Dict.updateFrom;have U:(s.heap.push { cls:=.type "dict",data:=.dict #[] }).get? l=some o:=d_ _ hl
 have am:Shared.TypeIs { s with heap:=s.heap.push { cls:=.type "dict",data:=.dict #[] } } (.ref l) T:=⟨_,U,hc⟩
 refine c_ (KH am ?_)
 have ae : ∀(h1:Heap) (Y:Nat),(∀b u,(s.heap.push { cls:=.type "dict",data:=.dict #[] }).get? b=some u->h1.get? b=some u) ->
   ∀(TI:Obj) (St:Nat->Heap->Prop),Walks prog w A.in1.in1 h1.objs.size [h1.objs.size,l] [h1.objs.size] items.size (λi v=>items[i]? = some v) St->St 0 (h1.push TI) ->
   codeAny (model prog w) A.in1 (.builtin "dict.update.loop" ⟨[.ref s.heap.objs.size,.ref h1.objs.size,rawInt 0,.none],[]⟩) (wants (λr ak=>r=o9/\Q (m8 s.heap.objs.size) ak) E) { s with heap:=h1.push TI,toks:=Y }:=by
  intro h1 Y Z TI St W aq;obtain⟨od,_,_,ar,_⟩:=ac;have aa:s.heap.objs.size < h1.objs.size:=gs (Z _ _ ar)
  have ap:l < s.heap.objs.size:=gs hl
  have ao:s.heap.objs.size∉[h1.objs.size,l]:=by
   simp only[i6,g7,p_,or_false,not_or];exact⟨k_ aa,JQ ap⟩
  have af : ∀b o,s.heap.get? b=some o->(h1.push TI).get? b=some o:=λb o e=>d_ _ (Z b o (d_ _ e))
  refine fk (knd:=knd) W.toS s.heap.objs.size ao s.heap key val kv (λi v hi hv=>?_) au hsz (items.size - 0) 0 _ 0 rfl (r_ _) aq ?_ (λb o _ e=>af b o e) λs' hm hD=>?_
  .obtain⟨q,o,k0,m,rfl,hg,r⟩:=ag i v hv
   have hq:=gs hg;exact⟨q,o,k0,m,rfl,by simp only[i6,g7,p_,or_false,not_or];exact⟨k_ hq,k_ (lt_trans hq aa)⟩,hg,r⟩
  .rw[h0]
   obtain⟨o,es,ep,ho,rest⟩:=(Heap.DictOf.new (knd:=knd) s.heap);exact⟨o,es,ep,d_ _ (Z _ _ ho),rest⟩
  .obtain⟨h',g',d',tk',os'⟩:=s'
   have eg:g'=s.gens:=hm.gens
   have ed:d'=s.drawn:=hm.drawn
   have eo:os'=s.os:=hm.os
   subst eg;subst ed;subst eo;refine⟨rfl,h h' tk' hD λb o e=>hm.heap b o ?_ (af b o e)⟩
   have hq:=gs e;simp only[i6,g7,p_,or_false,not_or];exact⟨k_ hq,k_ (lt_trans hq aa)⟩
 have ad:A.in1.in1.handled=none:=by simp[hh]
 rcases an with rfl | rfl
 .rw[if_pos ∅]
  refine c_ (lR U hc z hd F.lk_tuple_keys (by decide+kernel) ad (λh1 Y Z=>?_))
  rw[if_pos (show(isNone (none:Option Value))=true from rfl)]
  refine c_ (wpAny_rule ?_)
  have ht:h1.IsTuple l items:=⟨o,Z _ _ U,hc,m,z⟩
  refine c_ (JT ht ?_)
  have ah:l≠h1.objs.size:=k_ (gs (Z _ _ U))
  refine fy ⟨JZ F.plain_dict_update_loop _,ae h1 Y Z _ _ (Walks.tuple ad _ l ah items) ⟨⟨_,g9 _ rfl,rfl,rfl⟩,?_⟩⟩
  exact⟨o,d_ _ (Z _ _ U),hc,m,z⟩
 .rw[if_pos ∅]
  refine c_ (mJ U hc z hd F.lk_list_keys (by decide+kernel) ad (λh1 Y Z=>?_))
  rw[if_pos (show(isNone (none:Option Value))=true from rfl)]
  refine c_ (wpAny_rule ?_)
  have ht:h1.IsList l items:=⟨o,Z _ _ U,hc,m,z⟩
  refine c_ (J7 ht ?_)
  have ah:l≠h1.objs.size:=k_ (gs (Z _ _ U))
  refine fy ⟨JZ F.plain_dict_update_loop _,ae h1 Y Z _ _ (Walks.list ad _ l ah items) ⟨⟨_,g9 _ rfl,rfl,rfl⟩,?_⟩⟩
  exact⟨o,d_ _ (Z _ _ U),hc,m,z⟩
end
end PySem
namespace L2
open PySem PySem.Spec PyProof.Rows
structure Ec (w:World) (K:ge) (a:Addr):Prop where
 ex : ∃es n,K.lookup a=some ⟨.type "dict",none,.dict es n,#[]⟩/\PySem.W.KeysLit w.params es.toList
def FnT (P:Program) (w:World) (K:ge) (mg:Str->Option Value) (base:Heap) (a:Addr) (x:Str) (k:Nat) (ps:List Str) (sp:Sp):Prop :=
 ∃f fd,gU P w K mg base CX0 k f fd ps sp/\nsIn K a x=some (-f)/\keepIn K (.ref f)=true/\jQ K fd ps []
theorem dQ {y:Str} (F:Fn P w K mg base y j ps sp) (z:mg y=-f) (hn:nsIn K a x=some (-f)) (h:j<=k)
  (Y : ∀vs H Q E,sp' vs H Q E->sp vs H Q E):FnT P w K mg base a x k ps sp':=by
 obtain⟨Z,fd,F,m,U,b⟩:=F;rw[z] at m;cases m;exact⟨f,fd,(F.mono h).imp Y,hn,U,b⟩
noncomputable def dB (names:List Str) (sp:Str->Sp) (tb:TE) (t:TA):TE:=λσ H Q=>tb σ H λy H1=>∃x,y = .str x/\x∈names/\t σ H1 λvs H2=>sp x vs H2 Q E0
section
variable {p:Pos} {b:Expr} {t:TA}
theorem vm {sp:Str->Sp} (TA:Ec X.w X.K a) (F : ∀y∈names,FnT X.prog X.w X.K X.mg X.base a y k ps (sp y)) (hm:X.mg x=-a) (hb:PE X b tb) (ha:PA X (e :: es) t) (hr:cR k X.A:=by exact cR.mono (by assumption) (by first | decide | omega)) (hg:Gl X x:=by exact rfl)
  (hs:mT b:=by exact λ_ _=>rfl) (Y:(x ==("__debug__" : Str))=false:=by decide)
  (he:m9 (e :: es) X.env=(false,eval e X.env) :: m9 es X.env:=by rfl) (Z:(JS pos (m9 es X.env)).any (·.1)=false:=by rfl) :
  PE X (.Call (.Subscript (.Name x p) b p1) (e :: es) [] pos) (dB names sp tb t):=by
 intro pins s σ H Q I h
 show wpAny _ _ (do callWith pos (<- eval (.Subscript (.Name x p) b p1) X.env) [] (JS pos (m9 (e :: es) X.env)) (backToKw pos (keywordEach [] X.env))) _ _ s
 refine c_ (KR (tD I hg hm (thn (hb pins s σ H _ I h) λu s1 z=>?_) Y))
 obtain⟨v,H1,I1,r,y,ey,hy,q⟩:=z;subst ey;obtain⟨tk,rfl⟩:=r;obtain⟨f,fd,F,hn,kp,bd⟩:=F y hy;obtain⟨aa,n,hl,hk⟩:=TA.ex;have U:=PySem.W.mapOf_K (prog:=X.prog) I1.kIn hl hk;refine PyProof.Rows.tail_any U.typeIs Kb.lookup (wpAny_getItem_of (strKind_is X.prog X.w y tk) U (PySem.W.find_K hl hn) ?_) (hs _ _)
 have I2:Inv X pins σ H1 { s1 with toks:=s1.toks+1 }:=I1.tok _
 refine callWith_K (h₀:=X.base) I.ok.mod.kin kp (thn (ha pos pins _ σ H1 _ I2 q) λus s3 ⟨vs,H3,I3,r3,q3⟩=>⟨I3.kIn,?_⟩) he Z
 exact su F hr bd .nil yy I3 r3 (by rw[J8];exact q3)
end
def II (H:Hp) (p:Addr) (ys:List V):Prop:=∃o:Obj,o.dict=none/\H p=some (.frz o (.tup ys))
def PrsAt (H:Hp) (ys:List V) (prs:List (Key × V)):Prop:=∃as:List (Addr × Key × V),ys=as.map (λx=>V.ref x.1)/\as.map (·.2)=prs/\∀x∈as,H x.1>>[kV x.2.1,x.2.2]
def BB:List V->Hp->VK->Prop:=λxs H Q=>∃p,xs=[.ref p]/\∃ys prs,(II H p ys\/H p*>ys)/\PrsAt H ys prs/\prs.length<=g0/\∀d,H d=none->Q (.ref d) (upd H d (.dK (dN [] prs)))
theorem pC {pins:List (Addr × Obj)} {σ:St} {H:Hp} {s:Shared} (I:Inv X pins σ H s) : ∀as:List (Addr × Key × V),(∀x∈as,H x.1>>[kV x.2.1,x.2.2]) ->
  ∃rs:List (Key × Value),KV (as.map (·.2)) rs/\∀(i:Nat) (x:Addr × Key × V),as[i]? = some x->∃(o:Obj) (z:Value) (m:Nat) (r:Value),rs[i]? = some (x.2.1,r)/\s.heap.get? x.1=some o/\o.cls = .type "tuple" /\ o.data = .seq #[z,r] m/\(aY X.prog X.w).is x.2.1 z=true
 | [],_=>⟨[],.nil,λi x h=>by simp at h⟩
 | y :: as,h=>by
  obtain⟨rs,h1,h2⟩:=pC I as λx Z=>h x (j9 _ Z)
  obtain⟨its,r,⟨o,ho,hc,m,hd⟩,_⟩:=I.tuple (.of (h y j_));obtain⟨u,v,rfl,Y,U⟩:=vG r;refine⟨(y.2.1,v) :: rs,.cons ⟨rfl,U⟩ h1,λi x e=>?_⟩
  cases i with
  | zero =>
   simp at e
   subst e;exact⟨o,u,m,v,rfl,ho,hc,hd,kH Y⟩
  | succ i=>exact h2 i x (by simpa using e)
theorem ue (rs:List (Key × Value)) (i:Nat) (x:Key × Value) (h:rs[i]? = some x):merged [] (rs.take (i+1))=stored (merged [] (rs.take i)) x.1 x.2:=by
 rw[i8,h];unfold merged;rw[List.foldl_append];rfl
theorem xx (hc:X.calm=true):bH X (.type "dict") BB:=by
 intro pins s σ H xs us Q I r h;obtain⟨p,rfl,ys,prs,hz,⟨as,rfl,rfl,hp⟩,hl,q⟩:=h;obtain⟨u,rfl,rx⟩:=cK r;cases rx;obtain⟨rs,kv,af⟩:=pC I as hp;have ag:as.length=rs.length:=by have:=Paired.length kv;simpa using this
 obtain⟨its,o,T,m,Z,ho,hT,ad,z,Y⟩ : ∃(its:List Value) (o:Obj) (T:String) (m:Nat),aX (as.map λx=>V.ref x.1) its/\s.heap.get? p=some o/\(T = "tuple" \/ T = "list")/\o.cls = .type T/\o.data = .seq its.toArray m/\o.dict=none:=by
  rcases hz with⟨o,hd,e⟩ | e
  .obtain⟨h1,_,its,r,o',h2,h3,m,h4⟩:=(show bf X.prog X.w H s.heap p (.frz o (.tup _)) from I.hok p _ e)
   rw[h1] at h2;cases h2;exact⟨its,o,"tuple",m,r,h1,.inl rfl,h3,h4,hd⟩
  .obtain⟨_,its,m,r,h1⟩:=(show bf X.prog X.w H s.heap p (.lst _) from I.hok p _ e)
   exact⟨its,_,"list",m,r,h1,.inr rfl,rfl,rfl,rfl⟩
 have aa:its.toArray.size=rs.length:=by have:=Z.length;simp at this ⊢;omega
 refine PySem.call_dict_pairs (knd:=aY X.prog X.w) (key:=λi=>((rs[i]?).map (·.1)).getD (i9 0)) (val:=λi=>((rs[i]?).map (·.2)).getD .none) (kv:=λi=>merged [] (rs.take i)) hT (I.ok.hd hc) ho ad z Y (λi v hv=>?_) rfl (λi hi=>?_) (λi hi=>?_) λh' tk dd kp=>?_
 .have hi:i < its.length:=by
   have:=(Array.getElem?_eq_some_iff.mp hv).1
   simpa using this
  have U:i < as.length:=by have:=Z.length;simp at this;omega
  obtain⟨w',hw,ae⟩:=Z.get (i:=i) (x:=V.ref (as[i].1)) (by simp[U])
  have ev:v=w':=by
   rw[JX,hw] at hv;exact(f_ hv).symm
  subst ev;cases ae;obtain⟨o',k0,m',rr,e1,e2,e3,e4,e5⟩:=af i as[i] (by simp[U])
  refine⟨_,o',k0,m',rfl,e2,e3,?_,?_⟩
  .simp only[e1,Kh,getD_some];exact e4
  .simp only[e1,Kh,getD_some];exact e5
 .have hi':i < rs.length:=()
  have e:rs[i]? = some rs[i]:=by simp[hi']
  rw[ue rs i _ e];simp only[e,Kh,getD_some]
 .have h1:(merged [] (rs.take i)).length<=(rs.take i).length:=by
   have hg : ∀(ms ks:List (Key × Value)),(merged ks ms).length<=ks.length+ms.length:=by
    intro ms
    induction ms with
    | nil=>intro ks;simp[merged]
    | cons y ms ih =>
     intro ks;have h1:=ih (stored ks y.1 y.2);have h2:(stored ks y.1 y.2).length<=ks.length+1:=by unfold stored;split <;> simp
     show(merged (stored ks y.1 y.2) ms).length<=_
     simp only[KA];omega
   simpa using hg (rs.take i) []
  have h2:(rs.take i).length<=rs.length:=by simp;omega
  simp at hl
  omega
 .rw[aa,k9] at dd
  have ac:=fM (as.map (·.2)) [];simp at hl ac
  refine⟨.ref s.heap.objs.size,_,I.laid (a:=s.heap.objs.size) (o:=.dK (dN [] (as.map (·.2)))) (t':=tk) kp (j5 _) ⟨(),beq_eq_false_iff_ne.mpr (Jx (k_ I.big)),_,KV.merge kv .nil,dd⟩,rfl,q _ (I.hok.fresh (j5 _))⟩
end L2
namespace PySem
theorem jd:entryFor table "dict_itemiterator.__iter__" = some Builtin.«dict_keyiterator.__iter__» :=
 entryFor_alias (id' := "dict_keyiterator.__iter__") (by kernel_rfl) rfl (by decide+kernel) (by kernel_rfl)
theorem gT {ok Y:Value} (U:IsItemIter s.heap it d i n ep ok Y) (h:Q (.ref it) s):wpAny (model prog w) A (pyIter (.ref it)) Q E s:=by
 have z:s.TypeIs (.ref it) "dict_itemiterator" :=⟨_,U,rfl⟩
 refine wpAny_pyIter_slot z F.slot_dict_itemiterator_iter (y4 F.slot_dict_itemiterator_iter z jd ?_ (F.args_dict_itemiterator_iter_1 _))
 show wpAny _ _ (ret (.ref it)) _ _ s
 exact fy ⟨_,rfl,"dict_itemiterator",_,z,F.slot_dict_itemiterator_next.lookup,h⟩
end PySem
namespace L2
open PySem PySem.Spec PyProof.Rows
def Iti (a:Addr) (o:Obj) (kvs:List (Key × V)):It :=
  ⟨λi H=>H a=some (.frz o (.dK kvs))/\i < kvs.length,
   λi H v H'=>∃t k x,H t=none/\v = .ref t/\H'=upd H t (.tup [kV k,x])/\kvs[i]? = some (k,x),
   λi H=>H a=some (.frz o (.dK kvs))/\kvs.length<=i⟩
theorem wY {x1} {pos:Pos} (a it:Addr) (o:Obj) (kvs:List (Key × V)) (ep:Nat) (ah : ∃es,o.data = .dict es ep) :
  vy P w K (.Tuple es x1 pos) (Iti a o kvs) [it] it (λi h=>∃ok ov,IsItemIter h it a i kvs.length ep ok ov) where
 mem:=by simp
 obj:=λi h st b hb=>by
  have e:b=it:=by simpa using hb
  subst e;obtain⟨ok,ov,h⟩:=st;exact⟨_,h,λv z=>by cases z⟩
 keep:=λi h h' st k=>by
  obtain⟨ok,ov,h⟩:=st;exact⟨ok,ov,k it (by simp) _ h⟩
 item:=by
  intro X hP hw hK hc i pins s σ H E In hf st hg;subst hP hw hK;obtain⟨ha,hi⟩:=hg;obtain⟨ho,hz,hd,vs,aa,od,es,Z,Y,hr⟩:=(show s.heap.get? a=some o/\bf X.prog X.w H s.heap a (.dK kvs) from In.hok a _ ha)
  rw[ho] at Y;cases Y;obtain⟨ap,ac⟩:=ah;have ae:Z=ep:=by
   have:=hr.2.1
   rw[ac] at this;cases this;rfl
  subst ae;have U:=aa.length;obtain⟨k,v,ag⟩ : ∃k v,kvs[i]? = some (k,v):=⟨kvs[i].1,kvs[i].2,by simp[hi]⟩
  obtain⟨u,hu,ru⟩:=aa.get ag;obtain⟨ok,ov,st⟩:=st;have ad:IsItemIter s.heap it a i vs.length Z ok ov:=by rw[<- U];exact st
  refine wpAny_pyNext_items_item (knd:=aY X.prog X.w) (v:=u) ad ⟨o,es,ho,hr⟩ hu λkey h' hk an ht aq am=>?_
  refine⟨_,rfl,wpAny_letOwnedTupleGo_items (s:={ s with heap:=h' }) an λh2 ao s2=>?_⟩
  have ak:it < s.heap.objs.size:=gs st
  have af:H s.heap.objs.size=none:=In.hok.fresh (j5 _)
  have I2:Inv X pins σ (upd H s.heap.objs.size (.tup [kV k,v])) { s with heap:=h2 }:=In.turnedNew (t':=s.toks) (fp:=[it]) (λc oc hc q=>by
    simp only[i6,p_,or_false] at hc;exact(s2.2 c hc).trans (am c oc hc q)) hf (j5 _)
   ⟨by show 2<=g0;decide,[key,u],.cons (tF hk) (.cons ru .nil),⟨_,(s2.2 _ (JQ ak)).trans ht,rfl,_,rfl⟩⟩
  refine⟨.ref s.heap.objs.size,_,I2,rfl,⟨_,k,v,af,rfl,rfl,ag⟩,⟨key,u,by rw[U];exact ao⟩,λc hc=>?_⟩
  have e:c=it:=by simpa using hc
  subst e;rw[ai (k_ ak)];exact(hf _ (by simp)).1
 done:=by
  intro X hP hw hK hc i pins s σ H E In hf st hg;subst hP hw hK;obtain⟨ha,hi⟩:=hg;obtain⟨ho,hz,hd,vs,aa,od,es,Z,Y,hr⟩:=(show s.heap.get? a=some o/\bf X.prog X.w H s.heap a (.dK kvs) from In.hok a _ ha)
  rw[ho] at Y;cases Y;obtain⟨ap,ac⟩:=ah;have ae:Z=ep:=by
   have:=hr.2.1
   rw[ac] at this;cases this;rfl
  subst ae;have U:=aa.length;obtain⟨f0,f1,f2,f3,f4,f5⟩:=hf it (by simp)
  obtain⟨ok,ov,st⟩:=st;have ad:IsItemIter s.heap it a i vs.length Z ok ov:=by rw[<- U];exact st
  exact wpAny_pyNext_items_end (knd:=aY X.prog X.w) (In.ok.hd hc) ad ⟨o,es,ho,hr⟩ (List.getElem?_eq_none_iff.mpr ()) λh' eb=>⟨rfl,In.turned (t':=s.toks) (λb ob hb e=>eb b ob hb e) f0 f1 f3 f4 f5⟩
 self:=λ_ _ _ _ _ st h=>by
  obtain⟨ok,ov,st⟩:=st;exact gT st h
def iI (td:TE):TI:=λσ H R=>td σ H λx H1=>∃a,x = .ref a/\∃kvs,H1 a<*kvs/\∀o,R (Iti a o kvs) (upd H1 a (.frz o (.dK kvs)))
theorem Bh {x1} (ho:PE X oe td) (aa:attributeBase oe "items" X.env (eval oe X.env)=eval oe X.env:=by rfl) (ad:(apos.endLine == cpos.line)=true:=by rfl) :
  PI X (.Tuple es x1 pos') (.Call (.Attribute oe "items" apos) [] [] cpos) (iI td):=by
 intro pins s σ H R I h;refine wpAny_Call_method0_late aa ad (thn (ho pins s σ H _ I h) λv U Z=>?_)
 obtain⟨x,H1,I1,r1,a,ex,kvs,hq,q⟩:=Z;subst ex;cases r1;obtain⟨hz,hd,vs,ak,od,ae,ep,ac,hr⟩:=oZ I1.hok hq;obtain⟨t1,t2,_⟩:=wT I1 (.inl ⟨_,.inl hq⟩);refine⟨"dict","dict.items",Kp,PySem.F.slot_dict_items,PySem.F.type_dict_items,t1,t2,?_⟩
 refine method_meetsIn PySem.F.slot_dict_items PySem.F.entry_dict_items rfl (PySem.evalArgs_none ⟨rfl,t1,PySem.F.args_dict_items_1 _,_,meets_dict_items (aY X.prog X.w) a hd,⟨vs,od,ae,ep,ac,hr⟩,?_⟩)
 have hm:(U.heap.push { cls:=.type "dict_items",data:=.fields #[.ref a] }).DictAt (aY X.prog X.w) a vs ep:=⟨od,ae,d_ _ ac,hr⟩
 refine wpAny_pyIter_items (knd:=aY X.prog X.w) (s:={ U with heap:=U.heap.push { cls:=.type "dict_items",data:=.fields #[.ref a] } }) (d:=a) (kvs:=vs) (ep:=ep) ⟨_,g9 _ rfl,rfl,rfl⟩ hm ?_
 have hn : ∀ob u,X.H₀ a≠some (.frz ob u):=λob u e=>by have:=I1.base.frzs a ob u e;rw[hq] at this;cases this
 have I2:Inv X pins σ H1 { U with heap:=(U.heap.push { cls:=.type "dict_items",data:=.fields #[.ref a] }).push { cls:=.type "dict_itemiterator",data:=.fields #[.none,.bool false,.ref a,.int 0 0,.int vs.length 0,.int ep 0,.none,.none] } }:=I1.kept (t':=U.toks) λb o e=>d_ _ (d_ _ e)
 have ah:=I2.hok a _ hq;have I3:=I2.retag (o':=.frz od (.dK kvs)) hq (by intro y z;cases z) (by intro y z;cases z) hn (by intro y z;cases z) ⟨d_ _ (d_ _ ac),ah⟩
 have af:=ak.length;have hsz:(U.heap.push { cls:=.type "dict_items",data:=.fields #[.ref a] }).objs.size=U.heap.objs.size+1:=Js ..
 refine⟨_,[(U.heap.push { cls:=.type "dict_items",data:=.fields #[.ref a] }).objs.size],_,_,_,rfl,I3,wY a _ od kvs ep ⟨ae,hr.2.1⟩,⟨.none,.none,by rw[af];exact g9 _ rfl⟩,λb hb=>?_,q od⟩
 have e:b=(U.heap.push { cls:=.type "dict_items",data:=.fields #[.ref a] }).objs.size:=by simpa using hb
 subst e;have ag:U.heap.objs.size<=(U.heap.push { cls:=.type "dict_items",data:=.fields #[.ref a] }).objs.size:=by rw[hsz];exact Ks _
 have Y:H1 (U.heap.push { cls:=.type "dict_items",data:=.fields #[.ref a] }).objs.size=none:=I1.hok.fresh ag
 obtain⟨f0,f1,f2,f3,f4,f5⟩:=I1.fpOk ag Y;exact⟨by rw[ai (λz=>by rw[z,hq] at Y;cases Y)];exact Y,f1,f2,f3,f4,f5⟩
theorem Ce {o:Obj} {Q:VK} {D:Addr} (z:Nat->List V->Hp->Prop) (h0:z 0 [] (upd H1 D (.lst []))) (hl : ∀i ys H,z i ys H->H a=some (.frz o (.dK kvs)))
  (hs : ∀(i:Nat) (k:Key) (x:V) (ys:List V) (H:Hp) (t:Addr),kvs[i]? = some (k,x)->z i ys H->H t=none->g (.ref t) σ0 (upd H t (.tup [kV k,x])) λU H3=>tc U H3 λc H4=>if c=true then te U H4 λv H5=>H5 D*>ys/\ys.length < g0/\z (i+1) (ys++[v]) (upd H5 D (.lst (ys++[v]))) else z (i+1) ys H4)
  (hd : ∀ys H,z kvs.length ys H->Q (.ref D) H):kB (Iti a o kvs) σ0 g tc te Q H1 D:=by
 refine⟨λi m ys H=>z i ys H/\i<=kvs.length/\m=kvs.length - i,⟨_,h0,r_ _,rfl⟩,?_⟩
 rintro i m ys H ⟨hp,hi,rfl⟩
 have sa:=hl i ys H hp
 by_cases Z:i=kvs.length
 .left
  subst Z;exact⟨⟨sa,j5 _⟩,hd ys H hp⟩
 .right
  have h1:i < kvs.length:=()
  refine⟨⟨sa,h1⟩,λY H'=>z (i+1) Y H',λY H' h=>⟨_,(),h,(),rfl⟩,?_⟩
  rintro v H' ⟨t,k,x,ht,rfl,rfl,e1⟩
  exact hs i k x ys H t e1 hp ht
end L2
namespace PySem
open Sem (wp)
open AutoSeq1 (wpAny_loadPart')
theorem qM {Q:List Value->Shared->Prop} {r:Addr} {a b c:Int} {t u v:Tok} (hh:A.handled=none) (hr:IsRange s.heap r a b c t u v) (Z:Builtin.Range.small a b c=true)
  (hn:Kn a b c=n) (ac:n<=2 ^ 24)
  (hQ : ∀h' tk (acc:Array Value),(∀b o,s.heap.get? b=some o->h'.get? b=some o)->s.heap.objs.size < h'.objs.size->ItemsOf (λi v=>∃t,v = .int (a+i * c) t) acc n->Q acc.toList { s with heap:=h',toks:=tk }) :
  wpAny (model prog w) A (collect (.ref r)) Q E s:=by
 unfold collect;refine c_ (wpAny_runValue (H_ F.entry_proto_collect ?_))
 rw[B_ F.plain_proto_collect _]
 show wpAny _ A.in1 (newList [] >>= λl=>again (.builtin "list.__iadd__" ⟨[l,.ref r],[]⟩)) _ _ s
 refine c_ (Gt ?_)
 refine fy ⟨JZ F.plain_list_iadd _,H_ F.entry_list_iadd ?_⟩
 rw[B_ F.plain_list_iadd _]
 show wpAny _ A.in1 (u_ (.ref s.heap.objs.size) (.ref r) (.ref s.heap.objs.size)) _ _ _
 have hS:(s.heap.push { cls:=.type "list",data:=.seq ([]:List Value).toArray }).get? s.heap.objs.size=some { cls:=.type "list",data:=.seq #[] 0 }:=g9 _ rfl
 have aa : ∀(s':Shared),(∃h' tk z c',s'={ s with heap:=h',toks:=tk }/\(∀b o,s.heap.get? b=some o->h'.get? b=some o)/\h'.get? s.heap.objs.size=some { cls:=.type "list",dict:=none,data:=.seq z c',slots := #[] }/\ItemsOf (λi v=>∃t,v = .int (a+i * c) t) z n) ->
   wpAny (model prog w) A (match m8 s.heap.objs.size with
   | m8 a=>do
    match (<- load a).data with
     | Data.seq xs _=>pure xs.toList
     | _=>unsupported "internal:collect"
   | _=>unsupported "internal:collect") Q E s':=by
  rintro s' ⟨h',tk,z,c',rfl,hk,Y,U⟩
  show wpAny _ A (load s.heap.objs.size >>= _) _ _ _
  refine c_ (wpAny_load Y ?_)
  exact fy (hQ h' tk z hk (gs Y) U)
 refine y3 (wpAny_extend_range (A:=A) (R:=λx s'=>x = .ok (.ret (.ref s.heap.objs.size))/\∃h' tk z c',s'={ s with heap:=h',toks:=tk }/\(∀b o,s.heap.get? b=some o->h'.get? b=some o)/\h'.get? s.heap.objs.size=some { cls:=.type "list",dict:=none,data:=.seq z c',slots := #[] }/\ItemsOf (λi v=>∃t,v = .int (a+i * c) t) z n)
  (s:={ s with heap:=s.heap.push { cls:=.type "list",data:=.seq ([]:List Value).toArray } }) hh (d_ _ hr) Z hn ac _ _ 0 hS λh' tk z c' hk Y U=>⟨rfl,h',tk,z,c',rfl,λb o e=>hk b o (k_ (gs e)) (d_ _ e),Y,U⟩) (λad s' h=>?_) (λe s' h=>?_)
 .cases ad with
  | done f =>
   obtain⟨e,q⟩:=h;cases e;exact aa _ q
  | again c'=>exact⟨h.1,codeAny_mono h.2 λr ae hr=>by obtain⟨rfl,q⟩:=hr;exact aa _ q⟩
 .exact absurd h.1 (by simp)
end PySem
namespace L2
open PySem PySem.Spec PyProof.Rows
theorem uM (h:ItemsOf (λi v=>∃t,v=Value.int (0+i * 1) t) acc n):aX (km 0 n) acc.toList:=by
 have key : ∀(k:Nat) (us:List Value),(∀(j:Nat) v,us[j]? = some v->∃t,v=Value.int ((k:Int)+j) t)->aX ((range' k us.length).map λi:Nat=>V.int (0+(i:Int))) us:=by
  intro k us
  induction us generalizing k with
  | nil=>intro _;exact .nil
  | cons u us U =>
   intro z;rw[KA,List.range'_succ,i_];refine .cons ?_ (U (k+1) λj v e=>?_)
   .obtain⟨t,rfl⟩:=z 0 u rfl
    exact⟨t,by simp⟩
   .obtain⟨t,rfl⟩:=z (j+1) v (by simpa using e)
    exact⟨t,by congr 1;push_cast;omega⟩
 have:=key 0 acc.toList λj v e=>by
  obtain⟨t,rfl⟩:=h.2 j v (by simpa using e)
  exact⟨t,by simp⟩
 rw[w9,h.1,<- List.range_eq_range'] at this;exact this
end L2
namespace PySem
open AutoSeq1
theorem mw (l:Addr) (items:Array Value) (n:Nat) (b:Addr) (o:Obj) (z:Array Value) (n2:Nat) (hc:o.cls = .type "tuple") (hd:o.data = .seq z n2) (aa : ¬(!items.isEmpty && JI (items.size+z.size))=true) (U:items.size<=g0) (Z:items.size+z.size<=g0+1) :
  Meets (Builtin.«list.extend» ⟨[.ref l,.ref b],[]⟩) (λ_ R s=>s.heap.get? l=some { cls:=.type "list",dict:=none,data:=.seq items n,slots := #[] }/\s.heap.get? b=some o/\R (.ok (.ret o9)) { s with heap:=s.heap.update l (o6 λx=>x++z),toks:=s.toks }) :=
 .of_wp λprog w A R s h=>by
  obtain⟨cl,di,da,sl⟩:=o;obtain rfl:cl = .type "tuple" := hc
  obtain rfl:da = .seq z n2:=hd
  obtain⟨hp,g,d,tk,os⟩:=s;obtain⟨hl,hb,h⟩:=h;have f1:=idx_int;have f2:=sub_tuple_tuple;have f3:=sub_list_list;have f4:=sub_tuple_list;have f5:=sub_list_tuple;
  have Y:(items++z).size<=g0+1:=by rw[size_append];exact Z
  wp_walk using (wpAny_updateSeq hl rfl (hz:=U) (_hz':=Y)),wpAny_loadPart' hl,wpAny_loadPart' hb;exact⟨_,rfl,h⟩
end PySem
namespace L2
open PySem PySem.Spec PyProof.Rows
def zQ:RM:=λp vs H Q=>∃b,vs=[.ref b]/\∃xs,H p*>xs/\∃zs,H b>>zs/\xs.length+zs.length<=g0/\Q .non (upd H p (.lst (xs++zs)))
theorem om:MtL X "list.extend" zQ:=by
 intro pins s σ H x vs v us Q I rx rv h;obtain⟨l,rfl,b,rfl,xs,Z,zs,hB,hz,q⟩:=h;cases rx;obtain⟨u,rfl,ru⟩:=rv.one;cases ru;obtain⟨z,its,n,r,hl,e⟩:=I.lstM Z;obtain⟨U,r2,⟨o,e2,hc,n2,hd⟩,aa⟩:=I.tuple (.of hB);have hl2:=r2.length;have hsz:its.toArray.size+U.toArray.size<=g0:=by rw[g_,g_];omega
 have Y : ¬ (!its.toArray.isEmpty && JI (its.toArray.size+U.toArray.size))=true:=by
  rw[ul hsz,Bool.and_false];exact i5
 refine Kw F.slot_list_extend ⟨_,e,rfl⟩ F.entry_list_extend (F.args_list_extend_2 _ _)
  (mw l its.toArray n b o U.toArray n2 hc hd Y (by rw[g_];omega) ()) ⟨e,e2,?_⟩
 refine⟨.non,_,I.lset (its':=its++U) Z e (by simp) (r.append r2) ?_,rfl,q⟩
 rw[nH];omega
end L2
namespace PySem.W
open PySem PySem.Calls PyProof.Rows
def KasT.Tru {α:Type} (n:Nat) (lt:Nat->Nat->Bool) (P:α->Prop):KasT α->Prop
 | .ret a=>P a
 | .ask i j k=>i < n/\j < n/\(k (lt i j)).Tru n lt P
theorem KasT.Tru.bind {α β:Type} {n:Nat} {lt:Nat->Nat->Bool} {P:α->Prop} {R:β->Prop} {f:α->KasT β} : ∀{t:KasT α},t.Tru n lt P->(∀a,P a->(f a).Tru n lt R)->(t.bind f).Tru n lt R
 | .ret a,h,hf=>hf a h
 | .ask i j k,h,hf=>⟨h.1,h.2.1,KasT.Tru.bind h.2.2 hf⟩
theorem KasT.Tru.wp {α:Type} {n:Nat} {lt:Nat->Nat->Bool} {P:α->Prop} {Q:α->Shared->Prop} {s:Shared} {cmp:Nat->Nat->(Bool->Shared->Prop)->Shared->Prop}
  (z : ∀i j C,i < n->j < n->C (lt i j) s->cmp i j C s) (U : ∀a,P a->Q a s) : ∀{t:KasT α},t.Tru n lt P->t.kasWp cmp Q s
 | .ret a,h=>U a h
 | .ask i j k,h=>z i j _ h.1 h.2.1 (KasT.Tru.wp z U h.2.2)
structure Ord (lt:Nat->Nat->Bool):Prop where
 asym : ∀{a b},lt a b=true->lt b a=false
 neg : ∀{a b c},lt b a=false->lt c b=false->lt c a=false
theorem Ord.irr {lt:Nat->Nat->Bool} (O:Ord lt) (a:Nat):lt a a=false:=by
 cases h:lt a a with
 | false=>rfl
 | true=>exact absurd (h.symm.trans (O.asym h)) ∅
def Srt (lt:Nat->Nat->Bool) (p:Array Nat) (m:Nat):Prop:=∀i j,i < j->j < m->lt (p.getD j 0) (p.getD i 0)=false
def Dsc (lt:Nat->Nat->Bool) (p:Array Nat) (m:Nat):Prop:=∀i j,i < j->j < m->lt (p.getD i 0) (p.getD j 0)=false
def Evn (lt:Nat->Nat->Bool) (p:Array Nat) (l m:Nat):Prop:=∀i j,l<=i->i < m->l<=j->j < m->lt (p.getD i 0) (p.getD j 0)=false
theorem fT {p:Array Nat} (z:j<=p.size) (k:Nat):(kas_rev p i j).getD k 0=if i<=k/\k < j then p.getD (i+j - 1 - k) 0 else p.getD k 0:=by
 have e:=getElem?_mirror_all (xs:=p) (i:=i) z k;unfold kas_rev;rw[y7,e,y7,y7]
 split <;> rfl
theorem Bl {p:Array Nat} {z d:Nat} (Y:z < p.size) (U:d<=z) (k:Nat):(bubble p z d).getD k 0=if k=z - d then p.getD z 0 else if z - d < k/\k<=z then p.getD (k - 1) 0 else p.getD k 0:=by
 have e:=getElem?_bubble Y d U k;rw[y7,e,y7,y7,y7]
 split
 .rfl
 .split <;> rfl
theorem bp.size {n:Nat} {p:Array Nat} (h:bp n p):p.size=n:=by
 have:=h.length_eq
 simpa using this
section
variable {lt:Nat->Nat->Bool} (hn:0 < n) (O:Ord lt)
include hn O
theorem ig {p:Array Nat} (h:bp n p) : ∀(f m:Nat),1<=m->Srt lt p m->(kas_asc p f m).Tru n lt λr=>Srt lt p r/\m<=r/\r<=m+f/\(r=m+f\/lt (p.getD r 0) (p.getD (r - 1) 0)=true)
 | 0,m,h1,hs=>⟨hs,j5 _,j5 _,.inl rfl⟩
 | f + 1,m,h1,hs=>by
  refine⟨h.lt hn _,h.lt hn _,?_⟩
  cases c:lt (p.getD m 0) (p.getD (m - 1) 0) with
  | true =>
   simp only[if_true];exact⟨hs,j5 _,(),.inr c⟩
  | false =>
   simp only[m_,if_false];have U:Srt lt p (m+1):=λi j Y hj=>by
    by_cases Z:j < m
    .exact hs i j Y Z
    .have ej:j=m:=()
     subst ej
     by_cases hi:i=j - 1
     .rw[hi];exact c
     .exact O.neg (hs i (j - 1) () ()) c
   have ih:=ig h f (m+1) () U
   have mono : ∀{t:KasT Nat} {P R:Nat->Prop},t.Tru n lt P->(∀a,P a->R a)->t.Tru n lt R:=by
    intro t
    induction t with
    | ret a=>intro P R x y;exact y a x
    | ask i j k ih=>intro P R x y;exact⟨x.1,x.2.1,ih _ x.2.2 y⟩
   exact mono ih λr z=>by obtain⟨a,b,c,d⟩:=z;exact(⟨a,(),(),by rcases d with d | d;exact .inl ();exact .inr d⟩)
theorem yj {p:Array Nat} {l m:Nat} (h:bp n p) (hm:m<=n) (Y:Dsc lt p m) (Z:Evn lt p l m):Dsc lt (kas_rev p l m) m/\∀k,m<=k->(kas_rev p l m).getD k 0=p.getD k 0:=by
 have hz:=h.size;refine⟨λi j z U=>?_,λk hk=>by rw[fT (),if_neg ()]⟩
 rw[fT (),fT ()]
 by_cases a:l<=i/\i < m
 .rw[if_pos a]
  have b:l<=j/\j < m:=⟨(),U⟩
  rw[if_pos b];exact Z _ _ () () () ()
 .rw[if_neg a]
  by_cases b:l<=j/\j < m
  .rw[if_pos b]
   exact Y _ _ () ()
  .rw[if_neg b]
   exact Y _ _ z U
theorem oG {p:Array Nat} {m:Nat} (Y:Dsc lt p m) (hl : ∀i,i < m->lt (p.getD i 0) (p.getD m 0)=false):Dsc lt p (m+1):=λi j z Z=>by
 by_cases U:j < m
 .exact Y i j z U
 .have:j=m:=()
  subst this;exact hl i z
theorem ni {p:Array Nat} {m:Nat} (h1:1<=m) (z:Dsc lt p m) (c:lt (p.getD (m - 1) 0) (p.getD m 0)=false):Dsc lt p (m+1):=oG hn O z λi hi=>by
 by_cases e:i=m - 1
 .rw[e];exact c
 .exact O.neg c (z i (m - 1) () ())
theorem eR : ∀(f:Nat) (p:Array Nat) (m q:Nat),bp n p->q+1<=m->m+f<=n->Dsc lt p m->Evn lt p (m - (q+1)) m ->
  (kas_desc f p m q).Tru n lt λr=>bp n r.1/\r.2.2+1<=r.2.1/\r.2.1<=n/\Dsc lt r.1 r.2.1/\Evn lt r.1 (r.2.1 - (r.2.2+1)) r.2.1
 | 0,p,m,q,h,h1,h2,hd,he=>⟨h,h1,by simpa using h2,hd,he⟩
 | f + 1,p,m,q,h,h1,h2,hd,he=>by
  refine⟨h.lt hn _,h.lt hn _,?_⟩
  have one : ∀U:Array Nat,Evn lt U (m+1 - (0+1)) (m+1):=λU i j a b c d=>by
   have e1:i=m:=()
   have e2:j=m:=()
   rw[e1,e2];exact O.irr _
  cases c:lt (p.getD m 0) (p.getD (m - 1) 0) with
  | true =>
   simp only[if_true]
   split
   .obtain⟨d1,k1⟩:=yj hn O h () hd he
    refine eR f _ _ _ (h.rev _ _) () () (ni hn O () d1 ?_) (one _)
    rw[k1 m (j5 _)];rw[fT (by rw[h.size];omega),if_pos ()]
    have e1:=he (m - 1) (m - (q+1)+m - 1 - (m - 1)) () () () ()
    exact O.neg (O.asym c) (he _ (m - 1) () () () ())
   .exact eR f _ _ _ h () () (ni hn O () hd (O.asym c)) (one _)
  | false =>
   simp only[m_,if_false];refine⟨h.lt hn _,h.lt hn _,?_⟩
   cases d:lt (p.getD (m - 1) 0) (p.getD m 0) with
   | true=>simp only[if_true];exact⟨h,h1,by show m<=n;omega,hd,he⟩
   | false =>
    simp only[m_,if_false];refine eR f _ _ _ h () () (ni hn O () hd d) λi j a b Y Z=>?_
    by_cases hi:i < m
    .by_cases z:j < m
     .exact he i j () hi () z
     .have ej:j=m:=()
      subst ej;exact O.neg d (he i (j - 1) () hi () ())
    .have ei:i=m:=()
     subst ei
     by_cases z:j < i
     .exact O.neg (he (i - 1) j () () () z) c
     .have ej:j=i:=()
      rw[ej];exact O.irr _
theorem jp {p:Array Nat} {m:Nat} (h:bp n p) (h1:1<=m) (h2:m<=n) (U:Dsc lt p m):(kas_tail3 m n p).Tru n lt λr=>bp n r.2/\Srt lt r.2 r.1/\r.1<=n/\1<=r.1:=by
 refine(ig hn O (h.rev 0 m) _ _ h1 λi j Y Z=>?_).bind λr z=>by obtain⟨a,b,c,_⟩:=z;exact(⟨h.rev 0 m,a,(),by show 1<=r;omega⟩)
 rw[fT (by rw[h.size];omega),fT (by rw[h.size];omega),if_pos (),if_pos ()]
 exact U _ _ () ()
theorem fY {p:Array Nat} {m:Nat} (h:bp n p) (h1:1<=m) (h2:m < n) (z:Dsc lt p (m+1)):(kas_descPart m n p).Tru n lt λr=>bp n r.2/\Srt lt r.2 r.1/\r.1<=n/\1<=r.1:=by
 refine(eR hn O _ p _ _ h () () z λi j a b c d=>?_).bind λr ⟨a,b,c,d,e⟩=>?_
 .have e1:i=m:=()
  have e2:j=m:=()
  rw[e1,e2];exact O.irr _
 .split
  .exact jp hn O (bp.rev a _ _) () c (yj hn O a c d e).1
  .exact jp hn O a () c d
theorem qB {p:Array Nat} (h:bp n p):(kas_count n p).Tru n lt λr=>bp n r.2/\Srt lt r.2 r.1/\r.1<=n/\1<=r.1:=by
 refine(ig hn O h _ _ (j5 _) λi j a b=>by omega).bind λm z=>?_
 obtain⟨a,b,c,d⟩:=z
 split
 .exact⟨h,a,by show m<=n;omega,b⟩
 .rename_i Y
  have Y:m≠n:=λe=>Y (by simp[e])
  have U:lt (p.getD m 0) (p.getD (m - 1) 0)=true:=by
   rcases d with d | d
   .omega
   .exact d
  split
  .refine⟨h.lt hn _,h.lt hn _,?_⟩
   cases e:lt (p.getD 0 0) (p.getD (m - 1) 0) with
   | true=>simp only[if_true];exact⟨h,a,by show m<=n;omega,b⟩
   | false =>
    simp only[m_,if_false];have Z : ∀i j,i < m->j < m->lt (p.getD i 0) (p.getD j 0)=false:=λi j hi hj=>by
     have u1:lt (p.getD (m - 1) 0) (p.getD j 0)=false:=by
      by_cases q:j=m - 1
      .rw[q];exact O.irr _
      .exact a j (m - 1) () ()
     have u2:lt (p.getD i 0) (p.getD 0 0)=false:=by
      by_cases q:i=0
      .rw[q];exact O.irr _
      .exact a 0 i () hi
     exact O.neg (O.neg u1 e) u2
    refine fY hn O (h.rev _ _) b () (oG hn O (λi j aa hj=>?_) λi hi=>?_)
    .rw[fT (by rw[h.size];omega),fT (by rw[h.size];omega),if_pos (),if_pos ()]
     exact Z _ _ () ()
    .rw[fT (by rw[h.size];omega),fT (by rw[h.size];omega),if_pos (),if_neg ()]
     exact O.neg (O.asym U) (Z _ (m - 1) () ())
  .have e1:m=1:=()
   subst e1;refine fY hn O h b () (oG hn O (λi j a b=>by omega) λi hi=>?_)
   have:i=1 - 1:=()
   rw[this];exact O.asym U
theorem fR {p:Array Nat} {k:Nat} (h:bp n p) (Y:Srt lt p k) : ∀(f l r:Nat),r - l<=f->l<=r->r<=k->(∀i,i < l->lt (p.getD k 0) (p.getD i 0)=false)->(∀i,r<=i->i < k->lt (p.getD k 0) (p.getD i 0)=true) ->
  (kas_place p k f l r).Tru n lt λa=>a<=k/\(∀i,i < a->lt (p.getD k 0) (p.getD i 0)=false)/\∀i,a<=i->i < k->lt (p.getD k 0) (p.getD i 0)=true
 | 0,l,r,hf,hlr,hrk,h1,h2=>⟨by show l<=k;omega,h1,λi hi U=>h2 i () U⟩
 | f + 1,l,r,hf,hlr,hrk,h1,h2=>by
  unfold kas_place
  split
  .exact⟨by show l<=k;omega,h1,λi hi U=>h2 i () U⟩
  .refine⟨h.lt hn _,h.lt hn _,?_⟩
   cases c:lt (p.getD k 0) (p.getD ((l+r) / 2) 0) with
   | true =>
    simp only[if_true];refine fR h Y f _ _ () () () h1 λi hi U=>?_
    by_cases e:i=(l+r) / 2
    .rw[e];exact c
    .cases z:lt (p.getD k 0) (p.getD i 0) with
     | true=>rfl
     | false=>exact absurd ((O.neg (Y _ i (show(l+r) / 2 < i by omega) U) z).symm.trans c) ∅
   | false =>
    simp only[m_,if_false];refine fR h Y f _ _ () () () (λi hi=>?_) h2
    by_cases e:i=(l+r) / 2
    .rw[e];exact c
    .exact O.neg (Y i _ (show i < (l+r) / 2 by omega) ()) c
theorem mo : ∀(f:Nat) (p:Array Nat) (k:Nat),bp n p->k+f=n->Srt lt p k->(kas_bin f p k).Tru n lt λr=>bp n r/\Srt lt r n
 | 0,p,k,h,e,hs=>⟨h,(show k=n by omega) ▸ hs⟩
 | f + 1,p,k,h,e,hs=>(fR hn O h hs k 0 k () () (j5 _) (λi hi=>by omega) (λi a b=>by omega)).bind λl ⟨a,b,c⟩=>by
  refine mo f _ _ (h.bub _ _) () λi j aa hj=>?_
  have hz:=h.size;rw[Bl () (),Bl () ()]
  have ac:k - (k - l)=l:=()
  rw[ac]
  by_cases Z:j=l
  .rw[if_pos Z,if_neg (),if_neg ()]
   exact b i ()
  .rw[if_neg Z]
   by_cases z:l < j/\j<=k
   .rw[if_pos z]
    by_cases U:i=l
    .rw[if_pos U]
     exact O.asym (c (j - 1) () ())
    .rw[if_neg U]
     by_cases Y:l < i/\i<=k
     .rw[if_pos Y]
      exact hs _ _ () ()
     .rw[if_neg Y]
      by_cases q:i=j - 1
      .omega
      .exact hs _ _ () ()
   .rw[if_neg z,if_neg (),if_neg ()]
    exact hs _ _ aa ()
theorem tH:(kas_sort n).Tru n lt λr=>bp n r/\Srt lt r n:=by
 refine(qB hn O (p:=y9 (range n)) (by show(range n).toArray.toList.Perm _;simp)).bind λr ⟨a,b,c,d⟩=>?_
 have e:max r.1 1=r.1:=()
 rw[e]
 split
 .exact mo hn O _ _ _ a () b
 .have:r.1=n:=()
  rw[this] at b;exact⟨a,b⟩
end
inductive Ky where
 | s (x:Str) | i (n:Int) | r (l:List Int)
def Ky.tag:Ky->Nat | .s _=>0 | .i _=>1 | .r _=>2
def Ky.lt:Ky->Ky->Bool
 | .s x,.s y=>decide (x.cps.toList < y.cps.toList)
 | .i a,.i b=>decide (a < b)
 | .r l,.r m=>decide (l < m)
 | .s _,.i _=>true
 | .s _,.r _=>true
 | .i _,.r _=>true
 | _,_=>false
def Ky.le (a b:Ky):Prop:=b.lt a=false
theorem Ky.asym : ∀{a b:Ky},a.lt b=true->b.lt a=false
 | .s x,.s y,h=>by simp only[Ky.lt,decide_eq_true_eq,decide_eq_false_iff_not] at h ⊢;exact λz=>List.lt_irrefl _ (List.lt_trans h z)
 | .i x,.i y,h=>by simp only[Ky.lt,decide_eq_true_eq,decide_eq_false_iff_not] at h ⊢;omega
 | .r x,.r y,h=>by simp only[Ky.lt,decide_eq_true_eq,decide_eq_false_iff_not] at h ⊢;exact λz=>List.lt_irrefl _ (List.lt_trans h z)
 | .s _,.i _,_=>rfl
 | .s _,.r _,_=>rfl
 | .i _,.r _,_=>rfl
 | .i _,.s _,h=>by cases h
 | .r _,.s _,h=>by cases h
 | .r _,.i _,h=>by cases h
theorem Ky.le_trans : ∀{a b c:Ky},a.le b->b.le c->a.le c
 | .s x,.s y,.s z,h,g=>by simp only[Ky.le,Ky.lt,decide_eq_false_iff_not] at h g ⊢;exact List.le_trans (show x.cps.toList<=y.cps.toList from h) (show y.cps.toList<=z.cps.toList from g)
 | .i x,.i y,.i z,h,g=>by simp only[Ky.le,Ky.lt,decide_eq_false_iff_not] at h g ⊢;omega
 | .r x,.r y,.r z,h,g=>by simp only[Ky.le,Ky.lt,decide_eq_false_iff_not] at h g ⊢;exact List.le_trans (show x<=y from h) (show y<=z from g)
 | .s _,_,.i _,_,_=>rfl
 | .s _,_,.r _,_,_=>rfl
 | .i _,_,.r _,_,_=>rfl
 | .i _,.s _,_,h,_=>by cases h
 | .r _,.s _,_,h,_=>by cases h
 | .r _,.i _,_,h,_=>by cases h
 | _,.i _,.s _,_,g=>by cases g
 | _,.r _,.s _,_,g=>by cases g
 | _,.r _,.i _,_,g=>by cases g
theorem Ky.le_antisymm : ∀{a b:Ky},a.le b->b.le a->a=b
 | .s x,.s y,h,g=>by
  simp only[Ky.le,Ky.lt,decide_eq_false_iff_not] at h g;have:=List.le_antisymm (show x.cps.toList<=y.cps.toList from h) (show y.cps.toList<=x.cps.toList from g)
  cases x;cases y
  congr 1
  congr 1
  exact toList_inj.mp this
 | .i x,.i y,h,g=>by simp only[Ky.le,Ky.lt,decide_eq_false_iff_not] at h g;congr 1;omega
 | .r x,.r y,h,g=>by simp only[Ky.le,Ky.lt,decide_eq_false_iff_not] at h g;congr 1;exact List.le_antisymm (show x<=y from h) (show y<=x from g)
 | .s _,.i _,_,g=>by cases g
 | .s _,.r _,_,g=>by cases g
 | .i _,.r _,_,g=>by cases g
 | .i _,.s _,h,_=>by cases h
 | .r _,.s _,h,_=>by cases h
 | .r _,.i _,h,_=>by cases h
theorem Ky.le_of_not {a b:Ky} (h : ¬ a.le b):b.le a:=by
 unfold Ky.le at *;cases e:b.lt a with
 | false=>exact absurd e h
 | true=>exact Ky.asym e
def ltK (ks:List Ky) (i j:Nat):Bool:=(ks.getD i (.i 0)).lt (ks.getD j (.i 0))
theorem Cs (ks:List Ky):Ord (ltK ks):=⟨λh=>Ky.asym h,λh g=>Ky.le_trans h g⟩
def VKy (h:Heap) (v:Value):Ky->Prop
 | .s x=>∃t,v = .str x t
 | .i n=>∃t,v = .int n t
 | .r l=>∃a its,v = .ref a/\IsTup h a its.toArray/\E_ its l
theorem VKy.keep : ∀{k:Ky},VKy h v k->(∀b o,h.get? b=some o->h'.get? b=some o)->VKy h' v k
 | .s _,x,_=>x
 | .i _,x,_=>x
 | .r _,⟨a,its,e,⟨o,q,c⟩,z⟩,k=>⟨a,its,e,⟨o,k _ _ q,c⟩,z⟩
def kO:List Int->List Int->Bool->Bool
 | a :: l,b :: m,f=>if a == b then kO l m f else decide (a < b)
 | _,_,f=>f
theorem sQ : ∀(l m:List Int),kO l m (decide (l.length < m.length))=decide (l < m)
 | [],[]=>by simp[kO]
 | [],b :: m=>by simp[kO]
 | a :: l,[]=>by simp[kO]
 | a :: l,b :: m=>by
  have z:=sQ l m;unfold kO;have e:decide ((a :: l).length < (b :: m).length)=decide (l.length < m.length):=by simp
  rw[e]
  by_cases h:a=b
  .subst h
   rw[if_pos (by simp),z]
   exact decide_eq_decide.mpr (by rw[List.cons_lt_cons_iff];simp)
  .rw[if_neg (by simpa using h)]
   exact decide_eq_decide.mpr (by rw[List.cons_lt_cons_iff];simp[h])
theorem uY {z:Bool} {Q:Bool->Shared->Prop} : ∀{us vs:List Value} {l m:List Int} (i:Nat),E_ us l->E_ vs m->Q (kO l m z) s->KatLex prog w A true z Q (us.zip vs) i s
 | _,_,_,_,i,.nil,_,h=>kat_nil (by simpa [kO] using h)
 | _,_,_,_,i,.cons _ _ _,.nil,h=>kat_nil (by simpa [kO] using h)
 | _,_,_,_,i,.cons a t (vs:=us) (ns:=l) hu,.cons b t' (vs:=vs) (ns:=m) hv,h=>by
  unfold kO at h;refine kat_cons (wpAny_eqBool_int ?_)
  cases e:a == b with
  | true =>
   rw[e] at h;exact kat_yes (uY (i+1) hu hv (by simpa using h))
  | false =>
   rw[e] at h;have h':Q (decide (a < b)) s:=by simpa using h
   refine kat_no ?_
   cases i with
   | zero=>exact oneLt_int h'
   | succ i=>exact kat_one _ _ (lt_int h')
def sr (t:Nat):SortKind:=if t=2 then tuples' true else oneType'
theorem HN {x y:Value} {a b:Ky} {Q:Bool->Shared->Prop} (Z:VKy s.heap x a) (hy:VKy s.heap y b) (Y:a.tag=b.tag) (h:Q (a.lt b) s):wpAny (model prog w) A (keyLt' (sr a.tag) x y) Q E s:=by
 cases a with
 | s p =>
  cases b <;> first | cases Y | skip
  obtain⟨t,rfl⟩:=Z;obtain⟨t',rfl⟩:=hy
  show wpAny _ _ (keyLt' oneType' _ _) _ _ _
  rw[keyLt'_oneType];exact oneLt_str h
 | i p =>
  cases b <;> first | cases Y | skip
  obtain⟨t,rfl⟩:=Z;obtain⟨t',rfl⟩:=hy
  show wpAny _ _ (keyLt' oneType' _ _) _ _ _
  rw[keyLt'_oneType];exact oneLt_int h
 | r p =>
  cases b <;> first | cases Y | skip
  obtain⟨c,us,rfl,⟨o,e,ec,n,ed⟩,hu⟩:=Z;obtain⟨c',aa,rfl,⟨o',e',ac,n',U⟩,z⟩:=hy
  show wpAny _ _ (keyLt' (tuples' true) _ _) _ _ _
  refine kat_lt e ed e' U (uY 0 hu z ?_)
  have e1:us.toArray.size=p.length:=by rw[g_,hu.length]
  have e2:aa.toArray.size=_:=(by rw[g_,z.length])
  rw[e1,e2,sQ];exact h
theorem yW {h:Heap} : ∀{vs:List Value} {ks:List Ky},K6 (VKy h) vs ks->(∀k∈ks,k.tag=0/\k≠.r [])->∃z,StrsAre vs z
 | _,_,.nil,_=>⟨[],.nil⟩
 | _,_,.cons (a:=v) (b:=k) r t,hk=>by
  obtain⟨z,e⟩:=yW t λk h=>hk k (j9 _ h)
  have:=(hk k j_).1
  cases k with
  | s x=>obtain⟨t,rfl⟩:=r;exact⟨x :: z,.cons x t e⟩
  | i x=>cases this
  | r x=>cases this
theorem xV {h:Heap} : ∀{vs:List Value} {ks:List Ky},K6 (VKy h) vs ks->(∀k∈ks,k.tag=1/\k≠.r [])->∃z,E_ vs z
 | _,_,.nil,_=>⟨[],.nil⟩
 | _,_,.cons (a:=v) (b:=k) r t,hk=>by
  obtain⟨z,e⟩:=xV t λk h=>hk k (j9 _ h)
  have:=(hk k j_).1
  cases k with
  | i x=>obtain⟨t,rfl⟩:=r;exact⟨x :: z,.cons x t e⟩
  | s x=>cases this
  | r x=>cases this
theorem yb {h:Heap} : ∀{vs:List Value} {ks:List Ky},K6 (VKy h) vs ks->(∀k∈ks,k.tag=2/\k≠.r [])->∃fs,fs.length=vs.length/\KatTups h vs fs/\∀f∈fs,∃n t,f=Value.int n t
 | _,_,.nil,_=>⟨[],rfl,.nil,λ_ h=>by simp at h⟩
 | _,_,.cons (a:=v) (b:=k) r t,hk=>by
  obtain⟨fs,Z,e,U⟩:=yb t λk h=>hk k (j9 _ h)
  have:=hk k j_
  cases k with
  | i x=>cases this.1
  | s x=>cases this.1
  | r x =>
   obtain⟨a,its,rfl,⟨o,e1,Y,n,ed⟩,z⟩:=r;cases z with
   | nil=>exact absurd rfl this.2
   | cons m t z =>
    refine⟨.int m t :: fs,by simp[Z],.cons e1 Y ed (by simp) e,λf h=>?_⟩
    rcases i6.mp h with q | q
    .exact⟨m,t,q⟩
    .exact U f q
theorem yt {vs:List Value} {ks:List Ky} {t:Nat} {Q:SortKind->Shared->Prop} (z:K6 (VKy s.heap) vs ks) (Y : ∀k∈ks,k.tag=t/\k≠.r []) (h2:2<=vs.length) (h:Q (sr t) s):wpAny (model prog w) A (keyKind' vs.toArray) Q E s:=by
 have hl:vs.length=ks.length:=PySem.Paired.length z
 obtain⟨v1,U,rest,rfl⟩ : ∃v1 U rest,vs=v1 :: U :: rest:=by
  match vs,h2 with
  | v1 :: U :: rest,_=>exact⟨v1,U,rest,rfl⟩
 match t with
 | 0 =>
  obtain⟨Z,e⟩:=yW z Y;rw[keyKind_strs e];exact fy h
 | 1 =>
  obtain⟨Z,e⟩:=xV z Y;rw[keyKind_ints e];exact fy h
 | 2 =>
  obtain⟨fs,e0,e,hf⟩:=yb z Y;refine kat_kind (T:=.type "int") e (by rw[e0];simp) (λv hv=>?_) ∅ h
  obtain⟨x,t,rfl⟩:=hf v hv;exact Looks.of_pure rfl
 | t + 3 =>
  cases z with
  | cons r _ =>
   rename_i k _ _
   have:=(Y k j_).1
   cases k <;> simp[Ky.tag] at this
theorem lc {α β:Type} {R:α->β->Prop} {d:α} {e:β} : ∀{l:List α} {m:List β} (i:Nat),K6 R l m->i < l.length->R (l.getD i d) (m.getD i e)
 | _,_,i,.nil,h=>by simp at h
 | _,_,0,.cons r _,_=>by simpa using r
 | _,_,i+1,.cons _ t,h=>by simpa using lc (d:=d) (e:=e) i t (by simpa using h)
theorem uU {kvs vs:List Value} {ks:List Ky} {t:Nat} {Q:SortSt->Shared->Prop} (z:K6 (VKy s.heap) kvs ks) (hl:kvs.length=vs.length) (Z : ∀k∈ks,k.tag=t/\k≠.r []) (h2:2<=vs.length) (Y:vs.length < 64)
  (h : ∀(p:Array Nat) (st:SortSt),p.size=vs.length->arrOf st=p.map (kas_item (kvs.toArray.zip vs.toArray))->failedOf st=none->bp vs.length p->Srt (ltK ks) p vs.length->Q st s) :
  wpAny (model prog w) A ((sortRuns').run (SortSt.mk' (sr t) (kvs.toArray.zip vs.toArray) #[] 7 none)) (λr s'=>Q r.2 s') E s:=by
 refine kat_run (G:=λp s'=>bp vs.length p/\Srt (ltK ks) p vs.length/\s'=s) hl h2 Y (λp st s' a b c U=>by obtain⟨d,e,f⟩:=U;exact(by rw[f];exact h p st a b c d e)) ?_
 refine KasT.Tru.wp (n:=vs.length) (P:=λp=>bp vs.length p/\Srt (ltK ks) p vs.length) (λi j C hi hj hC=>?_) (λp z=>⟨z.1,z.2,rfl⟩) (tH () (Cs ks))
 unfold kas_ask;have aa:kvs.length=ks.length:=PySem.Paired.length z
 have ti:(ks.getD i (.i 0)).tag=t:=(Z _ (by rw[j7,h_ ()];simp)).1
 have tj:(ks.getD j (.i 0)).tag=t:=(Z _ (by rw[j7,h_ ()];simp)).1
 have:=HN (prog:=prog) (w:=w) (A:=A) (E:=λ_ _=>False) (Q:=C) (s:=s) (lc (d:=o9) (e:=Ky.i 0) i z ()) (lc (d:=o9) (e:=Ky.i 0) j z ()) (ti.trans tj.symm) hC
 rw[ti] at this;exact this
theorem _root_.PySem.Paired.mapP' {α β:Type} {F G:α->β->Prop} : ∀{l₁:List α} {z:List β},Paired F l₁ z->(∀a b,F a b->G a b)->Paired G l₁ z
 | _,_,.nil,_=>.nil
 | _,_,.cons r t,f=>.cons (f _ _ r) (PySem.Paired.mapP' t f)
theorem sy {vs:List Value} {ks:List Ky} {t:Nat} {P:PySem.Fin->Shared->Prop} (ho:s.heap.get? a=some (n9 "list" vs.toArray n)) (ag:vs.length < 64)
  (hp : ∀h':Heap,(∀b o,b≠a->s.heap.get? b=some o->h'.get? b=some o)->Paired (VKy h') vs ks) (ht : ∀k∈ks,k.tag=t/\k≠.r [])
  (h : ∀p:Array Nat,bp vs.length p->Srt (ltK ks) p vs.length->P (.done (.ret .none)) { s with heap:=sortedHeap s.heap a vs (y9 (p.toList.map λi=>vs.getD i o9)) }) :
  wpAny (model prog w) A (Builtin.«list.sort» ⟨[.ref a],[]⟩) P E s:=by
 rw[list_sort_plain];have ha:a < s.heap.objs.size:=gs ho
 refine c_ (listItems_at ho rfl ?_)
 refine c_ (J2 ho rfl ?_ (by rw[g_,Jp];omega) (r_ _))
 obtain⟨e1,ad⟩ : ∃e1,(s.heap.update a (o6 λ_=>(#[]:Array Value))).get? a=some (n9 "list" #[] e1):=⟨_,K3 ho (λ_ => #[])⟩
 refine c_ (seqEpoch_at ad rfl ?_)
 refine c_ (wpAny_newTuple ?_ (by show vs.length<=_;rw[Jp];omega))
 refine c_ (Ku ?_ (r_ _))
 refine C_ ?_
 have z:(((s.heap.update a (o6 λ_=>(#[]:Array Value))).push (n9 "tuple" vs.toArray 0)).push (n9 "list" #[] 0)).get? a=some (n9 "list" #[] e1):=by
  rw[KE _ _ _ (by rw[size_push',JB];exact k_ (JY ha)),KE _ _ _ (by rw[JB];exact k_ ha)]
  exact ad
 have aa : ∀b o,b≠a->s.heap.get? b=some o->(((s.heap.update a (o6 λ_=>(#[]:Array Value))).push (n9 "tuple" vs.toArray 0)).push (n9 "list" #[] 0)).get? b=some o:=λb o hb e =>
  d_ _ (d_ _ (by rw[G_ _ _ _ _ hb];exact e))
 show wpAny (model prog w) A _ P E { s with heap:=((s.heap.update a (o6 λ_=>(#[]:Array Value))).push (n9 "tuple" vs.toArray 0)).push (n9 "list" #[] 0) }
 dsimp only
 by_cases h2:vs.toArray.size < 2
 .rw[if_pos h2,if_pos h2]
  refine c_ (fy ?_)
  rw[StateT.run_pure];refine c_ (fy ?_)
  dsimp only;refine c_ (seqEpoch_at z rfl ?_)
  refine c_ (J2 z rfl ?_ (hsz2:=by rw[Array.size_map];show(pairsOf vs).size<=_;rw[pairsOf_size,Jp];omega))
  simp only[bne_self_eq_false,m_,if_false];have e:Array.map (λ(x:Value × Value)=>x.2) (vs.toArray.zip vs.toArray)=y9 ((y9 (range vs.length)).toList.map λi=>vs.getD i o9):=by
   apply toList_inj.mp
   rw[Array.toList_map,Array.toList_zip]
   show J0 _ (List.zip vs vs)=_
   rw[map_snd_zip (j5 _)]
   apply ext_getElem?
   intro i
   by_cases hi:i < vs.length
   .simp[hi]
   .simp[hi]
  have:=h (y9 (range vs.length)) (by show(range _).toArray.toList.Perm _;simp) λi j a b=>by rw[g_] at h2;omega
  rw[<- e] at this;exact fy this
 .rw[if_neg h2,if_neg h2]
  have ae:2<=vs.length:=by rw[g_] at h2;omega
  have Y:=hp _ aa;refine c_ (yt (t:=t) (s:={ s with heap:=((s.heap.update a (o6 λ_=>(#[]:Array Value))).push (n9 "tuple" vs.toArray 0)).push (n9 "list" #[] 0) }) Y ht ae ?_)
  refine c_ (y3 (uU (kvs:=vs) (vs:=vs) (s:={ s with heap:=((s.heap.update a (o6 λ_=>(#[]:Array Value))).push (n9 "tuple" vs.toArray 0)).push (n9 "list" #[] 0) })
   (Q:=λst s'=>∃p:Array Nat,p.size=vs.length/\arrOf st=p.map (kas_item (vs.toArray.zip vs.toArray))/\failedOf st=none/\bp vs.length p/\Srt (ltK ks) p vs.length/\s'={ s with heap:=((s.heap.update a (o6 λ_=>(#[]:Array Value))).push (n9 "tuple" vs.toArray 0)).push (n9 "list" #[] 0) })
   Y rfl ht ae ag λp st a1 a2 a3 a4 a5=>⟨p,a1,a2,a3,a4,a5,rfl⟩) ?_ λ_ _ e=>e)
  rintro⟨⟨⟩,ai⟩ s' ⟨p,af,ah,hf,U,ac,rfl⟩
  dsimp only;have Z:=kat_snds (ks:=vs) (vs:=vs) rfl ah;have hsz:(y9 (p.toList.map λi=>vs.getD i o9)).size=vs.length:=by rw[g_,a_,w9,af]
  rw[Z];refine c_ (seqEpoch_at z rfl ?_)
  refine c_ (J2 z rfl ?_ (r_ _) (le_trans (le_of_eq hsz) (by rw[Jp];omega)))
  rw[hf];simp only[bne_self_eq_false,m_,if_false];exact fy (h p U ac)
theorem mE {vs kvs:List Value} {ks:List Ky} {t:Nat} {P:PySem.Fin->Shared->Prop} (ho:s.heap.get? a=some (n9 "list" vs.toArray n)) (au:vs.length < 64) (hl:kvs.length=vs.length)
  (hp : ∀h':Heap,(∀b o,b≠a->s.heap.get? b=some o->h'.get? b=some o)->Paired (VKy h') kvs ks) (ht : ∀k∈ks,k.tag=t/\k≠.r [])
  (ae : ∀(i:Nat) x k,vs[i]? = some x->kvs[i]? = some k->∀(h':Heap) (tk:Nat) (Q:Value->Shared->Prop),(∀b o,b≠a->s.heap.get? b=some o->h'.get? b=some o)->s.heap.objs.size<=h'.objs.size ->
   (∀(U:Heap) (Y:Nat),(∀b o,h'.get? b=some o->U.get? b=some o)->Q k { s with heap:=U,toks:=Y })->wpAny (model prog w) A (call (.ref f) [x]) Q (λ_ _=>False) { s with heap:=h',toks:=tk })
  (h : ∀(h':Heap) (tk c:Nat) (p:Array Nat),bp vs.length p->Srt (ltK ks) p vs.length->(∀b o,b≠a->s.heap.get? b=some o->h'.get? b=some o)->h'.get? a=some (n9 "list" (y9 (p.toList.map λi=>vs.getD i o9)) c)->P (.done (.ret .none)) { s with heap:=h',toks:=tk }) :
  wpAny (model prog w) A (Builtin.«list.sort» ⟨[.ref a],[(b_ "key",.ref f)]⟩) P E s:=by
 rw[ksk_t1];have ha:a < s.heap.objs.size:=gs ho
 unfold ksk_tree;refine c_ (listItems_at ho rfl ?_)
 refine c_ (J2 ho rfl ?_ (by rw[g_,Jp];omega) (r_ _))
 obtain⟨e1,ar⟩ : ∃e1,(s.heap.update a (o6 λ_=>(#[]:Array Value))).get? a=some (n9 "list" #[] e1):=⟨_,K3 ho (λ_ => #[])⟩
 refine c_ (seqEpoch_at ar rfl ?_)
 refine c_ (wpAny_newTuple ?_ (by show vs.length<=_;rw[Jp];omega))
 refine c_ (Ku ?_ (r_ _))
 refine C_ ?_
 have ak:((s.heap.update a (o6 λ_=>(#[]:Array Value))).push (n9 "tuple" vs.toArray 0)).objs.size=s.heap.objs.size+1:=by rw[size_push',JB]
 obtain⟨h1,ac⟩ : ∃h1,h1=((s.heap.update a (o6 λ_=>(#[]:Array Value))).push (n9 "tuple" vs.toArray 0)).push (n9 "list" #[] 0):=⟨_,rfl⟩
 have az:h1.get? a=some (n9 "list" #[] e1):=by
  rw[ac,KE _ _ _ (by rw[size_push',JB];exact k_ (JY ha)),KE _ _ _ (by rw[JB];exact k_ ha)]
  exact ar
 have ap : ∀b o,b≠a->s.heap.get? b=some o->h1.get? b=some o:=λb o hb e=>by
  rw[ac];exact d_ _ (d_ _ (by rw[G_ _ _ _ _ hb];exact e))
 have am:h1.get? (s.heap.objs.size+1)=some (n9 "list" #[] 0):=by rw[ac,<- ak];exact g9 _ rfl
 have ao:s.heap.objs.size<=h1.objs.size:=le_trans (Ks _) (ot (gs am))
 have aq:s.heap.objs.size+1≠a:=JQ (JY ha)
 rw[ak]
 show wpAny (model prog w) A _ P E { s with heap:=((s.heap.update a (o6 λ_=>(#[]:Array Value))).push (n9 "tuple" vs.toArray 0)).push (n9 "list" #[] 0) }
 rw[<- ac];unfold ksk_rest;refine c_ (wpAny_rule ?_)
 rw[List.forIn_toArray];refine c_ (ksk_fold (λi s'=>∃(h':Heap) (tk e:Nat),s'={ s with heap:=h',toks:=tk }/\(∀b o,b≠a->s.heap.get? b=some o->h'.get? b=some o)/\s.heap.objs.size<=h'.objs.size/\h'.get? a=some (n9 "list" #[] e1)/\h'.get? (s.heap.objs.size+1)=some (n9 "list" (kvs.take i).toArray e)) vs 0 _
  ⟨h1,s.toks,0,rfl,ap,ao,az,by simpa using am⟩ (λj x s' hx hI=>?_) λs' hI=>?_)
 .obtain⟨h',tk,e,rfl,k1,k2,k3,k4⟩:=hI
  simp only[Nat.zero_add] at k4 ⊢;have hj:j < vs.length:=(i7.mp hx).1
  obtain⟨k,an⟩ : ∃k,kvs[j]? = some k:=⟨_,h_ ()⟩
  refine c_ (wpAny_attempt (y3 (ae j x k hx an h' tk (λv ai=>∃U Y,v=k/\ai={ s with heap:=U,toks:=Y }/\∀b o,h'.get? b=some o->U.get? b=some o) k1 k2 λU Y hk=>⟨U,Y,rfl,rfl,hk⟩) (λv ai he=>?_) λ_ _ hF=>hF.elim))
  obtain⟨U,Y,rfl,rfl,hk⟩:=he;dsimp only;have nk:=hk _ _ k4;have na:=hk _ _ k3;obtain⟨c2,ay⟩ : ∃c2,(U.update (s.heap.objs.size+1) (o6 (·.push v))).get? (s.heap.objs.size+1)=some (n9 "list" ((kvs.take j).toArray.push v) c2):=⟨_,K3 nk (·.push v)⟩;have aa:(kvs.take j).toArray.size<=64:=by rw[g_,pk];omega
  have ax:(65:Nat)<=g0:=by rw[Jp];omega
  refine c_ (J2 nk rfl ?_ (le_trans aa ()) (le_trans (le_of_eq (Array.size_push ..)) ()))
  refine fy ⟨rfl,_,Y,c2,rfl,λb o hb e=>?_,?_,?_,?_⟩
  .have aa:=gs e
   rw[G_ _ _ _ _ (k_ (JY aa))];exact hk _ _ (k1 b o hb e)
  .rw[JB]
   exact le_trans (Ks _) (ot (gs nk))
  .rw[G_ _ _ _ _ (Jx aq)]
   exact na
  .rw[ay]
   congr 2
   have ek:kvs.take (j+1)=kvs.take j++[v]:=by rw[i8,an];simp
   rw[ek];simp
 .obtain⟨h',tk,e,rfl,k1,k2,k3,k4⟩:=hI
  have e3:kvs.take (0+vs.length)=kvs:=t4 ()
  rw[e3] at k4
  try dsimp only
  refine c_ (listItems_at k4 rfl ?_)
  have ah:=hp h' k1;have ad : ∀(st:SortSt) (p:Array Nat),(arrOf st).map (·.2)=y9 (p.toList.map λi=>vs.getD i o9)->failedOf st=none->bp vs.length p->Srt (ltK ks) p vs.length->wpAny (model prog w) A (ksk_tail a false e1 (.ref (s.heap.objs.size+1)) st) P E { s with heap:=h',toks:=tk }:=by
   intro st p af hf z Z;unfold ksk_tail;dsimp only;have hsz:(y9 (p.toList.map λi=>vs.getD i o9)).size=vs.length:=by rw[g_,a_,w9,z.size]
   have ax:(65:Nat)<=g0:=by rw[Jp];omega
   refine c_ (J2 k4 rfl ?_ (by rw[g_];omega) (r_ _))
   refine c_ (wpAny_letGo ?_)
   have ag:(h'.update (s.heap.objs.size+1) (o6 λ_=>(#[]:Array Value))).get? a=some (n9 "list" #[] e1):=by
    rw[G_ _ _ _ _ (Jx aq)];exact k3
   refine c_ (seqEpoch_at ag rfl ?_)
   rw[af];refine c_ (J2 ag rfl ?_ (r_ _) (le_trans (le_of_eq hsz) ()))
   rw[hf];simp only[bne_self_eq_false,m_,if_false];refine fy (h _ tk _ p z Z (λb o hb eb=>?_) (K3 ag λ_=>y9 (p.toList.map λi=>vs.getD i o9)))
   have aa:=gs eb;rw[G_ _ _ _ _ hb,G_ _ _ _ _ (k_ (JY aa))];exact k1 b o hb eb
  unfold ksk_end;dsimp only;simp only[m_,if_false]
  by_cases h2:vs.toArray.size < 2
  .rw[if_pos h2,if_pos h2]
   refine c_ (fy ?_)
   rw[StateT.run_pure];refine c_ (fy ?_)
   dsimp only;refine ad _ (y9 (range vs.length)) ?_ rfl (by show(range _).toArray.toList.Perm _;simp) λi j a b=>by rw[g_] at h2;omega
   show Array.map _ (kvs.toArray.zip vs.toArray)=_
   apply toList_inj.mp
   rw[Array.toList_map,Array.toList_zip]
   show J0 _ (List.zip kvs vs)=_
   rw[map_snd_zip ()]
   apply ext_getElem?
   intro i
   by_cases hi:i < vs.length
   .simp[hi]
   .simp[hi]
  .rw[if_neg h2,if_neg h2]
   have av:2<=vs.length:=by rw[g_] at h2;omega
   refine c_ (yt (t:=t) (s:={ s with heap:=h',toks:=tk }) ah ht () ?_)
   refine c_ (y3 (uU (kvs:=kvs) (vs:=vs) (s:={ s with heap:=h',toks:=tk })
    (Q:=λst s'=>∃p:Array Nat,arrOf st=p.map (kas_item (kvs.toArray.zip vs.toArray))/\failedOf st=none/\bp vs.length p/\Srt (ltK ks) p vs.length/\s'={ s with heap:=h',toks:=tk })
    ah hl ht av au λp st a1 a2 a3 a4 a5=>⟨p,a2,a3,a4,a5,rfl⟩) ?_ λ_ _ e=>e)
   rintro⟨⟨⟩,aw⟩ s' ⟨p,af,hf,z,Z,rfl⟩
   exact ad aw p (kat_snds hl af) hf z Z
theorem sorted_ky {vs:List Value} {ks:List Ky} {t:Nat}
  (Z : ∀Q':List Value->Shared->Prop,(∀(h':Heap) (tk:Nat),(∀b o,s.heap.get? b=some o->h'.get? b=some o)->s.heap.objs.size<=h'.objs.size->Q' vs { s with heap:=h',toks:=tk })->wpAny (model prog w) A.in1 (collect u) Q' E s)
  (aa:vs.length < 64) (hp:Paired (VKy s.heap) vs ks) (ht : ∀k∈ks,k.tag=t/\k≠.r [])
  (h : ∀(h':Heap) (q tk c:Nat) (p:Array Nat),bp vs.length p->Srt (ltK ks) p vs.length->s.heap.objs.size<=q->(∀b o,s.heap.get? b=some o->h'.get? b=some o)->h'.get? q=some (n9 "list" (y9 (p.toList.map λi=>vs.getD i o9)) c)->Q (.ref q) { s with heap:=h',toks:=tk }) :
  wpAny (model prog w) A (call (.builtin "sorted") [u]) Q E s:=by
 refine Calls.call_function_entry kind_sorted plain_sorted entry_sorted (args_sorted1 _) ?_
 unfold Builtin.«sorted»;refine c_ (m:=checkCount "sorted" 1 1 _) (fy ?_)
 refine c_ (Z _ λh1 tk hk hz=>?_)
 refine c_ (Ku ?_ (by rw[Jp];omega))
 have U:(h1.push (n9 "list" vs.toArray 0)).get? h1.objs.size=some (n9 "list" vs.toArray 0):=g9 _ rfl
 have keep : ∀b o,s.heap.get? b=some o->(h1.push (n9 "list" vs.toArray 0)).get? b=some o:=λb o q=>d_ _ (hk b o q)
 show wpAny _ _ _ _ _ { s with heap:=h1.push (n9 "list" vs.toArray 0),toks:=tk }
 refine c_ (C_ (y4 slot_list_sort ⟨_,U,rfl⟩ entry_list_sort (sy (t:=t) (ks:=ks) U aa (λh' Y=>Paired.mapP' hp λv k z=>z.keep λb o e=>Y b o (k_ (l4 (gs e) hz)) (keep b o e)) ht λp a1 a2=>⟨_,rfl,?_⟩) (args_list_sort _)))
 obtain⟨e,he⟩:=sortedHeap_at (vs:=vs) (out:=y9 (p.toList.map λi=>vs.getD i o9)) U
 refine fy ⟨_,rfl,h _ _ tk e p a1 a2 hz (λb o eb=>?_) he⟩
 have hb:=gs (hk b o eb);rw[sortedHeap_old (k_ hb) (by rw[size_push'];exact JY hb)]
 exact keep b o eb
theorem sorted_keyed {ks:List Ky} {t:Nat}
  (ad : ∀Q':List Value->Shared->Prop,(∀(vs:List Value) (h':Heap) (tk:Nat),G vs->(∀b o,s.heap.get? b=some o->h'.get? b=some o)->s.heap.objs.size<=h'.objs.size->Q' vs { s with heap:=h',toks:=tk })->wpAny (model prog w) A.in1 (collect u) Q' E s)
  (ht : ∀k∈ks,k.tag=t/\k≠.r [])
  (hG : ∀vs,G vs->vs.length < 64/\∃kvs:List Value,kvs.length=vs.length/\Paired (VKy s.heap) kvs ks/\∀(i:Nat) x k,vs[i]? = some x->kvs[i]? = some k->∀(h':Heap) (tk:Nat) (Q:Value->Shared->Prop),(∀b o,s.heap.get? b=some o->h'.get? b=some o) ->
   (∀(aa:Heap) (Y:Nat),(∀b o,h'.get? b=some o->aa.get? b=some o)->Q k { s with heap:=aa,toks:=Y })->wpAny (model prog w) A.in1.in1 (call (.ref f) [x]) Q (λ_ _=>False) { s with heap:=h',toks:=tk })
  (h : ∀(vs:List Value) (h':Heap) (q tk c:Nat) (p:Array Nat),G vs->bp vs.length p->Srt (ltK ks) p vs.length->s.heap.objs.size<=q->(∀b o,s.heap.get? b=some o->h'.get? b=some o)->h'.get? q=some (n9 "list" (y9 (p.toList.map λi=>vs.getD i o9)) c)->Q (.ref q) { s with heap:=h',toks:=tk }) :
  wpAny (model prog w) A (call (.builtin "sorted") [u] [(b_ "key",.ref f)]) Q E s:=by
 refine call_function_entry_kw kind_sorted plain_sorted entry_sorted (ksk_s1 _ _) ?_
 unfold Builtin.«sorted»;refine c_ (m:=checkCount "sorted" 1 1 _) (fy ?_)
 refine c_ (ad _ λvs h1 tk hg hk hz=>?_)
 obtain⟨ae,kvs,hl,hp,Z⟩:=hG vs hg;refine c_ (Ku ?_ (by rw[Jp];omega))
 have ac:(h1.push (n9 "list" vs.toArray 0)).get? h1.objs.size=some (n9 "list" vs.toArray 0):=g9 _ rfl
 have keep : ∀b o,s.heap.get? b=some o->(h1.push (n9 "list" vs.toArray 0)).get? b=some o:=λb o q=>d_ _ (hk b o q)
 have ne : ∀b o,s.heap.get? b=some o->b≠h1.objs.size:=λb o e=>k_ (l4 (gs e) hz)
 show wpAny _ _ _ _ _ { s with heap:=h1.push (n9 "list" vs.toArray 0),toks:=tk }
 refine c_ (C_ (wpAny_call_entry_kw slot_list_sort ⟨_,ac,rfl⟩ entry_list_sort (mE (t:=t) (ks:=ks) (kvs:=kvs) ac ae hl (λh' U=>Paired.mapP' hp λv k z=>z.keep λb o e=>U b o (ne b o e) (keep b o e)) ht
  (λi x k hx af h' Y Q' U _ hq=>Z i x k hx af h' Y Q' (λb o e=>U b o (ne b o e) (keep b o e)) hq) λh' Y c p a1 a2 U he=>⟨_,rfl,?_⟩) (ksk_l1 _ _)))
 exact fy ⟨_,rfl,h vs h' _ Y c p hg a1 a2 hz (λb o e=>U b o (ne b o e) (keep b o e)) he⟩
theorem among_app {r:List Value} (l:List Value) (h:TriplesOk l):Kv pos (l++r)=(Kv pos l).or (Kv pos r):=by
 fun_induction TriplesOk l with
 | case1=>simp[Kv]
 | case2 a t b u x rest z =>
  simp only[KZ,Kv]
  split
  .rfl
  .exact z h
 | case3 l h1 h2=>exact h.elim
theorem triples_app {r:List Value} (l:List Value) (h:TriplesOk l) (g:TriplesOk r):TriplesOk (l++r):=by
 fun_induction TriplesOk l with
 | case1=>simpa using g
 | case2 a t b u x rest z=>exact z h
 | case3 l h1 h2=>exact h.elim
def LamEv (prog:Program) (w:World) (qual:Str) (scope:Scope) (clos:List (Str × Addr)) (body:Expr) (x:Str) (h:Heap) (u k:Value):Prop :=
 ∀ (A:Around) (L f:Addr) (cdv:Value) (s:Shared) (m:Str->Option Value) (Q:Value->Shared->Prop) (E:Value->Shared->Prop),(∀b o,h.get? b=some o->s.heap.get? b=some o)->s.heap.Ns L m->m x=some u ->
  (∀tk,Q k { s with toks:=tk })->wpAny (model prog w) A (eval body (envX qual scope L f cdv clos)) Q E s
section
variable {body:Expr}
theorem lam_call {k:Value} (ho:s.heap.get? f=some (kla_obj name qual params body scope clos pm c' ctv)) (am:s.heap.CodeRec (.ref c') qual) (Z:A.depth < recursionLimit) (af:s.heap.NoLimit)
  (Y:bindArgs (kla_fn name qual params body scope clos pm (.ref c') ctv) ⟨[u],[]⟩=pure [(x,u)]) (hx:scope.names.lookup x=some .local) (hk:scope.kind = .function) (ai:scope.isCoroutine=false) (ac:scope.isGenerator=false) (U : ∀y∈scope.names,y.2≠.cell)
  (ag:LamEv prog w qual scope clos body x h u k) (hh : ∀b o,h.get? b=some o->s.heap.get? b=some o) (hq : ∀(ad:Heap) (ah:Nat),(∀b o,s.heap.get? b=some o->ad.get? b=some o)->Q k { s with heap:=ad,toks:=ah }) :
  wpAny (model prog w) A (call (.ref f) [u]) Q E s:=by
 refine wpAny_call (kla_callFunE Z ho rfl ai ac rfl am ?_)
 rw[Y];refine fy (wpAny_newFunctionEnv U (λy hy=>by rw[g7.mp hy];exact hx) (λaa ak ae=>⟨af.fresh _ ae,kla_codeExpr ?_⟩) hk)
 have z : ∀b o,s.heap.get? b=some o->aa.get? b=some o:=λb o e=>ae.extBut b o (k_ (gs e)) (d_ _ e)
 exact ag _ _ _ _ _ _ _ _ (λb o e=>z b o (hh b o e)) ak (by simp) λtk=>hq _ _ z
theorem pH {i:Int} {t:Tok} (z:IsTup s.heap a its.toArray) (hz:its.length<=g0) (U:L2.atI its i=some v) (h:Q v s)
  (Y:subscripted slice false (.ref a) (.int i t)=operate [.ref a,.int i t] (JM (.ref a) (.int i t))):wpAny (model prog w) A (subscriptTail value slice (.ref a) (.int i t)) Q E s:=by
 obtain⟨j,h1,h2,Z,h4,h5⟩:=L2.mQ U;have hn:=L2.ju;exact KC (x:=v) z.typeIs slot_tuple_getitem.lookup
  (getItem_tuple (j:=j) (Q:=λr s'=>r=v/\Q r s') z () () (by rw[g_];exact h1) (by simpa using h2) ⟨rfl,h⟩) Y
theorem ev_item {i:Int} (hk:scope.kind = .function) (hx:scope.names.lookup x=some .local) (Z:IsTup h a its.toArray) (hz:its.length<=g0) (he:L2.atI its i=some v)
  (hd:(x ==("__debug__" : Str))=false) (U : ∀o u,subscripted (.Constant (.int i) kk p2) false o u=operate [o,u] (JM o u)) :
  LamEv prog w qual scope clos (.Subscript (.Name x p1) (.Constant (.int i) kk p2) p3) x h (.ref a) v:=by
 intro A L f cdv s m Q E hh z Y hq;refine KR (wpAny_Name (wpAny_loadName_local hk hx z Y ?_) hd)
 refine wpAny_Constant_int ?_
 exact pH (Z.keeps hh) hz he (hq _) (U _ _)
theorem ev_place {y:Str} {Y:List Value} {i j:Int} {t:Tok} {p4 p5:Pos} (hk:scope.kind = .function) (hx:scope.names.lookup x=some .local) (hy:scope.names.lookup y=some .free) (hc:clos.lookup y=some c)
  (U:h.IsCell c (-a)) (hp:IsTup h a its.toArray) (hz:its.length<=g0) (he:L2.atI its i=-b) (af:IsTup h b Y.toArray) (aa:Y.length<=g0) (ag:L2.atI Y j=some v)
  (hd:(x ==("__debug__" : Str))=false) (Z:(y ==("__debug__" : Str))=false) (ae:(y ==("__classdict__" : Str))=false)
  (hs : ∀o u,subscripted (.Constant (.int i) kk p2) false o u=operate [o,u] (JM o u)) (ad : ∀o u,subscripted (.Name x p4) false o u=operate [o,u] (JM o u)) :
  LamEv prog w qual scope clos (.Subscript (.Subscript (.Name y p1) (.Constant (.int i) kk p2) p3) (.Name x p4) p5) x h (.int j t) v:=by
 intro A L f cdv s m Q E hh ac hm hq;have z:s.heap.IsCell c (-a):=let ⟨o,e,d⟩:=U;⟨o,hh _ _ e,d⟩
 refine KR (KR (wpAny_Name (wpAny_loadName_free hk hy hc z ?_ ae) Z))
 refine wpAny_Constant_int ?_
 refine pH (hp.keeps hh) hz he ?_ (hs _ _)
 refine wpAny_Name (wpAny_loadName_local hk hx ac hm ?_) hd
 exact pH (af.keeps hh) aa ag (hq _) (ad _ _)
end
end PySem.W
namespace L2
open PySem PySem.Spec PyProof.Rows
def jm (mg:Str->Option Value) (base:Heap):Prop:=∃z ob,mg "__builtins__" = some (.ref z)/\z≠builtinsNs/\base.get? z=some ob/\ob.cls = .type "module" /\ ob.dict=some builtinsNs/\ob.data = .plain
def vf (K:ge) (mg:Str->Option Value) (x:Str) (st:Stmt) (ps:List Str) (P:Addr):Prop :=
 ∃f fd c,Fun K x x st f fd/\fd.code = .ref c/\Kg K c P=true/\mg x=some (.ref f)/\jQ K fd ps []
section
variable {P:Program} {w:World} {K:ge} {mg:Str->Option Value} {base:Heap}
theorem vf.ok {pt:Addr} (F:vf K mg x st ps pt) (S:aH N ps (am st)) (len : ∀vs H Q E,sp vs H Q E->vs.length=ps.length)
  (z : ∀(f c:Addr) (hc:Kg K c pt=true) (A:Around) (outer:List Env) (s:Shared) (H:Hp) (vs:List V) (Q:VK) (E:XK),cR k (A.deeper (envOfC x (am st) s.heap.objs.size f (.ref c)))->sp vs H Q E ->
   ∃t,PSs (tu CX0 P w K mg base N x (am st) f (.ref c) A outer s H E).nox (cq st) t/\t { nx:=λ_ H'=>Q .non H',rt:=Q } (gg N vs) H):Fn P w K mg base x (k+1) ps sp:=by
 obtain⟨f,fd,c,F,Z,hc,m,b⟩:=F;refine⟨f,fd,?_,m,F.kp,b⟩
 obtain⟨oc,od,kV,doc,pm,an,cdv,ct,osl,rfl,lk,U⟩:=F.ex;have e:cdv = .ref c:=Z
 subst e;refine Eg lk U S len λA outer s H vs Q E hr Y=>?_
 obtain⟨t,h,q⟩:=z f c hc A outer s H vs Q E hr Y;exact⟨t,h.nox,q⟩
theorem yk {pt:Addr} {z:Option Addr} {kV:Value} (X:K.In h) (G:h.Ns o8 mg)
  (a:nsIn K o8 x=some (-f))
  (l:K.lookup f=some ⟨oc,od,.func (fnOf x x (cZ st) (cq st) (am st) .none kV doc pm z cdv ct),osl⟩)
  (c':codeIn K cdv x=true) (k:keepIn K (.ref f)=true) (U:cdv = .ref c) (Y:Kg K c pt=true)
  (Z : ∀(kV doc pm:Value) (z:Option Addr) (cdv ct:Value) (us:List Value),us.length=ps.length->bindArgs (fnOf x x (cZ st) (cq st) (am st) .none kV doc pm z cdv ct) ⟨us,[]⟩=pure (ps.zip us)):vf K mg x st ps pt :=
 ⟨f,_,c,oF l c' k,U,Y,mg_of X G a,(oF l c' k).binds Z⟩
end
theorem vz {pt:Addr} {q:Str} {body:Expr} (I:Inv X pins σ H s) (hP:H pt=some (.tab q)) (hq:X.env.qual ++ "<lambda>" = q) (U:X.env.code = .ref c)
  (hc:Kg X.K c pt=true) (bm:jm X.mg X.base) (am:defaultsOf params X.env=([],[])) (ah:closureFor scope X.env=pure clos)
  (h : ∀(f c':Addr) (pm ctv:Value) (s':Shared) (H':Hp),Inv X pins σ H' s'->aj H H'->(∀b u,s.heap.get? b=some u->H b=none->s'.heap.get? b=some u)->s.heap.objs.size<=s'.heap.objs.size->s'.heap.get? f=some (JL "<lambda>" q params body scope clos pm c' ctv)->s'.heap.CodeRec (.ref c') q->Q (.ref f) s') :
  wpAny (model X.prog X.w) X.A (eval (.Lambda params body scope pos) X.env) Q E s:=by
 obtain⟨ps,e,ht,an⟩:=(show bf X.prog X.w H s.heap pt (.tab q) from I.hok pt _ hP)
 have C:PySem.W.CodeHd s.heap c pt:=(codeHd_of_K I.mod.kin hc).keeps I.bk
 obtain⟨b,ob,b1,b2,b3,b4,b5,b6⟩:=bm;have ac:s.heap.Ns o8 X.mg:=I.mod.glob.keeps I.bk
 have ay:o8≠pt:=λz=>by
  obtain⟨o,es,ep,e',hd,_⟩:=ac;rw[z,e] at e';cases e';cases hd
 have ar:b≠pt:=λz=>by
  have:=(I.bs _ _ b3).2
  rw[z,hP] at this;cases this
 have au:b≠o8:=λz=>by
  obtain⟨o,es,ep,e',hd,_⟩:=I.mod.glob;rw[z,e'] at b3;cases b3;rw[hd] at b6;cases b6
 have hB:s.heap.BuiltinsAt X.mg pt:=⟨b,ob,b1,b2,au,ar,I.bk _ _ b3,b4,b5,b6⟩
 refine PySem.W.kla_eval am ?_
 rw[hq];cases hf:Kv pos ps.toList with
 | some cv =>
  obtain⟨c',oc,rfl,ne,hw,ad⟩:=an pos cv hf;have Y:s.heap.CodeRec (.ref c') q:=let ⟨vs,t,e3,e4⟩:=ad;⟨c',oc,vs,t,rfl,(I.hok c' _ hw).1,e3,e4⟩
  refine PySem.W.kla_makeFunctionHit ah I.ok.glob ac U C e ht hf hB λctv h' tk hk hsz=>?_
  have k2 : ∀b o,s.heap.get? b=some o->(h'.push (JL "<lambda>" q params body scope clos ((X.mg "__name__").getD .none) c' ctv)).get? b=some o:=λb o e=>d_ _ (hk b o e)
  exact h _ c' _ ctv _ H (I.kept (t':=tk) k2) (aj.refl H) (λb u e _=>k2 b u e) (by show _<=(h'.push _).objs.size;rw[Js];omega) (g9 _ rfl) (Y.keeps k2)
 | none =>
  refine PySem.W.kla_makeFunction ah I.ok.glob ac U C e ht hf ay hB λc' ctv h' tk hx af az Y aw=>?_
  have ae:H c'=none:=I.hok.fresh af
  have av:c'≠pt:=λz=>by rw[z,hP] at ae;cases ae
  have k1 : ∀b o,b≠pt->s.heap.get? b=some o->(h'.push (JL "<lambda>" q params body scope clos ((X.mg "__name__").getD .none) c' ctv)).get? b=some o:=λb o hb e=>d_ _ (hx b o hb e)
  have nP : ∀b,H b=none->b≠pt:=λb n z=>by rw[z,hP] at n;cases n
  have nc : ∀b o,s.heap.get? b=some o->b≠c':=λb o e=>k_ (l4 (gs e) af)
  have aa:(h'.push (JL "<lambda>" q params body scope clos ((X.mg "__name__").getD .none) c' ctv)).get? pt=some (tabObj (ps ++ #[rawInt pos.line,rawInt pos.col,.ref c'])):=d_ _ aw
  have Z:=Y.push (JL "<lambda>" q params body scope clos ((X.mg "__name__").getD .none) c' ctv);obtain⟨cc,oc,vc,tc,ax,ak,aq⟩:=id Z;cases ax;have S:aj H (upd H c' (.frz oc (.own pt))):=λb o e=>by rw[ai (ap e ae)];exact e
  have un:Un X.fs [] H (upd H c' (.frz oc (.own pt))) s.heap (h'.push (JL "<lambda>" q params body scope clos ((X.mg "__name__").getD .none) c' ctv)) :=
   ⟨λb o e n _ _=>k1 b o (nP b n) e,λb o e n _ _=>⟨o.slots,k1 b o (nP b n) e⟩,λb o e n _=>by rw[ai (nc b o e)];exact n,
    λb o e _=>by
     by_cases hb:b=pt
     .subst hb;exact⟨_,aa⟩
     .exact⟨o,k1 b o hb e⟩,
    λb xs e=>S _ _ e,λb o u e=>S _ _ e,λb ps e=>⟨#[],by rw[S _ _ e];simp⟩⟩
  have hok:HOk X.prog X.w (upd H c' (.frz oc (.own pt))) (h'.push (JL "<lambda>" q params body scope clos ((X.mg "__name__").getD .none) c' ctv)):=λb u eb=>by
   by_cases ao:b=c'
   .subst ao
    rw[ab] at eb;cases eb;exact⟨ak,oc,ak⟩
   .rw[ai ao] at eb
    by_cases hb:b=pt
    .subst hb
     rw[hP] at eb;cases eb;refine⟨ps ++ #[rawInt pos.line,rawInt pos.col,.ref c'],aa,?_,λpos' cv z=>?_⟩
     .rw[Array.toList_append]
      exact PySem.W.triples_app _ ht trivial
     .rw[Array.toList_append,PySem.W.among_app _ ht] at z
      cases z1:Kv pos' ps.toList with
      | some ag =>
       rw[z1] at z;have z':ag=cv:=by simpa using z
       subst z';obtain⟨d,od,rfl,ne,hw,ad⟩:=an pos' ag z1;exact⟨d,od,rfl,ne,S _ _ hw,ad⟩
      | none =>
       rw[z1] at z;have z':m8 c'=cv:=by
        simp only[Option.none_or,rawInt,Kv] at z
        split at z
        .exact f_ z
        .cases z
       subst z';exact⟨c',oc,rfl,av,ab,vc,tc,aq⟩
    .refine(I.hok b u eb).stay (λd v hd r=>k1 d v ?_ r) (λd r=>S _ _ r) (λd xs r=>S _ _ r) λd _ _ r=>S _ _ r
     rcases hd with rfl | hd
     .exact hb
     .exact λz=>by rw[z,hP] at hd;cases hd
  exact h _ c' _ ctv _ _ (I.un (t':=tk) un hok) S (λb u e n=>k1 b u (nP b n) e) (by show _<=(h'.push _).objs.size;rw[Js];omega) (g9 _ rfl) Z
open PySem.W (Ky VKy bp Srt ltK)
def KyV (H:Hp) (v:V):Ky->Prop
 | .s x=>v = .str x
 | .i n=>v = .int n
 | .r l=>∃a,v = .ref a/\H a>>(l.map V.int)
theorem KyV.same {v:V} (e:aj H H') : ∀{k:Ky},KyV H v k->KyV H' v k
 | .s _,h=>h
 | .i _,h=>h
 | .r _,⟨a,h1,h2⟩=>⟨a,h1,e _ _ h2⟩
theorem jM (s:Shared) (us:List Value):(∀b o,s.heap.get? b=some o->((s.heap.push (n9 "list" #[] 0)).update s.heap.objs.size (o6 (· ++ us.toArray))).get? b=some o)/\s.heap.objs.size<=((s.heap.push (n9 "list" #[] 0)).update s.heap.objs.size (o6 (· ++ us.toArray))).objs.size:=by
 refine⟨λb o e=>?_,?_⟩
 .have hlt:b < s.heap.objs.size:=gs e
  rw[G_ _ _ _ _ (k_ hlt),KE _ _ _ (k_ hlt)];exact e
 .rw[JB,size_push'];omega
theorem yz (U:s.heap.IsTuple t us.toArray) (hn:us.length<=1000) (z:List Value->Shared->Prop)
  (k : ∀(h':Heap) (tk:Nat),(∀b o,s.heap.get? b=some o->h'.get? b=some o)->s.heap.objs.size<=h'.objs.size->z us { s with heap:=h',toks:=tk }):wpAny (model prog w) A (collect (.ref t)) z E s :=
 mq U hn (k _ s.toks (jM s us).1 (jM s us).2)
theorem Cz (U:s.heap.IsList t us.toArray) (hn:us.length<=1000) (z:List Value->Shared->Prop)
  (k : ∀(h':Heap) (tk:Nat),(∀b o,s.heap.get? b=some o->h'.get? b=some o)->s.heap.objs.size<=h'.objs.size->z us { s with heap:=h',toks:=tk }):wpAny (model prog w) A (collect (.ref t)) z E s :=
 collect_list U (k _ s.toks (jM s us).1 (jM s us).2) (by rw[Jp];omega)
theorem yS : ∀{xs:List V} {us:List Value} (i:Nat),aX xs us->i < xs.length->be (xs.getD i .non) (us.getD i .none)
 | _,_,i,.nil,h=>by simp at h
 | _,_,0,.cons r _,_=>by simpa using r
 | _,_,i+1,.cons _ t,h=>by simpa using yS i t (by simpa using h)
theorem lL {xs:List V} {us:List Value} (r:aX xs us) : ∀{l:List Nat},(∀i∈l,i < xs.length)->aX (l.map λi=>xs.getD i .non) (l.map λi=>us.getD i .none)
 | [],_=>.nil
 | i :: l,h=>.cons (yS i r (h i j_)) (lL r λj z=>h j (j9 _ z))
theorem eX {p:Array Nat} (h:bp n p) : ∀i∈p.toList,i < n:=λi hi=>x8.mp (h.mem_iff.mp hi)
theorem oM {zs:List α} {d:α} {p:Array Nat} (h:bp zs.length p):(p.toList.map λi=>zs.getD i d).Perm zs:=by
 have e:((range zs.length).map λi=>zs.getD i d)=zs:=by
  apply ext_getElem?
  intro i
  by_cases hi:i < zs.length
  .simp[hi]
  .simp[hi]
 have:=h.map λi=>zs.getD i d
 rwa [e] at this
theorem vU {f:α->Ky} {zs:List α} {d:α} {p:Array Nat} (Y:bp zs.length p) (h:Srt (ltK (zs.map f)) p zs.length):((p.toList.map λi=>zs.getD i d).map f).Pairwise Ky.le:=by
 rw[fx,l9,List.pairwise_iff_getElem];intro i j hi hj U;have hz:=Y.size;have z:i < p.size:=by simpa using hi
 have Z:j < p.size:=by simpa using hj
 have q:=h i j U ()
 have e1:p.getD i 0=p[i]:=by simp[Array.getD,z]
 have e2:p.getD j 0=p[j]:=by simp[Array.getD,Z]
 have l1:p[i] < zs.length:=eX Y _ (by simp)
 have l2:p[j] < zs.length:=eX Y _ (by simp)
 unfold ltK at q;rw[e1,e2] at q;simp only[j7,e9,h_ l1,h_ l2,Kh,getD_some] at q;unfold Ky.le;simp only[Function.comp,Array.getElem_toList,j7,h_ l1,h_ l2,getD_some];exact q
def Bw:List V->Hp->VK->Prop:=λxs H Q=>∃p,xs=[.ref p]/\∃zs:List (V × Ky),(H p*>(zs.map (·.1))\/H p>>(zs.map (·.1)))/\zs.length < 64/\(∀z∈zs,KyV H z.1 z.2)/\(∃t:Nat,∀z∈zs,z.2.tag=t/\z.2≠.r []) /\
 ∀(q:Addr) (U:List (V × Ky)),H q=none->U.Perm zs->(U.map (·.2)).Pairwise Ky.le->Q (.ref q) (upd H q (.lst (U.map (·.1))))
theorem vq {pins:List (Addr × Obj)} {σ:St} {H:Hp} {s:Shared} (I:Inv X pins σ H s) : ∀{zs:List (V × Ky)} {us:List Value},aX (zs.map (·.1)) us->(∀z∈zs,KyV H z.1 z.2)->Paired (VKy s.heap) us (zs.map (·.2))
 | [],_,r,_=>by cases r;exact .nil
 | (v, k) :: zs,_,r,h=>by
  cases r with
  | cons U r2 =>
   refine .cons ?_ (vq I r2 λz hz=>h z (j9 _ hz))
   have Y:=h (v,k) j_;cases k with
   | s x=>cases (show v = .str x from Y);exact U
   | i x=>cases (show v = .int x from Y);exact U
   | r l =>
    obtain⟨a,e,ha⟩:=Y;have e:v = .ref a:=e
    subst e;obtain⟨its,Z,pl,_⟩:=I.tuple (SqT.of ha);exact⟨a,its,U,pl,dk Z⟩
theorem xy:bH X (.builtin "sorted") Bw:=by
 intro pins s σ H xs us Q I r h;obtain⟨p,rfl,zs,hp,hl,hk,⟨t,ht⟩,q⟩:=h;obtain⟨u,rfl,ru⟩:=cK r;cases ru;have aa : ∀its:List Value,aX (zs.map (·.1)) its->(∀Q':List Value->Shared->Prop,(∀(h':Heap) (tk:Nat),(∀b o,s.heap.get? b=some o->h'.get? b=some o)->s.heap.objs.size<=h'.objs.size->Q' its { s with heap:=h',toks:=tk })->wpAny (model X.prog X.w) X.A.in1 (collect (.ref p)) Q' X.xe s) ->
   wpAny (model X.prog X.w) X.A (call (.builtin "sorted") [.ref p]) (EP X pins σ Q) X.xe s:=by
  intro its Y ae;have U:=Y.length;rw[a_] at U;refine PySem.W.sorted_ky (t:=t) (ks:=zs.map (·.2)) ae () (vq I Y hk) (λk hm=>?_) λh' a tk c pm ac af hz ad he=>?_
  .obtain⟨z,hz,rfl⟩:=e7.mp hm
   exact ht z hz
  .rw[<- U] at ac af
   have Z:bp zs.length pm:=ac
   have ag:bp (zs.map (·.1)).length pm:=by rw[a_];exact ac
   have e1:(pm.toList.map λi=>zs.getD i (V.non,Ky.i 0)).map (·.1)=pm.toList.map λi=>(zs.map (·.1)).getD i .non:=by
    rw[fx];refine q_ λi hi=>?_
    have:=eX Z i hi
    simp[j7,this]
   have new:bf X.prog X.w (upd H a (.lst ((pm.toList.map λi=>zs.getD i (V.non,Ky.i 0)).map (·.1)))) h' a (.lst ((pm.toList.map λi=>zs.getD i (V.non,Ky.i 0)).map (·.1))):=by
    refine⟨?_,_,c,?_,he⟩
    .rw[a_,a_,w9,Z.size];exact ot (au ())
    .rw[e1];exact lL Y (eX ag)
   exact⟨.ref a,_,I.laid (t':=tk) ad hz new,rfl,q a _ (I.hok.fresh hz) (oM Z) (vU Z af)⟩
 rcases hp with hp | hp
 .obtain⟨its,Y,pl,_⟩:=I.list (SqL.of hp)
  have U:=Y.length;rw[a_] at U;exact aa its Y λQ' k=>Cz pl.isList () Q' k
 .obtain⟨its,Y,pl,_⟩:=I.tuple (SqT.of hp)
  have U:=Y.length;rw[a_] at U;exact aa its Y λQ' k=>yz (show s.heap.IsTuple p its.toArray from pl) () Q' k
theorem vM {Ev:Value->Value->Prop} {h:Heap} : ∀{zs:List (V × Str)} {us:List Value},aX (zs.map (·.1)) us->(∀z∈zs,∀u,be z.1 u->∃t,Ev u (.str z.2 t))->∃kvs:List Value,kvs.length=us.length/\Paired (VKy h) kvs (zs.map λz=>Ky.s z.2)/\∀(i:Nat) x k,us[i]? = some x->kvs[i]? = some k->Ev x k
 | [],_,r,_=>by cases r;exact⟨[],rfl,.nil,λi x k e=>by simp at e⟩
 | (v, x) :: zs,_,r,hE=>by
  cases r with
  | cons Z Y =>
   obtain⟨kvs,a,b,c⟩:=vM (h:=h) Y λz hz=>hE z (j9 _ hz)
   obtain⟨t,U⟩:=hE (v,x) j_ _ Z;refine⟨.str x t :: kvs,by simp[a],.cons ⟨t,rfl⟩ b,λi y k e1 e2=>?_⟩
   cases i with
   | zero =>
    simp only[z_,Ju] at e1 e2;rw[<- e1,<- e2];exact U
   | succ i=>exact c i y k (by simpa using e1) (by simpa using e2)
theorem vN {Q:VK} {q:Str} {body:Expr}
  (I:Inv X pins σ H s) (hr:cR k X.A) (hl:zs.length < 64)
  (ae : ∀Q':List Value->Shared->Prop,(∀(its:List Value) (h':Heap) (tk:Nat),aX (zs.map (·.1)) its->(∀b o,s.heap.get? b=some o->h'.get? b=some o)->s.heap.objs.size<=h'.objs.size->Q' its { s with heap:=h',toks:=tk })->wpAny (model X.prog X.w) X.A.in1 (collect u) Q' X.xe s)
  (ho:s.heap.get? f=some (JL "<lambda>" q params body scope clos pm c' ctv)) (ak:s.heap.CodeRec (.ref c') q)
  (aa : ∀u,bindArgs (PySem.W.kla_fn "<lambda>" q params body scope clos pm (.ref c') ctv) ⟨[u],[]⟩=pure [(x,u)]) (hx:scope.names.lookup x=some .local) (hk:scope.kind = .function) (ai:scope.isCoroutine=false) (ad:scope.isGenerator=false) (Z : ∀y∈scope.names,y.2≠.cell)
  (ah : ∀z∈zs,∀u,be z.1 u->∃t,PySem.W.LamEv X.prog X.w q scope clos body x s.heap u (.str z.2 t))
  (h : ∀(a:Addr) (ac:List (V × Str)),H a=none->ac.Perm zs->(ac.map λz=>Ky.s z.2).Pairwise Ky.le->Q (.ref a) (upd H a (.lst (ac.map (·.1))))) :
  wpAny (model X.prog X.w) X.A (call (.builtin "sorted") [u] [(b_ "key",.ref f)]) (EP X pins σ Q) X.xe s:=by
 refine PySem.W.sorted_keyed (t:=0) (ks:=zs.map λz=>Ky.s z.2) (G:=λits=>aX (zs.map (·.1)) its) ae (λk hm=>?_) (λits rv=>?_) λits h' a tk c p rv Y af hz U he=>?_
 .obtain⟨z,_,rfl⟩:=e7.mp hm
  exact⟨rfl,λz=>nomatch z⟩
 .have hlen:=rv.length
  rw[a_] at hlen;obtain⟨kvs,k1,k2,k3⟩:=vM (h:=s.heap) rv ah;refine⟨(),kvs,k1,k2,λi y k e1 e2 h' tk Q' U hq=>?_⟩
  exact PySem.W.lam_call (s:={ s with heap:=h',toks:=tk }) (U _ _ ho) (ak.keeps U) hr.depth (I.nolimit.keeps U) (aa y) hx hk ai ad Z (k3 i y k e1 e2) U hq
 .have hlen:=rv.length
  rw[a_] at hlen;rw[<- hlen] at Y af;have ag:bp (zs.map (·.1)).length p:=by rw[a_];exact Y
  have e1:(p.toList.map λi=>zs.getD i (V.non,"")).map (·.1)=p.toList.map λi=>(zs.map (·.1)).getD i .non:=by
   rw[fx];refine q_ λi hi=>?_
   have:=eX Y i hi
   simp[j7,this]
  have new:bf X.prog X.w (upd H a (.lst ((p.toList.map λi=>zs.getD i (V.non,"")).map (·.1)))) h' a (.lst ((p.toList.map λi=>zs.getD i (V.non,"")).map (·.1))):=by
   refine⟨?_,_,c,?_,he⟩
   .rw[a_,a_,w9,Y.size];exact ot (au ())
   .rw[e1];exact lL rv (eX ag)
  exact⟨.ref a,_,I.laid (t':=tk) U hz new,rfl,h a _ (I.hok.fresh hz) (oM Y) (vU (f:=λz:V × Str=>Ky.s z.2) Y af)⟩
theorem sL {i:Int} {v:V} (r:aX xs us) (h:atI xs i=some v) : ∃u,atI us i=some u/\be v u:=by
 unfold atI at h ⊢;rw[<- r.length];obtain⟨j,h1,h2⟩:=Option.bind_eq_some_iff.mp h;obtain⟨u,e,q⟩:=r.get h2;exact⟨u,by rw[h1];exact e,q⟩
def BX (pt:Addr) (q:Str) (i:Int) (te:TE):TE:=λσ H Q=>te σ H λx H1=>∃p,x = .ref p/\∃zs:List (V × Str),H1 p>>(zs.map (·.1))/\zs.length < 64/\H1 pt=some (.tab q)/\(∀z∈zs,∃b ys,z.1 = .ref b/\H1 b>>ys/\atI ys i=some (.str z.2)) /\
 ∀(H2:Hp) (r:Addr) (U:List (V × Str)),aj H1 H2->H2 r=none->U.Perm zs->(U.map λz=>Ky.s z.2).Pairwise Ky.le->Q (.ref r) (upd H2 r (.lst (U.map (·.1))))
theorem Bo {e0:Expr} {i:Int} {p aa kp:Pos} {pt:Addr} {q:Str}
  (hr:cR k X.A) (hg:Gl X "sorted") (hm:X.mg "sorted" = none) (ha:PE X e0 te) (U:X.env.code = .ref c) (hc:Kg X.K c pt=true) (bm:jm X.mg X.base)
  (hq:X.env.qual ++ "<lambda>" = q) (ae:defaultsOf params X.env=([],[])) (am:closureFor scope X.env=pure clos)
  (Y : ∀pm c' ctv u,bindArgs (PySem.W.kla_fn "<lambda>" q params (.Subscript (.Name x p1) (.Constant (.int i) kk p2) p3) scope clos pm (.ref c') ctv) ⟨[u],[]⟩=pure [(x,u)]) (hx:scope.names.lookup x=some .local) (hk:scope.kind = .function) (ah:scope.isCoroutine=false) (ac:scope.isGenerator=false) (Z : ∀y∈scope.names,y.2≠.cell)
  (hd:(x ==("__debug__" : Str))=false) (hs : ∀o u,subscripted (.Constant (.int i) kk p2) false o u=operate [o,u] (JM o u))
  (he:m9 [e0] X.env=[(false,eval e0 X.env)]:=by rfl) :
  PE X (.Call (.Name "sorted" p) [e0] [⟨some "key",.Lambda params (.Subscript (.Name x p1) (.Constant (.int i) kk p2) p3) scope aa,kp⟩] pos) (BX pt q i te):=by
 intro pins s σ H Q I h;refine x4 (dH I hg hm (by decide+kernel:If "sorted" = some (.builtin "sorted")) ?_)
 refine callWith_kw ?_ (by show JS pos (m9 [e0] X.env)=_;rw[he];rfl) (by rw[he];rfl)
 rw[he];refine u9 (thn (ha pins s σ H _ I h) λu s1 ⟨v,H1,I1,r1,p0,ev,zs,hp,hl,hP,hz,hQ⟩=>F_ ?_)
 subst ev;cases r1;refine kws_cons (vz (q:=q) I1 hP hq U hc bm ae am λf c' pm ctv s2 H2 I2 sm _ _ ho ao=>kws_nil ?_)
 obtain⟨its,rv,pl,_⟩:=I2.tuple (SqT.of (sm _ _ hp));have ad:=rv.length;rw[a_] at ad;refine vN (x:=x) (zs:=zs) I2 hr hl (λQ' k=>yz (show s2.heap.IsTuple p0 its.toArray from pl) () Q' λh' tk=>k its h' tk rv) ho ao (Y pm c' ctv) hx hk ah ac Z (λz ag u ru=>?_) λa ak hf ap aq=>hQ H2 a ak sm hf ap aq
 obtain⟨b,ys,ez,hb,ai⟩:=hz z ag;rw[ez] at ru;cases ru;obtain⟨au,rj,pj,af⟩:=I2.tuple (SqT.of (sm _ _ hb));obtain⟨w',an,t,ar⟩:=sL rj ai;subst ar;exact⟨t,PySem.W.ev_item hk hx pj (by rw[<- rj.length];exact af) an hd hs⟩
def Cd (pt:Addr) (q:Str) (i:Int) (j:Nat) (ta:TA):TE:=λσ H Q=>ta σ H λvs H1=>∃n:Int,vs=[.int n]/\∃(Z:Addr) (xs:List V) (Y:Addr) (ys:List Str),σ[j]? = some (-Z)/\H1 Z>>xs/\atI xs i=some (.ref Y)/\H1 Y>>(ys.map V.str)/\n=ys.length/\ys.length < 64/\H1 pt=some (.tab q) /\
 ∀(H2:Hp) (r:Addr) (U:List (Nat × Str)),aj H1 H2->H2 r=none->U.Perm ((range ys.length).zip ys)->(U.map λz=>Ky.s z.2).Pairwise Ky.le->Q (.ref r) (upd H2 r (.lst (U.map λz=>V.int z.1)))
theorem Ar {y:Str} {i:Int} {p p' p4 p5 ag kp:Pos} {cy pt:Addr} {q:Str}
    (hr:cR k X.A) (aK:X.calm=true) (hg:Gl X "sorted") (hm:X.mg "sorted" = none) (aD:Gl X "range") (aw:X.mg "range" = none) (ha:PA X [e1] ta) (ac:X.env.code = .ref c) (hc:Kg X.K c pt=true) (bm:jm X.mg X.base)
    (hq:X.env.qual ++ "<lambda>" = q) (au:defaultsOf params X.env=([],[])) (aA:closureFor scope X.env=pure clos)
    (hN:X.N[j]? = some y) (hv:X.env.kindOf y=some .cell) (aB:X.env.cells.lookup y=some cy) (ah:clos.lookup y=some cy)
    (ad : ∀pm c' ctv u,bindArgs (PySem.W.kla_fn "<lambda>" q params (.Subscript (.Subscript (.Name y p1) (.Constant (.int i) kk p2) p3) (.Name x p4) p5) scope clos pm (.ref c') ctv) ⟨[u],[]⟩=pure [(x,u)]) (hx:scope.names.lookup x=some .local) (hy:scope.names.lookup y=some .free) (hk:scope.kind = .function) (a4:scope.isCoroutine=false) (am:scope.isGenerator=false) (af : ∀y∈scope.names,y.2≠.cell)
    (hd:(x ==("__debug__" : Str))=false) (a1:(y ==("__debug__" : Str))=false) (aG:(y ==("__classdict__" : Str))=false) (hs : ∀o u,subscripted (.Constant (.int i) kk p2) false o u=operate [o,u] (JM o u)) (a8 : ∀o u,subscripted (.Name x p4) false o u=operate [o,u] (JM o u))
    (he:m9 [e1] X.env=[(false,eval e1 X.env)]:=by rfl) :
    PE X (.Call (.Name "sorted" p) [.Call (.Name "range" p') [e1] [] pos2] [⟨some "key",.Lambda params (.Subscript (.Subscript (.Name y p1) (.Constant (.int i) kk p2) p3) (.Name x p4) p5) scope ag,kp⟩] pos) (Cd pt q i j ta):=by
  intro pins s σ H Q I h;refine x4 (dH I hg hm (by decide+kernel:If "sorted" = some (.builtin "sorted")) ?_)
  refine callWith_kw (u9 ?_) rfl rfl
  refine x4 (dH I aD aw boot_range ?_)
  refine o5 (thn (ha pos2 pins s σ H _ I h) λus s1 Y=>?_) he rfl
  obtain⟨vs,H1,I1,r1,n,ev,pw,xs,pn,ys,aJ,ax,a7,aI,hn,hl,hP,hQ⟩:=Y;subst ev;obtain⟨u,rfl,ru⟩:=cK r1;obtain⟨t,rfl⟩:=ru;refine call_range_1 (F_ ?_)
  have hsz:Kn 0 n 1=((ys.length:Nat):Int):=by rw[rangeSize_one];split <;> omega
  refine kws_cons (vz (q:=q) (I1.kept λb o e=>d_ _ e) hP hq ac hc bm au aA λf c' pm ctv s2 H2 I2 sm aE _ ho ao=>kws_nil ?_)
  have aC:=aE _ _ (IsRange.new ..) (I1.hok.fresh (j5 _));obtain⟨zs,U⟩ : ∃zs:List (V × Str),zs=((range ys.length).zip ys).map λz=>(V.int z.1,z.2):=⟨_,rfl⟩
  have aL:zs.length=ys.length:=by rw[U];simp
  have az:zs.map (·.1)=km 0 ys.length:=by
    rw[U,fx];unfold km;have:((λx:V × Str=>x.1) ∘ λz:Nat × Str=>(V.int z.1,z.2))=(λn:Nat=>V.int n) ∘ Prod.fst:=rfl
    rw[this,<- fx,map_fst_zip (by simp)]
    exact q_ λi _=>by simp
  obtain⟨m,_,ai⟩:=I2.loc;obtain⟨uw,a9,lw⟩:=ai j y (.ref pw) hN aJ (.inr (.inl hv));cases a9;have aa:s2.heap.IsCell cy (-pw):=by
    rcases lw with⟨z,_⟩ | ⟨_,c0,z,hz⟩
    . rw[hv] at z;cases z
    . rw[aB] at z;cases z;exact hz
  obtain⟨its,rv,pl,hz⟩:=I2.tuple (SqT.of (sm _ _ ax));obtain⟨ub,aF,a2⟩:=sL rv a7;cases a2;obtain⟨aM,rj,pj,av⟩:=I2.tuple (SqT.of (sm _ _ aI));exact
    vN (x := x) (zs:=zs) I2 hr () (λQ' k=>qM (A:=X.A.in1) (I2.ok.hd aK) aC (small_one ∅ ∅ () ()) hsz () λh' tk acc hk ap an=>k acc.toList h' tk (by rw[az];exact uM an) hk (ot ap)) ho ao (ad pm c' ctv) hx hk a4 am af (λz Z u ru=>by
      rw[U] at Z;obtain⟨z',a6,rfl⟩:=e7.mp Z;obtain⟨t',rfl⟩:=ru;obtain⟨k',a3,ay⟩:=Jy a6;have a5:k' < ys.length:=by simpa using a3
      have ez:z'=(k',ys[k']):=by rw[<- ay];simp
      subst ez;have aq:atI (ys.map V.str) ((k':Nat):Int)=some (.str ys[k']):=by
        unfold atI ixN;simp[a5]
      obtain⟨uk,a0,t2,rfl⟩:=sL rj aq;exact⟨t2,PySem.W.ev_place hk hx hy ah aa pl (by rw[<- rv.length];exact hz) aF pj (by rw[<- rj.length];exact av) a0 hd a1 aG hs a8⟩) λa ae hf ar aH=>by
      have ak:(ae.map λz=>((match z.1 with | .int n=>n.toNat | _=>0:Nat),z.2)).Perm ((range ys.length).zip ys):=by
        have:=ar.map λz:V × Str=>((match z.1 with | .int n=>n.toNat | _=>0:Nat),z.2)
        rw[U,fx] at this;have e:((λz:V × Str=>((match z.1 with | .int n=>n.toNat | _=>0:Nat),z.2)) ∘ λz:Nat × Str=>(V.int z.1,z.2))=id:=by
          funext z
          simp
        rw[e,map_id] at this;exact this
      have:=hQ H2 a _ sm hf ak (by rw[fx];exact aH)
      rw[fx] at this;have e2:ae.map ((λz:Nat × Str=>V.int z.1) ∘ λz:V × Str=>((match z.1 with | .int n=>n.toNat | _=>0:Nat),z.2))=ae.map (·.1):=by
        refine q_ λz Z=>?_
        have:=ar.mem_iff.mp Z
        rw[U] at this;obtain⟨z',_,rfl⟩:=e7.mp this;simp
      rw[e2] at this;exact this
end L2
namespace PySem.W
open PySem PySem.Calls PyProof.Rows
def leB:List Int->List Int->Bool->Bool
 | a :: l,b :: m,f=>if a == b then leB l m f else decide (a<=b)
 | _,_,f=>f
theorem yK : ∀(l m:List Int) (f:Bool),leB l m f = !(kO m l (!f))
 | [],m,f=>by cases m <;> simp[leB,kO]
 | a :: l,[],f=>by simp[leB,kO]
 | a :: l,b :: m,f=>by
  have U:=yK l m f;unfold leB kO
  by_cases h:a=b
  .subst h
   rw[if_pos (by simp),if_pos (by simp),U]
  .rw[if_neg (by simpa using h),if_neg (by simpa using λz=>h z.symm)]
   by_cases g:a<=b
   .rw[decide_eq_true g,decide_eq_false ()];rfl
   .rw[decide_eq_false g,decide_eq_true ()];rfl
theorem Gu (l m:List Int):leB l m (decide (l.length<=m.length)) = !decide (m < l):=by
 rw[yK,<- sQ]
 congr 2
 by_cases h:l.length<=m.length
 .rw[decide_eq_true h,decide_eq_false ()];rfl
 .rw[decide_eq_false h,decide_eq_true ()];rfl
theorem qx {vs:List Value} {l m:List Int} {P:PySem.Fin->Shared->Prop} (hx:IsTup s.heap a us.toArray) (hy:IsTup s.heap b vs.toArray) (hu:E_ us l) (hv:E_ vs m) (h:P (.done (.ret (.bool (!decide (m < l))))) s) :
  wpAny (model prog w) A (Builtin.«tuple.__le__» ⟨[.ref a,.ref b],[]⟩) P E s:=by
 have ac:=hy.typeIs;obtain⟨oa,af,_,na,ag⟩:=hx;obtain⟨ob,ae,_,nb,ad⟩:=hy
 show wpAny _ _ (isInstance (.ref b) (.type "tuple") >>= _) _ _ s
 refine c_ (wpAny_isInstance ac isSubtype_tuple_tuple ?_)
 simp only[KY,m_,if_false];refine c_ (wpAny_tupleItemsOf af ag ?_)
 refine c_ (wpAny_tupleItemsOf ae ad ?_)
 refine c_ ?_
 refine wpAny_forIn_list _
  (λrest r s'=>r.1=none/\s'=s/\∃U z l' Y,rest=List.zip U z/\E_ U l'/\E_ z Y/\leB l' Y (decide (l.length<=m.length)) = !decide (m < l))
  _ ?_ ?_ _ _ ⟨rfl,rfl,us,vs,l,m,by simp,hu,hv,Gu l m⟩
 .rintro⟨x,y⟩ rest r s' ⟨hr,rfl,U,z,l',Y,hz,hx',hy',hdec⟩
  cases hx' with
  | nil=>simp at hz
  | cons p t aa =>
   cases hy' with
   | nil=>simp at hz
   | cons q t' Z =>
    simp only[List.zip_cons_cons,w6,Prod.mk.injEq] at hz;obtain⟨⟨rfl,rfl⟩,rfl⟩:=hz;refine c_ (wpAny_eqBool_int ?_)
    unfold leB at hdec
    by_cases hk:p=q
    .subst hk
     rw[if_pos (by simp)] at hdec
     have e:(p == p)=true:=by simp
     rw[e];simp only[KY,m_,if_false];exact fy ⟨rfl,rfl,_,_,_,_,rfl,aa,Z,hdec⟩
    .rw[if_neg (by simpa using hk)] at hdec
     have e:(p == q)=false:=by simpa using hk
     rw[e];simp only[Bool.not_false,if_true];rw[<- hdec] at h;refine c_ (wpAny_rule ?_)
     refine c_ (show wpAny (model prog w) A (x3 .LtE (.int p t) (.int q t')) _ E _ from le_int ?_)
     exact c_ (fy (fy (fy h)))
 .rintro⟨r1,r2⟩ s' ⟨hr,rfl,U,z,l',Y,hz,hx',hy',hdec⟩
  simp only at hr;subst hr;refine fy ?_
  have e:leB l' Y (decide (l.length<=m.length))=decide (l.length<=m.length):=by
   cases hx' with
   | nil=>cases Y <;> simp[leB]
   | cons _ _ _ =>
    cases hy' with
    | nil=>simp[leB]
    | cons _ _ _=>simp at hz
  rw[<- hdec,e] at h;have e1:us.toArray.size=l.length:=by rw[g_,hu.length]
  have e2:vs.toArray.size=m.length:=by rw[g_,hv.length]
  rw[e1,e2];exact h
theorem le_rows {vs:List Value} {l m:List Int} (Y:A.units < cLine) (z:IsTup s.heap a us.toArray) (U:IsTup s.heap b vs.toArray) (hu:E_ us l) (Z:E_ vs m) (h:Q (.bool (!decide (m < l))) s) :
  wpAny (model prog w) A (x3 .LtE (.ref a) (.ref b)) Q E s :=
 wpAny_richCompare_same_room (op:=.LtE) z.typeIs U.typeIs F.slot_tuple_le
  (y4 F.slot_tuple_le z.typeIs F.entry_tuple_le (qx z U hu Z ⟨_,rfl,(λe=>nomatch e),h⟩) (F.args_tuple_le_2 _ _)) Y
end PySem.W
namespace L2
open PySem PySem.Spec PyProof.Rows
open PySem.W (Ky VKy bp Srt ltK)
def Ht:R2:=λx y H Q=>∃a b:Ky,KyV H x a/\KyV H y b/\a.tag=b.tag/\Q (.bl (!(b.lt a))) H
theorem Ew (hu:X.A.units+1 < cLine):OpR X (x3 .LtE) Ht:=by
 intro pins s σ H x y v u Q I rx U h;obtain⟨a,b,ha,Y,Z,q⟩:=h;cases a with
 | s p =>
  cases b <;> first | cases Z | skip
  cases (show x = .str p from ha)
  rename_i z
  cases (show y = .str z from Y)
  exact Er pins s σ H _ _ v u Q I rx U ⟨p,rfl,z,rfl,q⟩
 | i p =>
  cases b <;> first | cases Z | skip
  cases (show x = .int p from ha)
  rename_i z
  cases (show y = .int z from Y)
  obtain⟨t,rfl⟩:=rx;obtain⟨t',rfl⟩:=U;refine le_int ⟨.bl _,H,I,rfl,?_⟩
  have e:decide (p<=z) = !(Ky.i z).lt (Ky.i p):=by
   show _ = !decide (z < p)
   by_cases g:p<=z
   .rw[decide_eq_true g,decide_eq_false ()];rfl
   .rw[decide_eq_false g,decide_eq_true ()];rfl
  rw[e];exact q
 | r l =>
  cases b <;> first | cases Z | skip
  obtain⟨c,rfl,hc⟩:=ha;obtain⟨d,rfl,hd⟩:=Y;cases rx;cases U;obtain⟨its,rv,pl,_⟩:=I.tuple (SqT.of hc);obtain⟨aa,rj,pj,_⟩:=I.tuple (SqT.of hd);exact PySem.W.le_rows () pl pj (dk rv) (dk rj) ⟨.bl _,H,I,rfl,q⟩
def lY (tabs:List (Addr × Addr × Str)) (H:Hp):Prop:=∀t∈tabs,H t.2.1=some (.tab t.2.2)
theorem Ah {α:Type} {f:α->Addr} {t t':α} : ∀{l:List α},(l.map f).Nodup->t∈l->t'∈l->f t=f t'->t=t'
 | [],_,h,_,_=>by simp at h
 | x :: l,hn,h,h',e=>by
  have hn:(f x :: l.map f).Nodup:=hn
  obtain⟨h1,h2⟩:=w5.mp hn;rcases i6.mp h with rfl | h
  .rcases i6.mp h' with rfl | h'
   .rfl
   .exact absurd (e7.mpr ⟨t',h',e.symm⟩) h1
  .rcases i6.mp h' with h' | h'
   .exact absurd (e7.mpr ⟨t,h,by rw[<- h'];exact e⟩:f x∈l.map f) h1
   .exact Ah h2 h h' e
theorem zS {vs:List Value} {tabs:List (Addr × Addr × Str)}
  (KX:K.In s₁.heap) (ae:s₁.heap.Ns o8 mg) (hb:s₁.heap.Ns builtinsNs mb) (ao : ∀x:Str,x ≠ "__name__" -> mb x=If x) (ak:s₁.heap.NoLimit) (hg:s₁.gens = #[]) (ax:jm mg s₁.heap)
  (hT : ∀t∈tabs,s₁.heap.get? t.2.1=some (tabObj #[])) (hC : ∀t∈tabs,Kg K t.1 t.2.1=true) (av : ∀t∈tabs,K.lookup t.2.1=none) (ar:(tabs.map (·.2.1)).Nodup)
  (ha:s₁.heap.get? a=some { cls:=.type "list",data:=.seq vs.toArray }) (hi:E_ vs ns) (hl:ns.length<=g0) (hr:cR k callerA)
  (F : ∀base:Heap,K.In base->base.Ns o8 mg->jm mg base->gU P w K mg base CX0 k fa fd [x] sp) (ad : ∀(s:Shared) (u:Value),BindsTo s fd ⟨[u],[]⟩ [(x,u)])
  (am : ∀H:Hp,lY tabs H->SqL K H a (ns.map V.int)->sp [.ref a] H (λv H'=>v = .bl true/\lY tabs H') λ_ _ _=>False) :
  codeAny (model P w) callerA (.call (.ref fa) ⟨[.ref a],[]⟩) (λr s'=>r = .ok (.ret (.bool true))/\OldK s₁.heap s'.heap/\s'.os=s₁.os/\AllBare s'.gens) s₁:=by
 have rv:=gm hi;have ag:=hi.length;have au : ∀t∈tabs,t.2.1≠a:=λt Y z=>by
  have:=hT t Y
  rw[z,ha] at this;cases this
 obtain⟨S,hS1,hS2⟩ : ∃S:Hp,(∀b u,S b=some u->b=a/\K.lookup a=none/\u = .frz { cls:=.type "list",data:=.seq vs.toArray } (.lst (ns.map V.int)))/\∀H:Hp,(∀b u,S b=some u->H b=some u)->SqL K H a (ns.map V.int):=by
  cases hk:K.lookup a with
  | some o =>
   have e:=KX a o hk;rw[ha] at e;cases e;refine⟨λ_=>none,λb u z=>(nomatch (show(none:Option HO)=some u from z)),λH _=>?_⟩
   exact .inr ⟨_,vs.toArray,_,hk,rfl,rfl,rfl,by rw[g_,ag];exact hl,by simpa using rv⟩
  | none =>
   refine⟨λb=>if b=a then some (.frz { cls:=.type "list",data:=.seq vs.toArray } (.lst (ns.map V.int))) else none,λb u z=>?_,λH z=>.inl (.inr ⟨_,z a _ (if_pos rfl)⟩)⟩
   by_cases hb:b=a
   .have z':=(if_pos hb).symm.trans z
    cases z';exact⟨hb,rfl,rfl⟩
   .have z':=(if_neg hb).symm.trans z
    cases z'
 obtain⟨H,Z,ay,ah⟩ : ∃H:Hp,(∀b u,H b=some u->S b=some u\/∃t∈tabs,b=t.2.1/\u = .tab t.2.2)/\lY tabs H/\∀b u,S b=some u->H b=some u:=by
  refine⟨λb=>match tabs.find? (λt=>t.2.1 == b) with | some t=>some (.tab t.2.2) | none=>S b,λb u z=>?_,λt Y=>?_,λb u z=>?_⟩
  .cases q:tabs.find? (λt=>t.2.1 == b) with
   | some t =>
    simp only[q] at z;have e:=find?_some q;exact .inr ⟨t,List.mem_of_find?_eq_some q,(eq_of_beq e).symm,(f_ z).symm⟩
   | none =>
    simp only[q] at z;exact .inl z
  .cases q:tabs.find? (λt'=>t'.2.1 == t.2.1) with
   | some t' =>
    simp only[q];have e0:=find?_some q;have e:t'.2.1=t.2.1:=by simpa using e0
    have:t'=t:=by
     have hm:=List.mem_of_find?_eq_some q;exact Ah ar hm Y e
    rw[this]
   | none =>
    have:=List.find?_eq_none.mp q t Y
    simp at this
  .have hb:=(hS1 b u z).1
   cases q:tabs.find? (λt=>t.2.1 == b) with
   | some t =>
    have e0:=find?_some q;have e:t.2.1=b:=by simpa using e0
    exact absurd (e.trans hb) (au t (List.mem_of_find?_eq_some q))
   | none =>
    simp only[q];exact z
 have ap:HOk P w H s₁.heap:=λb u z=>by
  rcases Z b u z with z | ⟨t,Y,rfl,rfl⟩
  .obtain⟨rfl,_,rfl⟩:=hS1 b u z
   exact⟨ha,by rw[a_];exact hl,vs,_,rv,ha⟩
  .exact⟨#[],hT t Y,trivial,λpos cv z=>by simp[Kv] at z⟩
 have U : ∀{b:Addr} {o:Obj},s₁.heap.get? b=some o->H b=none->(qd s₁.heap H).get? b=some o:=λe n=>Bt e n
 have an : ∀{b:Addr} {o:Obj},s₁.heap.get? b=some o->o.cls≠.type "list" -> o.cls≠.none->H b=none:=λ{b o} e d d2=>by
  cases q:H b with
  | none=>rfl
  | some u =>
   rcases Z b u q with z | ⟨t,Y,rfl,rfl⟩
   .obtain⟨rfl,_,_⟩:=hS1 b u z
    rw[ha] at e;cases e;exact absurd rfl d
   .rw[hT t Y] at e;cases e
    exact absurd rfl d2
 have aq : ∀{b:Addr} {o:Obj} {es:Array DictEntry} {ep:Nat},s₁.heap.get? b=some o->o.data = .dict es ep->H b=none:=λ{b o es ep} e d=>by
  cases q:H b with
  | none=>rfl
  | some u =>
   rcases Z b u q with z | ⟨t,Y,rfl,rfl⟩
   .obtain⟨rfl,_,_⟩:=hS1 b u z
    rw[ha] at e;cases e;have d':Data.seq vs.toArray _=Data.dict es ep:=d
    cases d'
   .rw[hT t Y] at e;cases e
    have d':Data.fields #[]=Data.dict es ep:=d
    cases d'
 have aa : ∀{b:Addr} {m:Str->Option Value},s₁.heap.Ns b m->(qd s₁.heap H).Ns b m:=λ{b m} zq34=>by obtain⟨o,es,ep,e,d,r⟩:=zq34;exact(⟨o,es,ep,U e (aq e d),d,r⟩)
 have af:K.In (qd s₁.heap H):=λb o e=>U (KX b o e) (by
  cases q:H b with
  | none=>rfl
  | some u =>
   rcases Z b u q with z | ⟨t,Y,rfl,rfl⟩
   .obtain⟨rfl,z2,_⟩:=hS1 b u z
    rw[z2] at e;cases e
   .rw[av t Y] at e;cases e)
 have aw:jm mg (qd s₁.heap H):=by
  obtain⟨bm,ob,h1,h2,h3,h4,h5,h6⟩:=ax;exact⟨bm,ob,h1,h2,U h3 (an h3 (by rw[h4];decide) (by rw[h4];decide)),h4,h5,h6⟩
 have hM:Mod K mg (qd s₁.heap H):=⟨af,aa ae,⟨mb,aa hb,ao⟩,let ⟨mc,h1,h2⟩:=ak;⟨mc,aa h1,h2⟩⟩
 have e0:CS P w K mg (qd s₁.heap H) callerA [] s₁ H:=⟨rfl,hM,λb o e=>Dz e,le_of_eq (zU _ _),trivial,λb hb=>absurd (show b∈([]:List Addr) from hb) (by simp),ap,.of_eq hg⟩
 refine codeAny_mono ((F _ af (aa ae) aw).run callerA [] s₁ H ⟨[.ref a],[]⟩ [.ref a] [.ref a] _ _ hr e0 (ad s₁ (.ref a)) (.cons rfl .nil) (am H ay (hS2 H ah))) λr s' h=>?_
 cases r with
 | error e=>exact h.elim
 | ok fl =>
  cases fl with
  | next=>exact J9 h
  | brk=>exact J9 h
  | cont=>exact J9 h
  | ret u =>
   obtain⟨v,H',os,ai,un,ac,r',q⟩:=h;obtain⟨q',qT⟩:=q;subst q';obtain rfl:u=Value.bool true:=r'
   have frz : ∀b u,S b=some u->∀o,s₁.heap.get? b=some o->s'.heap.get? b=some o:=λb u z o e=>by
    obtain⟨rfl,_,rfl⟩:=hS1 b u z;have z2:=un.frzs b _ _ (ah _ _ z);obtain⟨e2,_⟩:=ac b _ z2;rw[ha] at e;cases e;exact e2
   refine⟨rfl,⟨λb o e=>?_,λb o e=>un.there b o e (by simp)⟩,os,ai⟩
   cases q:H b with
   | none=>exact .inl (un.keep b o e q (by intro z;exact absurd (show b∈([]:List Addr) from z) (by simp)) (by simp))
   | some u =>
    rcases Z b u q with z | ⟨t,Y,rfl,rfl⟩
    .exact .inl (frz b u z o e)
    .obtain⟨ps,e2,_⟩:=ac _ _ (qT t Y)
     rw[hT t Y] at e;cases e;exact .inr (.inl ⟨((codeHd_of_K KX (hC t Y)).tab (hT t Y)).isCodeTable,rfl,#[],ps,rfl,by rw[Array.empty_append];exact e2⟩)
theorem Bm {l:PySem.W.OpenLaw} {d:DefRec} {K:Params->ge} {sp:World->Sp} {tabs:List (Addr × Addr × Str)}
  (hn:l.most=some n) (ag:n<=g0) (ae:d.params.defaults=[]) (hr:cR k callerA)
  (hY : ∀(w:World) (h:Heap),YP w h->(K w.params).In h) (hT : ∀(w:World) (h:Heap),YP w h->∀t∈tabs,h.get? t.2.1=some (tabObj #[]))
  (hC : ∀w:World,∀t∈tabs,Kg (K w.params) t.1 t.2.1=true) (af : ∀w:World,∀t∈tabs,(K w.params).lookup t.2.1=none) (aa:(tabs.map (·.2.1)).Nodup)
  (F : ∀(w:World) (mg:Str->Option Value) (fa:Addr) (h:Heap),(K w.params).In h->h.Ns o8 mg->mg d.name=some (.ref fa) ->
   ∃ fd:FuncData,(∀(s:Shared) (u:Value),BindsTo s fd ⟨[u],[]⟩ [(x,u)]) /\
    ∀base:Heap,(K w.params).In base->base.Ns o8 mg->jm mg base->gU l.prog w (K w.params) mg base CX0 k fa fd [x] (sp w))
  (ad : ∀(w:World) (H:Hp) (a:Addr) (ns:List Int),ns.length<=n->lY tabs H->SqL (K w.params) H a (ns.map V.int)->sp w [.ref a] H (λv H'=>v = .bl true/\lY tabs H') λ_ _ _=>False) :
  PySem.W.WalkO q loose XP YP l.row.toRowW d [] (λf vs=>PySem.call f vs):=by
 refine Att.attach_call hn ae λw ah s₁ mg mb fa o pm cd doc a vs ns G Y ho hd ai ac Z U z hg=>?_
 have KX:=hY w _ Y;obtain⟨fd,hb,hF⟩:=F w mg fa _ KX G.T.g ac;exact zS KX G.T.g G.T.b G.T.builtins G.T.nolimit hg G.T.bmain (hT w _ Y) (hC w) (af w) aa Z U (le_trans z ag) hr hF hb λH hO hS=>ad w H a ns z hO hS
def sW (ta:TA):TE:=λσ H Q=>ta σ H λvs H1=>∃j:Int,vs=[.int j]/\0<=j/\j<=1000/\∀l,H1 l=none->Q (.ref l) (upd H1 l (.lst (km 0 j.toNat)))
section
variable {p:Pos}
theorem wf (hc:X.calm=true) (hg:Gl X "list") (hm:X.mg "list" = none) (ac:Gl X "range") (aa:X.mg "range" = none) (ha:PA X [e1] ta) (hs:m9 [e1] X.env=[(false,eval e1 X.env)]:=by rfl) :
  PE X (.Call (.Name "list" p) [.Call (.Name "range" p2) [e1] [] pos2] [] pos) (sW ta):=by
 intro pins s σ H Q I h;refine x4 (dH I hg hm (by decide+kernel:If "list" = some (.type "list")) ?_)
 refine o5 (u9 ?_) rfl rfl
 refine x4 (dH I ac aa boot_range ?_)
 refine o5 (thn (ha pos2 pins s σ H _ I h) λus U z=>?_) hs rfl
 obtain⟨vs,H1,I1,r1,q1⟩:=z;obtain⟨j,e,q1,q2,q⟩:=q1;subst e;obtain⟨u,rfl,ru⟩:=cK r1;obtain⟨t,rfl⟩:=ru;refine call_range_1 ?_
 refine F_ ?_
 have hsz:Kn 0 j 1=((j.toNat:Nat):Int):=by rw[rangeSize_one];split <;> omega
 refine call_list_range (I.ok.hd hc) (IsRange.new ..) (small_one ∅ ∅ () ()) hsz () λh' tk acc c hk Z Y=>?_
 obtain⟨h1,ae⟩ : ∃h1:Heap,h1=U.heap.push { cls:=.type "range",data:=.fields #[.int 0 U.toks,.int j t,.int 1 (U.toks+1)] }:=⟨_,rfl⟩;have ad : ∀b o,U.heap.get? b=some o->h'.get? b=some o:=λb o e=>hk b o (d_ _ e)
 have hz:U.heap.objs.size<=(U.heap.push { cls:=.type "range",data:=.fields #[.int 0 U.toks,.int j t,.int 1 (U.toks+1)] }).objs.size:=by rw[Js];omega
 exact⟨.ref _,_,I1.laid (t':=tk) ad hz (show bf X.prog X.w _ _ _ (.lst (km 0 j.toNat)) from⟨by rw[aK];exact ot (au ()),acc.toList,c,uM Y,by rw[toArray_toList];exact Z⟩),rfl,q _ (I1.hok.fresh hz)⟩
end
end L2
namespace PySem
open L2 PyProof.Rows PySem.Calls
def b01 (b:Bool):Int:=if b then 1 else 0
theorem uX {b:Bool} {Q:Int->Shared->Prop} (h:Q (hashInt (b01 b)) { s with toks:=s.toks+1 }):wpAny (model prog w) A (pyHash (.bool b)) Q E s:=by
 have U:s.TypeIs (.bool b) "bool" := rfl
 show wpAny _ _ (pyHashByItsType (.bool b)) Q E s
 unfold pyHashByItsType;refine c_ ?_
 rw[cRoomFor,if_neg (by rw[show[Value.bool b].any Value.onHeap=false from rfl];exact i5)]
 refine fy (c_ (JJ U KD.lookup ?_))
 refine wpAny_ite_split (λz=>by cases z) λ_=>?_
 refine c_ (JJ U KD.lookup ?_)
 refine wpAny_ite_split (λz=>by cases z) λ_=>?_
 refine c_ (wpAny_callSpecialIfBoundUnlessNone?_slot U KD (y4 KD U PySem.F.entry_int_hash ?_ (PySem.F.args_int_hash_1 _)))
 have Y:=rawHash_range (b01 b);cases b with
 | true =>
  refine(show wpAny _ _ (do ret (<- mkInt (rawHash 1))) _ _ s from wpAny_ret_mkInt ?_)
  show wpAny _ _ (if (decide (-(2:Int) ^ 63<=rawHash 1) && decide (rawHash 1 < 2 ^ 63))=true then _ else _) Q E _
  rw[if_pos ∅]
  exact fy h
 | false =>
  refine(show wpAny _ _ (do ret (<- mkInt (rawHash 0))) _ _ s from wpAny_ret_mkInt ?_)
  show wpAny _ _ (if (decide (-(2:Int) ^ 63<=rawHash 0) && decide (rawHash 0 < 2 ^ 63))=true then _ else _) Q E _
  rw[if_pos ∅]
  exact fy h
def nJ:Option Key->Value->Bool
 | none,.none=>true
 | some (.inl i),.bool b=>b01 b == i
 | some k,v=>mh k v
 | _,_=>false
theorem cL {k:Option Key} (h:nJ k v=true):(k=none/\v = .none)\/(∃i t,k=some (.inl i)/\v = .int i t)\/(∃x t,k=some (.inr x)/\v = .str x t)\/∃b,k=some (.inl (b01 b))/\v = .bool b:=by
 cases k with
 | none=>cases v <;> first | exact .inl ⟨rfl,rfl⟩ | cases h
 | some k =>
  have z:mh k v=true->(some k=none/\v = .none)\/(∃i t,some k=some (.inl i)/\v = .int i t)\/(∃x t,some k=some (.inr x)/\v = .str x t)\/∃b,some k=some (.inl (b01 b))/\v = .bool b:=λh=>by
   rcases bE h with⟨i,t,rfl,rfl⟩ | ⟨x,t,rfl,rfl⟩
   .exact .inr (.inl ⟨i,t,rfl,rfl⟩)
   .exact .inr (.inr (.inl ⟨x,t,rfl,rfl⟩))
  cases v with
  | bool b =>
   cases k with
   | inl i=>exact .inr (.inr (.inr ⟨b,by rw[eq_of_beq (show(b01 b == i)=true from h)],rfl⟩))
   | inr x=>exact z h
  | _=>exact z (by cases k <;> exact h)
def Iq (w:World):Option Key->Int | none=>ir | some k=>Hw w k
theorem HG {a b:Option Key} {Q:Bool->Shared->Prop} (Y:nJ a u=true) (U:nJ b v=true) (h:Q (decide (a=b)) s):wpAny (model prog w) A (eqBool u v) Q E s:=by
 have z : ∀i j:Int,decide (some (i9 i:Key)=some (.inl j))=(i == j):=λi j=>by rw[o_];simp
 rcases cL Y with⟨rfl,rfl⟩ | ⟨i,t,rfl,rfl⟩ | ⟨x,t,rfl,rfl⟩ | ⟨c,rfl,rfl⟩ <;> rcases cL U with⟨rfl,rfl⟩ | ⟨j,t',rfl,rfl⟩ | ⟨y,t',rfl,rfl⟩ | ⟨d,rfl,rfl⟩
 .exact um (by simpa using h)
 .exact SeqAt.EqAt.none_int j t' _ _ _ _ (by simpa using h)
 .exact SeqAt.EqAt.none_str y t' _ _ _ _ (by simpa using h)
 .exact SeqAt.EqAt.none_bool d _ _ _ _ (by simpa using h)
 .exact SeqAt.EqAt.int_none i t _ _ _ _ (by simpa using h)
 .rw[z] at h;exact wpAny_eqBool_int h
 .exact SeqAt.EqAt.int_str i t y t' _ _ _ _ (by simpa using h)
 .rw[z] at h;exact SeqAt.EqAt.int_bool i t d _ _ _ _ h
 .exact SeqAt.EqAt.str_none x t _ _ _ _ (by simpa using h)
 .exact SeqAt.EqAt.str_int x t j t' _ _ _ _ (by simpa using h)
 .refine wpAny_eqBool_str ?_
  have e:decide (x=y)=decide (some (e_ x:Key)=some (.inr y)):=decide_eq_decide.mpr ⟨λe=>by rw[e],λe=>I_ (f_ e)⟩
  rw[e];exact h
 .exact SeqAt.EqAt.str_bool x t d _ _ _ _ (by simpa using h)
 .exact SeqAt.EqAt.bool_none c _ _ _ _ (by simpa using h)
 .rw[z] at h;exact SeqAt.EqAt.bool_int c j t' _ _ _ _ h
 .exact SeqAt.EqAt.bool_str c y t' _ _ _ _ (by simpa using h)
 .rw[z] at h
  refine SeqAt.EqAt.bool_bool c d _ _ _ _ ?_
  have e:(c == d)=(b01 c == b01 d):=by cases c <;> cases d <;> rfl
  rw[e];exact h
def iR (prog:Program) (w:World):KeyKind prog w (Option Key) where
 is:=nJ
 hash:=Iq w
 inj:=λv a b Y Z=>by
  rcases cL Y with⟨rfl,rfl⟩ | ⟨i,t,rfl,rfl⟩ | ⟨x,t,rfl,rfl⟩ | ⟨c,rfl,rfl⟩ <;> rcases cL Z with⟨rfl,e⟩ | ⟨j,u,rfl,e⟩ | ⟨y,u,rfl,e⟩ | ⟨d,rfl,e⟩ <;> first | rfl | (cases e;rfl) | cases e
 byValue:=λk v h=>by
  rcases cL h with⟨rfl,rfl⟩ | ⟨i,t,rfl,rfl⟩ | ⟨x,t,rfl,rfl⟩ | ⟨c,rfl,rfl⟩ <;> rfl
 pyHash:=λz h=>by
  rcases cL z with⟨rfl,rfl⟩ | ⟨i,t,rfl,rfl⟩ | ⟨x,t,rfl,rfl⟩ | ⟨c,rfl,rfl⟩
  .exact tZ h
  .exact wpAny_pyHash_int h
  .exact wpAny_pyHash_str h
  .exact uX h
 eqBool:=λU z h=>HG U z h
 «strs» := λk x t v h=>by
  rcases cL h with⟨rfl,e⟩ | ⟨i,u,rfl,e⟩ | ⟨y,u,rfl,e⟩ | ⟨c,rfl,e⟩
  .cases e
  .cases e
  .cases e
   show nJ (some (.inr x)) v=v.isStr x
   cases v <;> rfl
  .cases e
end PySem
namespace L2
open PySem PySem.Spec PyProof.Rows
section
variable {ie:Expr}
def Gp:List V->Hp->VK->Prop:=λxs H Q=>∃p,xs=[.ref p]/\∃kvs,H p<*kvs/\∀l,H l=none->Q (.ref l) (upd H l (.lst (kvs.map λx=>kV x.1)))
theorem rN {κ:Type} {R:κ->V->Prop} {is:κ->Value->Prop} (f:κ->V) (z : ∀k u,is k u->be (f k) u) : ∀{kvs:List (κ × V)} {vs:List (κ × Value)} {acc:List Value},KV kvs vs->acc.length=vs.length->(∀(j:Nat) u,acc[j]? = some u->∃k x,vs[j]? = some (k,x)/\is k u)->aX (kvs.map λx=>f x.1) acc
 | [],_,acc,r,hl,_=>by
  unfold KV at r;cases r;cases acc with
  | nil=>exact .nil
  | cons _ _=>simp at hl
 | x :: kvs,_,acc,r,hl,h=>by
  unfold KV at r;cases r with
  | cons Y U =>
   cases acc with
   | nil=>simp at hl
   | cons u acc =>
    obtain⟨k,y,e1,e2⟩:=h 0 u rfl;simp only[z_,Ju] at e1;subst e1;refine .cons ?_ (rN (R:=R) f z U (by simpa using hl) λj u e=>by simpa using h (j+1) u (by simpa using e))
    have e:x.1=k:=Y.1
    show be (f x.1) u
    rw[e];exact z k u e2
theorem wJ (hc:X.calm=true):bH X (.type "list") Gp:=by
 intro pins s σ H xs us Q I r h;obtain⟨p,rfl,kvs,hp,q⟩:=h;obtain⟨u,rfl,ru⟩:=cK r;cases ru;obtain⟨hz,hd,vs,U,dd⟩:=oZ I.hok hp;obtain⟨ep,Z⟩:=dd.dictAt;have Y:=U.length;refine PySem.W.kdl_call (kdl_dict (knd:=aY X.prog X.w) (kvs:=vs) (ep:=ep) hd) (I.ok.hd hc) Z (by rw[<- Y];exact hz) λh' tk acc c hk hD z=>?_
 have hv:aX (kvs.map λx=>kV x.1) acc.toList:=rN (R:=λ_ _=>True) kV (is:=λk u=>(aY X.prog X.w).is k u=true) (λk u e=>tF e) U (by rw[w9];exact z.1) λj u e=>z.2 j u (by rw[<- KI];exact e)
 exact⟨.ref _,_,I.laid (t':=tk) hk (j5 _) (show bf X.prog X.w _ _ _ (.lst (kvs.map λx=>kV x.1)) from⟨by rw[a_];exact hz,acc.toList,c,hv,by rw[toArray_toList];exact hD⟩),rfl,q _ (I.hok.fresh (j5 _))⟩
end
def inK (l:List Key) (k:Key):Bool:=l.any λc=>decide (c=k)
open PySem.W PySem.Calls
theorem left_two {p:Program} {Y:Shared->α} {Z:World->α} {N:Nat} (z:String)
  (h1 : ∀w:World,(JO y_ p w N).bind (λU=>(topFrom y_ p (w.withFollow z false) N U).map (λs=>(openSeen q loose (Jw p.main.body) Xt true s,Y s)))=some (openGood q loose,Z (w.withFollow z false)))
  (h2 : ∀w:World,(JO y_ p w N).bind (λU=>(topFrom y_ p (w.withFollow z true) N U).map (λs=>(openSeen q loose (Jw p.main.body) Xt true s,Y s)))=some (openGood q loose,Z (w.withFollow z true))):LeftO p q loose Xt Y Z N:=λw=>by
 have e:=World.withFollow_self w z;unfold openEnds;rw[map_bind];cases hb:w.params.followText z <;> rw[hb] at e
 .have:=h1 w;rw[e] at this;exact this
 .have:=h2 w;rw[e] at this;exact this
section
variable {t:TA}
theorem aj.putN (s:aj H H1) (z:H p=none):aj H (upd H1 p o):=λb u e=>by
 rw[ai (ap e z)];exact s b u e
end
end L2
namespace PySem
noncomputable instance decPD:DecidableEq j8:=λa b=>Classical.propDecidable (a=b)
mutual
def eQ:j8->Bool
 | .none=>true
 | .int _=>true
 | .str x=>Kj x
 | .tuple l=>bS l
 | _=>false
def bS:List j8->Bool
 | []=>true
 | d :: l=>eQ d && bS l
end
mutual
theorem fb : ∀d:j8,eQ d=true->d.canLay0=true
 | .none,_=>rfl
 | .int _,_=>rfl
 | .str x,h=>h
 | .tuple l,h=>by
  unfold y8;exact qP l h
 | .bool _,h | .list _,h | .dict _,h=>by cases h
theorem qP : ∀l:List j8,bS l=true->l_ l=true
 | [],_=>rfl
 | d :: l,h=>by
  simp only[bS,mx] at h;simp only[l_,fb d h.1,qP l h.2,Bool.and_self]
end
mutual
theorem iU : ∀a b:j8,eQ a=true->eQ b=true->(n_ a b=true↔a=b)
 | .none,b,_,hb=>by cases b <;> simp_all [eQ,n_]
 | .int i,b,_,hb=>by cases b <;> simp_all [eQ,n_]
 | .str x,b,_,hb=>by cases b <;> simp_all [eQ,n_]
 | .tuple l,.tuple m,ha,hb=>by
  simp only[n_,JD];exact uE l m ha hb
 | .tuple l,.none,_,_ | .tuple l,.int _,_,_ | .tuple l,.str _,_,_=>by simp[n_]
 | .tuple l,.bool _,_,hb | .tuple l,.list _,_,hb | .tuple l,.dict _,_,hb=>by cases hb
 | .bool _,_,h,_ | .list _,_,h,_ | .dict _,_,h,_=>by cases h
theorem uE : ∀a b:List j8,bS a=true->bS b=true->(t5 a b=true↔a=b)
 | [],[],_,_=>by simp[t5]
 | [],_ :: _,_,_=>by simp[t5]
 | _ :: _,[],_,_=>by simp[t5]
 | x :: a,y :: b,ha,hb=>by
  simp only[bS,mx] at ha hb;simp only[t5,mx,iU x y ha.1 hb.1,uE a b ha.2 hb.2,w6]
end
section
variable (prog:Program) (w:World)
mutual
def yw:j8->Int
 | .none=>(iR prog w).hash none
 | .int i=>(iR prog w).hash (some (.inl i))
 | .str x=>(iR prog w).hash (some (.inr x))
 | .tuple l=>reduceHash (Builtin.Tuple.tupleHashOf (oH l))
 | _=>0
def oH:List j8->List Int
 | []=>[]
 | d :: l=>yw d :: oH l
end
end
mutual
def yU:j8->Nat
 | .tuple l=>sM l+1
 | _=>1
def sM:List j8->Nat
 | []=>0
 | d :: l=>yU d+sM l
end
mutual
theorem yL : ∀(d:j8) (v:Value) (as:List Addr) (A:Around) (s:Shared) (Q:Int->Shared->Prop),eQ d=true->Reads s.heap v d as->A.units+d.depth < cLine ->
  Q (yw prog w d) { s with toks:=s.toks+yU d }->wpAny (model prog w) A (pyHash v) Q E s
 | .none,_,_,A,s,Q,_,r,hu,h=>by
  cases r;exact(iR prog w).pyHash (k:=none) rfl h
 | .int i,_,_,A,s,Q,_,r,hu,h=>by
  cases r
  rename_i t
  exact(iR prog w).pyHash (k:=some (.inl i)) (show nJ (some (.inl i)) (.int i t)=true from(by show(i == i)=true;simp)) h
 | .str x,_,_,A,s,Q,_,r,hu,h=>by
  cases r
  rename_i t
  exact(iR prog w).pyHash (k:=some (.inr x)) (show nJ (some (.inr x)) (.str x t)=true from(by show(x == x)=true;simp)) h
 | .tuple xs,_,_,A,s,Q,hk,r,hu,h=>by
  cases r with
  | @tuple a o vs n _ as ho hc hd ra =>
   refine W.pyHash_slot (T := "tuple") ⟨_,ho,hc⟩ F.slot_tuple_hash F.entry_tuple_hash (F.args_tuple_hash_1 _) (beq_builtin_none _) (.inr ()) ?_
   show wpAny _ _ (Builtin.Tuple.tupleItemsOf (.ref a) >>= _) _ _ s
   refine c_ (wpAny_tupleItemsOf ho hd ?_)
   refine c_ ?_
   rw[<- Array.forIn_toList];refine ri xs vs.toList _ A.in1 s #[] _ hk ra (by simp only[t3,KS] at hu ⊢;omega) λb z=>?_
   show wpAny _ _ (retInt (Builtin.Tuple.tupleHashOf b.toList)) _ _ _
   rw[z];refine c_ (wpAny_mkInt (fy ⟨_,_,rfl,?_⟩))
   simpa [yU,yw,Nat.add_assoc] using h
 | .bool _,_,_,_,_,_,h,_,_,_ | .list _,_,_,_,_,_,h,_,_,_ | .dict _,_,_,_,_,_,h,_,_,_=>by cases h
theorem ri : ∀(xs:List j8) (vs:List Value) (as:List Addr) (A:Around) (s:Shared) (b:Array Int) (Q:Array Int->Shared->Prop),bS xs=true->ReadsAll s.heap vs xs as->A.units+l8 xs < cLine ->
  (∀z,z.toList=b.toList++oH prog w xs->Q z { s with toks:=s.toks+sM xs }) ->
  wpAny (model prog w) A (forIn vs b λx r=>do let h <- pyHash x;pure PUnit.unit;pure (JK (r.push h))) Q E s
 | [],_,_,A,s,b,Q,_,x,_,h=>by cases x;exact fy (h b (by simp[oH]))
 | k :: xs,_,_,A,s,b,Q,hk,x,hu,h=>by
  cases x with
  | cons x1 Y =>
   simp only[bS,mx,l8] at hk hu;rw[forIn_cons];refine c_ (c_ (yL k _ _ A s _ hk.1 x1 () ?_))
   refine c_ (fy (fy ?_))
   refine ri xs _ _ A _ _ Q hk.2 Y () λz U=>?_
   have:=h z (by simp[U,oH])
   simpa [sM,Nat.add_assoc] using this
end
mutual
theorem vx : ∀(d:j8) (v:Value) (as:List Addr) (n:Nat) (A:Around) (s:Shared) (Q:Bool->Shared->Prop),eQ d=true->Reads s.heap v d as->d.depth<=n->Q true s->wpAny (model prog w) A (eqIsQuiet n v) Q E s
 | .none,_,_,n,A,s,Q,_,r,_,h=>by cases r;rw[eqIsQuiet_byValue n rfl];exact fy h
 | .int i,_,_,n,A,s,Q,_,r,_,h=>by cases r;rw[eqIsQuiet_byValue n rfl];exact fy h
 | .str x,_,_,n,A,s,Q,_,r,_,h=>by cases r;rw[eqIsQuiet_byValue n rfl];exact fy h
 | .tuple xs,_,_,n,A,s,Q,hk,r,hn,h=>by
  cases r with
  | @tuple a o vs m _ as ho hc hd ra =>
   have z:s.TypeIs (.ref a) "tuple" :=⟨_,ho,hc⟩
   simp only[t3] at hn;obtain⟨n,rfl⟩ : ∃k,n=k+1:=⟨n - 1,()⟩
   unfold eqIsQuiet;refine c_ (JJ z F.slot_tuple_eq.lookup ?_)
   show wpAny _ _ (isInstance (.ref a) (.type "tuple") >>= _) _ _ s
   refine c_ (wpAny_isInstance z isSubtype_tuple_tuple ?_)
   simp only[KY,m_,if_false];refine c_ (wpAny_seqItems ho hd ?_)
   refine c_ ?_
   show wpAny _ _ (forIn vs _ _) _ _ s
   rw[<- Array.forIn_toList];refine y3 (nS xs vs.toList _ n A s (λr s'=>r.1=none/\s'=s) hk ra () (fy ⟨rfl,rfl⟩)) ?_ λ_ _ x=>x
   rintro⟨Y,Z⟩ s' ⟨U,rfl⟩
   simp only at U;subst U;exact fy h
 | .bool _,_,_,_,_,_,_,h,_,_,_ | .list _,_,_,_,_,_,_,h,_,_,_ | .dict _,_,_,_,_,_,_,h,_,_,_=>by cases h
theorem nS : ∀(xs:List j8) (vs:List Value) (as:List Addr) (n:Nat) (A:Around) (s:Shared) (Q:Option Bool × Unit->Shared->Prop),bS xs=true->ReadsAll s.heap vs xs as->l8 xs<=n ->
  wpAny (model prog w) A (pure (none,Unit.unit)) Q E s ->
  wpAny (model prog w) A (forIn vs (none,Unit.unit) λy (_:Option Bool × Unit)=>do
   let b <- eqIsQuiet n y
   if (!b)=true then pure (ForInStep.done (some false,Unit.unit)) else pure (JK (none,Unit.unit))) Q E s
 | [],_,_,n,A,s,Q,_,x,_,h=>by cases x;exact h
 | k :: xs,_,_,n,A,s,Q,hk,x,hn,h=>by
  cases x with
  | cons x1 z =>
   simp only[bS,mx,l8] at hk hn;rw[forIn_cons];refine c_ (c_ (vx k _ _ n A s _ hk.1 x1 () ?_))
   simp only[KY,m_,if_false];refine fy ?_
   exact nS xs _ _ n A s Q hk.2 z () h
end
mutual
theorem Bz {h h':Heap} {d:Addr} {o:Obj} {es:Array DictEntry} {ep:Nat} (Z:h.get? d=some o) (U:o.data = .dict es ep) (Y:K5 d h h') : ∀(x:j8) {v:Value} {as:List Addr},eQ x=true->Reads h v x as->Reads h' v x as
 | .none,_,_,_,r=>by cases r;exact .none
 | .int i,_,_,_,r=>by cases r;exact .int _ _
 | .str i,_,_,_,r=>by cases r;exact .str _ _
 | .tuple l,_,_,hk,r=>by
  cases r with
  | @tuple a o' vs m _ as ho' hc' hd' ra =>
   have z:a≠d:=by
    rintro rfl
    obtain rfl:o'=o:=f_ (ho'.symm.trans Z)
    rw[U] at hd';exact nomatch hd'
   exact .tuple ((Y.2 a z).trans ho') hc' hd' (ym Z U Y l hk ra)
 | .bool _,_,_,h,_ | .list _,_,_,h,_ | .dict _,_,_,h,_=>by cases h
theorem ym {h h':Heap} {d:Addr} {o:Obj} {es:Array DictEntry} {ep:Nat} (Y:h.get? d=some o) (z:o.data = .dict es ep) (U:K5 d h h') : ∀(xs:List j8) {vs:List Value} {as:List Addr},bS xs=true->ReadsAll h vs xs as->ReadsAll h' vs xs as
 | [],_,_,_,r=>by cases r;exact .nil
 | x :: xs,_,_,hk,r=>by
  cases r with
  | cons a b =>
   simp only[bS,mx] at hk;exact .cons (Bz Y z U x hk.1 a) (ym Y z U xs hk.2 b)
end
def lg (d:j8):Prop:=eQ d=true/\d.depth<=8
noncomputable def kU (prog:Program) (w:World):HeapKind prog w j8 where
 is:=λh d a=>lg d/\∃as,Reads h (.ref a) d as
 hash:=yw prog w
 draws:=yU
 room:=λA=>A.units+8 < cLine
 inj:=λZ hy=>by
  obtain⟨z,as,Y⟩:=Z
  obtain⟨k2,bs,U⟩:=hy
  exact SeqAt.Reads.unique _ _ _ _ _ (fb _ z.1) Y U
 keeps:=λx ho hd hs=>let ⟨k,as,r⟩:=x;⟨k,as,Bz ho hd hs _ k.1 r⟩
 pyHash:=λ{A E s k a Q} hu hk h=>by
  obtain⟨z,as,r⟩:=hk
  have:=z.2
  exact yL k _ as A s Q z.1 r () h
 eqBool:=λ{A E s x y a b Q} hu Z hy h=>by
  obtain⟨z,as,Y⟩:=Z
  obtain⟨k2,bs,U⟩:=hy
  have e:n_ x y=decide (x=y):=by rw[o_,decide_eq_true_eq];exact iU x y z.1 k2.1
  rw[<- e] at h
  have:=z.2
  exact SeqAt.eqAt_reads x y A s _ _ as bs Y U (fb _ z.1) (fb _ k2.1) () prog w E Q h
 quiet:=λ{A E s k a Q} hk h=>by
  obtain⟨z,as,r⟩:=hk
  exact vx k _ as 8 A s Q z.1 r z.2 h
end PySem
namespace L2
open PySem PySem.Spec PyProof.Rows
abbrev CT:=j8 × Addr × Int
def zl (x:CT) (y:j8 × Addr × Value):Prop:=x.1=y.1/\x.2.1=y.2.1/\∃t,y.2.2 = .int x.2.2 t
def uC (P:Program) (w:World) (a:Addr) (o:Obj) (kvs:List CT) (h:Heap):Prop:=h.get? a=some o/\(a == Jq)=false/\kvs.length<=1000/\o.ExactDict /\
 ∃(xs:List (j8 × Addr × Value)) (es:Array DictEntry) (ep:Nat),Paired zl kvs xs/\o.data = .dict es ep/\es.toList=xs.map (entryOfKey (kU P w))/\(xs.map (·.1)).Nodup
def cX (P:Program) (w:World) (a:Addr) (o:Obj) (kvs:List CT):HO:=.ext (uC P w a o kvs)
theorem uC.ok {o:Obj} {kvs:List CT} (x:uC P w a o kvs h):bf P w H h a (cX P w a o kvs) :=
 ⟨x,⟨o,x.1⟩,λh1 h2 z k=>⟨k _ z.1,z.2⟩⟩
noncomputable def atC (kvs:List CT) (d:j8):Option Int:=(kvs.find? λx=>decide (x.1=d)).map (·.2.2)
noncomputable def gZ (kvs:List CT) (d:j8) (a:Addr) (n:Int):List CT:=if (atC kvs d).isSome then kvs.map (λx=>if x.1=d then(x.1,x.2.1,n) else x) else kvs++[(d,a,n)]
theorem pP (kvs:List CT) (d:j8) (a:Addr) (n:Int):(gZ kvs d a n).length<=kvs.length+1:=by
 unfold gZ;split <;> simp
theorem yx {d e:j8} {n:Int} : ∀kvs:List CT,atC (kvs.map (λx=>if x.1=d then(x.1,x.2.1,n) else x)) e=if e=d then(atC kvs d).map (λ_=>n) else atC kvs e
 | []=>by unfold atC;split <;> rfl
 | x :: kvs=>by
  have U:=yx (d:=d) (e:=e) (n:=n) kvs;unfold atC at U ⊢;rw[i_,xq,xq,xq]
  by_cases hx:x.1=d
  .rw[if_pos hx]
   by_cases Y:e=d
   .subst Y
    simp[hx]
   .have : ¬ x.1=e:=λz=>Y (by rw[<- z,hx])
    simp only[if_neg Y] at U ⊢;simp only[this,decide_false,U]
  .rw[if_neg hx]
   by_cases Y:e=d
   .subst Y
    simp only[hx,decide_false,if_true] at U ⊢;exact U
   .simp only[if_neg Y] at U ⊢
    by_cases Z:x.1=e
    .simp[Z]
    .simp only[Z,decide_false,U]
theorem yn (kvs:List CT) (d e:j8) (a:Addr) (n:Int):atC (gZ kvs d a n) e=if e=d then some n else atC kvs e:=by
 unfold gZ;cases h:atC kvs d with
 | some m =>
  rw[if_pos (by rfl),yx,h];rfl
 | none =>
  rw[if_neg (by simp)]
  have hn:(kvs.find? λx=>decide (x.1=d))=none:=by
   unfold atC at h;cases Y:kvs.find? λx=>decide (x.1=d) with
   | none=>rfl
   | some z=>rw[Y] at h;cases h
  unfold atC at h ⊢;rw[List.find?_append]
  by_cases U:e=d
  .subst U
   rw[hn];simp
  .have : ¬ d=e:=λz=>U z.symm
   rw[if_neg U];cases Y:kvs.find? λx=>decide (x.1=e) with
   | none=>simp[this]
   | some z=>simp
def lF (K:ge) (H:Hp) (kvs:List CT):Prop:=∀x∈kvs,lg x.1/\Rep K H (.ref x.2.1) x.1
theorem mO {d:j8} : ∀{kvs:List CT} {xs:List (j8 × Addr × Value)},Paired zl kvs xs->(∀n,atC kvs d=some n->∃p t,atKey xs d=some p/\p.2 = .int n t)/\(atC kvs d=none->atKey xs d=none)
 | _,_,.nil=>⟨λn h=>absurd h (by simp[atC]),λ_=>rfl⟩
 | x :: kvs,y :: xs,.cons h r=>by
  obtain⟨a,b⟩:=mO (d:=d) r;obtain⟨h1,h2,t,Y⟩:=h;unfold atC atKey at a b ⊢;rw[xq,xq,<- h1]
  by_cases U:x.1=d
  .simp only[U,decide_true,Kh,Ju]
   exact⟨λn e=>⟨_,t,rfl,by rw[<- e];exact Y⟩,λz=>by cases z⟩
  .simp only[U,decide_false]
   exact⟨a,b⟩
theorem AI {d:j8} {n:Int} {t:Tok} {kvs:List CT} {xs:List (j8 × Addr × Value)} (r:Paired zl kvs xs):Paired zl (gZ kvs d b n) (storedH xs d b (.int n t)):=by
 obtain⟨h1,h2⟩:=mO (d:=d) r;unfold gZ;cases h:atC kvs d with
 | some m =>
  obtain⟨p,u,e,_⟩:=h1 m h;rw[if_pos (by rfl),storedH_old e]
  clear h h1 h2 e
  induction r with
  | nil=>exact .nil
  | @cons x y l l' q _ ih =>
   refine .cons ?_ ih
   unfold putAt;rw[<- q.1]
   show zl (if x.1=d then(x.1,x.2.1,n) else x) _
   by_cases z:x.1=d
   .rw[if_pos z,if_pos z];exact⟨rfl,q.2.1,t,rfl⟩
   .rw[if_neg z,if_neg z];exact q
 | none =>
  rw[if_neg (by simp),storedH_new (h2 h)]
  exact Paired.snoc r ⟨rfl,rfl,t,rfl⟩
section
variable {o:Obj} {kvs:List CT}
theorem rZ (I:Inv X pins σ H s) {d:j8} {b:Addr} (z:lg d) (U:Rep X.K H (.ref b) d):(kU X.prog X.w).is s.heap d b:=by
 obtain⟨as,r⟩:=I.reads U (u:=.ref b) rfl;exact⟨z,as,r⟩
theorem mP (I:Inv X pins σ H s) (ha:H a=some (cX X.prog X.w a o kvs)) (hk:lF X.K H kvs):(a == Jq)=false/\kvs.length<=1000/\∃xs,Paired zl kvs xs/\s.heap.DictOfH (kU X.prog X.w) a xs:=by
 obtain⟨⟨ho,hd,hz,U,xs,es,ep,r,h1,h2,Z⟩,Y⟩:=(show bf X.prog X.w H s.heap a (cX X.prog X.w a o kvs) from I.hok a _ ha)
 refine⟨hd,hz,xs,r,o,es,ep,ho,U,h1,h2,?_,Z⟩
 clear h1 h2 Z ha ho hz Y
 induction r with
 | nil=>intro x U;cases U
 | @cons x y l l' q _ ih =>
  intro z hz;rcases i6.mp hz with e | e
  .subst e
   have:=hk x (by simp)
   rw[q.1,q.2.1] at this;exact rZ I this.1 this.2
  .exact ih (λx U=>hk x (by simp[U])) z e
def tX (P:Program) (w:World):TE:=λ_ H Q=>∀p o H2,H p=none->aj H H2->H2 p=some (cX P w p o [])->Q (.ref p) H2
theorem zD:PE X (.Dict [] [] pos) (tX X.prog X.w):=λpins s σ H Q I h=>by
 have z:=I.hok.fresh (j5 s.heap.objs.size);refine wpAny_Dict_empty ⟨.ref s.heap.objs.size,_,I.laid (a:=s.heap.objs.size) (o:=cX X.prog X.w s.heap.objs.size { cls:=.type "dict",data:=.dict #[] } []) (t':=s.toks) (λ_ _ q=>d_ _ q) (j5 _) (uC.ok ⟨g9 _ rfl,beq_eq_false_iff_ne.mpr (Jx (k_ I.big)),r_ _,⟨rfl,rfl,rfl⟩,[],#[],0,.nil,rfl,rfl,List.nodup_nil⟩),rfl,?_⟩
 exact h _ _ _ z (aj.upd0 z) ab
variable {f ie:Expr}
def yI (P:Program) (w:World) (K:ge) (td ty tx:TE):TE:=λσ H Q=>td σ H λx H1=>∃a,x = .ref a/\(∃o kvs,H1 a=some (cX P w a o kvs)/\lF K H1 kvs)/\ty σ H1 λy H2=>tx σ H2 λz U=>∃b,y = .ref b/\∃n,z = .int n/\∃o kvs,U a=some (cX P w a o kvs)/\lF K U kvs/\∃d,lg d/\Rep K U (.ref b) d/\Q (.int ((atC kvs d).getD n)) U
theorem BE (hu:X.A.units+9 < cLine) (ho:PE X oe td) (he:PE X e ty) (hf:PE X f tx) (m:M2 X oe "get" apos e f cpos):PE X (.Call (.Attribute oe "get" apos) [e,f] [] cpos) (yI X.prog X.w X.K td ty tx):=by
 intro pins s σ H Q I h;refine wpAny_Call_method m.base m.few m.line Kp JW PySem.F.type_dict_get (thn (ho pins s σ H _ I h) λu s1 ⟨x,H1,I1,rx,a,ex,⟨o,kvs,ha,hk⟩,q1⟩=>?_)
 subst ex;obtain rfl:u=m8 a:=rx
 obtain⟨_,_,xs,_,dd⟩:=mP I1 ha hk;refine⟨dd.typeIs,λb q=>?_,?_⟩
 .cases q
  obtain⟨ob,_,_,h1,h2,_⟩:=dd;exact⟨ob,h1,h2.2.1⟩
 rw[m.trees];refine JA rfl (Ka (u9 (thn (he pins s1 σ H1 _ I1 q1) λiv s2 ⟨y,H2,I2,ry,q2⟩ =>
  u9 (thn (hf pins s2 σ H2 _ I2 q2) λfv s3 ⟨z,H3,I3,rz,b,ey,n,ez,o3,kvs3,ha3,hk3,d,hd,hb,q3⟩=>F_ ?_))))
 subst ey ez;obtain rfl:iv=m8 b:=ry
 obtain⟨t,rfl⟩:=rz;obtain⟨hs,_,ys,Z,U⟩:=mP I3 ha3 hk3;refine call_meetsIn JW U.typeIs PySem.F.entry_dict_get (PySem.F.args_dict_get_3 _ _ _) (meetsH_dict_get_default (kU X.prog X.w) a b hs (.int n t)) ⟨by show X.A.in1.units+8 < cLine;simp only[KS];omega,d,ys,rZ I3 hd hb,U,?_⟩
 obtain⟨r1,r2⟩:=mO (d:=d) Z;cases Y:atC kvs3 d with
 | some m =>
  obtain⟨p,u,e1,e2⟩:=r1 m Y;rw[Y] at q3;rw[e1];exact⟨.int m,H3,I3.tok _,⟨u,e2⟩,q3⟩
 | none =>
  rw[Y] at q3;rw[r2 Y];exact⟨.int n,H3,I3.tok _,⟨t,rfl⟩,q3⟩
def C8 (P:Program) (w:World) (K:ge) (td ty:TE):TE:=λσ H Q=>td σ H λx H1=>ty σ H1 λy H2=>∃a,x = .ref a/\∃b,y = .ref b/\∃o kvs,H2 a=some (cX P w a o kvs)/\lF K H2 kvs/\∃d,lg d/\Rep K H2 (.ref b) d/\∃n,atC kvs d=some n/\Q (.int n) H2
theorem Da (hu:X.A.units+9 < cLine) (ha:PE X oe td) (hb:PE X ie ty) (hs:mT ie):PE X (.Subscript oe ie pos) (C8 X.prog X.w X.K td ty):=by
 intro pins s σ H Q I h;refine KR (thn (ha pins s σ H _ I h) λv s1 ⟨x,H1,I1,r1,q1⟩=>thn (hb pins s1 σ H1 _ I1 q1) λu s2 z=>?_)
 obtain⟨y,H2,Y,r2,c,ex,b,ey,o,kvs,hc,hk,d,hd,Z,n,hn,q⟩:=z;subst ex ey;cases r1;cases r2;obtain⟨_,_,xs,U,dd⟩:=mP Y hc hk;obtain⟨p,t,e1,e2⟩:=(mO (d:=d) U).1 n hn;exact KC (x:=.int n t) dd.typeIs Kb.lookup (wpAny_getItem_heap (by show X.A.in1.units+8 < cLine;simp only[KS];omega) (rZ Y hd Z) dd e1 ⟨e2,.int n,H2,Y.tok _,⟨t,e2⟩,q⟩) (hs _ _)
def xR (P:Program) (w:World) (K:ge) (td ty tv:TE):TS:=λD σ H=>tv σ H λv H1=>td σ H1 λx H2=>ty σ H2 λy z=>∃n,v = .int n/\∃a,x = .ref a/\∃b,y = .ref b/\∃o kvs,z a=some (cX P w a o kvs)/\lF K z kvs/\kvs.length < 1000/\∃d,lg d/\Rep K z (.ref b) d/\∀o',D.nx σ (upd z a (cX P w a o' (gZ kvs d b n)))
theorem AV (hu:X.A.units+9 < cLine) (ho:PE X oe td) (hi:PE X ie ty) (hv:PE X value tv) (hs:swapsWith value (some (.Subscript oe ie pos')) pos.line X.env=pure false) :
  PS X (.Assign [.Subscript oe ie pos'] value pos) (xR X.prog X.w X.K td ty tv):=by
 intro pins s σ H D I h;refine wpAny_Assign_Subscript (thn (hv pins s σ H _ I h) λr s1 ⟨v,H1,I1,rv,q1⟩=>thn (ho pins s1 σ H1 _ I1 q1) λu s2 ⟨x,H2,I2,rx,q2⟩=>thn (hi pins s2 σ H2 _ I2 q2) λiv s3 z=>?_) hs
 obtain⟨y,H3,I3,ry,n,ev,a,ex,b,ey,o,kvs,ha,hk,hl,d,hd,hb,q3⟩:=z;subst ev ex ey;obtain rfl:u=m8 a:=rx
 obtain rfl:iv=m8 b:=ry
 obtain⟨t,rfl⟩:=rv;obtain⟨ac,hz,xs,U,dd⟩:=mP I3 ha hk;have Y:=Paired.length U;refine wpAny_setItem_heap (hsz:=by rw[<- Y];exact ot (au hz)) (by show X.A.in1.units+8 < cLine;simp only[KS];omega) (rZ I3 hd hb) dd λh' Z aa=>?_
 obtain⟨q,es,ep,hq,h2,h3,h4,_,h5⟩:=Z;have ad:=pP kvs d b n;exact⟨σ,_,kn (ob:=cX X.prog X.w a q (gZ kvs d b n)) I3 (by rw[ha];exact ow) aa ⟨q,hq⟩ (uC.ok ⟨hq,ac,(),h2,_,es,ep,AI U,h3,h4,h5⟩),q3 q⟩
variable (hP:X.prog=P) (hw:X.w=w) (hK:X.K=K)
include hP hw in
theorem vj:PE X (.Dict [] [] pos) (tX P w):=by subst hP hw;exact zD
include hP hw hK
theorem sT (z:X.A.units+9 < cLine) (Z:PE X oe td) (U:PE X e ty) (Y:PE X f tx) (m:M2 X oe "get" apos e f cpos):PE X (.Call (.Attribute oe "get" apos) [e,f] [] cpos) (yI P w K td ty tx):=by subst hP hw hK;exact BE z Z U Y m
theorem EC (z:X.A.units+9 < cLine) (Z:PE X oe td) (Y:PE X ie ty) (U:mT ie):PE X (.Subscript oe ie pos) (C8 P w K td ty):=by subst hP hw hK;exact Da z Z Y U
theorem yO (U:X.A.units+9 < cLine) (Z:PE X oe td) (hi:PE X ie ty) (z:PE X value tv) (Y:swapsWith value (some (.Subscript oe ie pos')) pos.line X.env=pure false) :
  PS X (.Assign [.Subscript oe ie pos'] value pos) (xR P w K td ty tv):=by subst hP hw hK;exact AV U Z hi z Y
end
end L2
namespace PySem.SeqAt
open AutoSeq1 (wpAny_loadPart')
open MeetsSeq MeetsSeq2 MeetsSeq3 SeqRoads2
theorem pZ (l:Addr) (items:Array Value) (n:Nat) (x:Value) (e:Value->Bool) (j:Nat) (hj:j < items.size) (ad:e items[j]=true) (k:Nat) (Y:items.size<=g0) :
  ∀ i:Nat,j - i=k->i<=j->(∀m (hm:m < items.size),i<=m->m < j->e items[m]=false)->Meets (Builtin.«list.remove.loop» ⟨[.ref l,x,rawInt i],[]⟩)
   (λA R s=>s.heap.get? l=some { cls:=.type "list",dict:=none,data:=.seq items n,slots := #[] }/\(∀y,y∈items->EqAt A.in1 s y x (e y))/\R (.ok (.ret .none)) { s with heap:=s.heap.update l (o6 λxs=>xs.eraseIdxIfInBounds j) }):=by
 induction k with
 | zero =>
  intro i hk ac U prog w A R s h;obtain⟨hp,g,d,tk,os⟩:=s;obtain⟨hl,he,h⟩:=h;have Z:i=j:=()
  subst Z
  wp_walk using wpAny_loadPart' hl
  have hi:items[((i:Nat):Int).toNat]? = some items[i]:=by simp[hj]
  rw[hi];refine c_ (he _ (Array.getElem_mem hj) prog w _ _ ?_)
  rw[ad];have aa:(items.eraseIdxIfInBounds i).size<=g0+1:=le_trans (size_erased items _) (Nat.le_succ_of_le Y)
  wp_walk using (wpAny_updateSeq hl rfl (hz:=Y) (_hz':=aa)),wpAny_loadPart' hl
  simpa using h
 | succ k ih =>
  intro i hk ac U prog w A R s h;obtain⟨hp,g,d,tk,os⟩:=s;obtain⟨hl,he,h⟩:=h;have z:i < items.size:=()
  wp_walk using wpAny_loadPart' hl
  have hi:items[((i:Nat):Int).toNat]? = some items[i]:=by simp[z]
  have hc:((i:Int)+1)=((i+1:Nat):Int):=by push_cast;rfl
  rw[hi];refine c_ (he _ (Array.getElem_mem z) prog w _ _ ?_)
  rw[U i z (j5 _) ()]
  wp_walk
  rw[hc];exact⟨JZ plain_remove_loop _,H_ entry_remove_loop (by
   rw[B_ plain_remove_loop _];exact ih (i+1) () () (λm hm h1 h2=>U m hm () h2) prog w A R _ ⟨hl,he,h⟩)⟩
theorem list_removeAt (l:Addr) (items:Array Value) (n:Nat) (x:Value) (e:Value->Bool) (j:Nat) (hj:j < items.size)
  (U:e items[j]=true) (Y : ∀m (Z:m < items.size),m < j->e items[m]=false) (z:items.size<=g0) :
  Meets (Builtin.«list.remove» ⟨[.ref l,x],[]⟩)
   (λA R s=>s.heap.get? l=some { cls:=.type "list",dict:=none,data:=.seq items n,slots := #[] }/\(∀y,y∈items->EqAt A.in1 s y x (e y))/\R (.ok (.ret .none)) { s with heap:=s.heap.update l (o6 λxs=>xs.eraseIdxIfInBounds j) }):=by
 intro prog w A R s h;obtain⟨hp,g,d,tk,os⟩:=s;obtain⟨hl,he,h⟩:=h
 wp_walk using wpAny_loadPart' hl
 exact⟨JZ plain_remove_loop _,H_ entry_remove_loop (by
  rw[B_ plain_remove_loop _];exact pZ l items n x e j hj U _ z 0 rfl (r_ _) (λm Z _ h2=>Y m Z h2) prog w A R _ ⟨hl,he,h⟩)⟩
end PySem.SeqAt
namespace L2
open PySem PySem.Spec PyProof.Rows
def Bc (K:ge):RM:=λp vs H Q=>∃b,vs=[.ref b]/\∃xs ds d,H p*>xs/\cC K H xs ds/\l_ ds=true/\Rep K H (.ref b) d/\d.canLay0=true/\d.depth<=50 /\
 ∃j,j < ds.length/\(∀e,ds[j]? = some e->n_ e d=true)/\(∀m e,m < j->ds[m]? = some e->n_ e d=false)/\Q .non (upd H p (.lst (xs.eraseIdx j)))
theorem md {h:Heap} : ∀{us:List Value} {ds:List j8} {as:List Addr} {m:Nat} {u:Value},ReadsAll h us ds as->us[m]? = some u->∃d bs,ds[m]? = some d/\Reads h u d bs
 | _,_,_,m,u,.nil,e=>by simp at e
 | _,_,_,0,u,.cons a _,e=>by simp at e;subst e;exact⟨_,_,rfl,a⟩
 | _,_,_,m+1,u,.cons _ b,e=>by simpa using md b (by simpa using e)
theorem lS : ∀{ds:List j8} {m:Nat} {d:j8},l_ ds=true->ds[m]? = some d->d.canLay0=true
 | [],m,d,_,e=>by simp at e
 | x :: ds,0,d,h,e=>by
  simp only[l_,mx] at h;simp at e;subst e;exact h.1
 | x :: ds,m+1,d,h,e=>by
  simp only[l_,mx] at h;exact lS h.2 (by simpa using e)
theorem zT (hu:X.A.units+102 < cLine):MtL X "list.remove" (Bc X.K):=by
 intro pins s σ H x vs v us Q I rx rv h;obtain⟨p,rfl,b,rfl,xs,ds,d,hH,hr,ad,hb,hd,ai,j,hj,af,ag,q⟩:=h;cases rx;obtain⟨u,rfl,ru⟩:=rv.one;cases ru;obtain⟨z,its,n,rr,hl,e⟩:=I.lstM hH;obtain⟨as,ra⟩:=I.readsAll hr rr;obtain⟨bs,rb⟩:=I.reads hb (u:=.ref b) rfl;have ah:its.length=ds.length:=SeqAt.ReadsAll.length _ _ _ ra
 classical
 have key : ∀(m:Nat) (y:Value),its[m]? = some y->∃U cs,ds[m]? = some U/\Reads s.heap y U cs:=λm y hy=>md ra hy
 let ev:Value->Bool:=λy=>decide (∃U cs,Reads s.heap y U cs/\U.canLay0=true/\n_ U d=true)
 have Z : ∀(m:Nat) (y:Value) (U:j8),its[m]? = some y->ds[m]? = some U->ev y=n_ U d:=λm y U hy Y=>by
  obtain⟨d',cs,e1,e2⟩:=key m y hy;rw[Y] at e1;cases e1;have ac:=lS ad Y
  show decide _=_
  rw[o_,decide_eq_true_eq]
  constructor
  .rintro⟨d2,c2,r2,l2,q2⟩
   rwa [SeqAt.Reads.unique _ _ _ _ _ l2 r2 e2] at q2
  .exact λz=>⟨_,_,e2,ac,z⟩
 have ae:j < its.toArray.size:=by rw[g_];omega
 refine Kw F.slot_list_remove ⟨_,e,rfl⟩ F.entry_list_remove (F.args_list_remove_2 _ _) (SeqAt.list_removeAt p its.toArray n (.ref b) ev j ae ?_ ?_ (by rw[g_];omega)) ⟨e,?_,?_⟩
 .rw[Z j _ ds[j] (by simp[show j < its.length by omega]) (by simp[hj])]
  exact af _ (by simp[hj])
 .intro m Y hmj
  rw[g_] at Y;rw[Z m _ ds[m] (by simp[Y]) (by simp[show m < ds.length by omega])]
  exact ag m _ hmj (by simp[show m < ds.length by omega])
 .intro y hy
  obtain⟨m,Y,em⟩:=Jy (show y∈its by simpa using hy)
  have aa:its[m]? = some y:=by simp[Y,em]
  obtain⟨U,cs,e1,e2⟩:=key m y aa;rw[Z m y U aa e1];exact SeqAt.eqAt_reads U d _ s _ _ cs bs e2 rb (lS ad e1) hd (by simp only[KS];omega)
 .refine⟨.non,_,I.lset (its':=its.eraseIdx j) hH e ?_ (rr.eraseIdx j) ?_,rfl,q⟩
  .show its.toArray.eraseIdxIfInBounds j=(its.eraseIdx j).toArray
   rw[Km]
  .have:=lu xs j
   omega
theorem hu9 (z:cR k A):A.units+9 < cLine:=by have:=z.un;omega
theorem qO {Q:VK}
  (a7:X.calm=true) (S:jN X scope N nt js) (hi:PI X tg iter wi)
  (hg : ∀{cl C fp s H xe},PG (cF X scope N cl C fp s H xe) tg g) (aF:Af g nt)
  (hc : ∀{cl C fp s H xe},PTs (cF X scope N cl C fp s H xe) ifs tc)
  (he : ∀{cl C fp s H xe},PE (cF X scope N cl C fp s H xe) elt te)
  (hs : ∀x,foldedSetIterable iter X.env x=pure x) (I:Inv X pins σ H s) (h:yQ nt js wi g tc te σ H Q)
  (aL : ∀{cl C fp Z H2 xe H3 s4 D},Inv X pins σ H2 Z->(∀b∈fp,pK X pins H2 b)->Z.heap.objs.size < C->Inv (cF X scope N cl C fp Z H2 xe) [] (bZ nt js σ) H3 s4->Q (.ref D) H3 ->
   compPost (model X.prog X.w) X.A X.xe use Qf (.ref D) C (.ok .next) s4) :
  wpAny (model X.prog X.w) X.A (comprehension (.ListComp elt [⟨tg,iter,ifs,0⟩] scope pos) scope X.env pos' (newList []) false (eval iter X.env) use) Qf X.xe s:=by
 obtain⟨cl,a1,aB,_,a4⟩:=jA (env:=X.env) scope.names [] (λx hx hk=>I.ok.has x.1 (S.free x hx hk))
 have a8 : ∀x c,cl.lookup x=some c->X.env.cells.lookup x=some c:=λx c e=>(aB x c e).elim (λz=>by simp at z) λz=>z
 have au:closureFor scope X.env=pure cl:=by
  unfold closureFor;simp only[];rw[a1];rfl
 refine wpAny_comprehension_free rfl hs au S.kind S.loc (thn (hi pins s σ H _ I h) λv s1 h1=>thn h1 λaN Z h2=>?_)
 obtain⟨it,fp,tn,J,H2,e,I2,T,a2,f2,q2⟩:=h2;subst e;have aa:H2 Z.heap.objs.size=none:=I2.hok.fresh (j5 _)
 obtain⟨W,⟨m0,w0⟩,a6⟩:=q2 Z.heap.objs.size aa;refine Gt (eL (λU=>?_))
 dsimp only at U ⊢;generalize hG:Z.heap.push { cls:=.type "list",dict:=none,data:=.seq ([]:List Value).toArray }=G at U ⊢;have aJ:G.objs.size=Z.heap.objs.size+1:=by rw[<- hG,Js]
 have af:=cellsFrom_ok scope.names (G.push { cls:=.type "dict",data:=.dict #[] }) (G.objs.size+1) [] ⟨λ_ _ hm=>(nomatch hm),List.Pairwise.nil⟩ (by rw[Js];exact j5 _)
 rw[Js] at af;have kp : ∀b o,G.get? b=some o->(pushCells (G.push { cls:=.type "dict",data:=.dict #[] }) scope.names).get? b=some o:=λb o e=>pushCells_keeps _ _ _ _ (d_ _ e)
 generalize aH:pushCells (G.push { cls:=.type "dict",data:=.dict #[] }) scope.names=ag at U af kp ⊢;have ac : ∀b o,Z.heap.get? b=some o->ag.get? b=some o:=λb o e=>kp b o (hG ▸ d_ _ e)
 have a5:HOk X.prog X.w (upd H2 Z.heap.objs.size (.lst [])) ag:=I2.hok.laid ac (j5 _) ⟨r_ _,[],0,.nil,kp _ _ (hG ▸ g9 _ rfl)⟩
 have ae : ∀b∈fp,b < Z.heap.objs.size:=λb hb=>by
  obtain⟨o,e,_⟩:=T.obj _ _ a2 b hb;exact gs e
 have aK : ∀c,G.objs.size<=c->(upd H2 Z.heap.objs.size (.lst [])) c=none:=λc hc=>by
  rw[ai (JQ ())]
  exact I2.hok.fresh ()
 have az:=λxe H3 s4=>@aL (sn (G.objs.size+1) scope.names cl) G.objs.size fp Z H2 xe H3 s4 Z.heap.objs.size I2 f2 (by rw[aJ];exact Nat.lt_succ_self _)
 generalize aG:compPost (model X.prog X.w) X.A X.xe use Qf (.ref Z.heap.objs.size) G.objs.size=RR at az
 let Y:=cF X scope N (sn (G.objs.size+1) scope.names cl) G.objs.size fp Z H2 (notedBy (model X.prog X.w) X.A (compEnvC scope (sn (G.objs.size+1) scope.names cl) G.objs.size X.env) λe s'=>RR (.error e) s')
 have ah : ∀{H':Hp},(∀b∈fp,H' b=none)->∀b∈fp,pK Y [] H' b:=λ{H'} hn b hb=>by
  obtain⟨f0,f1,aE,f3,f4,f5⟩:=f2 b hb;have h1:=ae b hb;refine⟨hn b hb,k_ (l4 h1 (by show _<=G.objs.size;omega)),λz=>?_,.inl hb,λx c e=>?_,λp hp=>absurd (show p∈([]:List (Addr × Obj)) from hp) (by simp)⟩
  .rcases i6.mp (I2.stkSub b z) with q | q
   .exact f1 q
   .exact aE q
  .have e:(sn (G.objs.size+1) scope.names cl).lookup x=some c:=e
   rw[bC] at e;rcases nN e with q | q
   .have:=(af.empty x c (mem_of_lookup q)).2
    exact JQ (l4 h1 ())
   .exact f4 x c (a8 x c q.2)
 have ay:codeAny (model X.prog X.w) X.A (.compLoop (.ListComp elt [⟨tg,iter,ifs,0⟩] scope pos) 0 (.ref it) (.ref Z.heap.objs.size) (compEnvC scope (sn (G.objs.size+1) scope.names cl) G.objs.size X.env)) RR { Z with heap:=ag,toks:=Z.toks }:=by
  refine sS (λn s'=>∃i ys H',Inv Y [] (bZ nt js σ) H' s'/\tn i s'.heap/\(∀b∈fp,H' b=none)/\W i n ys H') ?_ m0
   ⟨0,[],_,uv S I2 f2 a8 a4 (λx c hm=>af.empty x c hm) af.apart aK ae () ac (λb o e=>by rw[ai (ap e aa)];exact e) (λb n hb=>by rw[ai (k_ hb)];exact n) a5 U (λ_=>rfl),T.keep _ _ _ a2 λb hb o e=>ac b o e,λb hb=>by rw[ai (k_ (ae b hb))];exact(f2 b hb).1,w0⟩
  rintro n s3 ⟨i,ys,H3,J3,a9,a3,w3⟩
  rcases a6 i n ys H3 w3 with⟨aA,qn⟩ | ⟨go,NN,hN,step⟩
  .refine thn (T.done Y rfl rfl rfl a7 i [] s3 (bZ nt js σ) H3 _ J3 (ah a3) a9 aA) λr s4 ao=>?_
   obtain⟨hr,I4⟩:=ao;subst hr;exact az _ _ _ I4 qn
  .refine thn (T.item Y rfl rfl rfl a7 i [] s3 (bZ nt js σ) H3 _ J3 (ah a3) a9 go) λr s4 aw=>?_
   obtain⟨u,hr,h4⟩:=aw;subst hr;refine thn h4 λ_ s5 ar=>?_
   obtain⟨x,H5,I5,r5,y5,a0,aI⟩:=ar;have g5:=aF x (bZ nt js σ) H5 _ oN (step x H5 y5);refine thn (hg _ s5 _ H5 x u _ (I5.pinned (ah aI) (T.obj _ _ a0)) r5 g5) λ_ s6 av=>?_
   obtain⟨ax,H6,I6,aM,q6⟩:=av;refine thn (hc _ s6 ax H6 _ I6 q6) λok s7 ak=>?_
   obtain⟨H7,I7,q7⟩:=ak;have ad : ∀{s8:Shared} {H8:Hp} {an:List V},Inv Y ([]++mY fp s5.heap) ax H8 s8->NN an H8 ->
     ∃m,m < n/\∃i ys H',Inv Y [] (bZ nt js σ) H' s8/\tn i s8.heap/\(∀b∈fp,H' b=none)/\W i m ys H':=λ{s8 H8 an} I8 n8=>by
    obtain⟨m',hm,w8⟩:=hN an H8 n8;have k8:=λb hb o e=>I8.pin (b,o) (uj _ (uj _ (jH hb e)))
    refine⟨m',hm,i+1,an,H8,(I8.unpinned).wk aM,T.keep _ _ _ a0 λb hb o e=>(k8 b hb o e).1,λb hb=>?_,w8⟩
    obtain⟨o,e,d⟩:=T.obj _ _ a0 b hb;exact(k8 b hb o e).2.1
   cases ok with
   | false =>
    rw[if_neg i5] at q7 ⊢;exact ad I7 q7
   | true =>
    rw[if_pos rfl] at q7 ⊢;refine thn (he _ s7 ax H7 _ I7 q7) λy s8 am=>?_
    obtain⟨yv,H8,I8,r8,aD,aC,q8⟩:=am;refine thn (rV (X:=Y) _ s8 ax H8 (.ref Z.heap.objs.size) [yv] (.ref Z.heap.objs.size) [y] (λ_ H9=>NN (ys++[yv]) H9) I8 rfl (.cons r8 .nil) ⟨_,ys,yv,rfl,rfl,aD,aC,q8⟩) λv9 s9 aq=>?_
    obtain⟨x9,H9,I9,r9,q9⟩:=aq;exact ad I9 q9
 subst aG;exact codeAny_compStart_list ay (T.self _ 0 _ _ _ (T.keep _ _ _ a2 λb hb o e=>ac b o e) ay)
theorem aW (S:jN X scope N nt js) (hi:PI X tg iter wi)
  (hg : ∀{cl C fp s H xe},PG (cF X scope N cl C fp s H xe) tg g) (ae:Af g nt)
  (hc : ∀{cl C fp s H xe},PTs (cF X scope N cl C fp s H xe) ifs tc)
  (he : ∀{cl C fp s H xe},PE (cF X scope N cl C fp s H xe) elt te)
  (hs : ∀x,foldedSetIterable iter X.env x=pure x:=by intro _;rfl) (ad:X.calm=true:=by exact rfl) :
  PE X (.ListComp elt [⟨tg,iter,ifs,0⟩] scope pos) (yQ nt js wi g tc te):=by
 intro pins s σ H Q I h;rw[eval_ListComp];refine qO ad S hi hg ae hc he hs I h λ{cl C fp s2 H2 xe H3 s4 D} I2 f2 hC I4 qn=>?_
 obtain⟨mC,af,_⟩:=id I4.loc;refine⟨mC,af,λY aa=>?_⟩
 have U : ∀b o,b≠C->s4.heap.get? b=some o->Y.get? b=some o:=λb o Z e=>aa.extBut b o Z e
 have lC : ∀{b o},s2.heap.get? b=some o->b≠C:=λe=>k_ (lt_trans (gs e) hC)
 have un:Un (frs X.stack) fp H2 H3 s2.heap Y:=by
  have u:=I4.base;refine⟨λb o e n Z hx=>U b o (lC e) (u.keep b o e n Z hx),λb o e n Z hx=>?_,u.free,λb o e hx=>?_,u.tups,u.frzs,u.tbls⟩
  .obtain⟨sl,e1⟩:=u.slot b o e n Z hx
   exact⟨sl,U b _ (lC e) e1⟩
  .obtain⟨o',e1⟩:=u.there b o e hx
   exact⟨o',U b _ (lC e) e1⟩
 have ac:HOk X.prog X.w H3 Y:=λb u e=>(I4.hok b u e).stay (λc v hc q=>U c v (by
   have cf:H3 C=none:=I4.free
   rintro rfl
   rcases hc with z | z
   .rw[z] at cf;rw[cf] at e;cases e
   .rw[cf] at z;cases z) q) (λ_ q=>q) λ_ _ q=>q
 exact⟨.ref D,H3,I2.call' (s':={ s4 with heap:=Y }) I4.os un ac I4.bare (λb Z=>by
  obtain⟨f0,f1,ag,f3,f4,f5⟩:=f2 b Z;exact⟨f3,f1,f4,f5⟩),rfl,qn⟩
theorem bW (i:Nat) {y:Str} {py Y:Pos} (S:jN X scope N nt js) (hi:PI X tg iter wi)
  (hg : ∀{cl C fp s H xe},PG (cF X scope N cl C fp s H xe) tg g) (ah:Af g nt)
  (hc : ∀{cl C fp s H xe},PTs (cF X scope N cl C fp s H xe) ifs tc)
  (he : ∀{cl C fp s H xe},PE (cF X scope N cl C fp s H xe) elt te)
  (hs : ∀x,foldedSetIterable iter X.env x=pure x:=by intro _;rfl) (af:X.calm=true:=by exact rfl) (hN:X.N.Nodup:=by assumption) (am:X.N[i]? = some y:=by exact rfl) (hy:Loc X.env.scope y:=by first | exact Or.inl rfl | exact Or.inr rfl)
  (ag:swapsWith (.ListComp elt [⟨tg,iter,ifs,0⟩] scope pos) (some (.Name y py)) Y.line X.env=pure true:=by rfl)
  (hf:X.fn y=true\/X.env.scope.names.lookup y=some .local:=by first | exact .inl rfl | exact .inr rfl | assumption) :
  PS X (.Assign [.Name y py] (.ListComp elt [⟨tg,iter,ifs,0⟩] scope pos) Y) (xb (yQ nt js wi g tc te) (fh i)):=by
 intro pins s σ H D I h;rw[exec_Assign_Name_used _ _ _ _ ag];refine c_ (wpAny_standAt (c_ ?_))
 show wpAny _ X.A (do let _ <- comprehension (.ListComp elt [⟨tg,iter,ifs,0⟩] scope pos) scope X.env _ (newList []) false (eval iter X.env) (some (assign (.Name y py) X.env))) _ _ s
 refine c_ (y3 (qO (Qf:=λ_ s'=>SP X pins D .next s') af S hi hg ah hc he hs I h λ{cl C fp s2 H2 xe H3 s4 D'} I2 f2 hC I4 qn=>?_) (λ_ s' hq=>fy (fy hq)) λ_ _ e=>e)
 obtain⟨mC,ai,_⟩:=id I4.loc;have I5:Inv X pins σ H3 s4:=I2.call' (s':=s4) I4.os I4.base I4.hok I4.bare (λb hb=>by
  obtain⟨f0,f1,ao,f3,f4,f5⟩:=f2 b hb;exact⟨f3,f1,f4,f5⟩)
 show wpAny _ X.A (assign (.Name y py) X.env (.ref D')) _ _ s4
 have ae:C≠X.env.locals:=JQ (lt_trans I2.lt hC)
 have ac : ∀x c,X.env.cells.lookup x=some c->c≠C:=λx c e z=>by
  obtain⟨v,q⟩:=I2.cell x c e;exact JR _ (lt_trans (z ▸ q.lt) hC)
 refine wpAny_assign_Name (rO I5 hN am hy (v:=.ref D') rfl (λs6 I6 U=>?_) hf)
 obtain⟨ad,sb,ak⟩:=U;have Z:C≠ad:=by
  rcases ak with z | z
  .rw[z];exact ae
  .exact λe=>ac _ _ z e.symm
 refine⟨mC,ai.sameBut sb Z,λan aa=>⟨_,H3,Inv.turned (t':=s6.toks) (it:=C) I6 (λb o hb e=>aa.extBut b o hb e) I4.free ae (.inr (le_trans I2.sz (ot hC))) ac (λp hp z=>?_),qn⟩⟩
 exact JR _ (lt_trans (z ▸ gs (I2.pin p hp).1) hC)
section
variable {l:Expr}
def Cy:R2:=λx y H Q=>match x,y with
 | .ref p,.int i=>∃xs,H p>>xs/\∃v,atI xs i=some v/\Q v H
 | _,_=>False
theorem ao:IxR X Cy:=wm.imp λx y H Q h=>by
 unfold Cy at h
 split at h
 .exact⟨_,rfl,_,rfl,h⟩
 .exact h.elim
def r1m (P:Addr->Hp->VK->Prop):List V->Hp->VK->Prop:=λxs H Q=>match xs with
 | [.ref p]=>P p H Q
 | _=>False
theorem Cc {P:Addr->Hp->VK->Prop} {Q:VK} (h:r1m P xs H Q) : ∃p,xs=[.ref p]/\P p H Q:=by
 unfold r1m at h
 split at h
 .exact⟨_,rfl,h⟩
 .exact h.elim
theorem aZ:bH X (.builtin "len") (r1m λp H Q=>∃ys,H p*>ys/\Q (.int ys.length) H):=rA.imp λ_ _ _ h=>Cc h
theorem gI:bH X (.builtin "len") (r1m λp H Q=>∃ys,H p>>ys/\Q (.int ys.length) H):=cB.imp λ_ _ _ h=>Cc h
def iTm (K:ge) (tl:TE):TI:=λσ H R=>tl σ H λx H1=>match x with
 | .ref a=>∃xs,H1 a>>xs/\R (Itt K a) H1
 | _=>False
def iLm (K:ge) (tl:TE):TI:=λσ H R=>tl σ H λx H1=>match x with
 | .ref a=>∃xs,H1 a*>xs/\R (Itl K a) H1
 | _=>False
theorem jz (hK:X.K=K) (hl:PE X l tl):PI X tg l (iTm K tl):=by
 subst hK;intro pins s σ H R I h;refine thn (hl pins s σ H _ I h) λv U z=>?_
 obtain⟨x,H1,Y,r1,Z⟩:=z
 try dsimp only at Z
 split at Z
 .obtain⟨xs,hq,q⟩:=Z
  cases r1;obtain⟨its,rv,p,hz⟩:=Y.tuple (SqT.of hq);refine JT (show U.heap.IsTuple _ its.toArray from p) ?_
  refine⟨U.heap.objs.size,[U.heap.objs.size],_,_,H1,rfl,Y.kept (t':=U.toks) λb o e=>d_ _ e,oQ _ _,⟨_,g9 _ rfl,rfl,rfl⟩,λb hb=>?_,q⟩
  have e:b=U.heap.objs.size:=by simpa using hb
  subst e;exact Y.fpOk (j5 _) (Y.hok.fresh (j5 _))
 .exact Z.elim
theorem dg (hK:X.K=K) (hl:PE X l tl):PI X tg l (iLm K tl):=by
 subst hK;intro pins s σ H R I h;refine thn (hl pins s σ H _ I h) λv Z z=>?_
 obtain⟨x,H1,U,r1,Y⟩:=z
 try dsimp only at Y
 split at Y
 .obtain⟨xs,hq,q⟩:=Y
  cases r1;obtain⟨its,rv,p,hz⟩:=U.list (SqL.of hq);refine J7 p.isList ?_
  refine⟨Z.heap.objs.size,[Z.heap.objs.size],_,_,H1,rfl,U.kept (t':=Z.toks) λb o e=>d_ _ e,qZ _ _,⟨_,g9 _ rfl,rfl,rfl⟩,λb hb=>?_,q⟩
  have e:b=Z.heap.objs.size:=by simpa using hb
  subst e;exact U.fpOk (j5 _) (U.hok.fresh (j5 _))
 .exact Y.elim
end
end L2
namespace PySem
open L2 PyProof.Rows PySem.Calls
section
variable {K:Type} [DecidableEq K] {knd:KeyKind prog w K} {d:Addr} {kvs:List (K × Value)} {ep:Nat}
theorem tW (hh:A.handled=none) (lo:(d == Jq)=false) (hm:s.heap.DictAt knd d kvs ep) (hn:kvs.length < 64)
  (hs : ∀vs:List Value,vs.length=kvs.length->(∀(j:Nat) v,vs[j]? = some v->∃q x,kvs[j]? = some (q,x)/\knd.is q v=true)->E_ vs ns)
  (k : ∀(q:Addr) (vs:List Value) (ms:List Int) (h':Heap) (n tk:Nat),s.heap.objs.size<=q->h'.get? q=some { cls:=.type "list",data:=.seq vs.toArray n }->E_ vs ms->ms.Perm ns->ms.Pairwise (·<=·)->(∀b o,s.heap.get? b=some o->h'.get? b=some o)->Q (.ref q) { s with heap:=h',toks:=tk }) :
  wpAny (model prog w) A (call (.builtin "sorted") [.ref d]) Q E s:=by
 refine Calls.call_function_entry kind_sorted plain_sorted entry_sorted (args_sorted1 _) ?_
 unfold Builtin.«sorted»;have aa:(64:Nat)<=g0:=∅
 refine c_ (m:=checkCount "sorted" 1 1 _) (fy (c_ (tE hh lo hm () λvs h1 tk hl hv U hk=>c_ (Ku ?_ (by rw[hl];omega)))))
 have hS:=hs vs hl hv;have z:(h1.push (n9 "list" vs.toArray 0)).get? h1.objs.size=some (n9 "list" vs.toArray 0):=g9 _ rfl
 change wpAny _ _ _ _ _ { s with heap:=h1.push (n9 "list" vs.toArray 0),toks:=tk }
 refine c_ (C_ (y4 slot_list_sort ⟨_,z,rfl⟩ entry_list_sort (list_sort_tree z hS () λout ms b1 b2 b3=>⟨_,rfl,fy ⟨_,rfl,?_⟩⟩) (args_list_sort _)))
 have hz:(h1.push (n9 "list" vs.toArray 0)).objs.size=h1.objs.size+1:=size_push' ..
 obtain⟨e,he⟩:=sortedHeap_at (out:=out) z;refine k h1.objs.size out.toList ms _ e tk (ot U) (by rw[toArray_toList];exact he) b1 b2 b3 λb o Z=>?_
 have Y:=gs (hk b o Z);rw[sortedHeap_old (k_ Y) (by rw[hz];exact JY Y)]
 exact d_ _ (hk b o Z)
end
end PySem
namespace L2
open PySem PySem.Spec PyProof.Rows
theorem rE {P:Program} {w:World} : ∀{ns:List Int} {kv:List (Key × Value)} {vs:List Value},kv.map (·.1)=ns.map i9->vs.length=kv.length->(∀(j:Nat) v,vs[j]? = some v->∃q x,kv[j]? = some (q,x)/\(aY P w).is q v=true)->E_ vs ns
 | [],[],[],_,_,_=>.nil
 | [],_ :: _,_,h,_,_=>by simp at h
 | _ :: _,[],_,h,_,_=>by simp at h
 | [],[],_ :: _,_,h,_=>by simp at h
 | _ :: _,_ :: _,[],_,h,_=>by simp at h
 | x :: ns,q :: kv,v :: vs,h1,h2,h3=>by
  simp only[i_,w6] at h1;obtain⟨k,y,e1,e2⟩:=h3 0 v rfl;simp only[z_,Ju] at e1;subst e1;have Z:k=i9 x:=h1.1
  subst Z;have ih:=rE (P:=P) (w:=w) (ns:=ns) (kv:=kv) (vs:=vs) h1.2 (by simpa using h2) λj v e=>by simpa using h3 (j+1) v (by simpa using e)
  rcases bE (k:=i9 x) (v:=v) e2 with⟨i,t,U,Y⟩ | ⟨z,t,U,Y⟩
  .cases U
   subst Y;exact .cons _ _ ih
  .cases U
def qX:List V->Hp->VK->Prop:=λxs H Q=>∃p,xs=[.ref p]/\∃kvs:List (Key × V),H p<*kvs/\∃ns:List Int,kvs.map (·.1)=ns.map i9/\ns.length < 64/\∀(q:Addr) (ms:List Int),H q=none->ms.Perm ns->ms.Pairwise (·<=·)->Q (.ref q) (upd H q (.lst (ms.map V.int)))
theorem qm (hc:X.calm=true):bH X (.builtin "sorted") qX:=by
 intro pins s σ H xs us Q I r h;obtain⟨p,rfl,kvs,hp,ns,hk,hl,q⟩:=h;obtain⟨u,rfl,ru⟩:=cK r;cases ru;obtain⟨z,hd,vs,aa,dd⟩:=oZ I.hok hp;obtain⟨ep,da⟩:=dd.dictAt;have Z:vs.map (·.1)=ns.map i9:=by rw[<- aa.keys];exact hk
 have l1:vs.length=ns.length:=by have:=congrArg u8 Z;simpa using this
 refine tW (ns:=ns) (I.ok.hd hc) hd da () (λws h1 h2=>rE Z h1 h2) λa ws ms h' n tk ha hg hi Y ac U=>?_
 have new:bf X.prog X.w (upd H a (.lst (ms.map V.int))) h' a (.lst (ms.map V.int)):=⟨by rw[a_,Y.length_eq];exact ot (au ()),ws,n,gm hi,hg⟩
 have hf:=I.hok.fresh ha;refine⟨.ref a,_,I.call (d':=s.drawn) (ch:=[]) (g':=s.gens) (t':=tk) (Un.laid U ha hf) (I.hok.laid U ha new) I.bare (λ_ z=>nomatch z),rfl,q _ ms hf Y ac⟩
def xT (td ty tx:TE):TE:=λσ H Q=>td σ H λx H1=>∃a,x = .ref a/\(∃kvs,H1 a<*kvs)/\ty σ H1 λy H2=>tx σ H2 λz U=>∃kvs,U a<*kvs/\∃k:Key,y=kV k/\kvs.length < g0 /\
 (∀v,bg kvs k=some v->Q v U)/\(bg kvs k=none->Q z (upd U a (.dK (bj kvs k z))))
section
variable {o f:Expr}
theorem zW (ho:PE X o td) (he:PE X e ty) (hf:PE X f tx) (m:M2 X o "setdefault" apos e f cpos):PE X (.Call (.Attribute o "setdefault" apos) [e,f] [] cpos) (xT td ty tx):=by
 intro pins s σ H Q I h;refine wpAny_Call_method m.base m.few m.line Kp PySem.F.slot_dict_setdefault PySem.F.type_dict_setdefault (thn (ho pins s σ H _ I h) λu s1 ⟨x,H1,I1,rx,a,ex,⟨kv0,d⟩,q1⟩=>?_)
 subst ex;obtain rfl:u=m8 a:=rx
 obtain⟨t1,t2,_⟩:=wT I1 (.inl ⟨_,.inl d⟩);refine⟨t1,t2,?_⟩
 rw[m.trees];refine JA rfl (Ka (u9 (thn (he pins s1 σ H1 _ I1 q1) λiv s2 ⟨y,H2,I2,ry,q2⟩ =>
  u9 (thn (hf pins s2 σ H2 _ I2 q2) λfv s3 ⟨z,H3,I3,rz,kvs,ea,k,ey,hl,q3,q4⟩=>F_ ?_))))
 subst ey;obtain⟨z0,hd,vs,U,dd⟩:=oZ I3.hok ea;have q:=U.val k;refine call_meetsIn PySem.F.slot_dict_setdefault dd.typeIs PySem.F.entry_dict_setdefault (PySem.F.args_dict_setdefault_3 _ _ _) (kt_meets_setdefault (aY X.prog X.w) a (kH ry) hd fv) ⟨vs,dd,by rw[<- U.length];exact z0,λv hv=>?_,λhn h' Y hs=>?_⟩
 .rw[hv] at q
  cases l:bg kvs k with
  | none=>rw[l] at q;exact absurd q (by intro z;cases z)
  | some Z=>rw[l] at q;exact⟨Z,H3,I3.tok _,q,q3 Z l⟩
 .have l:bg kvs k=none:=by
   rw[hn] at q;cases l:bg kvs k with
   | none=>rfl
   | some Z=>rw[l] at q;exact absurd q (by intro z;cases z)
  have he : ∃q,h'.get? a=some q:=let ⟨q,_,_,hq,_⟩:=Y;⟨q,hq⟩
  exact⟨z,_,kn I3 (by rw[ea];exact ow) hs he (wF (by have:=bT kvs k z;omega) hd (U.put k rz) Y),rz,q4 l⟩
end
end L2
namespace Lw
open PySem L2
local macro_rules | `(tactic| ctx_has c) => `(tactic| exact ⟨rfl, rfl, rfl, by decide +kernel, rfl, by decide +kernel, by decide +kernel⟩)
local macro_rules | `(tactic| ctx_has z $S:ident) => do
  let i:=Lean.mkIdent
  let nd:=i `nd
  let hu:=i `hu
  let L:=i `L
  let vs:=i `vs
  let H:=i `H
  let Q:=i `Q
  let E:=i `E
  let h:=i `h
  let f:=i `f
  let cdv:=i `cdv
  let A:=i `A
  let outer:=i `outer
  let s:=i `s
  let hr:=i `hr
  `(tactic| (have $nd:ident:=aH.nd $S;refine FnL.ok $L $S (λ$vs $H $Q $E $h=>?_) (λ$f $cdv $A $outer $s $H $vs $Q $E $hr $h=>?_);rotate_left;have $hu:ident:=vH $hr;rotate_left))
local macro_rules
 | `(tactic| ctx_has v $ids*) => do
  let ns := "true_and fe Cy r1m iTm iLm wX cxK Jn A0 Cu Gg GU GL ES Option.join_some uB BT Bv GD IsB Gz GN DB zV yl Et EE Bg xb fh Db tC tOp tUn uW tB GW tOr Gv Aq G7 tIf tCB uJ ko wx Co Cf tDG sDP Hs Ha rI0 rI rU rEq rNe CC Dw CV CZ CA CG Ap AL rIL rIT rIS rSL rSQ rST C2 iL iT tML tMS xG mU rCT GY EU sF tN wO nC Aw Bi sf iE iD GC tDI Gr xU vE C1 IK IU IY IX IE Dx oq pO Av oS rCL zg F7 wR BJ rCS BW EO nj AW nO HO.dK.injEq HO.lst.injEq HO.tup.injEq HO.ins.injEq tX yI C8 xR Bc Az Aa tSl mR yr L2.gg List.map_cons List.map_nil List.length_cons List.length_nil List.replicate List.cons_append List.nil_append List.append_nil z_ List.getElem?_cons_succ List.set_cons_zero List.set_cons_succ Ju V.int.injEq V.ref.injEq V.str.injEq V.bl.injEq V.ty.injEq w6 and_assoc and_true and_self exists_eq_left exists_eq_left' exists_eq_right exists_eq_right' exists_and_left exists_eq exists_eq' reduceCtorEq false_and and_false false_or or_false exists_false decide_eq_true_eq String.reduceEq String.reduceBEq Bool.or_true Bool.true_or Bool.or_false Bool.false_or or_true true_or if_true if_false Bool.not_eq_true' Nat.reduceAdd Nat.reduceSub Nat.zero_add J0 List.append_eq List.set Nat.add_zero yq".splitOn " "
  let xs : Array Lean.Ident := (ns.map fun x => Lean.mkIdent x.toName).toArray ++ ids
  let s ← `(tactic| simp only [$[$xs:ident],*])
  let d : Lean.TSyntax `tactic := ⟨((s.raw.setKind `Lean.Parser.Tactic.dsimp).setArg 0 (Lean.mkAtom "dsimp")).modifyArg 4 fun o => o.modifyArg 0 fun a => a.modifyArg 1 fun l => Lean.mkNullNode (l.getArgs.extract 0 (2 * ns.length - 1))⟩
  `(tactic| ((try $d:tactic); (try $s:tactic)))
 | `(tactic| kpf_say ($H:ident, $q:ident, $hq:ident, $hh:ident, $ss:ident) al $G:ident $o) => `(tactic| (refine ⟨by decide, λ$q $hq => ?_⟩; have $hh : upd $H $q $o $q = some $o := ab; have $ss : aj $H (upd $H $q $o) := aj.upd0 $hq; generalize upd $H $q $o = $G at $hh:ident $ss:ident ⊢))
local macro_rules | `(tactic| ctx_has o) => `(tactic| first | exact Or.inl rfl | exact Or.inr rfl)
local macro_rules | `(tactic| ctx_has m) => `(tactic| first | decide | omega)
variable {P:Program} {w:World} {K:ge} {mg:Str->Option Value} {base:Heap}
abbrev cP:Stmt:=top 1
abbrev jD:Stmt:=top 2
abbrev fQ:Stmt:=top 4
abbrev Bs:Stmt:=top 6
abbrev iZ:Stmt:=top 7
abbrev eE:Stmt:=top 8
abbrev fP:Stmt:=top 9
abbrev dF:Stmt:=top 10
abbrev eJ:Stmt:=top 11
abbrev dG:Stmt:=top 12
abbrev eS:Stmt:=top 13
abbrev eG:Stmt:=top 14
abbrev fN:Stmt:=top 15
abbrev cW:Stmt:=top 17
abbrev jG:Stmt:=top 18
abbrev bY:Stmt:=top 19
abbrev du:Stmt:=top 20
abbrev fO:Stmt:=top 21
abbrev cI:Stmt:=top 22
abbrev jy:Stmt:=top 24
abbrev cx:Stmt:=top 25
abbrev gy:Stmt:=top 26
abbrev eK:Stmt:=top 27
abbrev dn:Stmt:=top 28
abbrev eD:Stmt:=top 29
abbrev de:Stmt:=top 30
abbrev bX:Stmt:=top 31
abbrev fD:Stmt:=top 33
abbrev ic:Stmt:=top 34
abbrev eN:Stmt:=top 35
abbrev iJ:Stmt:=top 36
abbrev eP:Stmt:=top 37
abbrev iA:Stmt:=top 38
abbrev fX:Stmt:=top 39
abbrev fi:Stmt:=top 40
abbrev fz:Stmt:=top 41
abbrev gK:Stmt:=top 42
abbrev eB:Stmt:=top 43
abbrev gN:Stmt:=top 44
abbrev eV:Stmt:=top 45
abbrev bv:Stmt:=top 46
abbrev fS:Stmt:=top 47
abbrev dU:Stmt:=top 48
abbrev fI:Stmt:=top 49
abbrev cu:Stmt:=top 50
abbrev bw:Stmt:=top 51
abbrev gB:Stmt:=top 52
abbrev dA:Stmt:=top 53
abbrev dh:Stmt:=top 54
abbrev cQ:Stmt:=top 55
abbrev db:Stmt:=top 56
abbrev gz:Stmt:=top 57
abbrev cO:Stmt:=top 58
abbrev io:Stmt:=top 59
abbrev fU:Stmt:=top 60
abbrev jo:Stmt:=top 61
theorem jV:aH ["wish"] ["wish"] (am cP):=by ctx_has c
theorem uV:aH ["wish","own","inner"] ["wish"] (am jD):=by ctx_has c
theorem ny:aH ["hall","rooms","cell"] ["hall"] (am fQ):=by ctx_has c
theorem Gm:aH ["leads","thing"] ["leads","thing"] (am Bs):=by ctx_has c
theorem xg:aH ["leads","things"] ["leads","things"] (am iZ):=by ctx_has c
theorem lK:aH ["turning","wish"] ["turning","wish"] (am eE):=by ctx_has c
theorem nU:aH ["turning","wish"] ["turning","wish"] (am fP):=by ctx_has c
theorem mt:aH ["turning"] ["turning"] (am dF):=by ctx_has c
theorem qg:aH ["turning","wish"] ["turning","wish"] (am eJ):=by ctx_has c
theorem mr:aH ["turning","wish"] ["turning","wish"] (am dG):=by ctx_has c
theorem qf:aH ["turning","wish","steps"] ["turning","wish"] (am eS):=by ctx_has c
theorem lv:aH ["turning","wish"] ["turning","wish"] (am eG):=by ctx_has c
theorem oI:aH ["turning","wish","inner"] ["turning","wish"] (am fN):=by ctx_has c
theorem iz:aH ["turning","wish"] ["turning","wish"] (am cW):=by ctx_has c
theorem vR:aH ["things"] ["things"] (am jG):=by ctx_has c
theorem iF:aH ["wish","places","rows"] ["wish"] (am bY):=by ctx_has c
theorem dW:aH ["wish"] ["wish"] (am du):=by ctx_has c
theorem nA:aH ["wishes","told","wish","plain"] ["wishes"] (am fO):=by ctx_has c
theorem gQ:aH ["turning","wishes","forms","found","wish","turned","plain"] ["turning","wishes","forms"] (am cI):=by ctx_has c
theorem uD:aH ["one","other"] ["one","other"] (am jy):=by ctx_has c
theorem jn:aH ["pair","wishes","names_in"] ["pair","wishes","names_in"] (am cx):=by ctx_has c
theorem vP:aH ["things","pairs","place","one"] ["things"] (am gy):=by ctx_has c
theorem qe:aH ["hall","rooms","forms","cells","found","pair","turning"] ["hall"] (am eK):=by ctx_has c
theorem kz:aH ["wish","values","row"] ["wish"] (am dn):=by ctx_has c
theorem lq:aH ["wish","inner"] ["wish"] (am eD):=by ctx_has c
theorem je:aH ["hall","places","place","cell","value"] ["hall"] (am de):=by ctx_has c
theorem og:aH ["hall","places","forms","values","found","pair","turning"] ["hall"] (am bX):=by ctx_has c
theorem sX:aH ["_law_script","_law_start","_law_cells","_law_number","_law_cell"] ["_law_script","_law_start"] (am fD):=by ctx_has c
theorem sx:aH ["_law_deal_here","_law_many","_law_number","_law_one","_law_other"] ["_law_deal_here","_law_many"] (am ic):=by ctx_has c
theorem qi:aH ["_law_deal_here","_law_many","_law_letters","_law_names_here","_law_k","_law_word","_law_place"] ["_law_deal_here","_law_many"] (am eN):=by ctx_has c
theorem sC:aH ["_law_deal_here","_law_value","_law_pool_here","_law_k"] ["_law_deal_here"] (am iJ):=by ctx_has c
theorem ql:aH ["_law_deal_here","_law_names_here","_law_pool_here","_law_most","_law_rooms_here","_law_name","_law_some_here"] ["_law_deal_here","_law_names_here","_law_pool_here","_law_most"] (am eP):=by ctx_has c
theorem sJ:aH ["_law_deal_here","_law_things","_law_least","_law_left","_law_found","_law_k"] ["_law_deal_here","_law_things","_law_least"] (am iA):=by ctx_has c
theorem nI:aH ["_law_deal_here","_law_low","_law_high","_law_one","_law_other"] ["_law_deal_here","_law_low","_law_high"] (am fX):=by ctx_has c
theorem vJ:aH ["_law_deal_here","_law_some_here","_law_rooms_here","_law_terms","_law_low","_law_high","_law_name","_law_a"] ["_law_deal_here","_law_some_here","_law_rooms_here"] (am fi):=by ctx_has c
theorem sw:aH ["_law_deal_here","_law_some_here","_law_pool_here","_law_rows_here","_law_k","_law_row"] ["_law_deal_here","_law_some_here","_law_pool_here"] (am fz):=by ctx_has c
theorem vY:aH ["_law_deal_here","_law_some_here","_law_pool_here","_law_many","_law_steps","_law_state","_law_value","_law_ends"] ["_law_deal_here","_law_some_here","_law_pool_here"] (am gK):=by ctx_has c
theorem tI:aH ["_law_deal_here","_law_names_here","_law_rooms_here","_law_pool_here","_law_sorts","_law_sort","_law_some_here","_law_low","_law_rest","_law_inner"] ["_law_deal_here","_law_names_here","_law_rooms_here","_law_pool_here","_law_sorts"] (am eB):=by ctx_has c
theorem qI:aH ["_law_deal_here","_law_things","_law_some_here","_law_others","_law_found","_law_k"] ["_law_deal_here","_law_things"] (am gN):=by ctx_has c
theorem qk:aH ["_law_leads_here","_law_things"] ["_law_leads_here","_law_things"] (am eV):=by ctx_has c
theorem gh:aH ["_law_turning","_law_wish_here","_law_names_here","_law_values","_law_inner","_law_found","_law_steps"] ["_law_turning","_law_wish_here"] (am bv):=by ctx_has c
theorem pU:aH ["_law_found","_law_thing","_law_key","_law_at"] ["_law_found","_law_thing","_law_key"] (am fS):=by ctx_has c
theorem oD:aH ["_law_things","_law_keys","_law_found","_law_k"] ["_law_things","_law_keys"] (am dU):=by ctx_has c
theorem nL:aH ["_law_things"] ["_law_things"] (am fI):=by ctx_has c
theorem jl:aH ["_law_wish_here","_law_rows_here"] ["_law_wish_here"] (am cu):=by ctx_has c
theorem gu:aH ["_law_deal_here","_law_wish_here","_law_cells","_law_steps","_law_places","_law_rows_here"] ["_law_deal_here","_law_wish_here"] (am bw):=by ctx_has c
theorem pY:aH ["_law_leads_here","_law_thing","_law_found"] ["_law_leads_here","_law_thing"] (am gB):=by ctx_has c
theorem jt:aH ["_law_deal_here","_law_names_here","_law_pool_here","_law_turning","_law_rooms_here","_law_name","_law_ring","_law_room","_law_after","_law_other","_law_found","_law_value"] ["_law_deal_here","_law_names_here","_law_pool_here","_law_turning"] (am dA):=by ctx_has c
theorem jc:aH ["_law_deal_here","_law_names_here","_law_rooms_here","_law_pool_here","_law_turning","_law_sorts","_law_wishes","_law_k","_law_wish_here","_law_forms"] ["_law_deal_here","_law_names_here","_law_rooms_here","_law_pool_here","_law_turning"] (am dh):=by ctx_has c
theorem kZ:aH ["_law_deal_here","_law_most","_law_names_here","_law_pool_here","_law_turning","_law_rooms_here","_law_wishes","_law_way_here","_law_cells"] ["_law_deal_here","_law_most"] (am cQ):=by ctx_has c
theorem lI:aH ["_law_hall","_law_turning","_law_rooms_here","_law_name","_law_room","_law_left","_law_wish_here","_law_other"] ["_law_hall","_law_turning"] (am db):=by ctx_has c
theorem qt:aH ["_law_things","_law_found","_law_k","_law_j"] ["_law_things"] (am gz):=by ctx_has c
theorem jU:aH ["_law_deal_here","_law_names_here","_law_pool_here","_law_rooms_here","_law_name","_law_wishes"] ["_law_deal_here"] (am cO):=by ctx_has c
theorem sv:aH ["_law_pair","_law_found"] ["_law_pair"] (am io):=by ctx_has c
theorem pF:aH ["_law_found","_law_due","_law_pair"] ["_law_found","_law_due"] (am fU):=by ctx_has c
theorem BG:aH ["_law_script","_law_deal_here","_law_hall","_law_values","_law_name","_law_room","_law_cells","_law_some_here","_law_found","_law_other"] ["_law_script"] (am jo):=by ctx_has c
structure Txt (w:World) (K:ge) (mg:Str->Option Value) (base:Heap):Prop where
 b_len:mg "len" = none
 b_max:mg "max" = none
 b_min:mg "min" = none
 b_sum:mg "sum" = none
 b_list:mg "list" = none
 b_reversed:mg "reversed" = none
 b_range:mg "range" = none
 b_isinstance:mg "isinstance" = none
 b_all:mg "all" = none
 b_any:mg "any" = none
 b_dict:mg "dict" = none
 b_tuple:mg "tuple" = none
 b_set:mg "set" = none
 b_int:mg "int" = none
 b_sorted:mg "sorted" = none
 b_bool:mg "bool" = none
 b_enumerate:mg "enumerate" = none
 bm:jm mg base
 at_TURNERS:mg "TURNERS" = some (.ref (qN mg "TURNERS"))
 tb_TURNERS:Ec w K (qN mg "TURNERS")
def qL (x:Str):Str:=x ++ ".<locals>." ++ "<lambda>"
def tabs:List (Addr × Addr × Str):=[(112,110,qL "plain_table"),(119,115,qL "plain_form")]
def br (m z n:Int) (l:Addr):List (Key × V):=[(e_ "mixed",.int m),(e_ "seed",.int z),(e_ "number",.int n),(e_ "left",.ref l)]
structure aD (H:Hp) (d l:Addr):Prop where
 ex : ∃(m sd n:Int) (xs:List Int),H d<*(br m sd n l)/\H l*>(xs.map V.int)/\0<=n/\(∀x∈xs,0<=x)/\0<=sd/\sd < 2147483648/\xs.length<=63
def But (d l:Addr) (H H':Hp):Prop:=∀b o,b≠d->b≠l->H b=some o->H' b=some o
theorem Gy : ¬ ((e_ (b_ "mixed"):Key)=e_ (b_ "seed")):=by decide+kernel
theorem Ga : ¬ ((e_ (b_ "mixed"):Key)=e_ (b_ "number")):=by decide+kernel
theorem Ie : ¬ ((e_ (b_ "mixed"):Key)=e_ (b_ "left")):=by decide+kernel
theorem Ct : ¬ ((e_ (b_ "seed"):Key)=e_ (b_ "number")):=by decide+kernel
theorem G2 : ¬ ((e_ (b_ "seed"):Key)=e_ (b_ "left")):=by decide+kernel
theorem Ey : ¬ ((e_ (b_ "number"):Key)=e_ (b_ "left")):=by decide+kernel
theorem rF (m z n:Int) (l:Addr):bg (br m z n l) (e_ "mixed")=some (.int m):=by unfold br;rw[bi rfl]
theorem ux (m z n:Int) (l:Addr):bg (br m z n l) (e_ "seed")=some (.int z):=by unfold br;rw[aS Gy,bi rfl]
theorem jq (m z n:Int) (l:Addr):bg (br m z n l) (e_ "number")=some (.int n):=by unfold br;rw[aS Ga,aS Ct,bi rfl]
theorem vn (m z n:Int) (l:Addr):bg (br m z n l) (e_ "left")=some (.ref l):=by unfold br;rw[aS Ie,aS G2,aS Ey,bi rfl]
theorem nV (m z n y:Int) (l:Addr):bj (br m z n l) (e_ "number") (.int y)=br m z y l:=by
 unfold bj;rw[eu,jq];simp only[isSome_some,if_true,br,i_,KF,if_neg Ga,if_neg Ct,if_neg (Jx Ey)]
theorem AF (m z n y:Int) (l:Addr):bj (br m z n l) (e_ "seed") (.int y)=br m y n l:=by
 unfold bj;rw[eu,ux];simp only[isSome_some,if_true,br,i_,KF,if_neg Gy,if_neg (Jx Ct),if_neg (Jx G2)]
theorem uN (m z n:Int) (l:Addr):(br m z n l).length < g0:=by show 4 < g0;decide
theorem dL {i j:Int} (z:0<=i) (h1:i < 4294967296):Ca i j:=.inl ⟨(),()⟩
def wA:Sp:=λvs H Q _=>∃(d l:Addr) (m:Int),vs=[.ref d,.int m]/\aD H d l/\0 < m/\m < 18446744073709551616/\∀(r:Int) (H':Hp),0<=r->r < m->aD H' d l->But d l H H'->Q (.int r) H'
theorem wj (m z n:Int) (l:Addr):dN [] (br m z n l)=br m z n l:=by
 have e1:bj ([]:List (Key × V)) (e_ (b_ "mixed")) (.int m)=[(e_ (b_ "mixed"),.int m)]:=dC _ kG
 have e2:bj [((e_ (b_ "mixed"):Key),V.int m)] (e_ (b_ "seed")) (.int z)=[(e_ (b_ "mixed"),.int m),(e_ (b_ "seed"),.int z)]:=dC _ (by rw[aS Gy,kG])
 have Y:bj [((e_ (b_ "mixed"):Key),V.int m),(e_ (b_ "seed"),.int z)] (e_ (b_ "number")) (.int n)=[(e_ (b_ "mixed"),.int m),(e_ (b_ "seed"),.int z),(e_ (b_ "number"),.int n)]:=dC _ (by rw[aS Ga,aS Ct,kG])
 have U:bj [((e_ (b_ "mixed"):Key),V.int m),(e_ (b_ "seed"),.int z),(e_ (b_ "number"),.int n)] (e_ (b_ "left")) (.ref l)=br m z n l:=dC _ (by rw[aS Ie,aS G2,aS Ey,kG])
 show bj (bj (bj (bj ([]:List (Key × V)) (e_ (b_ "mixed")) (.int m)) (e_ (b_ "seed")) (.int z)) (e_ (b_ "number")) (.int n)) (e_ (b_ "left")) (.ref l)=_
 rw[e1,e2,Y,U]
theorem vL (ns:List Int) (lo hi:Option Int) : ∃ms:List Int,dM (ns.map V.int) lo hi=ms.map V.int/\ms.length<=ns.length:=by
 unfold dM;refine⟨(ns.drop (HT.sIx (ns.map V.int).length 0 lo)).take (HT.sIx (ns.map V.int).length (ns.map V.int).length hi - HT.sIx (ns.map V.int).length 0 lo),by simp[map_take,map_drop],?_⟩
 rw[pk,D_];omega
theorem zY {x:V} (h:(ms.map V.int)[i]? = some x) : ∃v,x = .int v:=by
 rw[e9] at h;cases e:ms[i]? with
 | none=>rw[e] at h;cases h
 | some z=>rw[e] at h;exact⟨z,(f_ h).symm⟩
def EK (K:ge):Sp:=λvs H Q _=>∃(a:Addr) (ns:List Int) (st:Int),vs=[.ref a,.int st]/\SqL K H a (ns.map V.int)/\ns.length<=63/\0<=st/\st<=63/\∀(d l:Addr) (H':Hp),H d=none->H l=none->aD H' d l->aj H H'->Q (.ref d) H'
theorem aR {m:Int} {Q:VK} {E:XK} (D:aD H d l) (z:0 < m) (U:m < 18446744073709551616) (h : ∀(r:Int) (H':Hp),0<=r->r < m->aD H' d l->But d l H H'->Q (.int r) H'):wA [.ref d,.int m] H Q E:=⟨d,l,m,rfl,D,z,U,h⟩
theorem But.refl (H:Hp):But d l H H:=λ_ _ _ _ e=>e
theorem But.trans (a:But d l H H1) (b:But d l H1 H2):But d l H H2:=λc o h1 h2 e=>b c o h1 h2 (a c o h1 h2 e)
theorem But.new (a:But d l H H1) (z:H1 p=none):But d l H (upd H1 p o):=λc u h1 h2 e=>by
 have e1:=a c u h1 h2 e;rw[ai (ap e1 z)];exact e1
theorem But.same (a:But d l H H1) (s:aj H1 H2):But d l H H2:=λc u h1 h2 e=>s c u (a c u h1 h2 e)
theorem aD.ne (D:aD H d l) (z:H p=none):p≠d/\p≠l:=by
 obtain⟨m,Y,n,xs,U,hl,_⟩:=D.ex;exact⟨(ap U z).symm,(ap hl z).symm⟩
theorem aD.same (D:aD H d l) (s:aj H H'):aD H' d l:=by
 obtain⟨m,z,n,xs,U,hl,r⟩:=D.ex;exact⟨m,z,n,xs,s _ _ U,s _ _ hl,r⟩
theorem aD.new (D:aD H d l) (z:H p=none):aD (upd H p o) d l:=D.same (aj.upd0 z)
theorem aD.put (D:aD H d l) (h1:p≠d) (h2:p≠l):aD (upd H p o) d l:=by
 obtain⟨m,z,n,xs,U,hl,r⟩:=D.ex;exact⟨m,z,n,xs,by rw[ai h1.symm];exact U,by rw[ai h2.symm];exact hl,r⟩
theorem But.put (a:But d l H H1) (z:H p=none):But d l H (upd H1 p o):=λc u h1 h2 e=>by
 rw[ai (ap e z)];exact a c u h1 h2 e
theorem But.free (a:But d l H H1) (D:aD H1 d l) (z:H1 p=none):H p=none:=by
 obtain⟨h1,h2⟩:=D.ne z;cases e:H p with
 | none=>rfl
 | some o=>rw[a p o h1 h2 e] at z;cases z
theorem iP {xs:List α} {i:Int} (z:0<=i) (h1:i < (xs.length:Int)) : ∃v,atI xs i=some v/\v∈xs:=by
 obtain⟨n,rfl⟩:=Jt z;have hn:n < xs.length:=()
 exact⟨xs[n],aQ (by simp[hn]),A_ hn⟩
theorem jR {m:Int} {Q:VK} {E:XK} (D:aD H d l) (z:H p=none) (m0:0 < m) (m1:m < 18446744073709551616) (hm:m=(vs.length:Int)) (h : ∀(r:Int) (v:V) (H':Hp),v∈vs->atI vs r=some v->aD H' d l->But d l H H'->H' p*>vs->Q (.int r) H'):wA [.ref d,.int m] (upd H p (.lst vs)) Q E :=
 aR (D.new z) m0 m1 λr H' Z r1 D' U=>by
  obtain⟨v,e,Y⟩:=iP (xs:=vs) Z ()
  exact h r v H' Y e D' (((But.refl H).new z).trans U) (U p _ (D.ne z).1 (D.ne z).2 ab)
abbrev Dz0:=Fn P w K mg base "_law_draw" 1 ["_law_deal_here","_law_many"] (wA)
theorem tS (T:Txt w K mg base) (L:FnL K mg "_law_draw" ic ["_law_deal_here","_law_many"]) : @Dz0 P w K mg base:=by
 ctx_has z sx <;> obtain⟨d,l,m,rfl,D,m0,m1,k⟩:=h
 .rfl
 refine⟨_,(af (fZ JV (PW.pt (gL (ay aP (dY hu (pvM 0) aw) ae) (gL (ay vg (aF rA T.b_len (aa (dY hu (pvM 0) aw) ac)) ae) (gC (ay aP (dY hu (pvM 0) aw) ae))))) (ag (fH hu (pvM 0) aw (G1 PySem.F.slot_list_pop PySem.F.type_list_pop G3 (dY hu (pvM 0) aw)) rfl)))
  (af (aB 2 (dY hu (pvM 0) aw))
  (af (aJ (ay vg (pvM 2) ae) (af (fH hu (pvM 0) aw (aO AU (pvM 2) (pvM 1)) rfl)
  (ag (aC (aO gH (pvM 2) (pvM 1))))) aA)
  (af (aB 3 (aO gH (aO bq (aO iq (dY hu (pvM 0) aw) ae) ae) ae))
  (af (fH hu (pvM 0) aw (aO gH (aO bq (aO iq (pvM 3) ae) ae) ae) rfl)
  (af (aB 4 (aO gH (aO iq (dY hu (pvM 0) aw) (dY hu (pvM 0) aw)) ae))
  (ag (aC (aO gH (aO bq (aO iq (aO gH (aO iq (pvM 3) (pvM 3)) ae) ae) (pvM 4)) (pvM 1)))))))))),?_⟩
 obtain⟨Y,sd,n,xs,hd,hl,n0,hx,s0,s1,ah⟩:=D.ex;have dl:d≠l:=bA hd hl (by intro z;cases z)
 refine gb (λμ σ H'=>∃(n:Int) (xs:List Int),σ=[-d,some (.int m),none,none,none]/\H' d<*(br Y sd n l)/\H' l*>(xs.map V.int)/\0<=n/\(∀x∈xs,0<=x)/\xs.length<=63/\But d l H H'/\μ=xs.length)
  (λσ H'=>∃(n:Int) (xs:List Int),σ=[-d,some (.int m),none,none,none]/\H' d<*(br Y sd n l)/\H' l*>(xs.map V.int)/\0<=n/\(∀x∈xs,0<=x)/\xs.length<=63/\But d l H H')
  ⟨_,n,xs,rfl,hd,hl,n0,hx,ah,λb o _ _ e=>e,rfl⟩ ?_ ?_
 .rintro R hR μ σ H1 ⟨n1,xs1,rfl,hd1,hl1,n01,hx1,hlen1,bt,rfl⟩
  have hr:=hR _ _ ⟨n1,xs1,rfl,hd1,hl1,n01,hx1,hlen1,bt⟩;ctx_has v hd1 hl1 jq vn rF
  refine cN (λh1=>?_) (λ_=>hr)
  refine cN (λh2=>?_) (λ_=>hr)
  refine cN (λh3=>?_) (λ_=>hr)
  rcases List.eq_nil_or_concat xs1 with rfl | ⟨ys,z,rfl⟩
  .simp at h2
  refine⟨λσ' H'=>σ'=[-d,some (.int m),none,none,none]/\H'=upd (upd H1 l (.lst (ys.map V.int))) d (.dK (br Y sd z l)),?_,V.int z,by simp,br Y sd n1 l,by rw[ai dl];exact hd1,uN _ _ _ _,by rw[nV];simp⟩
  rintro _ _ ⟨rfl,rfl⟩
  refine⟨ys.length,by simp,rfl,z,ab,ys,by rw[ai dl.symm,ab],hx1 z (by simp),λx hx=>hx1 x (by simp[hx]),by simp at hlen1;omega,λb o h1 h2 e=>?_,rfl⟩
  rw[ai h1,ai h2];exact bt b o h1 h2 e
 .rintro σ H1 ⟨n1,xs1,rfl,hd1,hl1,n01,hx1,hlen1,bt⟩
  ctx_has v hd1 hl1 jq vn rF ux uN nV AF ab
  have ad : ∀(r U n':Int),0<=r->r < m->0<=n'->0<=U->U < 2147483648->Q (.int r) (upd H1 d (HO.dK (br Y U n' l))):=λr U n' r0 r1 ak h0 h1 =>
   k r _ r0 r1 ⟨Y,U,n',xs1,ab,by rw[ai dl.symm];exact hl1,ak,hx1,h0,h1,hlen1⟩ λb o h1 h2 e=>by rw[ai h1];exact bt b o h1 h2 e
  refine cN (λh1=>?_) (λh1=>?_)
  .exact⟨⟨m0,m1⟩,m0,ad _ _ _ (Int.emod_nonneg _ ()) (Int.emod_lt_of_pos _ m0) (Int.ediv_nonneg () ()) s0 s1⟩
  .generalize hone:(sd * 48271+7919) % 2147483647=one
   have o0:0<=one:=()
   have o1:one < 2147483647:=()
   generalize am:(one * 40692+104729) % 2147483399=Z;have p0:0<=Z:=()
   have p1:Z < 2147483399:=()
   have q0:=Int.emod_nonneg (one * one) (show(2147483629:Int)≠0 by decide)
   have q1:=Int.emod_lt_of_pos (one * one) (show(0:Int) < 2147483629 by decide)
   exact⟨dL s0 (),∅,dL o0 (),∅,dL p0 (),∅,dL o0 (),∅,dL q0 (),m0,
    ad _ _ _ (Int.emod_nonneg _ ()) (Int.emod_lt_of_pos _ m0) n01 p0 ()⟩
abbrev Dz1:=Fn P w K mg base "_law_deal" 1 ["_law_script","_law_start"] (EK K)
theorem tO (T:Txt w K mg base) (L:FnL K mg "_law_deal" fD ["_law_script","_law_start"]) : @Dz1 P w K mg base:=by
 ctx_has z sX <;> obtain⟨a,ns,st,rfl,hS,ay,a2,a1,k⟩:=h
 .rfl
 refine⟨_,(af (bW 2 (N:=["_law_cell"]) (nt:=1) (js:=[]) (aE ["_law_script","_law_start","_law_cells","_law_number","_law_cell"] (am fD).names) (qV K (bI Id (pvM 0) (bP (pvM 1)) (bP ae))) (az 0) aL aU (aF (zA rfl) T.b_max (aa (pvM 0) (aa (aO gx ae (pvM 0)) ac))))
  (af (aB 3 (aO bq ae (pvM 1)))
  (af (bc (dg (K:=K) rfl (pvM 2)) (az 4) (ag (aB 3 (aO gH (aO bq (aO iq (pvM 3) ae) (pvM 4)) ae))))
  (ag (aC (yu (gj aw (aO gH (aF (xJ rfl) T.b_sum (aa (bI Id (pvM 0) cb (bP ae)) ac)) ae) (gj aw (pvM 3) (gj aw ae (gj aw (xK rfl rfl T.b_list rfl T.b_reversed (pvM 2)) yp)))) rfl rfl (by nofun) ∅)))))),?_⟩
 ctx_has v
 refine⟨_,hS,λp hp=>⟨_,ab,λD hD=>?_⟩⟩
 have pD:D≠p:=by rintro rfl;rw[ab] at hD;cases hD
 obtain⟨ms,av,a0⟩:=vL ns (some st) (some 63);rw[av] at hD ⊢;rw[ai pD] at hD;refine bL bz (λi ys H2=>∃cs:List Int,ys=cs.map V.int/\cs.length=i/\(∀x∈cs,0<=x)/\H2 p*>(ms.map V.int)/\H2 D*>ys/\aj H H2)
  ⟨[],rfl,rfl,by simp,by rw[ai pD.symm,ab],ab,(aj.upd0 hp).upd_new (by rw[ai pD];exact hD)⟩ (λi ys H2 ak=>by obtain⟨_,_,_,_,h,_⟩:=ak;exact(.of h)) ?_ ?_
 .rintro i x ys H2 hi Y ⟨cs,rfl,rfl,hc,h1,h2,sm⟩
  obtain⟨v,rfl⟩:=zY Y;ctx_has v h2
  have hi:cs.length < 63:=by simp at hi;omega
  refine⟨by simp;exact au (),cs++[if 0 - v > v then 0 - v else v],by simp,by simp,λx Y=>?_,by rw[ai pD.symm];exact h1,ab,λb o e=>?_⟩
  .rcases j6.mp Y with q | q
   .exact hc x q
   .rw[g7.mp q];split <;> omega
  .rw[ai (ap e hD)];exact sm b o e
 .rintro ys H2 ⟨cs,rfl,hc,hpos,h1,h2,sm⟩
  have aq:cs.length<=63:=by simp at hc;omega
  ctx_has v h2
  refine bK bz (λi σ H3=>∃(z:Int) (v:Option V),σ=[-a,some (.int st),-D,some (.int z),v]/\0<=z/\z < 2147483648/\H3=H2)
   ⟨_,_,rfl,(),(),rfl⟩ (λi σ H3 ah=>by obtain⟨_,_,_,_,_,h⟩:=ah;exact(by rw[h];exact .of h2)) ?_ ?_
  .rintro i x σ H3 hi Y ⟨z,v,rfl,z0,z1,rfl⟩
   obtain⟨y,rfl⟩:=zY Y;ctx_has v
   exact⟨dL z0 (),∅,(),()⟩
  .rintro σ H3 ⟨z,v,rfl,z0,z1,rfl⟩
   ctx_has v h2 DB
   intro d hd;refine⟨_,(sm.upd_new hd).seq hS,λp2 Z=>?_⟩
   have ad:p2≠d:=by rintro rfl;rw[ab] at Z;cases Z
   have U:H3 p2=none:=by rwa [ai ad] at Z
   obtain⟨xs,ao,_⟩:=vL ns none (some 1);rw[ao];have ar:D≠p2:=ap h2 U
   have ax:D≠d:=ap h2 hd
   refine⟨xs,.of ab,∅,_,by rw[ai ar,ai ax];exact h2,λl hl=>?_⟩
   have l1:l≠p2:=by rintro rfl;rw[ab] at hl;cases hl
   have l2:l≠d:=by rintro rfl;rw[ai ad.symm,ab] at hl;cases hl
   have an:H3 l=none:=by rwa [ai l1,ai l2] at hl
   refine⟨by rw[ai l2.symm,ai ad.symm,ab],br (xs.sum % 2) z 0 l,rfl,by show 4<=15;decide,?_⟩
   rw[wj];refine k d l _ (sm.free hd) (sm.free an) ⟨_,z,0,cs.reverse,ab,by rw[ai l2,ab,List.map_reverse],(),λx Y=>hpos x (List.mem_reverse.mp Y),z0,z1,by simpa using aq⟩ λb o e=>?_
   have e3:=sm b o e;rw[ai (ap e3 hd),ai (ap e3 an),ai (ap e3 U),ai (ap e3 hd)];exact e3
def Dm:Sp:=λvs H Q _=>∃(d l:Addr) (m:Int),vs=[.ref d,.int m]/\aD H d l/\0<=m/\m<=20/\∀(p:Addr) (ws:List Str) (H':Hp),H p=none->eO ws->ws.length=m.toNat->H' p*>(ws.map V.str)->aD H' d l->But d l H H'->Q (.ref p) H'
theorem Ba {z:Str} (Z:cD z) {P:Str->Prop} (h:P (pT z)):z.length<=g0/\∃c,atI z.cps.toList 0=some c/\∃i rest,Kr (b_ "abcdefghijklmnopqrstuvwxyz") { cps := #[c] } 0 (b_ "abcdefghijklmnopqrstuvwxyz").length 1=i :: rest/\(0:Int) < 26 /\
  (b_ "abcdefghijklmnopqrstuvwxyz").length<=g0/\∃c,atI (b_ "abcdefghijklmnopqrstuvwxyz").cps.toList (((i:Nat)+1:Int) % 26)=some c/\z.length<=g0/\(Str.mk #[c]).length+(JP z (some 1) none).length<=g0/\P ((Str.mk #[c])++JP z (some 1) none):=by
 obtain⟨c,cs,e,hc,aa,hl⟩:=Z.cons;have U:z.length<=g0:=ot (au (le_trans Z.le ∅))
 have hs:=KL z (some 1) none;have hw:=Z.le;refine⟨U,c,by rw[e];exact il _ _,_,_,qD hc,∅,lZ,_,nZ () (),U,ot (au (by show 1+_<=1000;omega)),?_⟩
 have Y:=hc;simp only[cU,mx,decide_eq_true_eq] at Y;have hl1:z.length=cs.length+1:=by rw[<- jY,e];rfl
 have key:(Str.mk #[97+((((c - 97:Nat):Int)+1) % 26).toNat])++JP z (some 1) none=pT z:=by
  apply C3
  rw[jB,lx,e,hl1];have e1:97+((((c - 97:Nat):Int)+1) % 26).toNat=uP c:=by unfold uP;omega
  have e2:HT.sIx (cs.length+1) 0 (some 1)=1:=by
   show(if (1:Int) < 0 then((1:Int)+((cs.length+1:Nat):Int)).toNat else min (1:Int).toNat (cs.length+1))=1
   rw[if_neg ∅]
   show min 1 (cs.length+1)=1
   omega
  rw[e1,e2,HT.sIx_none];simp[pT,e,C0]
 rw[key];exact h
theorem gW {Dn:mH} {Z Y:Option V} {wd:Str} (hw:cD wd) (ag:ws.length<=20) (hp:H p*>(ws.map V.str))
  (ad : ∀(U:Str) (H':Hp),cD U->U∉ws->U∉eC->aj H H'->Dn.nx [-d,v1,some (.str (b_ "abcdefghijklmnopqrstuvwxyz")),-p,Z,some (.str U),Y] H') :
  xo
   (tOr (uW (tOp (zg false) (fe 5) (fe 3)))
    (uW (tOp (zg false) (fe 5) (Co (ko (tC (V.str "in")) (ko (tC (V.str "from")) (ko (tC (V.str "to")) (ko (tC (V.str "end")) wx))))))))
   (xb (tOp rCS (tOp rIS (fe 2) (tOp (rI (λx j=>0 < j) λi j=>V.int (i % j)) (tOp (rI0 λi j=>V.int (i+j)) (tMS mU (fe 2) (ko (tOp rIS (fe 5) (tC (V.int 0))) wx)) (tC (V.int 1))) (tC (V.int 26))))
     (tSl C2 (fe 5) (yr (tC (V.int 1))) mR)) (fh 5))
   Dn [-d,v1,some (.str (b_ "abcdefghijklmnopqrstuvwxyz")),-p,Z,some (.str wd),Y] H:=by
 obtain⟨af,h0⟩:=zP hw (F:=ws++eC) (by simp[eC];omega)
 refine gb (λμ σ H'=>∃U:Str,σ=[-d,v1,some (.str (b_ "abcdefghijklmnopqrstuvwxyz")),-p,Z,some (.str U),Y]/\cD U/\pL μ U∉ws++eC/\aj H H')
  (λσ H'=>∃U:Str,σ=[-d,v1,some (.str (b_ "abcdefghijklmnopqrstuvwxyz")),-p,Z,some (.str U),Y]/\cD U/\U∉ws/\U∉eC/\aj H H')
  ⟨af,wd,rfl,hw,h0,aj.refl _⟩ ?_ ?_
 .rintro R hR μ σ H1 ⟨w1,rfl,n1,f1,sm⟩
  have ae:=sm _ _ hp;have step : ∀H2,aj H H2->w1∈ws++eC->∀ σ' H',(σ'=[-d,v1,some (.str (b_ "abcdefghijklmnopqrstuvwxyz")),-p,Z,some (.str (pT w1)),Y]/\H'=H2)->∃m',m' < μ/\∃U:Str,σ'=[-d,v1,some (.str (b_ "abcdefghijklmnopqrstuvwxyz")),-p,Z,some (.str U),Y]/\cD U/\pL m' U∉ws++eC/\aj H H':=λH2 aa ac=>by
   rintro _ _ ⟨rfl,rfl⟩
   cases μ with
   | zero=>exact absurd ac f1
   | succ μ=>exact⟨μ,Nat.lt_succ_self _,pT w1,rfl,Cj n1,f1,aa⟩
  ctx_has v ae
  refine⟨rfl,lr _,?_⟩
  rw[kS];refine cN (λh=>?_) (λh=>?_)
  .exact⟨_,step H1 sm (t6 _ (by simpa using h)),Ba n1 (P:=λz=>[some (V.ref d),v1,some (.str (b_ "abcdefghijklmnopqrstuvwxyz")),-p,Z,some (.str z),Y]=[some (V.ref d),v1,some (.str (b_ "abcdefghijklmnopqrstuvwxyz")),-p,Z,some (.str (pT w1)),Y]/\H1=H1) ⟨rfl,rfl⟩⟩
  .refine⟨∅,λq hq=>⟨_,ab,rfl,by decide+kernel,?_⟩⟩
   have aa:aj H (upd H1 q (.lst (eC.map V.str))):=sm.upd_new hq
   show(if inV (V.str w1) (eC.map V.str)=true then _ else _)
   rw[kS];refine cN (λh2=>?_) (λh2=>?_)
   .exact⟨_,step _ aa (uj _ (by simpa using h2)),Ba n1 (P:=λz=>[some (V.ref d),v1,some (.str (b_ "abcdefghijklmnopqrstuvwxyz")),-p,Z,some (.str z),Y]=[some (V.ref d),v1,some (.str (b_ "abcdefghijklmnopqrstuvwxyz")),-p,Z,some (.str (pT w1)),Y]/\_=_) ⟨rfl,rfl⟩⟩
   .exact hR _ _ ⟨w1,rfl,n1,by simpa using h,by simpa using h2,aa⟩
 .rintro σ H1 ⟨w1,rfl,n1,f1,f2,sm⟩
  exact ad w1 H1 n1 f1 f2 sm
abbrev Dz2:=Fn P w K mg base "_law_names" 2 ["_law_deal_here","_law_many"] (Dm)
theorem qv (T:Txt w K mg base) (L:FnL K mg "_law_names" eN ["_law_deal_here","_law_many"]) (Fa : @Dz0 P w K mg base) : @Dz2 P w K mg base:=by
 ctx_has z qi <;> obtain⟨d,l,m,rfl,D,m0,m1,k⟩:=h
 .rfl
 refine⟨_,(af (aB 2 aw)
  (af (aB 3 (ba ac))
  (af (bc (ci rfl T.b_range (aa (pvM 1) ac)) (az 4) (af (aB 5 (DX PySem.F.slot_str_join PySem.F.type_str_join CI aw (aa (aW (N:=["_law_j","_law_letters","_law_deal_here"]) (nt:=1) (js:=[2,0]) (aE ["_law_deal_here","_law_many","_law_letters","_law_names_here","_law_k","_law_word","_law_place"] (am eN).names) (ci rfl T.b_range (aa (aO bq ae (ah Fa (aa (pvM 0) (aa ae ac)))) ac)) (az 0) aL aU (ak Cm (pvM 1) (ah Fa (aa (pvM 2) (aa ae ac))))) ac)))
  (af (aJ (PW.pt (gL (ay vg (pvM 4) ae) (gC (ay aP (ah Fa (aa (pvM 0) (aa ae ac))) ae)))) (af (aB 6 (ah Fa (aa (pvM 0) (aa (aF zd T.b_len (aa (ak dE (pvM 3) (ji fW ae)) ac)) ac))))
  (ag (aB 5 (aO tT (aO tT (bI wS (ak dE (pvM 3) (ji fW ae)) cb (bP (pvM 6))) (ak Cm (pvM 5) ae)) (bI wS (ak dE (pvM 3) (ji fW ae)) (bP (aO bq (pvM 6) ae)) cb))))) aA)
  (af (fZ JV (PW.pt (kM (ay Br (pvM 5) (pvM 3)) (gY (ay Br (pvM 5) (ba (aa aw (aa aw (aa aw (aa aw ac))))))))) (ag (aB 5 (aO tT (ak Cm (pvM 2) (aO gH (aO bq (DX PySem.F.slot_str_index PySem.F.type_str_index AA (pvM 2) (aa (ak Cm (pvM 5) ae) ac)) ae) ae)) (bI wS (pvM 5) (bP ae) cb)))))
  (ag (bu (cA l5 l7 bo (pvM 3) (aa (pvM 5) ac))))))))
  (ag (aC (pvM 3)))))),?_⟩
 ctx_has v
 refine⟨∅,λp hp=>⟨(),(),?_⟩⟩
 have Z:=D.ne hp;refine bK bM (λi σ H'=>∃(ws:List Str) (vk vw vp:Option V),σ=[-d,some (.int m),some (.str (b_ "abcdefghijklmnopqrstuvwxyz")),-p,vk,vw,vp]/\eO ws/\ws.length=i/\H' p*>(ws.map V.str)/\aD H' d l/\But d l H H')
  ⟨[],_,_,_,rfl,.nil,rfl,ab,D.new hp,(But.refl H).new hp⟩ (λ_ _ _ _=>ow) ?_ ?_
 .rintro i x σ H2 hi hx ⟨ws,vk,vw,vp,rfl,ok,hlen,h2,D2,B2⟩
  rw[aK] at hi;rw[er hi] at hx;obtain rfl:=f_ hx
  ctx_has v
  refine aR D2 ∅ ∅ λr H3 r0 r1 D3 B3=>?_
  ctx_has v
  refine⟨(),(),λq hq=>?_⟩
  have h3:=B3 p _ Z.1 Z.2 h2;have nq:=D3.ne hq;have ax:p≠q:=ap h3 hq
  refine bL bM (λj ys H4=>∃cs:List Nat,ys=cs.map (λc=>V.str ⟨#[c]⟩)/\cs.length=j/\(∀c∈cs,cU c=true)/\H4 q*>ys/\H4 p*>(ws.map V.str)/\aD H4 d l/\But d l H H4)
   ⟨[],rfl,rfl,by simp,ab,by rw[ai ax];exact h3,D3.new hq,(B2.trans B3).new hq⟩ (λ_ _ _ _=>ow) ?_ ?_
  .rintro j x ys H4 hj hx ⟨cs,rfl,hcl,hcs,h4,h4p,D4,B4⟩
   ctx_has v
   rw[aK] at hj;refine aR D4 ∅ ∅ λr5 H5 av a0 D5 B5=>?_
   have h5:=B5 q _ nq.1 nq.2 h4;have a3:=B5 p _ Z.1 Z.2 h4p;refine⟨r5,rfl,lZ,_,nZ av a0,h5,by simp;exact au (),cs++[97+r5.toNat],by simp,by simp;omega,λc hc=>?_,ab,by rw[ai ax];exact a3,D5.put nq.1 nq.2,(B4.trans B5).put (B2.free D2 ((B3.free D3 hq)))⟩
   rcases j6.mp hc with z | z
   .exact hcs c z
   .rw[g7.mp z]
    unfold cU;rw[mx,decide_eq_true_eq,decide_eq_true_eq];omega
  .rintro ys H4 ⟨cs,rfl,hcl,hcs,h4,h4p,D4,B4⟩
   rw[aK] at hcl;ctx_has v
   refine⟨cs.map λc=>⟨#[c]⟩,by rw[h4];simp,by rw[Ae,show(b_ "").length=0 by decide+kernel];omega,?_⟩
   have hj:=xn cs;generalize Txt.join (b_ "") (cs.map λc=>Str.mk #[c])=wd at hj ⊢
   obtain⟨c0,cs',rfl⟩ : ∃c0 cs',cs=c0 :: cs':=by
    cases cs with
    | nil=>simp at hcl;omega
    | cons a b=>exact⟨a,b,rfl⟩
   have ao:cD wd:=.of hj (hcs c0 (by simp)) (λx hx=>hcs x (by simp[hx])) (by simp at hcl;omega)
   have ad : ∀{w:Str},cD w->w.length<=g0:=λh=>ot (au (le_trans h.le ∅))
   have an:ws.length<=20:=()
   have aq : ∀(U:Str) (H5 H6:Hp),aD H5 d l->But d l H H5->aj H5 H6->cD U->U∉ws->U∉eC->∃ws',eO ws'/\ws'.length=i+1/\upd H6 p (HO.lst (ws.map V.str++[V.str U])) p=some (HO.lst (ws'.map V.str))/\aD (upd H6 p (HO.lst (ws.map V.str++[V.str U]))) d l/\But d l H (upd H6 p (HO.lst (ws.map V.str++[V.str U]))) :=
    λU H5 H6 D5 B5 Y n f1 f2=>⟨ws++[U],ok.snoc n f1 f2,by simp[hlen],by rw[ab];simp,(D5.same Y).put Z.1 Z.2,(B5.same Y).put hp⟩
   refine cN (λh=>?_) (λh=>?_)
   .refine aR D4 ∅ ∅ λr5 H5 av a0 D5 B5=>?_
    ctx_has v
    have h5:=B5 p _ Z.1 Z.2 h4p;refine cN (λh6=>?_) (λh6=>?_)
    .rcases List.eq_nil_or_concat ws with rfl | ⟨ws0,z,rfl⟩
     .simp at hlen;omega
     have nz:cD z:=ok.nm z (by simp)
     refine⟨_,h5,_,by rw[List.concat_eq_append,ii];exact nY _ _,z,rfl,ad nz,?_⟩
     refine aR D5 (by have:=nz.pos;omega) (by have:=nz.le;omega) λr7 H7 a2 a1 D7 B7=>?_
     have h7:=B7 p _ Z.1 Z.2 h5;ctx_has v h7
     have ar:atI (J0 V.str (ws0.concat z)) (-1)=some (V.str z):=by rw[List.concat_eq_append,ii];exact nY _ _
     have l1:=KL z none (some r7);have l2:=KL z (some (r7+1)) none;have l3:=nz.le;refine⟨_,ar,z,rfl,ad nz,ad ao,c0,by rw[hj];exact il _ _,ot (au (by show _+1<=1000;omega)),_,ar,z,rfl,ad nz,ot (au (by rw[pB];show _+1+_<=1000;omega)),?_⟩
     refine gW (C7 nz (hcs c0 (by simp)) a2 a1) an h7 λU H8 n f1 f2 Y=>?_
     have h8:=Y _ _ h7;ctx_has v h8
     exact⟨by simp only[a_];exact au (),aq U H7 H8 D7 ((B4.trans B5).trans B7) Y n f1 f2⟩
    .refine gW ao an h5 λU H6 n f1 f2 Y=>?_
     have h6:=Y _ _ h5;ctx_has v h6
     exact⟨by simp;exact au (),aq U H5 H6 D5 (B4.trans B5) Y n f1 f2⟩
   .refine gW ao an h4p λU H6 n f1 f2 Y=>?_
    have h6:=Y _ _ h4p;ctx_has v h6
    exact⟨by simp;exact au (),aq U H4 H6 D4 B4 Y n f1 f2⟩
 .rintro σ H2 ⟨ws,vk,vw,vp,rfl,ok,hlen,h2,D2,B2⟩
  ctx_has v
  rw[aK] at hlen;exact k p ws H2 hp ok hlen h2 D2 B2
def cJ (H:Hp) (kvs:List (Key × V)) (cs:List Str) (rm:Str->List Int):Prop:=∀c∈cs,∃a,bg kvs (e_ c)=some (.ref a)/\H a>>((rm c).map V.int)
structure GQ (H H':Hp):Prop where
 tup : ∀a vs,H a>>vs->H' a>>vs
 ins : ∀a C dx fs,H a=some (.ins C dx fs)->H' a=some (.ins C dx fs)
theorem But.keepTI (B:But d l H H') (D:aD H d l):GQ H H':=by
 obtain⟨m,Y,n,xs,U,hl,_⟩:=D.ex;exact⟨λa vs e=>B a _ (bA e U (by intro z;cases z)) (bA e hl (by intro z;cases z)) e,λa C dx fs e=>B a _ (bA e U (by intro z;cases z)) (bA e hl (by intro z;cases z)) e⟩
theorem rT {k:Key} {v:V} (h : ∀x∈kvs,oE x.2=true) (U:oE v=true) : ∀x∈bj kvs k v,oE x.2=true:=by
 intro x z;unfold bj at z
 split at z
 .obtain⟨y,hy,rfl⟩:=e7.mp z
  split
  .exact U
  .exact h y hy
 .rcases j6.mp z with q | q
  .exact h x q
  .rw[g7.mp q];exact U
theorem cJ.same {cs:List Str} (h:cJ H kvs cs rm) (s : ∀a vs,H a>>vs->H' a>>vs):cJ H' kvs cs rm:=λc z=>by
 obtain⟨a,e1,e2⟩:=h c z;exact⟨a,e1,s _ _ e2⟩
def pW {α:Type} (f:Str->α) (c:Str) (v:α):Str->α:=λx=>if x=c then v else f x
def DC:Sp:=λvs H Q _=>∃(d l:Addr),vs=[.ref d]/\aD H d l/\∀(p:Addr) (ns:List Int) (H':Hp),H p=none->ns.length=5->ns.Pairwise (· < ·)->(∀x∈ns,-1000000<=x/\x<=1000000)->H' p*>(ns.map V.int)->aD H' d l->But d l H H'->Q (.ref p) H'
def As:Sp:=λvs H Q _=>∃(d l a p:Addr) (ws:List Str) (ns:List Int) (m:Int),vs=[.ref d,.ref a,.ref p,.int m]/\aD H d l/\(a≠d/\a≠l)/\(p≠d/\p≠l)/\H a*>(ws.map V.str)/\ws.length<=45/\H p*>(ns.map V.int)/\ns.length=5/\ns.Pairwise (· < ·)/\1<=m/\m<=20 /\
 ∀(r:Addr) (kvs:List (Key × V)) (rm:Str->List Int) (H':Hp),H r=none->H' r<*kvs->cJ H' kvs ws rm->(∀c∈ws,rm c≠[]/\((rm c).length:Int)<=m/\(rm c).Pairwise (· < ·)/\∀v∈rm c,v∈ns)->(∀x∈kvs,oE x.2=true)->kvs.length<=2 * ws.length->aD H' d l->But d l H H'->Q (.ref r) H'
def Ak:Sp:=λvs H Q _=>∃(d l a:Addr) (m:Int) (xs:List V),vs=[.ref d,.ref a,.int m]/\aD H d l/\xC H a xs/\0<=m/\m<=xs.length/\xs.length<=60 /\
 ∀(p:Addr) (z rest:List V) (H':Hp),H p=none->(z++rest).Perm xs->m<=z.length->H' p>>z->aD H' d l->But d l H H'->Q (.ref p) H'
theorem lay_ints : ∀ns:List Int,l_ (ns.map Jr)=true
 | []=>rfl
 | n :: ns=>by
  rw[i_];unfold l_;rw[lay_ints ns];rfl
theorem depth_ints : ∀ns:List Int,l8 (ns.map Jr)=0
 | []=>rfl
 | n :: ns=>by
  rw[i_];unfold l8;rw[depth_ints ns];rfl
theorem vW (ns:List Int):n_ (.list (ns.map Jr)) (.list [])=decide (ns=[]):=by
 cases ns with
 | nil=>rfl
 | cons n ns=>simp[n_,t5]
theorem cJ.putG {cs:List Str} {c:Str} (h:cJ H kvs cs rm) (s : ∀a vs,H a>>vs->H' a>>vs) (Y:H' t>>(ns.map V.int)) (U : ∀x∈cs',x=c\/x∈cs) :
  cJ H' (bj kvs (e_ c) (.ref t)) cs' (pW rm c ns):=λx Z=>by
 by_cases e:x=c
 .subst e
  exact⟨t,by rw[nF,if_pos rfl],by unfold pW;rw[if_pos rfl];exact Y⟩
 .obtain⟨a,e1,e2⟩:=h x ((U x Z).resolve_left e)
  exact⟨a,by rw[nF,if_neg (λz=>e (I_ z))];exact e1,by unfold pW;rw[if_neg e];exact s _ _ e2⟩
theorem eZ (f:α->V) (z:V->α) (hi : ∀x,z (f x)=x) {U rest:List V} {xs:List α} (h:(U++rest).Perm (xs.map f)) : ∃ys zs:List α,U=ys.map f/\(ys++zs).Perm xs:=by
 refine⟨U.map z,rest.map z,?_,?_⟩
 .rw[fx]
  have : ∀v∈U,f (z v)=v:=λv Y=>by
   obtain⟨x,_,rfl⟩:=e7.mp (h.mem_iff.mp (t6 _ Y));rw[hi]
  conv=>lhs;rw[<- map_id U]
  exact q_ λv Y=>(this v Y).symm
 .have:=h.map z
  rw[ii,fx] at this;have e:xs.map (z ∘ f)=xs:=by
   conv=>rhs;rw[<- map_id xs]
   exact q_ λx _=>hi x
  rw[e] at this;exact this
def GE:V->Str | .str s=>s | _ => ""
def Ih:V->Int | .int i=>i | _=>0
abbrev Dz3:=Fn P w K mg base "_law_pool" 2 ["_law_deal_here"] (DC)
theorem tV (T:Txt w K mg base) (L:FnL K mg "_law_pool" iJ ["_law_deal_here"]) (Fa : @Dz0 P w K mg base) : @Dz3 P w K mg base:=by
 ctx_has z sC <;> obtain⟨d,l,rfl,D,k⟩:=h
 .rfl
 refine⟨_,(af (aB 1 (aO gx (ah Fa (aa (pvM 0) (aa ae ac))) ae))
  (af (aJ (ay aP (ah Fa (aa (pvM 0) (aa ae ac))) ae) (ag (aB 1 (aO gx (ah Fa (aa (pvM 0) (aa ae ac))) ae))) aA)
  (af (aB 2 (ba ac))
  (af (bc (ci rfl T.b_range (aa ae ac)) (az 3) (af (bu (cA l5 l7 bo (pvM 2) (aa (pvM 1) ac)))
  (ag (aB 1 (aO bq (aO bq (pvM 1) ae) (ak dE (ba (aa ae (aa (ah Fa (aa (pvM 0) (aa ae ac))) (aa ae ac)))) (ah Fa (aa (pvM 0) (aa ae ac)))))))))
  (ag (aC (pvM 2))))))),?_⟩
 ctx_has v
 refine aR D ∅ ∅ λr H1 r0 r1 D1 B1=>?_
 ctx_has v
 refine aR D1 ∅ ∅ λr2 H2 aq ap D2 Y=>?_
 ctx_has v
 refine cN (λh=>?_) (λh=>?_)
 .refine aR D2 ∅ ∅ λr3 H3 ad an D3 B3=>?_
  have B3:=(B1.trans Y).trans B3;refine⟨_,rfl,∅,λp hp=>?_⟩
  have Z:=D3.ne hp;have fp:H p=none:=B3.free D3 hp
  refine⟨∅,∅,?_⟩
  refine bK bM (λi σ H'=>∃(ns:List Int) (U:Int) (vk:Option V),σ=[-d,some (.int U),-p,vk]/\ns.length=i/\ns.Pairwise (· < ·)/\(∀x∈ns,x < U/\-1000000<=x/\x<=1000000)/\-999500<=U/\U<=999500+98 * (i:Int)/\H' p*>(ns.map V.int)/\aD H' d l/\But d l H H')
   ⟨[],_,_,rfl,rfl,.nil,by simp,(),(),ab,D3.new hp,B3.new hp⟩ (λ_ _ _ _=>ow) ?_ ?_
  .rintro i x σ H2 hi hx ⟨ns,U,vk,rfl,hlen,hpw,hall,lo0,lo1,h2,D2,Y⟩
   rw[aK] at hi;have ao:i < 5:=hi
   ctx_has v h2
   refine⟨by rw[a_];exact au (),?_⟩
   refine aR (D2.put Z.1 Z.2) ∅ ∅ λr3 H3 ad an D3 B3=>?_
   refine⟨∅,λp2 am=>?_⟩
   refine jR D3 am ∅ ∅ rfl λr5 v H5 hv ha D5 B5 h5=>?_
   have ai:=B5 p _ Z.1 Z.2 (B3 p _ Z.1 Z.2 ab);obtain⟨y,rfl,y0,y1⟩ : ∃y:Int,v = .int y/\0<=y/\y<=97:=by
    simp only[i6,p_,or_false] at hv;rcases hv with rfl | rfl | rfl
    .exact⟨0,rfl,∅,∅⟩
    .exact⟨r3,rfl,ad,()⟩
    .exact⟨97,rfl,∅,∅⟩
   ctx_has v h5 ha
   refine⟨ns++[U],by simp;omega,?_,λz hz=>?_,(),(),by rw[ai];simp,D5,((Y.put fp).trans B3).trans B5⟩
   .rw[List.pairwise_append]
    exact⟨hpw,List.pairwise_singleton _ _,λx hx y hy=>by rw[g7.mp hy];exact(hall x hx).1⟩
   .rcases j6.mp hz with q | q
    .have:=hall z q;omega
    .rw[g7.mp q];omega
  .rintro σ H2 ⟨ns,U,vk,rfl,hlen,hpw,hall,lo0,lo1,h2,D2,Y⟩
   rw[aK] at hlen;ctx_has v
   exact k p ns H2 fp hlen hpw (λx hx=>(hall x hx).2) h2 D2 Y
 .have Y:=B1.trans Y
  refine⟨∅,λp hp=>?_⟩
  have Z:=D2.ne hp;have fp:H p=none:=Y.free D2 hp
  refine⟨∅,∅,?_⟩
  refine bK bM (λi σ H'=>∃(ns:List Int) (U:Int) (vk:Option V),σ=[-d,some (.int U),-p,vk]/\ns.length=i/\ns.Pairwise (· < ·)/\(∀x∈ns,x < U/\-1000000<=x/\x<=1000000)/\-999500<=U/\U<=999500+98 * (i:Int)/\H' p*>(ns.map V.int)/\aD H' d l/\But d l H H')
   ⟨[],_,_,rfl,rfl,.nil,by simp,(),(),ab,D2.new hp,Y.new hp⟩ (λ_ _ _ _=>ow) ?_ ?_
  .rintro i x σ H2 hi hx ⟨ns,U,vk,rfl,hlen,hpw,hall,lo0,lo1,h2,D2,Y⟩
   rw[aK] at hi;have ao:i < 5:=hi
   ctx_has v h2
   refine⟨by rw[a_];exact au (),?_⟩
   refine aR (D2.put Z.1 Z.2) ∅ ∅ λr3 H3 ad an D3 B3=>?_
   refine⟨∅,λp2 am=>?_⟩
   refine jR D3 am ∅ ∅ rfl λr5 v H5 hv ha D5 B5 h5=>?_
   have ai:=B5 p _ Z.1 Z.2 (B3 p _ Z.1 Z.2 ab);obtain⟨y,rfl,y0,y1⟩ : ∃y:Int,v = .int y/\0<=y/\y<=97:=by
    simp only[i6,p_,or_false] at hv;rcases hv with rfl | rfl | rfl
    .exact⟨0,rfl,∅,∅⟩
    .exact⟨r3,rfl,ad,()⟩
    .exact⟨97,rfl,∅,∅⟩
   ctx_has v h5 ha
   refine⟨ns++[U],by simp;omega,?_,λz hz=>?_,(),(),by rw[ai];simp,D5,((Y.put fp).trans B3).trans B5⟩
   .rw[List.pairwise_append]
    exact⟨hpw,List.pairwise_singleton _ _,λx hx y hy=>by rw[g7.mp hy];exact(hall x hx).1⟩
   .rcases j6.mp hz with q | q
    .have:=hall z q;omega
    .rw[g7.mp q];omega
  .rintro σ H2 ⟨ns,U,vk,rfl,hlen,hpw,hall,lo0,lo1,h2,D2,Y⟩
   rw[aK] at hlen;ctx_has v
   exact k p ns H2 fp hlen hpw (λx hx=>(hall x hx).2) h2 D2 Y
abbrev Dz4:=Fn P w K mg base "_law_rooms" 2 ["_law_deal_here","_law_names_here","_law_pool_here","_law_most"] (As)
theorem qc (T : Txt w K mg base) (L:FnL K mg "_law_rooms" eP ["_law_deal_here","_law_names_here","_law_pool_here","_law_most"]) (Fa : @Dz0 P w K mg base) : @Dz4 P w K mg base:=by
  ctx_has z ql <;> obtain⟨d,l,a,p,ws,ns,m,rfl,D,na,np,ha,br,hp,bq,bh,m0,m1,k⟩:=h
  . rfl
  refine⟨_,(af (aB 4 cj)
    (af (bc (dg (K:=K) rfl (pvM 1)) (az 5) (af (bW 6 (N:=["_law_value","_law_deal_here"]) (nt:=1) (js:=[0]) (aE ["_law_deal_here","_law_names_here","_law_pool_here","_law_most","_law_rooms_here","_law_name","_law_some_here"] (am eP).names) (dg (K:=K) rfl (pvM 2)) (az 0) aL (fG (ay aP (ah Fa (aa (pvM 1) (aa ae ac))) ae)) (pvM 0))
    (af (fH hu (pvM 4) (pvM 5) (aG aM T.b_tuple (aa (bI A1 (pvM 6) cb (bP (pvM 3))) ac)) rfl)
    (ag (aJ (ay (tG (iw hr)) (pvM 6) (ba ac)) (ag (fH hu (pvM 4) (pvM 5) (aI (aa (ak dE (pvM 2) (ah Fa (aa (pvM 0) (aa ae ac)))) ac)) rfl)) aA)))))
    (ag (aC (pvM 4))))),?_⟩
  ctx_has v
  intro q hq;have nq:=D.ne hq;have aq:a≠q:=ap ha hq
  have pq:p≠q:=ap hp hq
  refine⟨_,by rw[ai aq];exact ha,?_⟩
  refine bK bz (λi σ H'=>∃(kvs:List (Key × V)) (rm:Str->List Int) (v5 v6:Option V),σ=[-d,-a,-p,some (.int m),-q,v5,v6]/\H' q<*kvs/\cJ H' kvs (ws.take i) rm /\
      (∀c∈ws.take i,rm c≠[]/\((rm c).length:Int)<=m/\(rm c).Pairwise (· < ·)/\∀v∈rm c,v∈ns)/\(∀x∈kvs,oE x.2=true)/\kvs.length<=2 * i/\H' a*>(ws.map V.str)/\H' p*>(ns.map V.int)/\aD H' d l/\But d l H H')
    ⟨[],λ_=>[],_,_,rfl,ab,λc hc=>by simp at hc,λc hc=>by simp at hc,by simp,r_ _,by rw[ai aq];exact ha,by rw[ai pq];exact hp,D.new hq,(But.refl H).new hq⟩ (λi σ H' aO=>by obtain⟨_,_,_,_,_,_,_,_,_,_,h,_⟩:=aO;exact(.of h)) ?_ ?_
  . rintro i x σ H2 hi hx ⟨kvs,rm,v5,v6,rfl,h2,a1,ao,a6,a5,aU,av,D2,B2⟩
    rw[a_] at hi;obtain⟨c,bk,rfl⟩ : ∃c,ws[i]? = some c/\V.str c=x:=by
      rw[e9] at hx;cases e:ws[i]? with
      | none=>rw[e] at hx;cases hx
      | some nm=>rw[e] at hx;exact⟨nm,rfl,f_ hx⟩
    have bi:ws.take (i+1)=ws.take i++[c]:=by rw[i8,bk];rfl
    have an : ∀x∈ws.take (i+1),x=c\/x∈ws.take i:=λx hx=>by
      rw[bi] at hx;rcases j6.mp hx with z | z
      . exact .inr z
      . exact .inl (g7.mp z)
    ctx_has v av
    intro g hg;have ng:=D2.ne hg;have fg:H g=none:=B2.free D2 hg
    refine bL bz (λj ys H5=>∃U:List Int,ys=U.map V.int/\U.Sublist (ns.take j)/\H5 g*>ys/\H5 p*>(ns.map V.int)/\(∀b o,b≠d->b≠l->H2 b=some o->H5 b=some o)/\aD H5 d l)
      ⟨[],rfl,by simp,ab,by rw[ai (ap av hg)];exact av,λb o _ _ e=>by rw[ai (ap e hg)];exact e,D2.new hg⟩ (λj ys H5 aV=>by obtain⟨_,_,_,_,h,_⟩:=aV;exact(.of h)) ?_ ?_
    . rintro j y ys H5 hj hy ⟨U,rfl,Y,a0,a4,k5,D5⟩
      rw[a_] at hj;obtain⟨z,hz,rfl⟩ : ∃z,ns[j]? = some z/\V.int z=y:=by
        rw[e9] at hy;cases e:ns[j]? with
        | none=>rw[e] at hy;cases hy
        | some nm=>rw[e] at hy;exact⟨nm,rfl,f_ hy⟩
      have en:ns.take (j+1)=ns.take j++[z]:=by rw[i8,hz];rfl
      have bt:U.length<=5:=le_trans Y.length_le (by simp;omega)
      ctx_has v
      refine aR D5 ∅ ∅ λr6 H6 bs bu D6 B6=>?_
      have ar:=B6 g _ ng.1 ng.2 a0;have ad:=B6 p _ np.1 np.2 a4;ctx_has v
      refine cN (λbd=>?_) (λbd=>?_)
      . refine⟨ar,by rw[a_];exact au (),U++[z],by simp,by rw[en];exact Y.append_right [z],ab,by rw[ai (ap av hg)];exact ad,λb o h1 h2 e=>by rw[ai (ap e hg)];exact B6 b o h1 h2 (k5 b o h1 h2 e),D6.put ng.1 ng.2⟩
      . exact⟨U,rfl,by rw[en];exact Y.trans (List.sublist_append_left _ _),ar,ad,λb o h1 h2 e=>B6 b o h1 h2 (k5 b o h1 h2 e),D6⟩
    . rintro ys H5 ⟨U,rfl,Y,a0,a4,k5,D5⟩
      rw[a_] at Y;rw[k9] at Y;ctx_has v a0
      intro u bf;refine⟨_,ab,λt ht=>?_⟩
      obtain⟨Z,rfl⟩:=Jt (show 0<=m by omega)
      rw[iN] at ht ⊢;have ut:u≠t:=by rintro rfl;rw[ab] at ht;cases ht
      have be:H5 t=none:=by rwa [ai ut.symm] at ht
      have s5:aj H5 (upd (upd H5 u (.lst ((U.take Z).map V.int))) t (.tup ((U.take Z).map V.int))):=(aj.upd0 bf).upd_new ht
      have aW:=k5 q _ nq.1 nq.2 h2;have aZ:=k5 a _ na.1 na.2 aU;refine⟨kvs,s5 _ _ aW,au (),?_⟩
      have tq:t≠q:=(ap aW be).symm
      have aS : ∀b vs,H2 b>>vs->upd (upd (upd H5 u (.lst ((U.take Z).map V.int))) t (.tup ((U.take Z).map V.int))) q (.dK (bj kvs (e_ c) (.ref t))) b>>vs:=λb vs e=>by
        obtain⟨m',sd,n',bn,a9,a7,_⟩:=D2.ex;rw[ai (bA e h2 (by intro z;cases z))]
        exact s5 _ _ (k5 b _ (bA e a9 (by intro z;cases z)) (bA e a7 (by intro z;cases z)) e)
      have aF : ∀b o,b≠q->H5 b=some o->upd (upd (upd H5 u (.lst ((U.take Z).map V.int))) t (.tup ((U.take Z).map V.int))) q (.dK (bj kvs (e_ c) (.ref t))) b=some o:=λb o hb e=>by rw[ai hb];exact s5 _ _ e
      have gq:g≠q:=(ap h2 hg).symm
      have ar:=aF g _ gq a0;have a2:=aF a _ aq aZ;have ad:=aF p _ pq a4;have D6:=(D5.same s5).put (o:=.dK (bj kvs (e_ c) (.ref t))) nq.1 nq.2;have B5:But d l H H5:=λb o h1 h2 e=>k5 b o h1 h2 (B2 b o h1 h2 e)
      have B6:=(B5.same s5).put (o:=.dK (bj kvs (e_ c) (.ref t))) hq;have r6:cJ (upd (upd (upd H5 u (.lst ((U.take Z).map V.int))) t (.tup ((U.take Z).map V.int))) q (.dK (bj kvs (e_ c) (.ref t)))) (bj kvs (e_ c) (.ref t)) (ws.take (i+1)) (pW rm c (U.take Z)):=a1.putG aS (by rw[ai tq];exact ab) an
      have aw:upd (upd (upd H5 u (.lst ((U.take Z).map V.int))) t (.tup ((U.take Z).map V.int))) q (.dK (bj kvs (e_ c) (.ref t))) q<*(bj kvs (e_ c) (.ref t)):=ab
      have bb:=bT kvs (e_ c) (.ref t);have a8:=rT (k:=e_ c) (v:=V.ref t) a6 rfl;generalize bo:upd (upd (upd H5 u (.lst ((U.take Z).map V.int))) t (.tup ((U.take Z).map V.int))) q (.dK (bj kvs (e_ c) (.ref t)))=H6 at ar a2 ad D6 B6 r6 aw ⊢;generalize bj kvs (e_ c) (.ref t)=aX at r6 aw bb a8 ⊢;refine⟨∅,λe0 a3=>?_⟩
      have s7:aj H6 (upd H6 e0 (.lst [])):=aj.upd0 a3
      refine⟨.list (U.map Jr),.list [],.lst (.of (s7 _ _ ar)) (cC.ints U),.lst (.of ab) .nil,by unfold y8;exact lay_ints U,rfl,by unfold t3;rw[depth_ints];decide,?_⟩
      rw[vW];have D7:=D6.new (o:=.lst []) a3;have B7:=B6.new (o:=.lst []) a3;refine⟨_,rfl,cN (λaH=>?_) (λaH=>?_)⟩
      . refine aR D7 ∅ ∅ λr8 H8 aN bp D8 B8=>?_
        obtain⟨z,aK,aY⟩:=iP (xs:=ns) aN ()
        have bg:atI (ns.map V.int) r8=some (V.int z):=by
          obtain⟨n,rfl⟩:=Jt aN;have hn:n < ns.length:=()
          have e1:ns[n]? = some z:=by
            have:=aQ (xs:=ns) (j:=n) (v:=ns[n]) (by simp)
            rw[this] at aK;rw[<- aK];simp
          exact aQ (by rw[e9,e1];rfl)
        refine⟨r8,rfl,_,B8 p _ np.1 np.2 (s7 _ _ ad),_,bg,∅,λt2 ax=>?_⟩
        have aT:=B8 q _ nq.1 nq.2 (s7 _ _ aw);have q2:t2≠q:=(ap aT ax).symm
        have s9:aj H8 (upd H8 t2 (.tup [V.int z])):=aj.upd0 ax
        refine⟨aX,s9 _ _ aT,au (),?_⟩
        have kt : ∀b vs,H6 b>>vs->upd (upd H8 t2 (.tup [V.int z])) q (.dK (bj aX (e_ c) (.ref t2))) b>>vs:=λb vs e=>by
          rw[ai (bA e aw (by intro z;cases z))]
          obtain⟨m',sd,n',bn,a9,a7,_⟩:=D6.ex;exact s9 _ _ (B8 b _ (bA e a9 (by intro z;cases z)) (bA e a7 (by intro z;cases z)) (s7 _ _ e))
        refine⟨_,ab,pW (pW rm c (U.take Z)) c [z],r6.putG (ns:=[z]) kt (by rw[ai q2];exact ab) (λx hx=>.inr hx),λx hx=>?_,rT a8 rfl,le_trans (bT _ _ _) (),?_,?_,(D8.new ax).put nq.1 nq.2,((B7.trans B8).new ax).put hq⟩
        . by_cases e:x=c
          . subst e
            unfold pW;rw[if_pos rfl];exact⟨by simp,by simp;omega,by simp,λv hv=>by rw[g7.mp hv];exact aY⟩
          . unfold pW
            rw[if_neg e,if_neg e];exact ao x ((an x hx).resolve_left e)
        . rw[ai aq];exact s9 _ _ (B8 a _ na.1 na.2 (s7 _ _ a2))
        . rw[ai pq];exact s9 _ _ (B8 p _ np.1 np.2 (s7 _ _ ad))
      . refine⟨_,s7 _ _ aw,pW rm c (U.take Z),r6.same (λa vs e=>s7 _ _ e),λx hx=>?_,a8,(),s7 _ _ a2,s7 _ _ ad,D7,B7⟩
        by_cases e:x=c
        . subst e
          unfold pW;rw[if_pos rfl];have bm:U≠[]:=by simpa using aH
          refine⟨?_,by simp;omega,?_,λv hv=>Y.subset (v_ hv)⟩
          . cases U with
            | nil=>exact absurd rfl bm
            | cons y ys =>
              obtain⟨k',rfl⟩ : ∃k',Z=k'+1:=⟨Z - 1,()⟩
              simp
          . exact(bh.sublist Y).sublist (JF _ _)
        . unfold pW
          rw[if_neg e];exact ao x ((an x hx).resolve_left e)
  . rintro σ H2 ⟨kvs,rm,v5,v6,rfl,h2,a1,ao,a6,a5,aU,av,D2,B2⟩
    rw[a_,k9] at a1 ao;rw[a_] at a5;ctx_has v
    exact k q kvs rm H2 hq h2 a1 ao a6 a5 D2 B2
abbrev Dz5:=Fn P w K mg base "_law_some" 2 ["_law_deal_here","_law_things","_law_least"] (Ak)
theorem sg (T:Txt w K mg base) (L:FnL K mg "_law_some" iA ["_law_deal_here","_law_things","_law_least"]) (Fa : @Dz0 P w K mg base) : @Dz5 P w K mg base:=by
 ctx_has z sJ <;> obtain⟨d,l,a,m,xs,rfl,D,ha,m0,m1,ar,k⟩:=h
 .rfl
 refine⟨_,(af (aB 3 (aG jw T.b_list (aa (pvM 1) ac)))
  (af (aB 4 (ba ac))
  (af (bc (ci rfl T.b_range (aa (aO bq (pvM 2) (ah Fa (aa (pvM 0) (aa (aO bq (aO gx (aF aZ T.b_len (aa (pvM 3) ac)) (pvM 2)) ae) ac)))) ac)) (az 5) (ag (bu (cA l5 l7 bo (pvM 4) (aa (cA PySem.F.slot_list_pop PySem.F.type_list_pop uQ (pvM 3) (aa (ah Fa (aa (pvM 0) (aa (aF aZ T.b_len (aa (pvM 3) ac)) ac))) ac)) ac)))))
  (ag (aC (aG aM T.b_tuple (aa (pvM 4) ac))))))),?_⟩
 ctx_has v
 refine⟨xs,ha,λu Y=>?_⟩
 have nu:=D.ne Y;refine⟨∅,λg hg=>?_⟩
 have ug:u≠g:=by rintro rfl;rw[ab] at hg;cases hg
 have ad:H g=none:=by rwa [ai ug.symm] at hg
 have ng:=D.ne ad;have D1:=(D.new (o:=.lst xs) Y).new (o:=.lst []) hg;have Z:upd (upd H u (.lst xs)) g (.lst []) u*>xs:=by rw[ai ug];exact ab
 have ak:upd (upd H u (.lst xs)) g (.lst []) g*>[]:=ab
 have B1:But d l H (upd (upd H u (.lst xs)) g (.lst [])):=((But.refl H).new Y).new hg
 generalize upd (upd H u (.lst xs)) g (.lst [])=H1 at D1 Z ak B1 ⊢;ctx_has v Z
 refine aR D1 () () λr H2 r0 r1 D2 B2=>?_
 refine⟨_,rfl,(),(),?_⟩
 refine bK bM (λi σ H'=>∃(U rest:List V) (v5:Option V),σ=[-d,-a,some (.int m),-u,-g,v5]/\U.length=i/\(U++rest).Perm xs/\H' g*>U/\H' u*>rest/\aD H' d l/\But d l H H')
  ⟨[],xs,_,rfl,rfl,.refl _,B2 g _ ng.1 ng.2 ak,B2 u _ nu.1 nu.2 Z,D2,B1.trans B2⟩ (λ_ _ _ _=>ow) ?_ ?_
 .rintro j y σ H5 hj hy ⟨U,rest,v5,rfl,hgl,hperm,h5g,h5u,D5,B5⟩
  rw[aK] at hj;have av:U.length+rest.length=xs.length:=by rw[<- nH];exact hperm.length_eq
  ctx_has v h5g h5u
  refine aR D5 () () λr6 H6 an am D6 B6=>?_
  have ap:=B6 u _ nu.1 nu.2 h5u;have aq:=B6 g _ ng.1 ng.2 h5g;ctx_has v ap
  refine⟨an,am,(),λz hz=>?_⟩
  have ao:r6.toNat < rest.length:=(i7.mp hz).1
  refine⟨_,by rw[ai ug.symm];exact aq,au (),U++[z],by simp;omega,rest.eraseIdx r6.toNat,?_,ab,by rw[ai ug];exact ab,(D6.put nu.1 nu.2).put ng.1 ng.2,((B5.trans B6).put Y).put ad⟩
  refine List.Perm.trans ?_ hperm
  rw[append_assoc];refine List.Perm.append_left U ?_
  rw[(i7.mp hz).2.symm];exact pI ao
 .rintro σ H5 ⟨U,rest,v5,rfl,hgl,hperm,h5g,h5u,D5,B5⟩
  rw[aK] at hgl;ctx_has v h5g
  intro t ht;exact k t U rest _ (B5.free D5 ht) hperm () ab (D5.new ht) (B5.new ht)
def bV:Option Int->V | none=>.non | some i=>.int i
def mV (H:Hp) (t:Addr) (ts:List (Int × Str)):Prop:=∃as:List (Addr × Int × Str),H t>>(as.map λx=>V.ref x.1)/\as.map (·.2)=ts/\∀x∈as,H x.1>>[.int x.2.1,.str x.2.2]
theorem mV.keep (h:mV H t ts) (k : ∀a xs,H a>>xs->H' a>>xs):mV H' t ts:=by
 obtain⟨as,h1,h2,z⟩:=h;exact⟨as,k _ _ h1,h2,λx U=>k _ _ (z x U)⟩
def kW (H:Hp) (vs:List V) (ps:List (Int × Int × Int)):Prop:=∃as:List (Addr × Int × Int × Int),vs=as.map (λx=>V.ref x.1)/\as.map (·.2)=ps/\∀x∈as,H x.1>>[.int x.2.1,.int x.2.2.1,.int x.2.2.2]
theorem kW.keep {ps:List (Int × Int × Int)} (h:kW H vs ps) (k : ∀a xs,H a>>xs->H' a>>xs):kW H' vs ps:=by
 obtain⟨as,h1,h2,z⟩:=h;exact⟨as,h1,h2,λx U=>k _ _ (z x U)⟩
inductive Wi | un (cs:List Str) | mn (av:List Int) (cs:List Str) (lo hi:Int) | sm (ts:List (Int × Str)) (lo hi:Option Int) | tb (cs:List Str) (rows:List (List Int)) | wy (cs:List Str) (ps:List (Int × Int × Int)) (es:List Int) | bh (cs:List Str) (gap:Int)
inductive Wx | pl (W:Wi) | sa (c:Str) (vs:List Int) (W:Wi)
def WS (H:Hp) (w:Addr):Wi->Prop
 | .un cs=>∃c,H w>>[.str "unlike",.ref c]/\H c>>(cs.map V.str)
 | .mn U cs lo hi=>∃a c,H w>>[.str "many",.ref a,.ref c,.int lo,.int hi]/\H a>>(U.map V.int)/\H c>>(cs.map V.str)
 | .sm ts lo hi=>∃t,H w>>[.str "sum",.ref t,bV lo,bV hi]/\mV H t ts
 | .tb cs rows=>∃c t vs,H w>>[.str "table",.ref c,.ref t]/\H c>>(cs.map V.str)/\H t>>vs/\dJ H vs rows
 | .wy cs ps es=>∃c t e vs,H w>>[.str "way",.ref c,.ref t,.ref e]/\H c>>(cs.map V.str)/\H t>>vs/\kW H vs ps/\H e>>(es.map V.int)
 | .bh cs z=>∃c,H w>>[.str "behind",.ref c,.int z]/\H c>>(cs.map V.str)
def WX (H:Hp) (w:Addr):Wx->Prop
 | .pl W=>WS H w W
 | .sa c vs W=>∃t u,H w>>[.str "same",.str c,.ref t,.ref u]/\H t>>(vs.map V.int)/\WS H u W
theorem cM {w:Addr} {W:Wi} (h:WS H w W) (k : ∀a xs,H a>>xs->H' a>>xs):WS H' w W:=by
 cases W with
 | un cs=>obtain⟨c,h1,h2⟩:=h;exact⟨c,k _ _ h1,k _ _ h2⟩
 | mn av cs lo hi=>obtain⟨a,c,h1,h2,z⟩:=h;exact⟨a,c,k _ _ h1,k _ _ h2,k _ _ z⟩
 | sm ts lo hi=>obtain⟨t,h1,h2⟩:=h;exact⟨t,k _ _ h1,h2.keep k⟩
 | tb cs rows=>obtain⟨c,t,vs,h1,h2,z,U⟩:=h;exact⟨c,t,vs,k _ _ h1,k _ _ h2,k _ _ z,U.keep k⟩
 | wy cs ps es=>obtain⟨c,t,e,vs,h1,h2,z,U,Y⟩:=h;exact⟨c,t,e,vs,k _ _ h1,k _ _ h2,k _ _ z,U.keep k,k _ _ Y⟩
 | bh cs Z=>obtain⟨c,h1,h2⟩:=h;exact⟨c,k _ _ h1,k _ _ h2⟩
theorem bF {w:Addr} {W:Wx} (h:WX H w W) (k : ∀a xs,H a>>xs->H' a>>xs):WX H' w W:=by
 cases W with
 | pl W=>exact cM h k
 | sa c vs W=>obtain⟨t,u,h1,h2,z⟩:=h;exact⟨t,u,k _ _ h1,k _ _ h2,cM z k⟩
def cE:Wi->List Str
 | .un cs=>cs
 | .mn _ cs _ _=>cs
 | .sm ts _ _=>ts.map (·.2)
 | .tb cs _=>cs
 | .wy cs _ _=>cs
 | .bh cs _=>cs
def cp:Wx->List Str
 | .pl W=>cE W
 | .sa c _ W=>c :: cE W
def ia:Wi->Str
 | .un _ => "unlike"
 | .mn _ _ _ _ => "many"
 | .sm _ _ _ => "sum"
 | .tb _ _ => "table"
 | .wy _ _ _ => "way"
 | .bh _ _ => "behind"
def jI:List Str:=["unlike","many","sum","table","way","behind"]
def tR:List Str := "same" :: jI
theorem oV (W:Wi):ia W∈jI:=by cases W <;> simp[jI,ia]
theorem Ja {W:Wi} (h:ia W = "unlike") : ∃cs,W = .un cs:=by
 cases W with
 | un cs=>exact⟨_,rfl⟩
 | _=>exact absurd h (show ¬ (b_ _=b_ _) by decide+kernel)
theorem Jd {W:Wi} (h:ia W = "many") : ∃z cs lo hi,W = .mn z cs lo hi:=by
 cases W with
 | mn=>exact⟨_,_,_,_,rfl⟩
 | _=>exact absurd h (show ¬ (b_ _=b_ _) by decide+kernel)
theorem IV {W:Wi} (h:ia W = "sum") : ∃ts lo hi,W = .sm ts lo hi:=by
 cases W with
 | sm=>exact⟨_,_,_,rfl⟩
 | _=>exact absurd h (show ¬ (b_ _=b_ _) by decide+kernel)
theorem Jm {W:Wi} (h:ia W = "table") : ∃cs rows,W = .tb cs rows:=by
 cases W with
 | tb=>exact⟨_,_,rfl⟩
 | _=>exact absurd h (show ¬ (b_ _=b_ _) by decide+kernel)
theorem IN {W:Wi} (h:ia W = "way") : ∃cs ps es,W = .wy cs ps es:=by
 cases W with
 | wy=>exact⟨_,_,_,rfl⟩
 | _=>exact absurd h (show ¬ (b_ _=b_ _) by decide+kernel)
theorem Iy {W:Wi} (h:ia W = "behind") : ∃cs z,W = .bh cs z:=by
 cases W with
 | bh=>exact⟨_,_,rfl⟩
 | _=>exact absurd h (show ¬ (b_ _=b_ _) by decide+kernel)
section
variable {k2:Nat} {ps2:List Str} {sp2:Sp} {p:Pos} {t:TA}
theorem cg (F:Fn X.prog X.w X.K X.mg X.base x k ps sp) (G:Fn X.prog X.w X.K X.mg X.base x k2 ps2 sp2) (ha:PA X (e :: es) t) (hr:cR k X.A:=by exact cR.mono (by assumption) (by ctx_has m)) (z:cR k2 X.A:=by exact cR.mono (by assumption) (by ctx_has m)) (hg:Gl X x:=by exact rfl) (U:(x ==("__debug__" : Str))=false:=by decide)
  (he:m9 (e :: es) X.env=(false,eval e X.env) :: m9 es X.env:=by rfl) (Y:(JS pos (m9 es X.env)).any (·.1)=false:=by rfl) :
  PE X (.Call (.Name x p) (e :: es) [] pos) (uJ (λvs H Q E=>sp vs H Q E\/sp2 vs H Q E) [] E0 t):=by
 obtain⟨f,fd,F,m,kp,b⟩:=F;obtain⟨f2,ac,G,Z,aa,b2⟩:=G;have ef:f2=f:=by rw[m] at Z;cases Z;rfl
 subst ef;intro pins s σ H Q I h;refine x4 (tD I hg m ?_ U)
 refine callWith_K (h₀:=X.base) I.ok.mod.kin kp (thn (ha pos pins s σ H _ I h) λus s1 ⟨vs,H1,I1,r,q⟩=>⟨I1.kIn,?_⟩) he Y
 rcases q with q | q
 .exact su F hr b .nil yy I1 r q
 .exact su G z b2 .nil yy I1 r q
theorem vC (L:FnL K mg x st ps):Fn P w K mg base x k ps (λ_ _ _ _=>False):=by
 obtain⟨f,fd,F,m,b⟩:=L;exact⟨f,fd,⟨λ_ _ _ _ h=>h.elim,λ_ _ _ _ _ _ _ _ _ _ _ _ _ h=>h.elim⟩,m,F.kp,b⟩
end
def BP:Sp:=λvs H Q _=>∃(d l:Addr) (lo hi:Int),vs=[.ref d,.int lo,.int hi]/\aD H d l/\lo<=hi/\-10000000000000<=lo/\hi<=10000000000000/\∀(p:Addr) (a b:Option Int) (H':Hp),H p=none->H' p>>[bV a,bV b]->aD H' d l->But d l H H'->Q (.ref p) H'
theorem CL {a v:Int} (Y : -1000000<=a) (U:a<=1000000) (Z : -1000000<=v) (v1:v<=1000000) : -1000000000000<=a * v:=by
 have h1:a.natAbs<=1000000:=()
 have h2:v.natAbs<=1000000:=()
 have z:(a * v).natAbs<=1000000 * 1000000:=by rw[Int.natAbs_mul];exact mul_le_mul h1 h2
 omega
theorem BN {a v:Int} (Y : -1000000<=a) (U:a<=1000000) (Z : -1000000<=v) (v1:v<=1000000):a * v<=1000000000000:=by
 have h1:a.natAbs<=1000000:=()
 have h2:v.natAbs<=1000000:=()
 have z:(a * v).natAbs<=1000000 * 1000000:=by rw[Int.natAbs_mul];exact mul_le_mul h1 h2
 omega
theorem mZ {D:Addr} {x:Int} {Q:VK} (h:H a>>(ns.map V.int)) (Z : -1000000<=x) (U:x<=1000000) (hl:ns.length<=20) (Y:H D=none) (q : ∀H',aj H H'->H' D*>((ns.map λv=>x * v).map V.int)->Q (.ref D) H') :
  kB (Itt K a) [none,some (V.int x)] (fh 0) uB (tOp (rI Ca λi j=>V.int (i * j)) (fe 1) (fe 0)) Q H D:=by
 refine dr aT (λv=>match v with | .int i=>.int (x * i) | _=>.non) Y (λH' s=>.of (s _ _ h)) (by simp;omega) ?_ ?_
 .intro y H2 Q2 hy sm q2
  obtain⟨z,hz,rfl⟩:=e7.mp hy;ctx_has v
  exact⟨.inl ⟨(),()⟩,q2 H2 (aj.refl _)⟩
 .intro H2 sm e2
  refine q H2 sm ?_
  rw[e2,fx,fx];rfl
def GX:Sp:=λvs H Q _=>∃(d l z ra:Addr) (cs:List Str) (kvs:List (Key × V)) (rm:Str->List Int),vs=[.ref d,.ref z,.ref ra]/\aD H d l/\(ra≠d/\ra≠l)/\H z>>(cs.map V.str)/\H ra<*kvs/\cJ H kvs cs rm/\cs.length<=12/\(∀c∈cs,rm c≠[]/\(rm c).length<=20/\∀v∈rm c,-1000000<=v/\v<=1000000) /\
 ∀(w:Addr) (ts:List (Int × Str)) (lo hi:Option Int) (H':Hp),H w=none->WS H' w (.sm ts lo hi)->ts.map (·.2)=cs.take 4->(∀x∈ts,-1000000<=x.1/\x.1<=1000000/\x.1≠0)->aD H' d l->But d l H H'->Q (.ref w) H'
theorem aD.tupN (D:aD H d l) (h:H a>>vs):a≠d/\a≠l:=by
 obtain⟨m',sd,n',Z,Y,U,_⟩:=D.ex;exact⟨bA h Y (by intro z;cases z),bA h U (by intro z;cases z)⟩
theorem But.tup {H H':Hp} {d l a:Addr} {vs:List V} (B:But d l H H') (D:aD H d l) (h:H a>>vs):H' a>>vs:=B a _ (D.tupN h).1 (D.tupN h).2 h
abbrev Dz6:=Fn P w K mg base "_law_bounds" 2 ["_law_deal_here","_law_low","_law_high"] (BP)
theorem oW (T:Txt w K mg base) (L:FnL K mg "_law_bounds" fX ["_law_deal_here","_law_low","_law_high"]) (Fa : @Dz0 P w K mg base) : @Dz6 P w K mg base:=by
 ctx_has z nI <;> obtain⟨d,l,lo,hi,rfl,D,ax,au,a0,k⟩:=h
 .rfl
 refine⟨_,(af (aB 3 (aO bq (pvM 1) (ah Fa (aa (pvM 0) (aa (aO bq (aO gx (pvM 2) (pvM 1)) ae) ac)))))
  (af (aB 4 (aO bq (pvM 3) (ah Fa (aa (pvM 0) (aa (aO bq (aO gx (pvM 2) (pvM 3)) ae) ac)))))
  (ag (aC (ak dE (ba (aa (aI (aa (pvM 3) (aa (pvM 4) ac))) (aa (aI (aa (pvM 3) (aa (pvM 3) ac))) (aa (aI (aa (pvM 3) (aa gO ac))) (aa (aI (aa gO (aa (pvM 4) ac))) ac))))) (ah Fa (aa (pvM 0) (aa ae ac)))))))),?_⟩
 ctx_has v
 refine aR D () () λU H1 aw ay D1 B1=>?_
 ctx_has v
 refine aR D1 () () λY H2 az av D2 B2=>?_
 ctx_has v
 refine⟨∅,λp1 g1=>⟨∅,λp2 g2=>⟨∅,λp3 g3=>⟨∅,λZ g4=>⟨∅,λq gq=>?_⟩⟩⟩⟩⟩
 have s4:=(((aj.upd0 (o:=.tup [.int (lo+U),.int (lo+U+Y)]) g1).upd_new (o:=.tup [.int (lo+U),.int (lo+U)]) g2).upd_new (o:=.tup [.int (lo+U),.non]) g3).upd_new (o:=.tup [.non,.int (lo+U+Y)]) g4;have am:p1≠p2:=λz=>by rw[z,ab] at g2;cases g2
 have an:p1≠p3:=λz=>by rw[<- z,ai am,ab] at g3;cases g3
 have ao:p2≠p3:=λz=>by rw[<- z,ab] at g3;cases g3
 have ar:p1≠Z:=λz=>by rw[<- z,ai an,ai am,ab] at g4;cases g4
 have aq:p2≠Z:=λz=>by rw[<- z,ai ao,ab] at g4;cases g4
 have ap:p3≠Z:=λz=>by rw[<- z,ab] at g4;cases g4
 have h1:upd (upd (upd (upd H2 p1 (.tup [.int (lo+U),.int (lo+U+Y)])) p2 (.tup [.int (lo+U),.int (lo+U)])) p3 (.tup [.int (lo+U),.non])) Z (.tup [.non,.int (lo+U+Y)]) p1>>[.int (lo+U),.int (lo+U+Y)]:=by rw[ai ar,ai an,ai am,ab]
 have h2:upd (upd (upd (upd H2 p1 (.tup [.int (lo+U),.int (lo+U+Y)])) p2 (.tup [.int (lo+U),.int (lo+U)])) p3 (.tup [.int (lo+U),.non])) Z (.tup [.non,.int (lo+U+Y)]) p2>>[.int (lo+U),.int (lo+U)]:=by rw[ai aq,ai ao,ab]
 have h3:upd (upd (upd (upd H2 p1 (.tup [.int (lo+U),.int (lo+U+Y)])) p2 (.tup [.int (lo+U),.int (lo+U)])) p3 (.tup [.int (lo+U),.non])) Z (.tup [.non,.int (lo+U+Y)]) p3>>[.int (lo+U),.non]:=by rw[ai ap,ab]
 have h4:upd (upd (upd (upd H2 p1 (.tup [.int (lo+U),.int (lo+U+Y)])) p2 (.tup [.int (lo+U),.int (lo+U)])) p3 (.tup [.int (lo+U),.non])) Z (.tup [.non,.int (lo+U+Y)]) Z>>[.non,.int (lo+U+Y)]:=ab
 have f1:H p1=none:=(B1.trans B2).free D2 g1
 have f2:H p2=none:=((B1.trans B2).new g1).free (D2.new g1) g2
 have f3:H p3=none:=(((B1.trans B2).new g1).new g2).free ((D2.new g1).new g2) g3
 have f4:H Z=none:=((((B1.trans B2).new g1).new g2).new g3).free (((D2.new g1).new g2).new g3) g4
 have D4:=D2.same s4;have B4:=(B1.trans B2).same s4;generalize upd (upd (upd (upd H2 p1 (.tup [.int (lo+U),.int (lo+U+Y)])) p2 (.tup [.int (lo+U),.int (lo+U)])) p3 (.tup [.int (lo+U),.non])) Z (.tup [.non,.int (lo+U+Y)])=H4 at gq h1 h2 h3 h4 D4 B4 ⊢;refine jR D4 gq ∅ ∅ rfl λr5 v H5 hv ha D5 B5 h5=>?_
 ctx_has v h5 ha
 have nt : ∀{p:Addr} {vs:List V},H4 p>>vs->H5 p>>vs:=λh=>B5 _ _ (D4.tupN h).1 (D4.tupN h).2 h
 have ad:=B4.trans B5;simp only[i6,p_,or_false] at hv;rcases hv with rfl | rfl | rfl | rfl
 .exact k p1 (some _) (some _) H5 f1 (nt h1) D5 ad
 .exact k p2 (some _) (some _) H5 f2 (nt h2) D5 ad
 .exact k p3 (some _) none H5 f3 (nt h3) D5 ad
 .exact k Z none (some _) H5 f4 (nt h4) D5 ad
abbrev Dz7:=Fn P w K mg base "_law_sum" 3 ["_law_deal_here","_law_some_here","_law_rooms_here"] (GX)
abbrev nz0:List Str:=["_law_deal_here","_law_some_here","_law_rooms_here","_law_terms","_law_low","_law_high","_law_name","_law_a"]
theorem uy (T : Txt w K mg base) (L:FnL K mg "_law_sum" fi ["_law_deal_here","_law_some_here","_law_rooms_here"]) (Fa : @Dz0 P w K mg base) (FS : @Dz6 P w K mg base) : @Dz7 P w K mg base:=by
  ctx_has z vJ <;> obtain⟨d,l,sa,ra,cs,kvs,rm,rfl,D,a9,a8,a6,bg,bp,aY,k⟩:=h
  . rfl
  refine⟨_,(af (aB 3 (ba ac))
    (af (aB 4 ae)
    (af (aB 5 ae)
    (af (bc (bR K (bI nM (pvM 1) cb (bP ae))) (az 6) (af (aB 7 (ak dE (ba (aa ae (aa ae (aa (ji fW ae) (aa ae (aa (ji fW ae) (aa ae ac))))))) (ah Fa (aa (pvM 0) (aa ae ac)))))
    (af (bu (cA l5 l7 bo (pvM 3) (aa (aI (aa (pvM 7) (aa (pvM 6) ac))) ac)))
    (af (aB 4 (aO bq (pvM 4) (aF (zt rfl) T.b_min (aa (aW (N:=["_law_value","_law_a"]) (nt:=1) (js:=[7]) (aE nz0 (am fi).names) (bR K (dY hu (pvM 2) (pvM 6))) (az 0) aL aU (aO iq (pvM 1) (pvM 0))) ac))))
    (ag (aB 5 (aO bq (pvM 5) (aF (zc rfl) T.b_max (aa (aW (N:=["_law_value","_law_a"]) (nt:=1) (js:=[7]) (aE nz0 (am fi).names) (bR K (dY hu (pvM 2) (pvM 6))) (az 0) aL aU (aO iq (pvM 1) (pvM 0))) ac)))))))))
    (af (wV (ah FS (aa (pvM 0) (aa (pvM 4) (aa (pvM 5) ac)))) (cH (n:=2) rfl (aV (az 4) (aV (az 5) cG))))
    (ag (aC (aI (aa aw (aa (aG aM T.b_tuple (aa (pvM 3) ac)) (aa (pvM 4) (aa (pvM 5) ac)))))))))))),?_⟩
  ctx_has v
  refine⟨∅,λp hp=>?_⟩
  have np:=D.ne hp;refine⟨_,by rw[ai (ap a8 hp)];exact a8,λq H1 hq s1=>⟨_,hq,?_⟩⟩
  rw[show dM (cs.map V.str) none (some 4)=(cs.take 4).map V.str from iN V.str cs 4] at hq
  have a5:=(aj.upd0 (o:=.lst []) hp).trans s1;have D1:=D.same a5;refine bK aT (λi σ H'=>∃(as:List (Addr × Int × Str)) (lo hi:Int) (v6 v7:Option V),σ=[-d,-sa,-ra,-p,some (.int lo),some (.int hi),v6,v7]/\H' p*>(as.map λx=>V.ref x.1)/\(∀x∈as,H' x.1>>[.int x.2.1,.str x.2.2])/\as.map (·.2.2)=(cs.take 4).take i/\(∀x∈as,-1000000<=x.2.1/\x.2.1<=1000000/\x.2.1≠0)/\lo<=hi/\-(1000000000000 * (i:Int))<=lo/\hi<=1000000000000 * (i:Int)/\H' q>>((cs.take 4).map V.str)/\aD H' d l/\But d l H H')
    ⟨[],0,0,_,_,rfl,s1 _ _ ab,by simp,by simp,by simp,∅,∅,∅,hq,D1,(But.refl H).same a5⟩ (λi σ H' aH=>by obtain⟨_,_,_,_,_,_,_,_,_,_,_,_,_,h,_⟩:=aH;exact(.of h)) ?_ ?_
  . rintro i x σ H2 hi Z  ⟨as,lo,aQ,v6,v7,rfl,ay,a4,ax,a3,aA,bh,be,aK,D2,B2⟩
    rw[a_] at hi;obtain⟨c,aN,rfl⟩ : ∃c,(cs.take 4)[i]? = some c/\V.str c=x:=by
      rw[e9] at Z;cases e:(cs.take 4)[i]? with
      | none=>rw[e] at Z;cases Z
      | some nm=>rw[e] at Z;exact⟨nm,rfl,f_ Z⟩
    have aR:c∈cs:=v_ (i4 aN)
    have bk  : i < 4 := by have:(cs.take 4).length<=4:=by simp;omega
                           omega
    have bj:as.length<=i:=by
      have:=congrArg u8 ax
      rw[a_] at this;rw[this];exact List.length_take_le _ _
    ctx_has v
    refine⟨∅,λt ht=>?_⟩
    refine jR D2 ht ∅ ∅ rfl λr v H3 hv ha D3 B3 h3=>?_
    obtain⟨a,rfl,a0,a1,an⟩ : ∃a:Int,v = .int a/\-1000000<=a/\a<=1000000/\a≠0:=by
      simp only[i6,p_,or_false] at hv;rcases hv with rfl | rfl | rfl | rfl | rfl | rfl
      . exact⟨1,rfl,∅,∅,∅⟩
      . exact⟨1,rfl,∅,∅,∅⟩
      . exact⟨-1,rfl,∅,∅,∅⟩
      . exact⟨2,rfl,∅,∅,∅⟩
      . exact⟨-3,rfl,∅,∅,∅⟩
      . exact⟨1000000,rfl,∅,∅,∅⟩
    have ao:=B3 p _ np.1 np.2 ay;ctx_has v h3 ha
    obtain⟨ar,a7,aX⟩:=bg c aR;have hg:=aY c aR;have rp:ra≠p:=ap a6 hp
    refine⟨⟨_,ao⟩,∅,λY aq=>⟨_,(aj.upd0 aq) _ _ ao,by rw[a_];exact au (),?_⟩⟩
    have pt:p≠Y:=ap ao aq
    have bb:=(B2.trans B3).new (o:=.tup [.int a,.str c]) aq;have B4:=bb.put (o:=.lst (as.map (λx=>V.ref x.1)++[.ref Y])) hp
    have D4:=(D3.new (o:=.tup [.int a,.str c]) aq).put (o:=.lst (as.map (λx=>V.ref x.1)++[.ref Y])) np.1 np.2
    have kt : ∀b xs,H2 b>>xs->upd (upd H3 Y (.tup [.int a,.str c])) p (.lst (as.map (λx=>V.ref x.1)++[.ref Y])) b>>xs:=λb xs e=>by
      rw[ai (bA e ay (by intro z;cases z))]
      exact(aj.upd0 aq) _ _ (B3.tup D2 e)
    have a2:upd (upd H3 Y (.tup [.int a,.str c])) p (.lst (as.map (λx=>V.ref x.1)++[.ref Y])) Y>>[.int a,.str c]:=by rw[ai pt.symm];exact ab
    have aS:upd (upd H3 Y (.tup [.int a,.str c])) p (.lst (as.map (λx=>V.ref x.1)++[.ref Y])) p*>(as.map (λx=>V.ref x.1)++[.ref Y]):=ab
    have av:=B4 ra _ a9.1 a9.2 a6;have U:=B4.tup D aX;generalize upd (upd H3 Y (.tup [.int a,.str c])) p (.lst (as.map (λx=>V.ref x.1)++[.ref Y]))=H4 at B4 D4 kt a2 aS av U ⊢
    have aP:(rm c).map (λv=>a * v)≠[]:=by simp;exact hg.1
    refine⟨kvs,av,_,a7,ar,rfl,_,U,λD5 g5=>mZ U a0 a1 hg.2.1 g5 λH5 s5 e5=>⟨D5,rfl,_,e5,aP,λm hm aJ=>⟨kvs,s5 _ _ av,_,a7,ar,rfl,_,s5 _ _ U,λD6 g6=>mZ (s5 _ _ U) a0 a1 hg.2.1 g6 λH6 s6 e6=>⟨D6,rfl,_,e6,aP,λM hM bi=>?_⟩⟩⟩⟩
    have ad:=s5.trans s6;obtain⟨v1,bf,em⟩:=e7.mp hm;obtain⟨v2,aZ,eM⟩:=e7.mp hM;have b1:=hg.2.2 v1 bf;have b2:=hg.2.2 v2 aZ;have bm : -1000000000000<=m:=by rw[<- em];exact CL a0 a1 b1.1 b1.2
    have bs:M<=1000000000000:=by rw[<- eM];exact BN a0 a1 b2.1 b2.2
    have bn:=aJ M hM;refine⟨as++[(Y,a,c)],by rw[ad _ _ aS];simp,λx Z=>?_,?_,λx Z=>?_,(),by push_cast;omega,by push_cast;omega,ad _ _ (kt _ _ aK),D4.same ad,B4.same ad⟩
    . rcases j6.mp Z with z | z
      . exact ad _ _ (kt _ _ (a4 x z))
      . rw[g7.mp z];exact ad _ _ a2
    . rw[i8,aN,ii,ax];rfl
    . rcases j6.mp Z with z | z
      . exact a3 x z
      . rw[g7.mp z];exact⟨a0,a1,an⟩
  . rintro σ H2 ⟨as,lo,aQ,v6,v7,rfl,ay,a4,ax,a3,aA,bh,be,aK,D2,B2⟩
    have br:((cs.take 4).map V.str).length<=4:=by simp;omega
    rw[t4 (le_of_eq (by simp):(cs.take 4).length<=((cs.take 4).map V.str).length)] at ax
    ctx_has v
    refine⟨d,l,lo,aQ,rfl,D2,aA,(),(),λu b1 b2 H3 fu bd D3 B3=>?_⟩
    have ao:=B3 p _ np.1 np.2 ay;ctx_has v bd ao
    intro t ht;have s4:=aj.upd0 (o:=.tup (as.map λx=>V.ref x.1)) ht
    refine⟨∅,λw hw=>?_⟩
    have s5:=s4.upd_new (o:=.tup [.str "sum",.ref t,bV b1,bV b2]) hw;have tw:t≠w:=λz=>by rw[<- z,ab] at hw;cases hw
    refine k w (as.map (·.2)) b1 b2 _ ?_ ⟨t,ab,as,by rw[ai tw,ab],rfl,λx Z=>s5 _ _ (B3.tup D2 (a4 x Z))⟩ ?_ (λx Z=>?_) (D3.same s5) ((B2.trans B3).same s5)
    . exact((B2.trans B3).same s4).free (D3.same s4) hw
    . rw[fx];exact ax
    . obtain⟨y,hy,rfl⟩:=e7.mp Z
      exact a3 y hy
def Cr:Sp:=λvs H Q _=>∃(d l z pa:Addr) (cs:List Str) (ns:List Int),vs=[.ref d,.ref z,.ref pa]/\aD H d l/\(pa≠d/\pa≠l)/\H z>>(cs.map V.str)/\H pa*>(ns.map V.int)/\ns.length=5/\cs.length<=12 /\
 ∀(p:Addr) (us:List V) (rows:List (List Int)) (H':Hp),H p=none->H' p>>us->dJ H' us rows->rows.Nodup->(∀r∈rows,r.length=cs.length)->rows.length<=7->aD H' d l->But d l H H'->Q (.ref p) H'
theorem yd {xs:List α} {r:Int} (z:0<=r) (U:r < (xs.length:Int)) (f:α->V) : ∃x∈xs,atI (xs.map f) r=some (f x):=by
 obtain⟨n,rfl⟩:=Jt z;have hn:n < xs.length:=()
 exact⟨xs[n],A_ hn,aQ (by simp[hn])⟩
abbrev Dz8:=Fn P w K mg base "_law_rows" 2 ["_law_deal_here","_law_some_here","_law_pool_here"] (Cr)
theorem rY (T:Txt w K mg base) (L:FnL K mg "_law_rows" fz ["_law_deal_here","_law_some_here","_law_pool_here"]) (Fa : @Dz0 P w K mg base) : @Dz8 P w K mg base:=by
 ctx_has z sw <;> obtain⟨d,l,sa,pa,cs,ns,rfl,D,U,av,ao,a2,a4,k⟩:=h
 .rfl
 refine⟨_,(af (aB 3 (ba ac))
  (af (bc (ci rfl T.b_range (aa (ah Fa (aa (pvM 0) (aa ae ac))) ac)) (az 4) (af (aB 5 (aG aM T.b_tuple (aa (aW (N:=["_law_name","_law_pool_here","_law_deal_here"]) (nt:=1) (js:=[2,0]) (aE ["_law_deal_here","_law_some_here","_law_pool_here","_law_rows_here","_law_k","_law_row"] (am fz).names) (jz (K:=K) rfl (pvM 1)) (az 0) aL aU (ak dE (pvM 1) (ah Fa (aa (pvM 2) (aa ae ac))))) ac)))
  (ag (aJ (ay (jE (xN hr)) (pvM 5) (pvM 3)) (ag (bu (cA l5 l7 bo (pvM 3) (aa (pvM 5) ac)))) aA))))
  (ag (aC (aG aM T.b_tuple (aa (pvM 3) ac)))))),?_⟩
 ctx_has v
 refine⟨∅,λg hg=>?_⟩
 have ng:=D.ne hg;refine aR (D.new hg) ∅ ∅ λn H1 n0 n1 D1 B1=>⟨_,rfl,(),(),?_⟩
 have a0:=((But.refl H).new (o:=.lst []) hg).trans B1;refine bK bM (λi σ H'=>∃(us:List V) (rows:List (List Int)) (v4 v5:Option V),σ=[-d,-sa,-pa,-g,v4,v5]/\H' g*>us/\dJ H' us rows/\rows.Nodup/\(∀r∈rows,r.length=cs.length)/\rows.length<=i/\aD H' d l/\But d l H H')
  ⟨[],[],_,_,rfl,B1 g _ ng.1 ng.2 ab,dJ.nil,by simp,by simp,by simp,D1,a0⟩ (λ_ _ _ _=>ow) ?_ ?_
 .rintro i x σ H2 hi hx ⟨us,rows,v4,v5,rfl,h2,hrv,hnd,hrl,hlen,D2,B2⟩
  rw[aK] at hi;have Y:=(But.keepTI B2 D).tup _ _ av;ctx_has v Y
  intro q hq;have nq:=D2.ne hq;refine bL aT (λj ys H3=>∃vs:List Int,ys=vs.map V.int/\vs.length=j/\H3 q*>ys/\(∀b o,b≠d->b≠l->b≠q->H2 b=some o->H3 b=some o)/\aD H3 d l)
   ⟨[],rfl,rfl,ab,λb o _ _ hb e=>by rw[ai hb];exact e,D2.new hq⟩ (λj ys H3 ⟨_,_,_,h,kk,_⟩=>.of (by
    obtain⟨m',sd,n',a5,ax,ar,_⟩:=D2.ex;exact kk sa _ (bA Y ax (by intro z;cases z)) (bA Y ar (by intro z;cases z)) (ap Y hq) Y)) ?_ ?_
  .rintro j y ys H3 hj hy ⟨vs,rfl,hvl,h3,k3,D3⟩
   rw[a_] at hj;ctx_has v
   refine aR D3 ∅ ∅ λr4 H4 aw a3 D4 B4=>?_
   have a1:=B4 pa _ U.1 U.2 (k3 pa _ U.1 U.2 (ap (B2 pa _ U.1 U.2 ao) hq) (B2 pa _ U.1 U.2 ao));obtain⟨z,_,hz⟩:=yd (xs:=ns) aw () V.int
   refine⟨r4,rfl,_,a1,_,hz,B4 q _ nq.1 nq.2 h3,by rw[a_];exact au (),vs++[z],by simp,by simp;omega,ab,λb o h1 h2 h3 e=>by rw[ai h3];exact B4 b o h1 h2 (k3 b o h1 h2 h3 e),D4.put nq.1 nq.2⟩
  .rintro ys H3 ⟨vs,rfl,hvl,h3,k3,D3⟩
   rw[a_] at hvl;ctx_has v h3
   intro t ht;have s4:aj H3 (upd H3 t (.tup (vs.map V.int))):=aj.upd0 ht
   have B3:But d l H2 H3:=λb o h1 h2 e=>k3 b o h1 h2 (ap e hq) e
   have an:=(B2.trans B3).same s4;have D4:=D3.same s4;have ad:=s4 _ _ (B3 g _ ng.1 ng.2 h2);have Z:=hrv.keep λa xs e=>s4 _ _ ((But.keepTI B3 D2).tup _ _ e)
   refine wK ab ad Z ⟨_,rfl,?_⟩
   refine cN (λaq=>?_) (λaq=>?_)
   .have hni:vs∉rows:=by simpa using aq
    have hk : ∀a xs,upd H3 t (.tup (vs.map V.int)) a>>xs->upd (upd H3 t (.tup (vs.map V.int))) g (.lst (us++[.ref t])) a>>xs:=λa xs e=>by rw[ai (bA e ad (by intro z;cases z))];exact e
    refine⟨⟨_,ad⟩,us,ad,by rw[hrv.length];exact au (),us++[.ref t],ab,rows++[vs],(Z.keep hk).snoc (hk _ _ ab),x_.mpr ⟨hnd,by simp,λa ha b hb e=>hni (by rw[g7.mp hb] at e;exact e ▸ ha)⟩,λr hr=>?_,by simp;omega,D4.put ng.1 ng.2,an.put hg⟩
    rcases j6.mp hr with z | z
    .exact hrl r z
    .rw[g7.mp z];exact hvl
   .exact⟨us,ad,rows,Z,hnd,hrl,(),D4,an⟩
 .rintro σ H2 ⟨us,rows,v4,v5,rfl,h2,hrv,hnd,hrl,hlen,D2,B2⟩
  rw[aK] at hlen;ctx_has v h2
  intro t ht;have s3:aj H2 (upd H2 t (.tup us)):=aj.upd0 ht
  exact k t us rows _ (B2.free D2 ht) ab (hrv.keep λa xs e=>s3 _ _ e) hnd hrl () (D2.same s3) (B2.same s3)
def ip (pool:List Int) (n:Nat):List (Int × Int):=List.flatMap (λs:Nat=>pool.map λv=>((s:Int),v)) (range n)
theorem jv (pool:List Int) (n:Nat):ip pool (n+1)=ip pool n++pool.map λv=>((n:Int),v):=by
 unfold ip;rw[range_succ,List.flatMap_append];simp
theorem Bf {x:Int × Int} (h:x∈ip pool n):x.1 < (n:Int):=by
 unfold ip at h;obtain⟨s,z,U⟩:=mem_flatMap.mp h;obtain⟨v,_,rfl⟩:=e7.mp U;have:=x8.mp z
 show(s:Int) < n
 omega
theorem mj {pool:List Int} (h:pool.Nodup) : ∀n,(ip pool n).Nodup
 | 0=>by simp[ip]
 | n+1=>by
  rw[jv,x_];refine⟨mj h n,l9.mpr (h.imp λU z=>U (by cases z;rfl)),λa Y b Z e=>?_⟩
  subst e;obtain⟨v,_,rfl⟩:=e7.mp Z;have:=Bf Y
  simp at this
theorem lz (pool:List Int) : ∀n,(ip pool n).length=n * pool.length
 | 0=>by simp[ip]
 | n+1=>by rw[jv,nH,lz pool n,a_,succ_mul]
def DY (x:Addr × Int × Int × Int):Int × Int:=(x.2.1,x.2.2.1)
def AB (H:Hp) (as:List (Addr × Int × Int × Int)):Prop:=∀x∈as,H x.1>>[.int x.2.1,.int x.2.2.1,.int x.2.2.2]
def Hn:Sp:=λvs H Q _=>∃(d l U pa:Addr) (cs:List Str) (pool:List Int),vs=[.ref d,.ref U,.ref pa]/\aD H d l/\H U>>(cs.map V.str)/\(pa≠d/\pa≠l)/\H pa*>(pool.map V.int)/\pool.length=5/\pool.Nodup /\
 ∀(z:Addr) (ps:List (Int × Int × Int)) (es:List Int) H',H z=none->(ps.map λx=>(x.1,x.2.1)).Nodup->ps.length<=60->es.length<=60->WS H' z (.wy cs ps es)->aD H' d l->But d l H H'->Q (.ref z) H'
abbrev Dz9:=Fn P w K mg base "_law_way" 2 ["_law_deal_here","_law_some_here","_law_pool_here"] (Hn)
theorem vK (T:Txt w K mg base) (L:FnL K mg "_law_way" gK ["_law_deal_here","_law_some_here","_law_pool_here"]) (Fa : @Dz0 P w K mg base) : @Dz9 P w K mg base:=by
  ctx_has z vY <;> obtain⟨d,l,sa,pa,cs,pool,rfl,D,aW,ax,a8,a0,aZ,k⟩:=h
  . rfl
  refine⟨_,(af (aB 3 (aO bq ae (ah Fa (aa (pvM 0) (aa ae ac)))))
    (af (aB 4 (ba ac))
    (af (bc (ci rfl T.b_range (aa (pvM 3) ac)) (az 5) (ag (bc (dg (K:=K) rfl (pvM 2)) (az 6) (ag (aJ (ay vg (ah Fa (aa (pvM 0) (aa ae ac))) ae) (ag (bu (cA l5 l7 bo (pvM 4) (aa (aI (aa (pvM 5) (aa (pvM 6) (aa (ah Fa (aa (pvM 0) (aa (pvM 3) ac))) ac)))) ac)))) aA)))))
    (af (bW 7 (N:=["_law_state","_law_deal_here"]) (nt:=1) (js:=[0]) (aE ["_law_deal_here","_law_some_here","_law_pool_here","_law_many","_law_steps","_law_state","_law_value","_law_ends"] (am gK).names) (ci rfl T.b_range (aa (pvM 3) ac)) (az 0) aL (fG (ay aP (ah Fa (aa (pvM 1) (aa ae ac))) ae)) (pvM 0))
    (ag (aC (aI (aa aw (aa (pvM 1) (aa (aG aM T.b_tuple (aa (pvM 4) ac)) (aa (aG aM T.b_tuple (aa (pvM 7) ac)) ac))))))))))),?_⟩
  ctx_has v
  refine aR D ∅ ∅ λr1 H1 bg be D1 B1=>?_
  ctx_has v
  refine⟨∅,λp hp=>⟨(),(),?_⟩⟩
  have Z:=D1.ne hp;have a6:H p=none:=by
    cases e:H p with
    | none=>rfl
    | some o=>rw[B1 p o Z.1 Z.2 e] at hp;cases hp
  obtain⟨n,hn⟩ : ∃n:Nat,(1+r1).toNat=n:=⟨_,rfl⟩;have bb:n<=3:=()
  rw[hn];refine bK bM (λi σ H2=>∃as v5 v6,σ=[-d,-sa,-pa,some (.int (1+r1)),-p,v5,v6,none]/\aD H2 d l/\But d l H H2/\H2 p*>(as.map λx=>V.ref x.1)/\AB H2 as/\(as.map DY).Sublist (ip pool i)) ⟨[],_,_,rfl,D1.put Z.1 Z.2,B1.put a6,ab,(λx U=>by simp at U),by simp⟩ (λi σ H' h=>ow) ?_ ?_
  . rintro i x σ H2 hi U ⟨as,v5,v6,rfl,D2,B2,an,hA,au⟩
    rw[aK] at hi;rw[er hi] at U;cases U;have aF:=B2 pa _ ax.1 ax.2 a8;ctx_has v aF
    refine bK bz (λj σ H3=>∃as v6,σ=[-d,-sa,-pa,some (.int (1+r1)),-p,some (.int (0+(i:Int))),v6,none]/\aD H3 d l/\But d l H H3/\H3 p*>(as.map λx=>V.ref x.1)/\AB H3 as/\(as.map DY).Sublist (ip pool i++(pool.take j).map λv=>((i:Int),v))) ⟨as,_,rfl,D2,B2,an,hA,by simpa using au⟩ (λj σ H' a2=>by obtain⟨_,_,_,_,B,_⟩:=a2;exact(.of (B pa _ ax.1 ax.2 a8))) ?_ ?_
    . rintro j x σ H3 hj U ⟨as,v6,rfl,D3,B3,ar,ak,Y⟩
      obtain⟨v,hv,rfl⟩ : ∃v,pool[j]? = some v/\V.int v=x:=by
        rw[e9] at U;cases e:pool[j]? with
        | none=>rw[e] at U;cases U
        | some nm=>rw[e] at U;exact⟨nm,rfl,f_ U⟩
      ctx_has v
      refine aR D3 ∅ ∅ λr4 H4 aY aV D4 B4=>?_
      ctx_has v
      have ad:=B4 p _ Z.1 Z.2 ar;have a7:AB H4 as:=λx U=>(But.keepTI B4 D3).tup _ _ (ak x U)
      have ek:pool.take (j+1)=pool.take j++[v]:=by rw[i8,hv];rfl
      have aS:(as.map λx=>V.ref x.1).length < g0:=by
        have h1:=Y.length_le;rw[a_,nH,lz,a0,a_] at h1;have h2:(pool.take j).length<=5:=by rw[<- a0];exact Jv _ _
        exact l4 (show(as.map λx=>V.ref x.1).length < 1000 by rw[a_];omega) ∅
      refine cN (λh=>?_) (λh=>?_)
      . refine⟨⟨_,ad⟩,aR D4 () () λr5 H5 bd bf D5 B5=>⟨∅,λtp ao=>?_⟩⟩
        have aq:=B5 p _ Z.1 Z.2 ad;have aH:AB H5 as:=λx U=>(But.keepTI B5 D4).tup _ _ (a7 x U)
        refine⟨_,(aj.upd0 ao) _ _ aq,aS,(D5.new ao).put Z.1 Z.2,(((B3.trans B4).trans B5).new ao).put a6,as++[(tp,(i:Int),v,r5)],by rw[ab];simp,λx U=>?_,?_⟩
        . rcases j6.mp U with U | U
          . rw[ai (bA (aH x U) aq (by intro z;cases z))]
            exact(aj.upd0 ao) _ _ (aH x U)
          . rw[g7.mp U]
            show upd (upd H5 tp _) p _ tp=_
            rw[ai (Jx (ap aq ao)),ab,Kk]
        . rw[ek,ii,ii,<- append_assoc]
          exact Y.append (List.Sublist.refl _)
      . refine⟨D4,B3.trans B4,as,ad,a7,Y.trans ?_⟩
        rw[ek,ii,<- append_assoc];exact List.sublist_append_left _ _
    . rintro σ H3 ⟨as,v6,rfl,D3,B3,ar,ak,Y⟩
      rw[a_,k9] at Y;exact⟨as,_,_,rfl,D3,B3,ar,ak,by rw[jv];exact Y⟩
  . rintro σ H2 ⟨as,v5,v6,rfl,D2,B2,an,hA,au⟩
    rw[aK] at au;ctx_has v
    refine⟨(),(),λDd av=>?_⟩
    have nD:=D2.ne av;rw[hn];refine bL bM (λi ys H'=>∃zs:List Int,ys=zs.map V.int/\zs.length<=i/\aD H' d l/\But d l H2 H'/\H' Dd*>ys) ⟨[],rfl,by simp,D2.new av,(But.refl H2).new av,ab⟩ (λi ys H' h=>ow) ?_ ?_
    . rintro i x ys H3 hi U ⟨zs,rfl,a3,D3,B3,a1⟩
      rw[aK] at hi;rw[er hi] at U;cases U;ctx_has v
      refine aR D3 ∅ ∅ λr4 H4 aY aV D4 B4=>?_
      ctx_has v
      have a9:=B4 Dd _ nD.1 nD.2 a1;refine cN (λh=>?_) (λh=>?_)
      . exact⟨a9,l4 (show(zs.map V.int).length < 1000 by rw[a_];omega) ∅,zs++[0+(i:Int)],by simp,by simp;omega,D4.put nD.1 nD.2,(B3.trans B4).put av,ab⟩
      . exact⟨zs,rfl,(),D4,B3.trans B4,a9⟩
    . rintro ys H3 ⟨zs,rfl,a3,D3,B3,a1⟩
      rw[aK] at a3;have aU:=B3 p _ Z.1 Z.2 an;refine⟨_,aU,λl1 g1=>⟨Dd,rfl,_,(aj.upd0 g1) _ _ a1,λl2 g2=>⟨∅,λwa g3=>?_⟩⟩⟩
      have s4:aj H3 (upd (upd (upd H3 l1 (.tup (as.map λx=>V.ref x.1))) l2 (.tup (zs.map V.int))) wa (.tup [.str "way",.ref sa,.ref l1,.ref l2])):=((aj.upd0 g1).upd_new g2).upd_new g3
      have B4:=(B2.trans B3).same s4;have a5:=((D3.new g1).new g2).ne g3;have aN:=B2.trans B3;have aQ:=au.length_le;rw[a_,lz,a0] at aQ;have a4:l1≠l2:=λz=>by rw[z,ab] at g2;cases g2
      have aT:l1≠wa:=λz=>by rw[<- z,ai a4,ab] at g3;cases g3
      have aX:l2≠wa:=λz=>by rw[<- z,ab] at g3;cases g3
      have ak:AB H3 as:=λx U=>(But.keepTI B3 D2).tup _ _ (hA x U)
      refine k wa (as.map (·.2)) zs _ ?_ ?_ (by show(as.map (·.2)).length<=60;rw[a_];omega) (by show zs.length<=60;omega) ⟨sa,l1,l2,_,ab,s4 _ _ ((But.keepTI aN D).tup _ _ aW),by rw[ai aT,ai a4];exact ab,⟨as,rfl,rfl,λx U=>s4 _ _ (ak x U)⟩,by rw[ai aX];exact ab⟩ (D3.same s4) B4
      . cases e:H wa with
        | none=>rfl
        | some o =>
          have z:=((aj.upd0 (o:=.tup (as.map λx=>V.ref x.1)) g1).upd_new (o:=.tup (zs.map V.int)) g2) _ _ (aN wa o a5.1 a5.2 e)
          rw[z] at g3;cases g3
      . show((as.map (·.2)).map λx=>(x.1,x.2.1)).Nodup
        rw[fx];exact(mj aZ n).sublist au
def fK (h:Bool):List Str:=("unlike" : Str) :: "many" :: "sum" :: "table" :: "way" :: "behind" ::(if h then[("same" : Str)] else[])
theorem wC (h:Bool):6<=(fK h).length/\(fK h).length<=7:=by cases h <;> exact⟨∅,∅⟩
theorem vX (ns:List Str):n_ (.list (ns.map Kz)) (.list [])=decide (ns=[]):=by
 cases ns with
 | nil=>rfl
 | cons n ns=>simp[n_,t5]
def okC (ws cs:List Str):Prop:=cs≠[]/\cs.Nodup/\(∀c∈cs,c∈ws)/\cs.length<=12
def okV (ns vs:List Int):Prop:=vs.Nodup/\(∀v∈vs,v∈ns)/\vs.length<=20
def okW (ws:List Str) (ns:List Int):Wi->Prop
 | .un cs=>okC ws cs
 | .mn z cs _ _=>okC ws cs/\okV ns z
 | .sm ts _ _=>okC ws (ts.map (·.2))/\∀x∈ts,-1000000<=x.1/\x.1<=1000000/\x.1≠0
 | .tb cs rows=>okC ws cs/\rows.Nodup/\(∀r∈rows,r.length=cs.length)/\rows.length<=7
 | .wy cs ps es=>okC ws cs/\(ps.map λx=>(x.1,x.2.1)).Nodup/\ps.length<=60/\es.length<=60
 | .bh cs _=>okC ws cs
def okX (ws:List Str) (ns:List Int):Wx->Prop
 | .pl W=>okW ws ns W
 | .sa c vs W=>c∈ws/\okV ns vs/\okW ws ns W/\c∉cE W
theorem Ax (h : ∀c∈ws,c∈ws') : ∀{W:Wi},okW ws ns W->okW ws' ns W
 | .un _,⟨a,b,c,d⟩=>⟨a,b,λx z=>h x (c x z),d⟩
 | .mn _ _ _ _,⟨⟨a,b,c,d⟩,r⟩=>⟨⟨a,b,λx z=>h x (c x z),d⟩,r⟩
 | .sm _ _ _,⟨⟨a,b,c,d⟩,r⟩=>⟨⟨a,b,λx z=>h x (c x z),d⟩,r⟩
 | .tb _ _,⟨⟨a,b,c,d⟩,r⟩=>⟨⟨a,b,λx z=>h x (c x z),d⟩,r⟩
 | .wy _ _ _,⟨⟨a,b,c,d⟩,r⟩=>⟨⟨a,b,λx z=>h x (c x z),d⟩,r⟩
 | .bh _ _,⟨a,b,c,d⟩=>⟨a,b,λx z=>h x (c x z),d⟩
theorem lJ : ∀{W:Wi},okW ws ns W->∀c∈cE W,c∈ws
 | .un _,⟨_,_,c,_⟩=>c
 | .mn _ _ _ _,⟨⟨_,_,c,_⟩,_⟩=>c
 | .sm _ _ _,⟨⟨_,_,c,_⟩,_⟩=>c
 | .tb _ _,⟨⟨_,_,c,_⟩,_⟩=>c
 | .wy _ _ _,⟨⟨_,_,c,_⟩,_⟩=>c
 | .bh _ _,⟨_,_,c,_⟩=>c
theorem rJ : ∀{W:Wx},okX ws ns W->∀c∈cp W,c∈ws
 | .pl _,h=>lJ h
 | .sa _ _ _,h=>λc U=>by
  rcases i6.mp U with rfl | z
  .exact h.1
  .exact lJ h.2.2.1 c z
structure gA (H:Hp) (d l a ra pa:Addr) (ws:List Str) (ns:List Int) (kvs:List (Key × V)) (rm:Str->List Int):Prop where
 D:aD H d l
 na:a≠d/\a≠l
 nr:ra≠d/\ra≠l
 np:pa≠d/\pa≠l
 ha:H a*>(ws.map V.str)
 hr:H ra<*kvs
 hp:H pa*>(ns.map V.int)
 rf:cJ H kvs ws rm
 wn:ws≠[]
 nd:ws.Nodup
 wl:ws.length<=12
 n5:ns.length=5
 nn:ns.Nodup
 nm : ∀c∈ws,cD c
 gd : ∀c∈ws,rm c≠[]/\(rm c).length<=20/\∀v∈rm c,-1000000<=v/\v<=1000000
theorem gA.but (F:gA H d l a ra pa ws ns kvs rm) (D:aD H' d l) (B:But d l H H'):gA H' d l a ra pa ws ns kvs rm :=
 ⟨D,F.na,F.nr,F.np,B _ _ F.na.1 F.na.2 F.ha,B _ _ F.nr.1 F.nr.2 F.hr,B _ _ F.np.1 F.np.2 F.hp,F.rf.same λx vs e=>B.tup F.D e,F.wn,F.nd,F.wl,F.n5,F.nn,F.nm,F.gd⟩
theorem gA.same {H H':Hp} {d l a ra pa:Addr} {ws:List Str} {ns:List Int} {kvs:List (Key × V)} {rm:Str->List Int} (F:gA H d l a ra pa ws ns kvs rm) (s:aj H H'):gA H' d l a ra pa ws ns kvs rm :=
 F.but (F.D.same s) ((But.refl H).same s)
def iK (h:Bool):Sp:=λvs H Q _=>∃(d l a ra pa so:Addr) (ws:List Str) (ns:List Int) (kvs:List (Key × V)) (rm:Str->List Int),vs=[.ref d,.ref a,.ref ra,.ref pa,.ref so]/\gA H d l a ra pa ws ns kvs rm/\(so≠d/\so≠l)/\H so*>((fK h).map V.str) /\
 ∀(w:Addr) (W:Wx) (H':Hp),WX H' w W->okX ws ns W->(h=false->∃z,W = .pl z)->aD H' d l->But d l H H'->Q (.ref w) H'
def kJ (h:Bool):Sp:=if h then iK false else λ_ _ _ _=>False
theorem wc {h:Bool} {s:Str} (z:s∈fK h):s = "unlike" \/ s = "many" \/ s = "sum" \/ s = "table" \/ s = "way" \/ s = "behind" \/(h=true/\s = "same"):=by
 unfold fK at z;cases h
 .simpa using z
 .simpa using z
theorem wN {cs zs:List Str} (z:(cs++zs).Perm ws) (h1:1<=cs.length) (nd:ws.Nodup) (Y:ws.length<=12):okC ws cs:=by
 have hn:=z.nodup_iff.mpr nd;refine⟨λe=>by rw[e] at h1;simp at h1,(x_.mp hn).1,λc U=>z.mem_iff.mp (t6 _ U),?_⟩
 have:=z.length_eq
 rw[nH] at this;omega
theorem BS {vs zs:List Int} (z:(vs++zs).Perm ns) (nd:ns.Nodup) (Y:ns.length=5):okV ns vs:=by
 have hn:=z.nodup_iff.mpr nd;refine⟨(x_.mp hn).1,λc U=>z.mem_iff.mp (t6 _ U),?_⟩
 have:=z.length_eq
 rw[nH] at this;omega
theorem gM {h:Bool} (T:Txt w K mg base) (L:FnL K mg "_law_wish" eB ["_law_deal_here","_law_names_here","_law_rooms_here","_law_pool_here","_law_sorts"]) (Fa : @Dz0 P w K mg base) (Fb : @Dz5 P w K mg base) (FO : @Dz7 P w K mg base) (FE : @Dz8 P w K mg base) (FP : @Dz9 P w K mg base) (bp:Fn P w K mg base "_law_wish" (n+1) ["_law_deal_here","_law_names_here","_law_rooms_here","_law_pool_here","_law_sorts"] (kJ h)):Fn P w K mg base "_law_wish" (n+5) ["_law_deal_here","_law_names_here","_law_rooms_here","_law_pool_here","_law_sorts"] (iK h):=by
 ctx_has z tI <;> obtain⟨d,l,a,ra,pa,so,ws,ns,kvs,rm,rfl,M,a9,a5,k⟩:=h
 .rfl
 refine⟨_,(af (aB 5 (ak dE (pvM 4) (ah Fa (aa (pvM 0) (aa (aF aZ T.b_len (aa (pvM 4) ac)) ac)))))
  (af (aB 6 (ah Fb (aa (pvM 0) (aa (pvM 1) (aa (aF (zh rfl) T.b_min (aa (aF aZ T.b_len (aa (pvM 1) ac)) (aa (aO bq ae (aG zk T.b_int (aa (kx aP (pvM 5) aw) ac))) ac))) ac)))))
  (af (aJ (ay aP (pvM 5) aw) (ag (aC (aI (aa aw (aa (pvM 6) ac))))) aA)
  (af (aJ (ay aP (pvM 5) aw) (af (aB 7 (ah Fa (aa (pvM 0) (aa (aO bq (aF gI T.b_len (aa (pvM 6) ac)) ae) ac))))
  (ag (aC (aI (aa aw (aa (ah Fb (aa (pvM 0) (aa (pvM 3) (aa ae ac)))) (aa (pvM 6) (aa (pvM 7) (aa (aO bq (pvM 7) (ah Fa (aa (pvM 0) (aa (aO bq (aO gx (aF gI T.b_len (aa (pvM 6) ac)) (pvM 7)) ae) ac)))) ac))))))))) aA)
  (af (aJ (ay aP (pvM 5) aw) (ag (aC (ah FO (aa (pvM 0) (aa (pvM 6) (aa (pvM 2) ac)))))) aA)
  (af (aJ (ay aP (pvM 5) aw) (ag (aC (aI (aa aw (aa (pvM 6) (aa (ah FE (aa (pvM 0) (aa (pvM 6) (aa (pvM 3) ac)))) ac)))))) aA)
  (af (aJ (ay aP (pvM 5) aw) (ag (aC (ah FP (aa (pvM 0) (aa (pvM 6) (aa (pvM 3) ac)))))) aA)
  (af (aJ (ay aP (pvM 5) aw) (ag (aC (aI (aa aw (aa (pvM 6) (aa (ak dE (ba (aa ae (aa ae (aa (ji fW ae) (aa ae (aa ae ac)))))) (ah Fa (aa (pvM 0) (aa ae ac)))) ac)))))) aA)
  (af (bW 8 (N:=["_law_name","_law_some_here"]) (nt:=1) (js:=[6]) (aE ["_law_deal_here","_law_names_here","_law_rooms_here","_law_pool_here","_law_sorts","_law_sort","_law_some_here","_law_low","_law_rest","_law_inner"] (am eB).names) (dg (K:=K) rfl (pvM 1)) (az 0) aL (fG (ay Be (pvM 0) (ak ao (pvM 1) ae))) (pvM 0))
  (af (aJ (ay (tG (iw hr)) (pvM 8) (ba ac)) (ag (aC (aI (aa aw (aa (pvM 6) ac))))) aA)
  (af (aB 9 (ah bp (aa (pvM 0) (aa (pvM 8) (aa (pvM 2) (aa (pvM 3) (aa (ba (aa aw (aa aw (aa aw (aa aw (aa aw (aa aw ac))))))) ac)))))))
  (ag (aC (aI (aa aw (aa (ak ao (pvM 6) ae) (aa (ah Fb (aa (pvM 0) (aa (pvM 3) (aa ae ac)))) (aa (pvM 9) ac)))))))))))))))))),?_⟩
 ctx_has v a5
 have bs:=wC h;refine aR M.D (by rw[a_];omega) (by rw[a_];omega) λr H1 r0 r1 D1 B1=>?_
 rw[a_] at r1;obtain⟨s,hs,bo⟩:=yd (xs:=fK h) r0 r1 V.str;have a4:=B1 so _ a9.1 a9.2 a5;have M1:=M.but D1 B1;have a6:=M1.ha;have w1:=length_pos_iff.mpr M.wn;have wl:=M.wl;have n5:=M.n5;ctx_has v a4 bo a6
 obtain⟨m,hm,m1,m2⟩ : ∃m:Int,(if (1+if s=b_ "unlike" then 1 else 0) < ((ws.map V.str).length:Int) then 1+(if s=b_ "unlike" then 1 else 0) else((ws.map V.str).length:Int))=m/\1<=m/\m<=ws.length:=by
  refine⟨_,rfl,?_⟩
  rw[a_]
  split <;> split <;> constructor <;> omega
 rw[hm];refine⟨d,l,a,m,ws.map V.str,rfl,D1,.inl a6,(),by rw[a_];omega,by rw[a_];omega,λsa aD rest H2 bt bn bi U D2 B2=>?_⟩
 obtain⟨cs,zs,rfl,ax⟩:=eZ V.str GE (λ_=>rfl) bn
 rw[a_] at bi;have Y:okC ws cs:=wN ax () M.nd M.wl
 have M2:=M1.but D2 B2;have ad:=B1.trans B2;have cl:=Y.2.2.2;rcases wc hs with rfl | rfl | rfl | rfl | rfl | rfl | ⟨rfl,rfl⟩
 .ctx_has v
  refine⟨∅,λw hw=>k w (.pl (.un cs)) _ ⟨sa,ab,(aj.upd0 hw) _ _ U⟩ Y (λ_=>⟨_,rfl⟩) (D2.new hw) (ad.new hw)⟩
 .ctx_has v U
  rw[a_];refine aR D2 () () λr3 H3 br bw D3 B3=>?_
  have M3:=M2.but D3 B3;refine⟨d,l,pa,0,ns.map V.int,rfl,D3,.inl M3.hp,∅,by rw[a_];omega,by rw[a_];omega,λq aD rest H4 fq aM _ aW D4 B4=>?_⟩
  obtain⟨av,zv,rfl,a2⟩:=eZ V.int Ih (λ_=>rfl) aM
  have ai:=B4.tup D3 (B3.tup D2 U);ctx_has v ai
  rw[a_];refine aR D4 () () λr5 H5 bu bv D5 B5=>?_
  ctx_has v
  refine⟨∅,λw hw=>k w (.pl (.mn av cs r3 (r3+r5))) _ ⟨q,sa,ab,(aj.upd0 hw) _ _ (B5.tup D4 aW),(aj.upd0 hw) _ _ (B5.tup D4 ai)⟩ ⟨Y,BS a2 M.nn M.n5⟩ (λ_=>⟨_,rfl⟩) (D5.new hw) ((((ad.trans B3).trans B4).trans B5).new hw)⟩
 .ctx_has v
  refine⟨d,l,sa,ra,cs,kvs,rm,rfl,D2,M.nr,U,M2.hr,λc Z=>M2.rf c (Y.2.2.1 c Z),cl,λc Z=>M.gd c (Y.2.2.1 c Z),λw ts lo hi H3 fw hW bd hb D3 B3=>?_⟩
  refine k w (.pl (.sm ts lo hi)) H3 hW ⟨?_,hb⟩ (λ_=>⟨_,rfl⟩) D3 (ad.trans B3)
  rw[bd];refine⟨?_,Y.2.1.sublist (JF _ _),λc Z=>Y.2.2.1 c (v_ Z),by simp;omega⟩
  intro e;have:=Y.1
  cases cs with
  | nil=>exact this rfl
  | cons x xs=>simp at e
 .ctx_has v
  refine⟨d,l,sa,pa,cs,ns,rfl,D2,M.np,U,M2.hp,M.n5,cl,λp us rows H3 fp bb aU a1 be aK D3 B3=>⟨∅,λw hw=>?_⟩⟩
  have s4:=aj.upd0 (o:=.tup [.str "table",.ref sa,.ref p]) hw;exact k w (.pl (.tb cs rows)) _ ⟨sa,p,us,ab,s4 _ _ (B3.tup D2 U),s4 _ _ bb,aU.keep λb xs e=>s4 _ _ e⟩ ⟨Y,a1,be,aK⟩ (λ_=>⟨_,rfl⟩) (D3.same s4) ((ad.trans B3).same s4)
 .ctx_has v
  exact⟨d,l,sa,pa,cs,ns,rfl,D2,U,M.np,M2.hp,M.n5,M.nn,λwa ps es H3 fw a1 a0 aY hW D3 B3=>k wa (.pl (.wy cs ps es)) H3 hW ⟨Y,a1,a0,aY⟩ (λ_=>⟨_,rfl⟩) D3 (ad.trans B3)⟩
 .ctx_has v
  refine⟨∅,λt ht=>jR D2 ht ∅ ∅ rfl λr3 v H3 hv bj D3 B3 h3=>?_⟩
  obtain⟨aq,rfl⟩ : ∃aq:Int,v = .int aq:=by
   simp only[i6,p_,or_false] at hv;rcases hv with rfl | rfl | rfl | rfl | rfl
   .exact⟨_,rfl⟩
   .exact⟨_,rfl⟩
   .exact⟨_,rfl⟩
   .exact⟨_,rfl⟩
   .exact⟨_,rfl⟩
  ctx_has v h3 bj
  refine⟨∅,λw hw=>?_⟩
  have s4:=aj.upd0 (o:=.tup [.str "behind",.ref sa,.int aq]) hw;exact k w (.pl (.bh cs aq)) _ ⟨sa,ab,s4 _ _ (B3.tup D2 U)⟩ Y (λ_=>⟨_,rfl⟩) (D3.same s4) ((ad.trans B3).same s4)
 .have h2a:=M2.ha
  obtain⟨c0,cr,aS⟩ : ∃c0 cr,cs=c0 :: cr:=by
   cases cs with
   | nil=>exact absurd rfl Y.1
   | cons x xs=>exact⟨x,xs,rfl⟩
  have e0:atI (cs.map V.str) 0=some (.str c0):=by rw[aS];exact aQ (j:=0) (by simp)
  have aT:c0∈cs:=by rw[aS];exact j_
  ctx_has v h2a
  intro R hR;have nR:=D2.ne hR;refine tz bz (λv=>match v with | .str c=>!decide (c=c0) | _=>false) id hR (λH' s=>.of (s _ _ h2a)) (by simp;omega) ?_ ?_ ?_
  .intro x H3 Q3 hx sm q3
   obtain⟨y,hy,rfl⟩:=e7.mp hx;have e1:=sm _ _ U;ctx_has v e1 e0
   exact q3 H3 (aj.refl _)
  .intro x H3 Q3 hx _ sm q3
   ctx_has v
   exact q3 H3 (aj.refl _)
  .intro H3 sm h3
   obtain⟨rs,ap⟩ : ∃rs,ws.filter (λc=>!decide (c=c0))=rs:=⟨_,rfl⟩
   have aH:H3 R*>(rs.map V.str):=by rw[h3,map_id,filter_map,<- ap];rfl
   have an : ∀c∈rs,c∈ws/\c≠c0:=λc Z=>by
    rw[<- ap] at Z;have:=u7.mp Z
    exact⟨this.1,by simpa using this.2⟩
   have bk:rs.length<=12:=by rw[<- ap];exact le_trans (t_ _ _) M.wl
   have aV:rs.Nodup:=by rw[<- ap];exact M.nd.sublist List.filter_sublist
   refine⟨∅,λe he=>?_⟩
   have s4:=aj.upd0 (o:=.lst []) he;refine⟨.list (rs.map Kz),.list [],.lst (.of (s4 _ _ aH)) (cC.strs rs),.lst (.of ab) .nil,by unfold y8;exact on λc Z=>M.nm c (an c Z).1,rfl,by unfold t3;rw[df];decide,_,rfl,?_⟩
   rw[vX];have a3:=sm.trans s4;have D4:=D2.same a3;have B4:=ad.same a3;have ai:=a3 _ _ U;refine cN (λh0=>?_) (λh0=>?_)
   .exact⟨∅,λw hw=>k w (.pl (.un cs)) _ ⟨sa,ab,(aj.upd0 hw) _ _ ai⟩ Y (λ_=>⟨_,rfl⟩) (D4.new hw) (B4.new hw)⟩
   .refine⟨∅,λbc ar=>?_⟩
    have a7:=D4.ne ar;have bm:rs≠[]:=by simpa using h0
    have s5:=s4.upd_new (o:=.lst ((fK false).map V.str)) ar;have M5:=(M2.same sm).same s5;unfold kJ;rw[if_pos rfl];refine⟨d,l,R,ra,pa,bc,rs,ns,kvs,rm,rfl,⟨M5.D,nR,M.nr,M.np,s5 _ _ aH,M5.hr,M5.hp,λc Z=>M5.rf c (an c Z).1,bm,aV,bk,M.n5,M.nn,λc Z=>M.nm c (an c Z).1,λc Z=>M.gd c (an c Z).1⟩,a7,ab,λu W H6 hW aX a0 D6 B6=>?_⟩
    obtain⟨W0,rfl⟩:=a0 rfl;have aN:=B6.tup M5.D (s5 _ _ (sm _ _ U));have bg:=(ad.same (sm.trans s5)).trans B6;have M6:=M5.but D6 B6;refine⟨_,aN,_,e0,d,l,pa,0,ns.map V.int,rfl,D6,.inl M6.hp,∅,by rw[a_];omega,by rw[a_];omega,λq aD rest H7 fq a8 _ bf D7 B7=>⟨∅,λw hw=>?_⟩⟩
    obtain⟨vs,zv,rfl,a2⟩:=eZ V.int Ih (λ_=>rfl) a8
    have s8:=aj.upd0 (o:=.tup [.str "same",.str c0,.ref q,.ref u]) hw;have au:okW rs ns W0:=aX
    refine k w (.sa c0 vs W0) _ ⟨q,u,ab,s8 _ _ bf,cM hW λb xs e=>s8 _ _ (B7.tup D6 e)⟩ ⟨Y.2.2.1 c0 aT,BS a2 M.nn M.n5,Ax (λc Z=>(an c Z).1) au,λZ=>(an c0 (lJ au c0 Z)).2 rfl⟩ (λz=>by cases z) (D7.same s8) ((bg.trans B7).same s8)
def ld {α:Type} [DecidableEq α] (m:List (α × α)) (x:α):α:=((m.find? λy=>decide (y.1=x)).map (·.2)).getD x
def PM {α:Type} (m:List (α × α)):Prop:=(m.map (·.1)).Nodup/\(m.map (·.2)).Perm (m.map (·.1))
def kvS (m:List (Str × Str)):List (Key × V):=m.map λx=>(e_ x.1,.str x.2)
def kvI (m:List (Int × Int)):List (Key × V):=m.map λx=>(i9 x.1,.int x.2)
theorem BO (m:List (Str × Str)) (s:Str):(bg (kvS m) (e_ s)).getD (.str s) = .str (ld m s):=by
 unfold ld
 induction m with
 | nil=>rfl
 | cons y m U =>
  unfold kvS at U ⊢;rw[i_]
  by_cases e:y.1=s
  .rw[bi (by rw[e]),xq,decide_eq_true e];rfl
  .rw[aS (λz=>e (I_ z)),xq,decide_eq_false e];exact U
theorem EF (m:List (Int × Int)) (s:Int):(bg (kvI m) (i9 s)).getD (.int s) = .int (ld m s):=by
 unfold ld
 induction m with
 | nil=>rfl
 | cons y m U =>
  unfold kvI at U ⊢;rw[i_]
  by_cases e:y.1=s
  .rw[bi (by rw[e]),xq,decide_eq_true e];rfl
  .rw[aS (λz=>e (Jz z)),xq,decide_eq_false e];exact U
section
variable [DecidableEq α] {m:List (α × α)}
theorem Hf (h:(m.map (·.1)).Nodup) {y:α × α} (U:y∈m):ld m y.1=y.2:=by
 unfold ld
 induction m with
 | nil=>cases U
 | cons z m Y =>
  rw[i_,w5] at h;rw[xq];rcases i6.mp U with rfl | U
  .rw[decide_eq_true rfl];rfl
  .rw[decide_eq_false (λe:z.1=y.1=>h.1 (by rw[e];exact e7.mpr ⟨y,U,rfl⟩))]
   exact Y h.2 U
theorem gw {x:α} (h:x∉m.map (·.1)):ld m x=x:=by
 unfold ld;have:m.find? (λy=>decide (y.1=x))=none:=by
  rw[List.find?_eq_none];intro y U z;exact h (e7.mpr ⟨y,U,of_decide_eq_true z⟩)
 rw[this];rfl
theorem xv (h:PM m) {x:α} (U:x∈m.map (·.1)) : ∃y∈m,y.1=x/\ld m x=y.2:=by
 obtain⟨y,z,rfl⟩:=e7.mp U;exact⟨y,z,rfl,Hf h.1 z⟩
theorem rP (h:PM m) {x:α} (z:x∈m.map (·.1)):ld m x∈m.map (·.1):=by
 obtain⟨y,U,_,e⟩:=xv h z;rw[e];exact h.2.mem_iff.mp (e7.mpr ⟨y,U,rfl⟩)
theorem CM (h:PM m) {y z:α × α} (U:y∈m) (hz:z∈m) (e:y.2=z.2):y=z:=by
 have hn:(m.map (·.2)).Nodup:=h.2.nodup_iff.mpr h.1
 clear h
 induction m with
 | nil=>cases U
 | cons w m Y =>
  rw[i_,w5] at hn;rcases i6.mp U with rfl | hy'
  .rcases i6.mp hz with rfl | hz'
   .rfl
   .exact absurd (e7.mpr ⟨z,hz',e.symm⟩) hn.1
  .rcases i6.mp hz with rfl | hz'
   .exact absurd (e7.mpr ⟨y,hy',e⟩) hn.1
   .exact Y hy' hz' hn.2
theorem iH (h:PM m) {x z:α} (e:ld m x=ld m z):x=z:=by
 by_cases U:x∈m.map (·.1)
 .obtain⟨a,ha,rfl,ea⟩:=xv h U
  by_cases hz:z∈m.map (·.1)
  .obtain⟨b,hb,rfl,eb⟩:=xv h hz
   rw[ea,eb] at e;rw[CM h ha hb e]
  .rw[gw hz] at e
   exact absurd (e ▸ rP h U) hz
 .by_cases hz:z∈m.map (·.1)
  .rw[gw U] at e
   exact absurd (e.symm ▸ rP h hz) U
  .rw[gw U,gw hz] at e
   exact e
end
structure ce (H:Hp) (t na va:Addr) (mS:List (Str × Str)) (mI:List (Int × Int)):Prop where
 ht:H t>>[.ref na,.ref va]
 hn:H na<*(kvS mS)
 hv:H va<*(kvI mI)
 ps:PM mS
 pi:PM mI
 ls:mS.length<=40
 li:mI.length<=40
theorem ce.same (h:ce H t na va mS mI) (s:aj H H'):ce H' t na va mS mI:=⟨s _ _ h.ht,s _ _ h.hn,s _ _ h.hv,h.ps,h.pi,h.ls,h.li⟩
def idI (mI:List (Int × Int)):Bool:=mI.all λx=>decide (x.1=x.2)
def cS (mS:List (Str × Str)) (mI:List (Int × Int)):Wi->Option Wi
 | .un cs=>some (.un (cs.map (ld mS)))
 | .mn U cs lo hi=>some (.mn (U.map (ld mI)) (cs.map (ld mS)) lo hi)
 | .sm ts lo hi=>if idI mI then some (.sm (ts.map λx=>(x.1,ld mS x.2)) lo hi) else none
 | .tb cs rows=>some (.tb (cs.map (ld mS)) (rows.map λr=>r.map (ld mI)))
 | .wy cs ps es=>some (.wy (cs.map (ld mS)) (ps.map λx=>(x.1,ld mI x.2.1,x.2.2)) es)
 | .bh cs z=>if idI mI then some (.bh (cs.map (ld mS)) z) else none
def bG (mS:List (Str × Str)) (mI:List (Int × Int)):Wx->Option Wx
 | .pl W=>(cS mS mI W).map .pl
 | .sa c vs W=>(cS mS mI W).map (.sa (ld mS c) (vs.map (ld mI)))
def WO (H:Hp) (v:V):Option Wx->Prop
 | none=>v = .non
 | some W=>∃w,v = .ref w/\WX H w W
def WOs (H:Hp) (v:V):Option Wi->Prop
 | none=>v = .non
 | some W=>∃w,v = .ref w/\WS H w W
def G6:Sp:=λvs H Q _=>∃(a:Addr) (s:Str) (m:List (Str × Str)),vs=[.ref a,.str s]/\H a<*(kvS m)/\Q (.str (ld m s)) H
def GS:Sp:=λvs H Q _=>∃(a:Addr) (s:Int) (m:List (Int × Int)),vs=[.ref a,.int s]/\H a<*(kvI m)/\Q (.int (ld m s)) H
def A6:Sp:=λvs H Q E=>∃x y,vs=[x,y]/\(G6 vs H Q E\/GS vs H Q E)
def zB:Sp:=λvs H Q _=>∃(a t:Addr) (cs:List Str) (m:List (Str × Str)),vs=[.ref a,.ref t]/\H a<*(kvS m)/\H t>>(cs.map V.str)/\cs.length<=60/\∀p H',aj H H'->H' p>>((cs.map (ld m)).map V.str)->Q (.ref p) H'
def zm:Sp:=λvs H Q _=>∃(a t:Addr) (cs:List Int) (m:List (Int × Int)),vs=[.ref a,.ref t]/\H a<*(kvI m)/\H t>>(cs.map V.int)/\cs.length<=60/\∀p H',aj H H'->H' p>>((cs.map (ld m)).map V.int)->Q (.ref p) H'
def jX:Sp:=λvs H Q E=>∃x y,vs=[x,y]/\(zB vs H Q E\/zm vs H Q E)
theorem sK {s:Str} {m:List (Str × Str)} {Q:VK} {E:XK} (h1:H a<*(kvS m)) (k:Q (.str (ld m s)) H):A6 [.ref a,.str s] H Q E:=⟨_,_,rfl,.inl ⟨a,s,m,rfl,h1,k⟩⟩
theorem yh {s:Int} {m:List (Int × Int)} {Q:VK} {E:XK} (h1:H a<*(kvI m)) (k:Q (.int (ld m s)) H):A6 [.ref a,.int s] H Q E:=⟨_,_,rfl,.inr ⟨a,s,m,rfl,h1,k⟩⟩
theorem dX {cs:List Str} {m:List (Str × Str)} {Q:VK} {E:XK} (h1:H a<*(kvS m)) (h2:H t>>(cs.map V.str)) (hl:cs.length<=60) (k : ∀p H',aj H H'->H' p>>((cs.map (ld m)).map V.str)->Q (.ref p) H'):jX [.ref a,.ref t] H Q E:=⟨_,_,rfl,.inl ⟨a,t,cs,m,rfl,h1,h2,hl,k⟩⟩
theorem iX {cs:List Int} {m:List (Int × Int)} {Q:VK} {E:XK} (h1:H a<*(kvI m)) (h2:H t>>(cs.map V.int)) (hl:cs.length<=60) (k : ∀p H',aj H H'->H' p>>((cs.map (ld m)).map V.int)->Q (.ref p) H'):jX [.ref a,.ref t] H Q E:=⟨_,_,rfl,.inr ⟨a,t,cs,m,rfl,h1,h2,hl,k⟩⟩
abbrev Am:=Fn P w K mg base "led" 1 ["leads","thing"] (A6)
theorem Gj (T:Txt w K mg base) (L:FnL K mg "led" Bs ["leads","thing"]) : @Am P w K mg base:=by
 ctx_has z Gm <;> obtain⟨Z,Y,rfl,h⟩:=h
 .rfl
 refine⟨_,(ag (aC (eA hu (pvM 0) (pvM 1) (pvM 1) ⟨rfl,rfl,rfl,rfl⟩))),?_⟩
 rcases h with⟨a,s,m,e,U,q⟩ | ⟨a,s,m,e,U,q⟩ <;> cases e
 .ctx_has v fL U
  refine⟨.inl ⟨_,.inl U⟩,_,.inl ⟨_,e_ s,.inl U,rfl,rfl⟩,?_⟩
  rw[BO];exact q
 .ctx_has v fL U
  refine⟨.inl ⟨_,.inl U⟩,_,.inl ⟨_,i9 s,.inl U,rfl,rfl⟩,?_⟩
  rw[EF];exact q
abbrev wQ:=Fn P w K mg base "all_led" 2 ["leads","things"] (jX)
theorem wu (T:Txt w K mg base) (L:FnL K mg "all_led" iZ ["leads","things"]) (FQ : @Am P w K mg base) : @wQ P w K mg base:=by
 ctx_has z xg <;> obtain⟨x0,y0,rfl,h⟩:=h
 .rfl
 refine⟨_,(ag (aC (aG aM T.b_tuple (aa (aW (N:=["thing","leads"]) (nt:=1) (js:=[0]) (aE ["leads","things"] (am iZ).names) (jz (K:=K) rfl (pvM 1)) (az 0) aL aU (ah FQ (aa (pvM 1) (aa (pvM 0) ac)))) ac)))),?_⟩
 rcases h with⟨a,t,cs,m,e,Z,U,hl,k⟩ | ⟨a,t,cs,m,e,Z,U,hl,k⟩ <;> cases e
 .ctx_has v U
  intro D hD;refine dr aT (λv=>match v with | .str c=>.str (ld m c) | _=>.non) hD (λH' s=>.of (s _ _ U)) (by simp;omega) ?_ ?_
  .intro x H2 Q2 hx sm q2
   obtain⟨y,hy,rfl⟩:=e7.mp hx;ctx_has v
   exact sK (sm _ _ Z) (q2 H2 (aj.refl _))
  .intro H2 sm h2
   ctx_has v h2
   intro p Y;refine k p _ (sm.upd_new Y) ?_
   rw[ab,fx,fx];rfl
 .ctx_has v U
  intro D hD;refine dr aT (λv=>match v with | .int c=>.int (ld m c) | _=>.non) hD (λH' s=>.of (s _ _ U)) (by simp;omega) ?_ ?_
  .intro x H2 Q2 hx sm q2
   obtain⟨y,hy,rfl⟩:=e7.mp hx;ctx_has v
   exact yh (sm _ _ Z) (q2 H2 (aj.refl _))
  .intro H2 sm h2
   ctx_has v h2
   intro p Y;refine k p _ (sm.upd_new Y) ?_
   rw[ab,fx,fx];rfl
theorem dz {zs:List α} {e:α->V} (w:Wlk J (zs.map e) C) {g:TG} {te:TE} {σ0:St} {Q:VK} {H1:Hp} {D:Addr} (f:α->β) (c:β->List V) (hD:H1 D=none) (hC : ∀H',aj H1 H'->C H') (hn:zs.length<=900)
  (he : ∀z∈zs,∀(H2:Hp) (Q2:VK),aj H1 H2->(∀t U,aj H2 U->U t>>(c (f z))->Q2 (.ref t) U)->g (e z) σ0 H2 λac U=>te ac U Q2)
  (hd : ∀(bs:List (Addr × β)) (H2:Hp),bs.map (·.2)=zs.map f->(∀x∈bs,H2 x.1>>(c x.2))->aj H1 H2->H2 D*>(bs.map λx=>V.ref x.1)->Q (.ref D) H2):kB J σ0 g uB te Q H1 D:=by
 refine bL w (λi ys H=>∃bs:List (Addr × β),ys=bs.map (λx=>V.ref x.1)/\bs.map (·.2)=(zs.take i).map f/\(∀x∈bs,H x.1>>(c x.2))/\aj H1 H/\H D*>ys) ⟨[],rfl,rfl,by simp,aj.upd0 hD,ab⟩ (λi ys H Z=>by obtain⟨_,_,_,_,s,_⟩:=Z;exact(hC _ s)) ?_ ?_
 .rintro i x ys H hi Y ⟨bs,rfl,hb,hbt,sm,hd'⟩
  rw[a_] at hi;obtain⟨z,hz,rfl⟩ : ∃z,zs[i]? = some z/\e z=x:=by
   rw[e9] at Y;cases e1:zs[i]? with
   | none=>rw[e1] at Y;cases Y
   | some nm=>rw[e1] at Y;exact⟨nm,rfl,f_ Y⟩
  simp only[uB,if_true];have ad:bs.length<=i:=by
   have:=congrArg u8 hb
   rw[a_,a_] at this;rw[this];exact List.length_take_le _ _
  refine he z (i4 hz) H _ sm λt U s3 ht=>?_
  have aa:=s3 _ _ hd';have kt : ∀b xs,U b>>xs->upd U D (.lst (bs.map (λx=>V.ref x.1)++[.ref t])) b>>xs:=λb xs q=>by rw[ai (bA q aa (by intro z;cases z))];exact q
  refine⟨aa,by rw[a_];exact au (),bs++[(t,f z)],by simp,?_,λx Y=>?_,λb o q=>by rw[ai (ap q hD)];exact s3 _ _ (sm b o q),ab⟩
  .rw[ii,hb,i8,hz,ii];rfl
  .rcases j6.mp Y with q | q
   .exact kt _ _ (s3 _ _ (hbt x q))
   .rw[g7.mp q];exact kt _ _ ht
 .rintro ys H ⟨bs,rfl,hb,hbt,sm,hd'⟩
  rw[a_,k9] at hb;exact hd bs H hb hbt sm hd'
def Bk:Sp:=λvs H Q _=>∃(t na va:Addr) (mS:List (Str × Str)) (mI:List (Int × Int)),vs=[.ref t]/\ce H t na va mS mI/\∀H',aj H H'->Q (.bl (idI mI)) H'
def szT:Wi->Prop
 | .un cs=>cs.length<=12
 | .mn z cs _ _=>z.length<=20/\cs.length<=12
 | .sm ts _ _=>ts.length<=12
 | .tb cs rows=>cs.length<=12/\rows.length<=60/\∀r∈rows,r.length<=12
 | .wy cs ps _=>cs.length<=12/\ps.length<=60
 | .bh cs _=>cs.length<=12
def bN (x:Str):Sp:=λvs H Q _=>∃(t w na va:Addr) (mS:List (Str × Str)) (mI:List (Int × Int)) (W:Wi),vs=[.ref t,.ref w]/\ce H t na va mS mI/\ia W=x/\WS H w W/\szT W/\∀v H',aj H H'->WOs H' v (cS mS mI W)->Q v H'
abbrev Es:=Fn P w K mg base "keeps_values" 1 ["turning"] (Bk)
theorem mK (T:Txt w K mg base) (L:FnL K mg "keeps_values" dF ["turning"]) : @Es P w K mg base:=by
 ctx_has z mt <;> obtain⟨t,na,va,mS,mI,rfl,T0,k⟩:=h
 .rfl
 refine⟨_,(ag (aC (aF (zw rfl) T.b_all (aa (yG (aW (N:=["value","other"]) (nt:=2) (js:=[]) (aE ["turning"] (am dF).names) (Bh (ak ao (pvM 0) ae)) (cH (n:=2) rfl (aV (az 0) (aV (az 1) cG))) dj aU (kx aP (pvM 0) (pvM 1)))) ac)))),?_⟩
 have h1:=T0.ht;have h2:=T0.hv;ctx_has v wD iI h1 h2
 refine⟨va,_,h2,λo D hD=>?_⟩
 have vD:D≠va:=λz=>by rw[z,ab] at hD;cases hD
 have Y:H D=none:=by rw[ai vD] at hD;exact hD
 refine Ce (λj ys H'=>ys=((mI.take j).map λx=>decide (x.1=x.2)).map V.bl/\H' D*>ys/\H' va=some (.frz o (.dK (kvI mI)))/\∀b u,b≠va->H b=some u->H' b=some u)
  ⟨rfl,ab,by rw[ai vD.symm];exact ab,λb u U e=>by rw[ai (ap e Y),ai U];exact e⟩ (λj ys H' Z=>by obtain⟨_,_,h,_⟩:=Z;exact(h)) ?_ ?_
 .rintro j kk x ys H2 tt hj ⟨rfl,h2D,h2v,k2⟩ htt
  obtain⟨y,hy,e⟩ : ∃y,mI[j]? = some y/\(i9 y.1,V.int y.2)=(kk,x):=by
   unfold kvI at hj;rw[e9] at hj;cases e:mI[j]? with
   | none=>rw[e] at hj;cases hj
   | some nm=>rw[e] at hj;exact⟨nm,rfl,f_ hj⟩
  cases e;have af:j < mI.length:=(i7.mp hy).1
  have s3:=aj.upd0 (o:=.tup [kV (i9 y.1),.int y.2]) htt;ctx_has v ab kV
  have ad:=T0.li;have dD:D≠tt:=ap h2D htt
  refine⟨s3 _ _ h2D,by simp;exact au (),by rw[i8,hy];simp,?_,?_⟩
  .rw[ai (Jx vD),ai (ap h2v htt)];exact h2v
  .intro b u U e
   have e2:=k2 b u U e;rw[ai (ap e Y),ai (ap e2 htt)];exact e2
 .rintro ys H2 ⟨rfl,h2D,h2v,k2⟩
  have hl2:(kvI mI).length=mI.length:=by unfold kvI;rw[a_]
  rw[hl2,k9] at h2D;refine⟨⟨o,h2v⟩,D,rfl,_,by rw[ai vD];exact h2D,?_⟩
  rw[show(mI.map λx=>decide (x.1=x.2)).all id=idI mI by unfold idI;rw[List.all_map];rfl]
  refine k _ λb u e=>?_
  by_cases U:b=va
  .subst U
   rw[ab,<- e,h2]
  .rw[ai U];exact k2 b u U e
abbrev IW:=Fn P w K mg base "turned_unlike" 3 ["turning","wish"] (bN "unlike")
theorem lO (T:Txt w K mg base) (L:FnL K mg "turned_unlike" eE ["turning","wish"]) (Fd : @wQ P w K mg base) : @IW P w K mg base:=by
 ctx_has z lK <;> obtain⟨t,w,na,va,mS,mI,W,rfl,Y,hS,hW,Z,k⟩:=h
 .rfl
 refine⟨_,(ag (aC (aI (aa aw (aa (ah Fd (aa (ak ao (pvM 0) ae) (aa (ak ao (pvM 1) ae) ac))) ac))))),?_⟩
 obtain⟨cs,rfl⟩:=Ja hS;obtain⟨c,h1,h2⟩:=hW;have e1:=Y.ht;have Z:cs.length<=12:=Z
 ctx_has v e1 h1
 refine dX Y.hn h2 () λp H1 s1 hp=>⟨∅,λw' U=>?_⟩
 exact k _ _ (s1.upd_new U) ⟨w',rfl,p,ab,(aj.upd0 U) _ _ hp⟩
abbrev Ji:=Fn P w K mg base "turned_many" 3 ["turning","wish"] (bN "many")
theorem oO (T:Txt w K mg base) (L:FnL K mg "turned_many" fP ["turning","wish"]) (Fd : @wQ P w K mg base) : @Ji P w K mg base:=by
 ctx_has z nU <;> obtain⟨t,w,na,va,mS,mI,W,rfl,T0,hS,hW,hk,k⟩:=h
 .rfl
 refine⟨_,(ag (aC (aI (aa aw (aa (ah Fd (aa (ak ao (pvM 0) ae) (aa (ak ao (pvM 1) ae) ac))) (aa (ah Fd (aa (ak ao (pvM 0) ae) (aa (ak ao (pvM 1) ae) ac))) (aa (ak ao (pvM 1) ae) (aa (ak ao (pvM 1) ae) ac)))))))),?_⟩
 obtain⟨av,cs,lo,hi,rfl⟩:=Jd hS;obtain⟨a,c,h1,h2,h3⟩:=hW;have e1:=T0.ht;have am:av.length<=20:=hk.1
 have an:cs.length<=12:=hk.2
 ctx_has v e1 h1
 refine iX T0.hv h2 () λp H1 Y hp=>?_
 have T1:=T0.same Y;have e2:=T1.ht;have U:=Y _ _ h1;ctx_has v e2 U
 refine dX T1.hn (Y _ _ h3) () λp2 H2 s2 ai=>?_
 have ad:=s2 _ _ U;ctx_has v ad
 refine⟨∅,λw' af=>?_⟩
 have Z:=aj.upd0 (o:=.tup [.str "many",.ref p,.ref p2,.int lo,.int hi]) af;exact k _ _ ((Y.trans s2).trans Z) ⟨w',rfl,p,p2,ab,Z _ _ (s2 _ _ hp),Z _ _ ai⟩
abbrev ID:=Fn P w K mg base "turned_sum" 3 ["turning","wish"] (bN "sum")
theorem qj (T:Txt w K mg base) (L:FnL K mg "turned_sum" eJ ["turning","wish"]) (Fo : @Es P w K mg base) (FQ : @Am P w K mg base) : @ID P w K mg base:=by
 ctx_has z qg <;> obtain⟨t,w,na,va,mS,mI,W,rfl,T0,hS,hW,hk,k⟩:=h
 .rfl
 refine⟨_,(af (aJ (lB (dv (ah Fo (aa (pvM 0) ac)))) (ag (aC gO)) aA)
  (ag (aC (aI (aa aw (aa (aG aM T.b_tuple (aa (aW (N:=["term","turning"]) (nt:=1) (js:=[0]) (aE ["turning","wish"] (am eJ).names) (bR K (ak ao (pvM 1) ae)) (az 0) aL aU (aI (aa (ak ao (pvM 0) ae) (aa (ah FQ (aa (ak ao (pvM 1) ae) (aa (ak ao (pvM 0) ae) ac))) ac)))) ac)) (aa (ak ao (pvM 1) ae) (aa (ak ao (pvM 1) ae) ac)))))))),?_⟩
 obtain⟨ts,lo,hi,rfl⟩:=IV hS;obtain⟨tt,h1,as,h2,rfl,h3⟩:=hW;have hk:as.length<=12:=by have:(as.map (·.2)).length<=12:=hk;simpa using this
 ctx_has v
 refine⟨t,na,va,mS,mI,rfl,T0,λH1 Z=>?_⟩
 have k1 : ∀v H',aj H H'->WOs H' v (if idI mI=true then some (.sm ((as.map (·.2)).map λx=>(x.1,ld mS x.2)) lo hi) else none)->Q v H':=k
 cases an:idI mI with
 | false =>
  rw[an,if_neg i5] at k1;ctx_has v Bool.not_false
  exact k1 _ _ Z rfl
 | true =>
  rw[an,if_pos rfl] at k1;have ap:=Z _ _ h1;have ad:=Z _ _ h2;have T1:=T0.same Z;ctx_has v KY m_ ap ad
  intro D hD;refine dz aT (f:=λx:Addr × Int × Str=>(x.2.1,ld mS x.2.2)) (c:=λy:Int × Str=>[V.int y.1,V.str y.2]) hD (λH' s=>.of (s _ _ ad)) () ?_ ?_
  .intro z hz H2 Q2 s2 q2
   have e3:=s2 _ _ (Z _ _ (h3 z hz));have T2:=T1.same s2;have e4:=T2.ht;ctx_has v e3 e4
   refine sK T2.hn ⟨∅,λt' aq=>q2 t' _ (aj.upd0 aq) ab⟩
  .intro bs H2 hbs hbt s2 h2D
   have U:=s2 _ _ ap;ctx_has v h2D U
   intro p hp;have s3:=aj.upd0 (o:=.tup (bs.map λx=>V.ref x.1)) hp
   refine⟨_,s3 _ _ U,_,aQ (j:=2) rfl,_,s3 _ _ U,_,aQ (j:=3) rfl,∅,λw' Y=>?_⟩
   have s4:=s3.upd_new (o:=.tup [.str "sum",.ref p,bV lo,bV hi]) Y;have pw:p≠w':=λz=>by rw[<- z,ab] at Y;cases Y
   exact k1 _ _ (Z.trans (s2.trans s4)) ⟨w',rfl,p,ab,bs,by rw[ai pw,ab],by rw[hbs,fx];rfl,λx hx=>s4 _ _ (hbt x hx)⟩
abbrev Jf:=Fn P w K mg base "turned_table" 3 ["turning","wish"] (bN "table")
theorem mz (T:Txt w K mg base) (L:FnL K mg "turned_table" dG ["turning","wish"]) (Fd : @wQ P w K mg base) : @Jf P w K mg base:=by
 ctx_has z mr <;> obtain⟨t,w,na,va,mS,mI,W,rfl,T0,hS,hW,hk,k⟩:=h
 .rfl
 refine⟨_,(ag (aC (aI (aa aw (aa (ah Fd (aa (ak ao (pvM 0) ae) (aa (ak ao (pvM 1) ae) ac))) (aa (aG aM T.b_tuple (aa (aW (N:=["row","turning"]) (nt:=1) (js:=[0]) (aE ["turning","wish"] (am dG).names) (bR K (ak ao (pvM 1) ae)) (az 0) aL aU (ah Fd (aa (ak ao (pvM 1) ae) (aa (pvM 0) ac)))) ac)) ac)))))),?_⟩
 obtain⟨cs,rows,rfl⟩:=Jm hS;obtain⟨c,tr,vs,h1,h2,h3,as,rfl,rfl,h4⟩:=hW;have e1:=T0.ht;have ap:cs.length<=12:=hk.1
 have aq:as.length<=60:=by have:=hk.2.1;rw[a_] at this;exact this
 ctx_has v e1 h1
 refine dX T0.hn h2 () λp H1 Z hp=>?_
 have ad:=Z _ _ h1;have Y:=Z _ _ h3;have T1:=T0.same Z;ctx_has v ad Y
 intro D hD;refine dz aT (f:=λx:Addr × List Int=>x.2.map (ld mI)) (c:=λr:List Int=>r.map V.int) hD (λH' s=>.of (s _ _ Y)) () ?_ ?_
 .intro z hz H2 Q2 s2 q2
  have T2:=T1.same s2;have e4:=T2.ht;ctx_has v e4
  exact iX T2.hv (s2 _ _ (Z _ _ (h4 z hz))) (by have:=hk.2.2 z.2 (e7.mpr ⟨z,hz,rfl⟩);omega) λp' H3 s3 af=>q2 p' H3 s3 af
 .intro bs H2 hbs hbt s2 h2D
  ctx_has v h2D
  intro p2 an;refine⟨∅,λw' U=>?_⟩
  have s3:=aj.upd0 (o:=.tup (bs.map λx=>V.ref x.1)) an
  have s4:=s3.upd_new (o:=.tup [.str "table",.ref p,.ref p2]) U;have pw:p2≠w':=λz=>by rw[<- z,ab] at U;cases U
  exact k _ _ (Z.trans (s2.trans s4)) ⟨w',rfl,p,p2,_,ab,s4 _ _ (s2 _ _ hp),by rw[ai pw,ab],bs,rfl,by rw[hbs,fx];rfl,λx hx=>s4 _ _ (hbt x hx)⟩
abbrev IP:=Fn P w K mg base "turned_way" 3 ["turning","wish"] (bN "way")
theorem qz (T:Txt w K mg base) (L:FnL K mg "turned_way" eS ["turning","wish"]) (Fd : @wQ P w K mg base) (FQ : @Am P w K mg base) : @IP P w K mg base:=by
 ctx_has z qf <;> obtain⟨t,w,na,va,mS,mI,W,rfl,T0,hS,hW,hk,k⟩:=h
 .rfl
 refine⟨_,(af (aB 2 (aG aM T.b_tuple (aa (aW (N:=["step","turning"]) (nt:=1) (js:=[0]) (aE ["turning","wish","steps"] (am eS).names) (bR K (ak ao (pvM 1) ae)) (az 0) aL aU (aI (aa (ak ao (pvM 0) ae) (aa (ah FQ (aa (ak ao (pvM 1) ae) (aa (ak ao (pvM 0) ae) ac))) (aa (ak ao (pvM 0) ae) ac))))) ac)))
  (ag (aC (aI (aa aw (aa (ah Fd (aa (ak ao (pvM 0) ae) (aa (ak ao (pvM 1) ae) ac))) (aa (pvM 2) (aa (ak ao (pvM 1) ae) ac)))))))),?_⟩
 obtain⟨cs,ps,es,rfl⟩:=IN hS;obtain⟨c,tr,e,vs,h1,h2,h3,⟨as,rfl,rfl,h4⟩,h5⟩:=hW;have e1:=T0.ht;have aq:cs.length<=12:=hk.1
 have ar:as.length<=60:=by have:=hk.2;rw[a_] at this;exact this
 ctx_has v h1 h3
 intro D hD;refine dz aT (f:=λx:Addr × Int × Int × Int=>(x.2.1,ld mI x.2.2.1,x.2.2.2)) (c:=λy:Int × Int × Int=>[V.int y.1,V.int y.2.1,V.int y.2.2]) hD (λH' s=>.of (s _ _ h3)) () ?_ ?_
 .intro z hz H2 Q2 s2 q2
  have e3:=s2 _ _ (h4 z hz);have T2:=T0.same s2;have e4:=T2.ht;ctx_has v e3 e4
  exact yh T2.hv ⟨_,e3,_,aQ (j:=2) rfl,∅,λt' ap=>q2 t' _ (aj.upd0 ap) ab⟩
 .intro bs H2 hbs hbt s2 h2D
  ctx_has v h2D
  intro p2 an;have s3:=aj.upd0 (o:=.tup (bs.map λx=>V.ref x.1)) an
  have U:=s2.trans s3;have T3:=T0.same U;refine⟨_,T3.ht,_,aQ (j:=0) rfl,_,U _ _ h1,_,aQ (j:=1) rfl,?_⟩
  refine dX T3.hn (U _ _ h2) () λp H4 Z hp=>?_
  have ai:=Z _ _ (U _ _ h1);ctx_has v ai
  refine⟨∅,λw' ad=>?_⟩
  have s5:=aj.upd0 (o:=.tup [.str "way",.ref p,.ref p2,.ref e]) ad;have Y:=U.trans (Z.trans s5);exact k _ _ Y ⟨w',rfl,p,p2,e,_,ab,s5 _ _ hp,s5 _ _ (Z _ _ ab),⟨bs,rfl,by rw[hbs,fx];rfl,λx hx=>s5 _ _ (Z _ _ (s3 _ _ (hbt x hx)))⟩,Y _ _ h5⟩
abbrev Jh:=Fn P w K mg base "turned_behind" 3 ["turning","wish"] (bN "behind")
theorem lb (T:Txt w K mg base) (L:FnL K mg "turned_behind" eG ["turning","wish"]) (Fo : @Es P w K mg base) (Fd : @wQ P w K mg base) : @Jh P w K mg base:=by
 ctx_has z lv <;> obtain⟨t,w,na,va,mS,mI,W,rfl,T0,hS,hW,hk,k⟩:=h
 .rfl
 refine⟨_,(af (aJ (lB (dv (ah Fo (aa (pvM 0) ac)))) (ag (aC gO)) aA)
  (ag (aC (aI (aa aw (aa (ah Fd (aa (ak ao (pvM 0) ae) (aa (ak ao (pvM 1) ae) ac))) (aa (ak ao (pvM 1) ae) ac))))))),?_⟩
 obtain⟨cs,Y,rfl⟩:=Iy hS;obtain⟨c,h1,h2⟩:=hW;have hk:cs.length<=12:=hk
 ctx_has v
 refine⟨t,na,va,mS,mI,rfl,T0,λH1 Z=>?_⟩
 have k1 : ∀v H',aj H H'->WOs H' v (if idI mI=true then some (.bh (cs.map (ld mS)) Y) else none)->Q v H':=k
 cases U:idI mI with
 | false =>
  rw[U,if_neg i5] at k1;ctx_has v Bool.not_false
  exact k1 _ _ Z rfl
 | true =>
  rw[U,if_pos rfl] at k1;have ad:=Z _ _ h1;have T1:=T0.same Z;have e1:=T1.ht;ctx_has v KY m_ ad e1
  refine dX T1.hn (Z _ _ h2) () λp H2 s2 hp=>?_
  have ai:=s2 _ _ ad;ctx_has v ai
  refine⟨∅,λw' am=>?_⟩
  have s3:=aj.upd0 (o:=.tup [.str "behind",.ref p,.int Y]) am;exact k1 _ _ (Z.trans (s2.trans s3)) ⟨w',rfl,p,ab,s3 _ _ hp⟩
def gV:Sp:=λvs H Q _=>∃(t w na va:Addr) (mS:List (Str × Str)) (mI:List (Int × Int)) (c:Str) (us:List Int) (W:Wi),vs=[.ref t,.ref w]/\ce H t na va mS mI/\WX H w (.sa c us W)/\szT W/\us.length<=20/\∀v H',aj H H'->WO H' v (bG mS mI (.sa c us W))->Q v H'
def jW:Sp:=λvs H Q _=>∃(t w na va:Addr) (mS:List (Str × Str)) (mI:List (Int × Int)) (W:Wi),vs=[.ref t,.ref w]/\ce H t na va mS mI/\WS H w W/\szT W/\∀v H',aj H H'->WOs H' v (cS mS mI W)->Q v H'
def Gh:Wx->Prop
 | .pl W=>szT W
 | .sa _ us W=>szT W/\us.length<=20
def sB:Sp:=λvs H Q _=>∃(t w na va:Addr) (mS:List (Str × Str)) (mI:List (Int × Int)) (W:Wx),vs=[.ref t,.ref w]/\ce H t na va mS mI/\WX H w W/\Gh W/\∀v H',aj H H'->WO H' v (bG mS mI W)->Q v H'
def hZ (x:Str):Sp:=if x = "same" then gV else bN x
theorem WOs.up {v:V} {o:Option Wi} (h:WOs H v o):WO H v (o.map .pl):=by
 cases o with
 | none=>exact h
 | some W=>exact h
theorem mF (U : ∀y∈jI,FnT P w K mg base (qN mg "TURNERS") y 4 ["turning","wish"] (bN y)) (T:Txt w K mg base) (L:FnL K mg "turned_wish" cW ["turning","wish"]):Fn P w K mg base "turned_wish" 5 ["turning","wish"] (jW):=by
 ctx_has z iz <;> obtain⟨t,w,na,va,mS,mI,W,rfl,Z,Y,hk,k⟩:=h
 .rfl
 refine⟨_,(ag (aC (vm T.tb_TURNERS U T.at_TURNERS (ak ao (pvM 1) ae) (aa (pvM 0) (aa (pvM 1) ac))))),?_⟩
 cases W with
 | un cs=>obtain⟨c,h1,h2⟩:=id Y;ctx_has v dB h1;exact⟨oV (.un cs),t,w,na,va,mS,mI,_,rfl,Z,rfl,Y,hk,k⟩
 | mn av cs lo hi=>obtain⟨a,c,h1,h2,h3⟩:=id Y;ctx_has v dB h1;exact⟨oV (.mn av cs lo hi),t,w,na,va,mS,mI,_,rfl,Z,rfl,Y,hk,k⟩
 | sm ts lo hi=>obtain⟨tt,h1,h2⟩:=id Y;ctx_has v dB h1;exact⟨oV (.sm ts lo hi),t,w,na,va,mS,mI,_,rfl,Z,rfl,Y,hk,k⟩
 | tb cs rows=>obtain⟨c,tt,vs,h1,h2,h3,h4⟩:=id Y;ctx_has v dB h1;exact⟨oV (.tb cs rows),t,w,na,va,mS,mI,_,rfl,Z,rfl,Y,hk,k⟩
 | wy cs ps es=>obtain⟨c,tt,e,vs,h1,h2,h3,h4,h5⟩:=id Y;ctx_has v dB h1;exact⟨oV (.wy cs ps es),t,w,na,va,mS,mI,_,rfl,Z,rfl,Y,hk,k⟩
 | bh cs ad=>obtain⟨c,h1,h2⟩:=id Y;ctx_has v dB h1;exact⟨oV (.bh cs ad),t,w,na,va,mS,mI,_,rfl,Z,rfl,Y,hk,k⟩
theorem no (T:Txt w K mg base) (L:FnL K mg "turned_same" fN ["turning","wish"]) (FV:Fn P w K mg base "turned_wish" 5 ["turning","wish"] (jW)) (FQ : @Am P w K mg base) (Fd : @wQ P w K mg base):Fn P w K mg base "turned_same" 6 ["turning","wish"] (gV):=by
 ctx_has z oI <;> obtain⟨t,w,na,va,mS,mI,c,us,W,rfl,T0,hW,hk,am,k⟩:=h
 .rfl
 refine⟨_,(af (aB 2 (ah FV (aa (pvM 0) (aa (ak ao (pvM 1) ae) ac))))
  (af (aJ (fV (oy (pvM 2))) (ag (aC gO)) aA)
  (ag (aC (aI (aa aw (aa (ah FQ (aa (ak ao (pvM 0) ae) (aa (ak ao (pvM 1) ae) ac))) (aa (ah Fd (aa (ak ao (pvM 0) ae) (aa (ak ao (pvM 1) ae) ac))) (aa (pvM 2) ac))))))))),?_⟩
 obtain⟨tt,uu,h1,h2,h3⟩:=hW;ctx_has v h1
 refine⟨t,uu,na,va,mS,mI,W,rfl,T0,h3,hk,λv H1 U hv=>?_⟩
 have Z : ∀v H',aj H H'->WO H' v ((cS mS mI W).map (.sa (ld mS c) (us.map (ld mI))))->Q v H':=k
 cases ho:cS mS mI W with
 | none =>
  rw[ho] at hv Z;cases hv;ctx_has v decide_true
  exact Z _ _ U rfl
 | some W' =>
  rw[ho] at hv Z;obtain⟨w',rfl,ad⟩:=hv;have T1:=T0.same U;have e1:=T1.ht;have Y:=U _ _ h1;ctx_has v e1 Y decide_false m_
  refine sK T1.hn ⟨_,e1,_,aQ (j:=1) rfl,_,Y,_,aQ (j:=2) rfl,?_⟩
  refine iX T1.hv (U _ _ h2) () λp H2 s2 hp=>⟨∅,λw2 ai=>?_⟩
  have s3:=aj.upd0 (o:=.tup [.str "same",.str (ld mS c),.ref p,.ref w']) ai;exact Z _ _ (U.trans (s2.trans s3)) ⟨w2,rfl,p,w',ab,s3 _ _ hp,cM ad λa xs e=>s3 _ _ (s2 _ _ e)⟩
theorem mB (Y : ∀y∈tR,FnT P w K mg base (qN mg "TURNERS") y 6 ["turning","wish"] (hZ y)) (T:Txt w K mg base) (L:FnL K mg "turned_wish" cW ["turning","wish"]):Fn P w K mg base "turned_wish" 7 ["turning","wish"] (sB):=by
 ctx_has z iz <;> obtain⟨t,w,na,va,mS,mI,W,rfl,T0,Z,hk,k⟩:=h
 .rfl
 refine⟨_,(ag (aC (vm T.tb_TURNERS Y T.at_TURNERS (ak ao (pvM 1) ae) (aa (pvM 0) (aa (pvM 1) ac))))),?_⟩
 cases W with
 | pl W =>
  have Z:WS H w W:=Z
  have hk:szT W:=hk
  have k : ∀v H',aj H H'->WOs H' v (cS mS mI W)->Q v H':=λv H' s h=>k v H' s h.up
  have U : ∀{H:Hp} {Q:VK} {x:Str},x=ia W->bN x [.ref t,.ref w] H Q E0->hZ x [.ref t,.ref w] H Q E0:=λe h=>by
   subst e;unfold hZ;rw[if_neg (by cases W <;> exact(show ¬ (b_ _=b_ _) by decide+kernel))]
   exact h
  have mm : ∀{x:Str},x=ia W->x∈tR:=λe=>by subst e;exact j9 _ (oV W)
  cases W with
  | un cs=>obtain⟨c,h1,h2⟩:=id Z;ctx_has v dB h1;exact⟨mm rfl,U rfl ⟨t,w,na,va,mS,mI,_,rfl,T0,rfl,Z,hk,k⟩⟩
  | mn av cs lo hi=>obtain⟨a,c,h1,h2,h3⟩:=id Z;ctx_has v dB h1;exact⟨mm rfl,U rfl ⟨t,w,na,va,mS,mI,_,rfl,T0,rfl,Z,hk,k⟩⟩
  | sm ts lo hi=>obtain⟨tt,h1,h2⟩:=id Z;ctx_has v dB h1;exact⟨mm rfl,U rfl ⟨t,w,na,va,mS,mI,_,rfl,T0,rfl,Z,hk,k⟩⟩
  | tb cs rows=>obtain⟨c,tt,vs,h1,h2,h3,h4⟩:=id Z;ctx_has v dB h1;exact⟨mm rfl,U rfl ⟨t,w,na,va,mS,mI,_,rfl,T0,rfl,Z,hk,k⟩⟩
  | wy cs ps es=>obtain⟨c,tt,e,vs,h1,h2,h3,h4,h5⟩:=id Z;ctx_has v dB h1;exact⟨mm rfl,U rfl ⟨t,w,na,va,mS,mI,_,rfl,T0,rfl,Z,hk,k⟩⟩
  | bh cs ad=>obtain⟨c,h1,h2⟩:=id Z;ctx_has v dB h1;exact⟨mm rfl,U rfl ⟨t,w,na,va,mS,mI,_,rfl,T0,rfl,Z,hk,k⟩⟩
 | sa c us W =>
  obtain⟨tt,uu,h1,h2,h3⟩:=id Z;ctx_has v dB h1
  refine⟨j_,?_⟩
  unfold hZ;rw[if_pos rfl];exact⟨t,w,na,va,mS,mI,c,us,W,rfl,T0,Z,hk.1,hk.2,k⟩
theorem gE {k:Key} : ∀{l:List (Key × V)},k∉l.map (·.1)->bg l k=none
 | [],_=>rfl
 | x :: l,h=>by
  rw[i_,i6,not_or] at h;rw[aS (λe=>h.1 e.symm)]
  exact gE h.2
def kvK (m:List (Key × Key)):List (Key × V):=m.map λx=>(x.1,kV x.2)
def GO:V->Key | .str s=>e_ s | .int i=>i9 i | _=>i9 0
theorem BY (k:Key):GO (kV k)=k:=by cases k <;> rfl
def upS (m:List (Str × Str)):List (Key × Key):=m.map λx=>(e_ x.1,e_ x.2)
def upI (m:List (Int × Int)):List (Key × Key):=m.map λx=>(i9 x.1,i9 x.2)
theorem Ei (m:List (Str × Str)):kvK (upS m)=kvS m:=by unfold kvK upS kvS;rw[fx];rfl
theorem AG (m:List (Int × Int)):kvK (upI m)=kvI m:=by unfold kvK upI kvI;rw[fx];rfl
theorem qW (f:α->β) (hf : ∀a b,f a=f b->a=b) : ∀{l z:List α},(l.map f).Perm (z.map f)->l.Perm z:=by
 intro l
 induction l with
 | nil =>
  intro z h;have:z.map f=[]:=List.Perm.eq_nil h.symm
  rw[map_eq_nil_iff.mp this]
 | cons a l ih =>
  intro z h;have Y:f a∈z.map f:=h.mem_iff.mp (by rw[i_];exact j_)
  obtain⟨b,Z,e⟩:=e7.mp Y;obtain rfl:=hf _ _ e
  obtain⟨s,t,rfl⟩:=List.append_of_mem Z;have h2:(f b ::(l.map f)).Perm (f b ::((s++t).map f)):=by
   rw[i_] at h;refine h.trans ?_
   rw[ii,i_,ii];exact perm_middle
  have U:=ih ((List.perm_cons _).mp h2);exact(U.cons b).trans perm_middle.symm
theorem Ip (h:PM m) (hs : ∀x∈m,∃s,x.1=e_ s) : ∃mS:List (Str × Str),m=upS mS/\PM mS:=by
 have h2 : ∀x∈m,∃s,x.2=e_ s:=λx Y=>by
  have:=h.2.mem_iff.mp (e7.mpr ⟨x,Y,rfl⟩)
  obtain⟨y,hy,e⟩:=e7.mp this;obtain⟨s,es⟩:=hs y hy;exact⟨s,by rw[<- e,es]⟩
 have e:m=upS (m.map λx=>((match x.1 with | .inr s=>s | _ => ""),(match x.2 with | .inr s=>s | _ => ""))):=by
  unfold upS;rw[fx]
  conv=>lhs;rw[<- map_id m]
  refine q_ λx Y=>?_
  obtain⟨s,es⟩:=hs x Y;obtain⟨s',U⟩:=h2 x Y;obtain⟨x1,x2⟩:=x;simp only at es U;subst es U;rfl
 generalize (m.map λx=>((match x.1 with | .inr s=>s | _=>("" : Str)),(match x.2 with | .inr s=>s | _=>("" : Str))))=mS at e
 refine⟨mS,e,?_⟩
 rw[e] at h;unfold PM upS at h;rw[fx,fx] at h;have e1:(mS.map ((λx:Key × Key=>x.1) ∘ λx=>(e_ x.1,e_ x.2)))=(mS.map (·.1)).map e_:=by rw[fx];rfl
 have e2:(mS.map ((λx:Key × Key=>x.2) ∘ λx=>(e_ x.1,e_ x.2)))=(mS.map (·.2)).map e_:=by rw[fx];rfl
 rw[e1,e2] at h;exact⟨(l9.mp h.1).imp λZ z=>Z (by rw[z]),qW _ (λ_ _ e=>I_ e) h.2⟩
theorem Iv (h:PM m) (hs : ∀x∈m,∃s,x.1=i9 s) : ∃mI:List (Int × Int),m=upI mI/\PM mI:=by
 have h2 : ∀x∈m,∃s,x.2=i9 s:=λx Y=>by
  have:=h.2.mem_iff.mp (e7.mpr ⟨x,Y,rfl⟩)
  obtain⟨y,hy,e⟩:=e7.mp this;obtain⟨s,es⟩:=hs y hy;exact⟨s,by rw[<- e,es]⟩
 have e:m=upI (m.map λx=>((match x.1 with | .inl s=>s | _=>0),(match x.2 with | .inl s=>s | _=>0))):=by
  unfold upI;rw[fx]
  conv=>lhs;rw[<- map_id m]
  refine q_ λx Y=>?_
  obtain⟨s,es⟩:=hs x Y;obtain⟨s',U⟩:=h2 x Y;obtain⟨x1,x2⟩:=x;simp only at es U;subst es U;rfl
 generalize (m.map λx=>((match x.1 with | .inl s=>s | _=>(0:Int)),(match x.2 with | .inl s=>s | _=>(0:Int))))=mI at e
 refine⟨mI,e,?_⟩
 rw[e] at h;unfold PM upI at h;rw[fx,fx] at h;have e1:(mI.map ((λx:Key × Key=>x.1) ∘ λx=>(i9 x.1,i9 x.2)))=(mI.map (·.1)).map i9:=by rw[fx];rfl
 have e2:(mI.map ((λx:Key × Key=>x.2) ∘ λx=>(i9 x.1,i9 x.2)))=(mI.map (·.2)).map i9:=by rw[fx];rfl
 rw[e1,e2] at h;exact⟨(l9.mp h.1).imp λZ z=>Z (by rw[z]),qW _ (λ_ _ e=>Jz e) h.2⟩
theorem Cn {x:Key × Key} (hn:(m.map (·.1)).Nodup) (Z:m[i]? = some x):bj (kvK (m.take i)) x.1 (kV x.2)=kvK (m.take (i+1)):=by
 have Y:m.take (i+1)=m.take i++[x]:=by rw[i8,Z];rfl
 have U:((m.take i++[x]).map (·.1)).Nodup:=by
  rw[<- Y,map_take];exact hn.sublist (JF _ _)
 rw[ii,x_] at U;have z:x.1∉(kvK (m.take i)).map (·.1):=λh=>by
  unfold kvK at h;rw[fx] at h;exact U.2.2 _ h _ (by simp) rfl
 rw[dC _ (gE z),Y];unfold kvK;rw[ii];rfl
theorem IA (hn:(m.map (·.1)).Nodup) {x:Key × Key} (z:x∈m):bg (kvK m) x.1=some (kV x.2):=by
 induction m with
 | nil=>cases z
 | cons y m U =>
  rw[i_,w5] at hn;unfold kvK;rw[i_];rcases i6.mp z with rfl | z
  .exact bi rfl
  .rw[aS (λe=>hn.1 (by rw[show y.1=x.1 from e];exact e7.mpr ⟨x,z,rfl⟩))]
   exact U hn.2 z
def tL:Sp:=λvs H Q _=>∃(d l a:Addr) (ks:List Key),vs=[.ref d,.ref a]/\aD H d l/\xC H a (ks.map kV)/\ks.Nodup/\ks.length<=40 /\
 ∀(r:Addr) (m:List (Key × Key)) (H':Hp),H r=none->H' r<*(kvK m)->PM m->(∀x∈m,x.1∈ks)->m.length<=40->aD H' d l->But d l H H'->Q (.ref r) H'
abbrev HV:=Fn P w K mg base "_law_leads" 3 ["_law_deal_here","_law_things"] (tL)
theorem qF (T:Txt w K mg base) (L:FnL K mg "_law_leads" gN ["_law_deal_here","_law_things"]) (Fb : @Dz5 P w K mg base) : @HV P w K mg base:=by
 ctx_has z qI <;> obtain⟨d,l,a,ks,rfl,D,ha,av,a6,k⟩:=h
 .rfl
 refine⟨_,(af (aB 2 (ah Fb (aa (pvM 0) (aa (pvM 1) (aa ae ac)))))
  (af (aB 3 (ah Fb (aa (pvM 0) (aa (pvM 2) (aa (aF gI T.b_len (aa (pvM 2) ac)) ac)))))
  (af (aB 4 cj)
  (af (bc (ci rfl T.b_range (aa (aF gI T.b_len (aa (pvM 2) ac)) ac)) (az 5) (ag (fH hu (pvM 4) (ak wm (pvM 2) (pvM 5)) (ak wm (pvM 3) (pvM 5)) rfl)))
  (ag (aC (pvM 4))))))),?_⟩
 ctx_has v
 refine⟨d,l,a,0,ks.map kV,rfl,D,ha,∅,by rw[a_];omega,by rw[a_];omega,λsa a8 rest H1 a5 ay _ h1 D1 B1=>?_⟩
 obtain⟨U,zs,rfl,hp⟩:=eZ kV GO BY ay;have a9:U.length<=40:=by have:=hp.length_eq;rw[nH] at this;omega
 have ar:U.Nodup:=(x_.mp (hp.nodup_iff.mpr av)).1
 ctx_has v h1
 refine⟨d,l,sa,_,U.map kV,rfl,D1,.inr h1,(),(),by rw[a_];omega,λoa a3 ax H2 a4 ao an h2 D2 B2=>?_⟩
 obtain⟨Y,zo,rfl,Z⟩:=eZ kV GO BY ao;rw[a_,a_] at an;have aw:zo=[]:=by
  have:=Z.length_eq
  rw[nH] at this;exact JC.mp ()
 rw[aw,J8] at Z;have a7:=Z.length_eq;ctx_has v
 intro r hr;have nr:=D2.ne hr;have ap:=(aj.upd0 (o:=.dK []) hr) _ _ (B2.tup D1 h1);ctx_has v ap
 rw[a_];refine⟨(),(),?_⟩
 have fr:H r=none:=(B1.trans B2).free D2 hr
 have e1:(U.zip Y).map (·.1)=U:=map_fst_zip ()
 have e2:(U.zip Y).map (·.2)=Y:=map_snd_zip ()
 have ad:PM (U.zip Y):=by unfold PM;rw[e1,e2];exact⟨ar,Z⟩
 have a0:(U.zip Y).length=U.length:=by rw[List.length_zip];omega
 refine bK bM (λi σ H'=>∃v5,σ=[-d,-a,-sa,-oa,-r,v5]/\H' r<*(kvK ((U.zip Y).take i))/\H' sa>>(U.map kV)/\H' oa>>(Y.map kV)/\aD H' d l/\But d l H H')
  ⟨_,rfl,ab,ap,(aj.upd0 hr) _ _ h2,D2.new hr,(B1.trans B2).new hr⟩ (λ_ _ _ _=>ow) ?_ ?_
 .rintro i x σ H4 hi hx ⟨v5,rfl,h4r,h4s,h4o,D4,B4⟩
  rw[aK] at hi;rw[er hi] at hx;cases hx;have am:i < U.length:=()
  have aq:i < Y.length:=()
  have a1:atI (U.map kV) (0+(i:Int))=some (kV U[i]):=by rw[Kk];exact aQ (by simp[am])
  have a2:atI (Y.map kV) (0+(i:Int))=some (kV Y[i]):=by rw[Kk];exact aQ (by simp[aq])
  have hz:(U.zip Y)[i]? = some (U[i],Y[i]):=by simp[List.getElem?_zip_eq_some,am,aq]
  ctx_has v h4s h4o a1 a2
  refine⟨U[i],rfl,_,h4r,?_,by rw[ab,Cn ad.1 hz],?_,?_,D4.put nr.1 nr.2,B4.put fr⟩
  .unfold kvK;rw[a_,pk];exact au ()
  .rw[ai (bA h4s h4r (by intro z;cases z))];exact h4s
  .rw[ai (bA h4o h4r (by intro z;cases z))];exact h4o
 .rintro σ H4 ⟨v5,rfl,h4r,h4s,h4o,D4,B4⟩
  rw[aK,t4 (by rw[a0];omega)] at h4r
  ctx_has v
  exact k r _ H4 fr h4r ad (λx hx=>hp.mem_iff.mp (t6 _ (by rw[<- e1];exact e7.mpr ⟨x,hx,rfl⟩))) () D4 B4
abbrev At:=Fn P w K mg base "_law_moved" 2 ["_law_leads_here","_law_things"] (jX)
theorem qE (T:Txt w K mg base) (L:FnL K mg "_law_moved" eV ["_law_leads_here","_law_things"]) : @At P w K mg base:=by
 ctx_has z qk <;> obtain⟨x0,y0,rfl,h⟩:=h
 .rfl
 refine⟨_,(ag (aC (aG aM T.b_tuple (aa (aW (N:=["_law_thing","_law_leads_here"]) (nt:=1) (js:=[0]) (aE ["_law_leads_here","_law_things"] (am eV).names) (jz (K:=K) rfl (pvM 1)) (az 0) aL aU (eA hu (pvM 1) (pvM 0) (pvM 0) ⟨rfl,rfl,rfl,rfl⟩)) ac)))),?_⟩
 rcases h with⟨a,t,cs,m,e,ha,Y,hl,k⟩ | ⟨a,t,cs,m,e,ha,Y,hl,k⟩ <;> cases e
 .ctx_has v Y
  intro D hD;refine dr aT (λv=>match v with | .str c=>.str (ld m c) | _=>.non) hD (λH' s=>.of (s _ _ Y)) (by simp;omega) ?_ ?_
  .intro x H2 Q2 hx sm q2
   obtain⟨y,hy,rfl⟩:=e7.mp hx;have U:=sm _ _ ha;ctx_has v fL
   refine⟨.inl ⟨_,.inl U⟩,_,.inl ⟨_,e_ y,.inl U,rfl,rfl⟩,?_⟩
   rw[BO];exact q2 H2 (aj.refl _)
  .intro H2 sm h2
   ctx_has v h2
   intro p Z;refine k p _ (sm.upd_new Z) ?_
   rw[ab,fx,fx];rfl
 .ctx_has v Y
  intro D hD;refine dr aT (λv=>match v with | .int c=>.int (ld m c) | _=>.non) hD (λH' s=>.of (s _ _ Y)) (by simp;omega) ?_ ?_
  .intro x H2 Q2 hx sm q2
   obtain⟨y,hy,rfl⟩:=e7.mp hx;have U:=sm _ _ ha;ctx_has v fL
   refine⟨.inl ⟨_,.inl U⟩,_,.inl ⟨_,i9 y,.inl U,rfl,rfl⟩,?_⟩
   rw[EF];exact q2 H2 (aj.refl _)
  .intro H2 sm h2
   ctx_has v h2
   intro p Z;refine k p _ (sm.upd_new Z) ?_
   rw[ab,fx,fx];rfl
theorem iO (xs:List V):dM xs (some 2) none=xs.drop 2:=by
 have:=kE (λx:V=>x) xs 2
 rwa [map_id',map_id'] at this
theorem zM (xs:List V):dM xs (some 3) none=xs.drop 3:=by
 have:=kE (λx:V=>x) xs 3
 rwa [map_id',map_id'] at this
theorem C6 (mI:List (Int × Int)):(mI.map λx=>!decide (x.1=x.2)).any id = !idI mI:=by
 unfold idI
 induction mI with
 | nil=>rfl
 | cons y m z=>rw[i_,any_cons,all_cons,z];cases decide (y.1=y.2) <;> simp
def jT (t u:TS):TS:=λD σ H=>∃R:St->Hp->Prop,t { D with nx:=R } σ H/\∀ σ H,R σ H->u D σ H
theorem bO {t u:TS} (h1:PS X st t) (h2:PSs X rest u):PSs X (st :: rest) (jT t u):=by
 intro pins s σ H D I h;obtain⟨R,h,Y⟩:=h;refine wpAny_execs_cons (thn (h1 pins s σ H { D with nx:=R } I h) λf U q=>?_)
 cases f with
 | next =>
  obtain⟨σ',H',z,q⟩:=q;exact h2 pins U σ' H' D z (Y _ _ q)
 | ret v=>exact q
 | brk=>exact q
 | cont=>exact q
theorem oA {a b:TS} (R:St->Hp->Prop) (h1:a { D with nx:=R } σ H) (h2 : ∀ σ H,R σ H->b D σ H):jT a b D σ H:=⟨R,h1,h2⟩
def ndW:Wi->Bool
 | .sm _ _ _=>true
 | .bh _ _=>true
 | _=>false
def qC:Wi->Str
 | .un _ => "unlike"
 | .mn _ _ _ _ => "many"
 | .sm _ _ _ => "sum"
 | .tb _ _ => "table"
 | .wy _ _ _ => "way"
 | .bh _ _ => "behind"
theorem sR {w:Addr} {W:Wi} (h:WS H w W) : ∃xs,H w>>(.str (qC W) :: xs):=by
 cases W with
 | un cs=>obtain⟨c,h1,_⟩:=h;exact⟨_,h1⟩
 | mn U cs lo hi=>obtain⟨a,c,h1,_⟩:=h;exact⟨_,h1⟩
 | sm ts lo hi=>obtain⟨t,h1,_⟩:=h;exact⟨_,h1⟩
 | tb cs rows=>obtain⟨c,t,vs,h1,_⟩:=h;exact⟨_,h1⟩
 | wy cs ps es=>obtain⟨c,t,e,vs,h1,_⟩:=h;exact⟨_,h1⟩
 | bh cs z=>obtain⟨c,h1,_⟩:=h;exact⟨_,h1⟩
theorem rC (W:Wi) : ¬ (qC W=b_ "same"):=by cases W <;> simp only[qC] <;> decide+kernel
theorem CD (W:Wi):inV (V.str (qC W)) [V.str "sum",V.str "behind"]=ndW W:=by cases W <;> simp only[qC,ndW] <;> decide+kernel
theorem wH {W:Wi} (h:ndW W=true) (hi:idI mI=false):cS mS mI W=none:=by
 cases W <;> simp[ndW] at h <;> simp[cS,hi]
theorem ax {a rest:TS} (h : ∀R:TS,R=rest->zV a R D σ H):zV a rest D σ H:=h rest rfl
local macro_rules | `(tactic| ctx_has s $ids*) => `(tactic| (refine ax λR hR => ?_; ctx_has v $ids*; subst hR))
abbrev Di:=Fn P w K mg base "_law_led_wish" 3 ["_law_turning","_law_wish_here"] (jW)
abbrev nz1:List Str:=["_law_turning","_law_wish_here","_law_names_here","_law_values","_law_inner","_law_found","_law_steps"]
theorem kL (T:Txt w K mg base) (L:FnL K mg "_law_led_wish" bv ["_law_turning","_law_wish_here"]) (Fc : @At P w K mg base) : @Di P w K mg base:=by
 ctx_has z gh <;> obtain⟨t,w,na,va,mS,mI,W,rfl,T0,hW,hk,k⟩:=h
 .rfl
 refine⟨_,(bO (wV (pvM 0) (cH (n:=2) rfl (aV (az 2) (aV (az 3) cG))))
  (bO (aJ (ay aP (ak ao (pvM 1) ae) aw) (af aN
  (af aN
  (ag aN))) aA)
  (bO (aJ (PW.pt (gL (ay oB (ak ao (pvM 1) ae) (aI (aa aw (aa aw ac)))) (gC (dv (aF (qR rfl) T.b_any (aa (yG (aW (N:=["_law_key","_law_values"]) (nt:=1) (js:=[3]) (aE nz1 (am bv).names) (GM (pvM 3)) (az 0) aL aU (kx Be (pvM 0) (xM hu (pvM 1) (pvM 0))))) ac)))))) (ag (aC gO)) aA)
  (af (aJ (ay aP (ak ao (pvM 1) ae) aw) (ag (aC (aO eh (aI (aa aw (aa (aG aM T.b_tuple (aa (aW (N:=["_law_a","_law_name","_law_names_here"]) (nt:=2) (js:=[2]) (aE nz1 (am bv).names) (bR K (ak ao (pvM 1) ae)) (cH (n:=2) rfl (aV (az 0) (aV (az 1) cG))) dj aU (aI (aa (pvM 0) (aa (eA hu (pvM 2) (pvM 1) (pvM 1) ⟨rfl,rfl,rfl,rfl⟩) ac)))) ac)) ac))) (bI nM (pvM 1) (bP ae) cb)))) aA)
  (af (aJ (ay aP (ak ao (pvM 1) ae) aw) (ag (aC (aO eh (aI (aa aw (aa (ah Fc (aa (pvM 3) (aa (ak ao (pvM 1) ae) ac))) (aa (ah Fc (aa (pvM 2) (aa (ak ao (pvM 1) ae) ac))) ac)))) (bI nM (pvM 1) (bP ae) cb)))) aA)
  (af (aB 5 (aI (aa (ak ao (pvM 1) ae) (aa (ah Fc (aa (pvM 2) (aa (ak ao (pvM 1) ae) ac))) ac))))
  (af (aJ (ay aP (ak ao (pvM 1) ae) aw) (ag (aC (aO eh (pvM 5) (aI (aa (aG aM T.b_tuple (aa (aW (N:=["_law_row","_law_values"]) (nt:=1) (js:=[3]) (aE nz1 (am bv).names) (bR K (ak ao (pvM 1) ae)) (az 0) aL aU (ah Fc (aa (pvM 1) (aa (pvM 0) ac)))) ac)) ac))))) aA)
  (af (aJ (ay aP (ak ao (pvM 1) ae) aw) (af (bW 6 (N:=["_law_step","_law_values"]) (nt:=1) (js:=[3]) (aE nz1 (am bv).names) (bR K (ak ao (pvM 1) ae)) (az 0) aL aU (aI (aa (ak ao (pvM 0) ae) (aa (eA hu (pvM 1) (ak ao (pvM 0) ae) (ak ao (pvM 0) ae) ⟨rfl,rfl,rfl,rfl⟩) (aa (ak ao (pvM 0) ae) ac)))))
  (ag (aC (aO eh (pvM 5) (aI (aa (aG aM T.b_tuple (aa (pvM 6) ac)) (aa (ak ao (pvM 1) ae) ac))))))) aA)
  (ag (aC (aO eh (pvM 5) (bI nM (pvM 1) (bP ae) cb)))))))))))),?_⟩
 have e1:=T0.ht;refine oA (λσ H'=>σ=[-t,-w,-na,-va,none,none,none]/\H'=H) ?_ ?_
 .ctx_has v e1
 rintro σ H' ⟨rfl,rfl⟩
 obtain⟨xs,h0⟩:=sR hW;refine oA (λσ H0=>σ=[-t,-w,-na,-va,none,none,none]/\H0=H') ?_ ?_
 .ctx_has v h0
  rw[if_neg (rC W)];trivial
 rintro σ H0 ⟨rfl,rfl⟩
 refine oA (λσ H1=>σ=[-t,-w,-na,-va,none,none,none]/\aj H0 H1/\(ndW W=true->idI mI=true)) ?_ ?_
 .ctx_has v h0
  refine⟨∅,λp0 bj=>?_⟩
  have s1:=aj.upd0 (o:=.tup [V.str "sum",V.str "behind"]) bj;refine⟨_,ab,rfl,rfl,?_⟩
  rw[CD];generalize upd H0 p0 (.tup [V.str "sum",V.str "behind"])=H1 at s1 ⊢;cases hn:ndW W with
  | false =>
   rw[if_neg i5];exact⟨s1,λz=>by cases z⟩
  | true =>
   rw[if_pos rfl];have T1:=T0.same s1;have e3:=T1.hv;ctx_has v wD
   refine⟨va,_,e3,_,e3,λo D hD=>?_⟩
   have vD:D≠va:=λz=>by rw[z,ab] at hD;cases hD
   have aK:H1 D=none:=by rw[ai vD] at hD;exact hD
   refine bL wL (λj ys H'=>ys=((mI.take j).map λx=>!decide (x.1=x.2)).map V.bl/\H' D*>ys/\H' va=some (.frz o (.dK (kvI mI)))/\∀b u,b≠va->H1 b=some u->H' b=some u)
    ⟨rfl,ab,by rw[ai vD.symm];exact ab,λb u hb e=>by rw[ai (ap e aK),ai hb];exact e⟩ (λj ys H' aY=>by obtain⟨_,_,h,_⟩:=aY;exact(h)) ?_ ?_
   .rintro j x ys H2 hj hx ⟨rfl,h2D,h2v,k2⟩
    obtain⟨y,hy,rfl⟩ : ∃y,mI[j]? = some y/\V.int y.1=x:=by
     unfold kvI at hx;rw[fx,e9] at hx;cases e:mI[j]? with
     | none=>rw[e] at hx;cases hx
     | some nm=>rw[e] at hx;exact⟨nm,rfl,f_ hx⟩
    have bo:j < mI.length:=(i7.mp hy).1
    have bn:=T0.li;have bk:bg (kvI mI) (i9 y.1)=some (.int y.2):=by
     rw[<- AG];exact IA (m:=upI mI) (x:=(i9 y.1,i9 y.2)) (by unfold upI;rw[fx];exact(l9.mpr ((l9.mp T0.pi.1).imp λbm e=>bm (Jz e)))) (e7.mpr ⟨y,i4 hy,rfl⟩)
    ctx_has v G5
    refine⟨o,_,h2v,_,bk,rfl,h2D,by simp;exact au (),?_,ab,?_,λb u hb e=>?_⟩
    .rw[i8,hy];simp
    .rw[ai vD.symm];exact h2v
    .rw[ai (ap e aK)];exact k2 b u hb e
   .rintro ys H2 ⟨rfl,h2D,h2v,k2⟩
    have hl2:((kvI mI).map λx=>kV x.1).length=mI.length:=by unfold kvI;simp
    rw[hl2,k9] at h2D;refine⟨⟨o,h2v⟩,D,rfl,_,by rw[ai vD];exact h2D,?_⟩
    have s2:aj H1 (upd H2 va (.dK (kvI mI))):=λb u e=>by
     by_cases hb:b=va
     .subst hb;rw[ab,<- e,e3]
     .rw[ai hb];exact k2 b u hb e
    generalize upd H2 va (.dK (kvI mI))=H3 at s2 ⊢;rw[C6];have U:=s1.trans s2;cases a6:idI mI with
    | false =>
     rw[if_pos (show(!false)=true from rfl)]
     have k1:=k .non H3 U;rw[wH hn a6] at k1;exact k1 rfl
    | true =>
     rw[if_neg (show ¬ (!true)=true from i5)]
     exact⟨U,λ_=>rfl⟩
 rintro σ H1 ⟨rfl,s1,a6⟩
 have T1:=T0.same s1;cases W with
 | un cs =>
  obtain⟨c,h1,h2⟩:=hW;have hk:cs.length<=12:=hk
  have Y:=s1 _ _ h1;ctx_has s Y;ctx_has s Y;ctx_has v Y
  refine dX T1.hn (s1 _ _ h2) () λp2 H2 s2 ar=>?_
  have a1:=s2 _ _ Y;ctx_has v a1
  refine⟨∅,λpf ad=>?_⟩
  have s3:=aj.upd0 (o:=.tup [V.str "unlike",.ref p2]) ad;have a0:upd H2 pf (.tup [V.str "unlike",.ref p2]) pf>>[V.str "unlike",.ref p2]:=ab
  generalize upd H2 pf (.tup [V.str "unlike",.ref p2])=H3 at s3 a0 ⊢;have U:=s1.trans (s2.trans s3);have an:=U _ _ h1;have T3:=T0.same U;ctx_has v an a0
  intro p4 H4 h4 Z;rw[iO] at h4;refine⟨_,Z _ _ a0,_,h4,ot (au (by simp)),λp5 H5 h5 s5=>?_⟩
  have aZ:=Z.trans s5;exact k _ _ (U.trans aZ) ⟨p5,rfl,p2,h5,aZ _ _ (s3 _ _ ar)⟩
 | mn av cs lo hi =>
  obtain⟨a,c,h1,h2,h3⟩:=hW;have aX:av.length<=20:=hk.1
  have aS:cs.length<=12:=hk.2
  have Y:=s1 _ _ h1;ctx_has s Y;refine ax λR hR=>?_
  ctx_has v Y
  refine iX T1.hv (s1 _ _ h2) () λp2 H2 s2 ar=>?_
  have a1:=s2 _ _ Y;have T2:=T1.same s2;ctx_has v a1
  refine dX T2.hn (s2 _ _ (s1 _ _ h3)) () λp3 H3 s3 bd=>⟨∅,λpf ad=>?_⟩
  have Z:=aj.upd0 (o:=.tup [V.str "many",.ref p2,.ref p3]) ad;have aD:upd H3 pf (.tup [V.str "many",.ref p2,.ref p3]) pf>>[V.str "many",.ref p2,.ref p3]:=ab
  generalize upd H3 pf (.tup [V.str "many",.ref p2,.ref p3])=H4 at Z aD ⊢;have a3:=Z _ _ (s3 _ _ a1);ctx_has v a3 aD
  intro p5 H5 h5 s5;rw[zM] at h5;refine⟨_,s5 _ _ aD,_,h5,ot (au (by simp)),λp6 H6 h6 s6=>?_⟩
  have aq:=s5.trans s6;exact k _ _ (s1.trans (s2.trans (s3.trans (Z.trans aq)))) ⟨p6,rfl,p2,p3,h6,aq _ _ (Z _ _ (s3 _ _ ar)),aq _ _ (Z _ _ bd)⟩
 | sm ts lo hi =>
  obtain⟨tt,h1,as,h2,rfl,h3⟩:=hW;have hk:as.length<=12:=by have:(as.map (·.2)).length<=12:=hk;simpa using this
  have k1 : ∀v H',aj H0 H'->WOs H' v (if idI mI=true then some (.sm ((as.map (·.2)).map λx=>(x.1,ld mS x.2)) lo hi) else none)->Q v H':=k
  have Y:=s1 _ _ h1;rw[a6 rfl,if_pos rfl] at k1;have U:=s1;have T3:=T1;have an:=Y;refine ax λR hR=>?_
  have aR:=U _ _ h2;ctx_has v an aR
  intro D3 bi;refine dz aT (f:=λx:Addr × Int × Str=>(x.2.1,ld mS x.2.2)) (c:=λy:Int × Str=>[V.int y.1,V.str y.2]) bi (λH' s=>.of (s _ _ aR)) () ?_ ?_
  .intro z hz H4 Q4 Z q4
   have e4:=Z _ _ (U _ _ (h3 z hz));have T4:=T3.same Z;have e5:=T4.hn;ctx_has v e4 fL
   refine⟨.inl ⟨_,.inl e5⟩,_,.inl ⟨_,e_ z.2.2,.inl e5,rfl,rfl⟩,?_⟩
   rw[BO];exact⟨∅,λt' a8=>q4 t' _ (aj.upd0 a8) ab⟩
  .intro bs H4 hbs hbt Z h4D
   ctx_has v h4D
   intro p hp;refine⟨∅,λpf ad=>?_⟩
   have s5:=aj.upd0 (o:=.tup (bs.map λx=>V.ref x.1)) hp
   have s6:=s5.upd_new (o:=.tup [V.str "sum",.ref p]) ad;have pp:p≠pf:=λz=>by rw[<- z,ab] at ad;cases ad
   have a4:upd (upd H4 p (.tup (bs.map λx=>V.ref x.1))) pf (.tup [V.str "sum",.ref p]) p>>(bs.map λx=>V.ref x.1):=by rw[ai pp,ab]
   have ba:upd (upd H4 p (.tup (bs.map λx=>V.ref x.1))) pf (.tup [V.str "sum",.ref p]) pf>>[V.str "sum",.ref p]:=ab
   generalize upd (upd H4 p (.tup (bs.map λx=>V.ref x.1))) pf (.tup [V.str "sum",.ref p])=H6 at s6 a4 ba ⊢
   have be:=s6 _ _ (Z _ _ an);refine⟨_,be,λp7 H7 h7 s7=>?_⟩
   rw[iO] at h7;refine⟨_,s7 _ _ ba,_,h7,ot (au (by simp)),λp8 H8 h8 s8=>?_⟩
   have aH:=s7.trans s8;exact k1 _ _ (U.trans (Z.trans (s6.trans aH))) ⟨p8,rfl,p,h8,bs,aH _ _ a4,by rw[hbs,fx];rfl,λx hx=>aH _ _ (s6 _ _ (hbt x hx))⟩
 | tb cs rows =>
  obtain⟨c,tr,vs,h1,h2,h3,as,rfl,rfl,h4⟩:=hW;have aX:cs.length<=12:=hk.1
  have aS:as.length<=60:=by have:=hk.2.1;rw[a_] at this;exact this
  have Y:=s1 _ _ h1;ctx_has s Y;ctx_has s Y;ctx_has v Y
  refine dX T1.hn (s1 _ _ h2) () λp2 H2 s2 ar=>?_
  have a1:=s2 _ _ Y;ctx_has v a1
  refine⟨∅,λpf ad=>?_⟩
  have s3:=aj.upd0 (o:=.tup [V.str "table",.ref p2]) ad;have a0:upd H2 pf (.tup [V.str "table",.ref p2]) pf>>[V.str "table",.ref p2]:=ab
  generalize upd H2 pf (.tup [V.str "table",.ref p2])=H3 at s3 a0 ⊢;have U:=s1.trans (s2.trans s3);have an:=U _ _ h1;have T3:=T0.same U;have a5:=U _ _ h3;ctx_has v an a5
  intro D hD;refine dz aT (f:=λx:Addr × List Int=>x.2.map (ld mI)) (c:=λr:List Int=>r.map V.int) hD (λH' s=>.of (s _ _ a5)) () ?_ ?_
  .intro z hz H4 Q4 Z q4
   have T4:=T3.same Z;ctx_has v
   exact iX T4.hv (Z _ _ (U _ _ (h4 z hz))) (by have:=hk.2.2 z.2 (e7.mpr ⟨z,hz,rfl⟩);omega) λp' H5 s5 h5=>q4 p' H5 s5 h5
  .intro bs H4 hbs hbt Z h4D
   ctx_has v h4D
   intro p5 a9;have s5:=aj.upd0 (o:=.tup (bs.map λx=>V.ref x.1)) a9
   refine⟨∅,λp6 a2=>?_⟩
   have s6:=s5.upd_new (o:=.tup [V.ref p5]) a2;have pp:p5≠p6:=λz=>by rw[<- z,ab] at a2;cases a2
   have a4:upd (upd H4 p5 (.tup (bs.map λx=>V.ref x.1))) p6 (.tup [V.ref p5]) p5>>(bs.map λx=>V.ref x.1):=by rw[ai pp,ab]
   have aq:=Z.trans s6;refine⟨_,aq _ _ a0,_,ab,ot (au (by simp)),λp7 H7 h7 s7=>?_⟩
   exact k _ _ (U.trans (aq.trans s7)) ⟨p7,rfl,p2,p5,_,h7,s7 _ _ (aq _ _ (s3 _ _ ar)),s7 _ _ a4,bs,rfl,by rw[hbs,fx];rfl,λx hx=>s7 _ _ (s6 _ _ (hbt x hx))⟩
 | wy cs ps es =>
  obtain⟨c,tr,e,vs,h1,h2,h3,⟨as,rfl,rfl,h4⟩,h5⟩:=hW;have aX:cs.length<=12:=hk.1
  have aS:as.length<=60:=by have:=hk.2;rw[a_] at this;exact this
  have Y:=s1 _ _ h1;ctx_has s Y;ctx_has s Y;ctx_has v Y
  refine dX T1.hn (s1 _ _ h2) () λp2 H2 s2 ar=>?_
  have a1:=s2 _ _ Y;ctx_has v a1
  refine⟨∅,λpf ad=>?_⟩
  have s3:=aj.upd0 (o:=.tup [V.str "way",.ref p2]) ad;have a0:upd H2 pf (.tup [V.str "way",.ref p2]) pf>>[V.str "way",.ref p2]:=ab
  generalize upd H2 pf (.tup [V.str "way",.ref p2])=H3 at s3 a0 ⊢;have U:=s1.trans (s2.trans s3);have an:=U _ _ h1;have T3:=T0.same U;have a5:=U _ _ h3;ctx_has v an a5
  intro D hD;refine dz aT (f:=λx:Addr × Int × Int × Int=>(x.2.1,ld mI x.2.2.1,x.2.2.2)) (c:=λy:Int × Int × Int=>[V.int y.1,V.int y.2.1,V.int y.2.2]) hD (λH' s=>.of (s _ _ a5)) () ?_ ?_
  .intro z hz H4 Q4 Z q4
   have e4:=Z _ _ (U _ _ (h4 z hz));have T4:=T3.same Z;have e5:=T4.hv;ctx_has v e4 fL
   refine⟨.inl ⟨_,.inl e5⟩,_,.inl ⟨_,i9 z.2.2.1,.inl e5,rfl,rfl⟩,?_⟩
   rw[EF];exact⟨∅,λt' a8=>q4 t' _ (aj.upd0 a8) ab⟩
  .intro bs H4 hbs hbt Z h4D
   have a3:=Z _ _ an;ctx_has v h4D a3
   intro p5 a9;have s5:=aj.upd0 (o:=.tup (bs.map λx=>V.ref x.1)) a9
   refine⟨_,s5 _ _ a3,_,aQ (j:=3) rfl,∅,λp6 a2=>?_⟩
   have s6:=s5.upd_new (o:=.tup [V.ref p5,V.ref e]) a2;have pp:p5≠p6:=λz=>by rw[<- z,ab] at a2;cases a2
   have a4:upd (upd H4 p5 (.tup (bs.map λx=>V.ref x.1))) p6 (.tup [V.ref p5,V.ref e]) p5>>(bs.map λx=>V.ref x.1):=by rw[ai pp,ab]
   have aq:=Z.trans s6;refine⟨_,aq _ _ a0,_,ab,ot (au (by simp)),λp7 H7 h7 s7=>?_⟩
   exact k _ _ (U.trans (aq.trans s7)) ⟨p7,rfl,p2,p5,e,_,h7,s7 _ _ (aq _ _ (s3 _ _ ar)),s7 _ _ a4,⟨bs,rfl,by rw[hbs,fx];rfl,λx hx=>s7 _ _ (s6 _ _ (hbt x hx))⟩,s7 _ _ (aq _ _ (U _ _ h5))⟩
 | bh cs bf =>
  obtain⟨c,h1,h2⟩:=hW;have hk:cs.length<=12:=hk
  have k1 : ∀v H',aj H0 H'->WOs H' v (if idI mI=true then some (.bh (cs.map (ld mS)) bf) else none)->Q v H':=k
  have Y:=s1 _ _ h1;rw[a6 rfl,if_pos rfl] at k1;have U:=s1;have T3:=T1;have an:=Y;ctx_has s Y;ctx_has s Y;ctx_has v an
  refine dX T3.hn (U _ _ h2) () λp2 H4 Z ar=>?_
  have a3:=Z _ _ an;ctx_has v a3
  refine⟨∅,λpf ad=>?_⟩
  have s5:=aj.upd0 (o:=.tup [V.str "behind",.ref p2]) ad;have a7:upd H4 pf (.tup [V.str "behind",.ref p2]) pf>>[V.str "behind",.ref p2]:=ab
  generalize upd H4 pf (.tup [V.str "behind",.ref p2])=H5 at s5 a7 ⊢;have bc:=s5 _ _ a3;ctx_has v bc a7
  intro p6 H6 h6 s6;rw[iO] at h6;refine⟨_,s6 _ _ a7,_,h6,ot (au (by simp)),λp7 H7 h7 s7=>?_⟩
  have bb:=s6.trans s7;exact k1 _ _ (U.trans (Z.trans (s5.trans bb))) ⟨p7,rfl,p2,h7,bb _ _ (s5 _ _ ar)⟩
abbrev EZ:=Fn P w K mg base "_law_led_wish" 4 ["_law_turning","_law_wish_here"] (gV)
theorem kF (T:Txt w K mg base) (L:FnL K mg "_law_led_wish" bv ["_law_turning","_law_wish_here"]) (am : @Di P w K mg base) (Fc : @At P w K mg base) : @EZ P w K mg base:=by
 ctx_has z gh <;> obtain⟨t,w,na,va,mS,mI,c,us,W,rfl,T0,hW,hk,ap,k⟩:=h
 .rfl
 refine⟨_,(af (wV (pvM 0) (cH (n:=2) rfl (aV (az 2) (aV (az 3) cG))))
  (af (aJ (ay aP (ak ao (pvM 1) ae) aw) (af (aB 4 (ah am (aa (pvM 0) (aa (ak ao (pvM 1) ae) ac))))
  (af (aJ (fV (oy (pvM 4))) (ag (aC gO)) aA)
  (ag (aC (aI (aa aw (aa (eA hu (pvM 2) (ak ao (pvM 1) ae) (ak ao (pvM 1) ae) ⟨rfl,rfl,rfl,rfl⟩) (aa (ah Fc (aa (pvM 3) (aa (ak ao (pvM 1) ae) ac))) (aa (pvM 4) ac))))))))) aA)
  (af aN
  (af aN
  (af aN
  (af aN
  (af aN
  (af aN
  (ag aN))))))))),?_⟩
 have e1:=T0.ht;obtain⟨tt,uu,h1,h2,h3⟩:=hW;ctx_has v e1 h1
 refine⟨t,uu,na,va,mS,mI,W,rfl,T0,h3,hk,λv H1 U hv=>?_⟩
 have Y : ∀v H',aj H H'->WO H' v ((cS mS mI W).map (.sa (ld mS c) (us.map (ld mI))))->Q v H':=k
 cases ho:cS mS mI W with
 | none =>
  rw[ho] at hv Y;cases hv;ctx_has v decide_true
  exact Y _ _ U rfl
 | some W' =>
  rw[ho] at hv Y;obtain⟨w',rfl,ad⟩:=hv;have T1:=T0.same U;have e5:=T1.hn;have ai:=U _ _ h1;ctx_has v ai decide_false m_ fL
  refine⟨.inl ⟨_,.inl e5⟩,_,.inl ⟨_,e_ c,.inl e5,rfl,rfl⟩,?_⟩
  rw[BO];refine iX T1.hv (U _ _ h2) () λp H2 s2 hp=>⟨∅,λw2 an=>?_⟩
  have Z:=aj.upd0 (o:=.tup [.str "same",.str (ld mS c),.ref p,.ref w']) an;exact Y _ _ (U.trans (s2.trans Z)) ⟨w2,rfl,p,w',ab,Z _ _ hp,cM ad λa xs e=>Z _ _ (s2 _ _ e)⟩
def sk {α:Type} (f:α->PySem.W.Ky) (l:List α):List α:=l.mergeSort λa b=>!((f b).lt (f a))
theorem bU (f:α->PySem.W.Ky) (l:List α):(sk f l).Perm l:=List.mergeSort_perm l _
theorem DU (f:α->PySem.W.Ky) (l:List α):(sk f l).Pairwise λa b=>(f a).le (f b):=by
 have:=List.pairwise_mergeSort (le:=λa b:α=>!((f b).lt (f a))) (λa b c h1 h2=>by
  simp only[Bool.not_eq_true'] at h1 h2 ⊢;exact PySem.W.Ky.le_trans h1 h2) (λa b=>by
  cases h:(f b).lt (f a) with
  | false=>rfl
  | true=>simp[PySem.W.Ky.asym h]) l
 exact this.imp λh=>by simpa [PySem.W.Ky.le] using h
theorem lQ (f:α->PySem.W.Ky) (l:List α):((sk f l).map f).Pairwise PySem.W.Ky.le:=l9.mpr (DU f l)
theorem fC {f:α->PySem.W.Ky} {l z:List α} (U:z.Perm l) (hs:(z.map f).Pairwise PySem.W.Ky.le) (hi : ∀a∈l,∀b∈l,f a=f b->a=b):z=sk f l :=
 List.Perm.eq_of_pairwise (le:=λa b=>(f a).le (f b)) (λa b Y Z h1 h2=>hi a (U.mem_iff.mp Y) b ((bU f l).mem_iff.mp Z) (PySem.W.Ky.le_antisymm h1 h2)) (l9.mp hs) (DU f l) (U.trans (bU f l).symm)
theorem DS (l:List Str) : ∀a∈l,∀b∈l,PySem.W.Ky.s a=PySem.W.Ky.s b->a=b:=λ_ _ _ _ h=>by cases h;rfl
theorem HL (l:List Int) : ∀a∈l,∀b∈l,PySem.W.Ky.i a=PySem.W.Ky.i b->a=b:=λ_ _ _ _ h=>by cases h;rfl
theorem Hm (l:List (List Int)) : ∀a∈l,∀b∈l,PySem.W.Ky.r a=PySem.W.Ky.r b->a=b:=λ_ _ _ _ h=>by cases h;rfl
def kP (p:Int × Int × Int):PySem.W.Ky:=.r [p.1,p.2.1,p.2.2]
theorem Eh (l:List (Int × Int × Int)) : ∀a∈l,∀b∈l,kP a=kP b->a=b:=λa _ b _ h=>by
 obtain⟨U,a2,a3⟩:=a;obtain⟨Z,z,Y⟩:=b;unfold kP at h;simp at h
 obtain⟨rfl,rfl,rfl⟩:=h;rfl
def kT {α:Type} (t:α × Str):PySem.W.Ky:=.s t.2
theorem mM {α β:Type} {f:α->β} {t t':α} : ∀{l:List α},(l.map f).Nodup->t∈l->t'∈l->f t=f t'->t=t'
 | [],_,h,_,_=>by simp at h
 | x :: l,hn,h,h',e=>by
  have hn:(f x :: l.map f).Nodup:=hn
  obtain⟨h1,h2⟩:=w5.mp hn;rcases i6.mp h with rfl | h
  .rcases i6.mp h' with rfl | h'
   .rfl
   .exact absurd (e7.mpr ⟨t',h',e.symm⟩) h1
  .rcases i6.mp h' with h' | h'
   .exact absurd (e7.mpr ⟨t,h,by rw[<- h'];exact e⟩:f x∈l.map f) h1
   .exact mM h2 h h' e
theorem vO {l:List (α × Str)} (hn:(l.map (·.2)).Nodup) : ∀a∈l,∀b∈l,kT a=kT b->a=b:=λa z b U h=>mM hn z U (by unfold kT at h;injection h)
abbrev noS:Str := ""
def bQ {α:Type} (d:α) (pl:List Nat) (r:List α):List α:=pl.map λi=>r.getD i d
def plc (cs:List Str):List Nat:=(sk kT ((range cs.length).zip cs)).map (·.1)
theorem jF (d:α) (r:List α):bQ d (range r.length) r=r:=by
 apply ext_getElem?
 intro i;unfold bQ
 by_cases hi:i < r.length
 .simp[hi]
 .simp[hi]
theorem lP (d:α) {pl:List Nat} {r:List α} (h:pl.Perm (range r.length)):(bQ d pl r).Perm r:=by
 have:=h.map λi=>r.getD i d
 have e:=jF d r;unfold bQ at e ⊢
 rwa [e] at this
theorem Ac {d:α} {r s:List α} (h:pl.Perm (range n)) (z:r.length=n) (U:s.length=n) (e:bQ d pl r=bQ d pl s):r=s:=by
 apply List.ext_getElem (z.trans U.symm)
 intro i h1 h2;have hi:i∈pl:=h.mem_iff.mpr (x8.mpr ())
 have:=List.map_inj_left.mp e i hi
 simpa [j7,h1,h2] using this
theorem kc (d:α) (e:β) {pl:List Nat} {r:List α} {s:List β}:(bQ d pl r).zip (bQ e pl s)=pl.map λi=>(r.getD i d,s.getD i e):=by
 unfold bQ
 induction pl with
 | nil=>rfl
 | cons i pl z=>simp only[i_,List.zip_cons_cons,z]
theorem gc (cs:List Str):(plc cs).Perm (range cs.length):=by
 have:=(bU kT ((range cs.length).zip cs)).map (·.1)
 rwa [map_fst_zip (by simp)] at this
theorem wE {r:List α} {cs:List Str} (hl:cs.length<=r.length) (hn:cs.Nodup):((r.zip cs).map (·.2)).Nodup:=by
 rw[map_snd_zip hl];exact hn
theorem qS {cs:List Str} (hn:cs.Nodup):bQ noS (plc cs) cs=sk PySem.W.Ky.s cs:=by
 refine fC (lP noS (gc cs)) ?_ (DS cs)
 have e:bQ noS (plc cs) cs=(sk kT ((range cs.length).zip cs)).map (·.2):=by
  unfold bQ plc;rw[fx];refine q_ λz hz=>?_
  have:=(bU kT ((range cs.length).zip cs)).mem_iff.mp hz
  obtain⟨k,Z,Y⟩:=Jy this;have U:k < cs.length:=by simpa using Z
  rw[<- Y];simp[j7,U]
 rw[e,fx];exact lQ kT ((range cs.length).zip cs)
theorem Dj {cs:List Str} {r:List Int} (hn:cs.Nodup) (hl:r.length=cs.length):bQ 0 (plc cs) r=(sk kT (r.zip cs)).map (·.1):=by
 have h1:(bQ 0 (plc cs) r).zip (bQ noS (plc cs) cs)=sk kT (r.zip cs):=by
  refine fC ?_ ?_ (vO (wE () hn))
  .rw[kc]
   have:=(gc cs).map λi=>(r.getD i 0,cs.getD i noS)
   rw[<- kc,<- kc,<- hl,jF,hl,jF] at this;rw[<- kc];exact this
  .have e:((bQ 0 (plc cs) r).zip (bQ noS (plc cs) cs)).map kT=(bQ noS (plc cs) cs).map PySem.W.Ky.s:=by
    have:(kT:Int × Str->PySem.W.Ky)=PySem.W.Ky.s ∘ Prod.snd:=rfl
    rw[this,<- fx,map_snd_zip (by unfold bQ;simp)]
   rw[e,qS hn];exact lQ PySem.W.Ky.s cs
 rw[<- h1,map_fst_zip (by unfold bQ;simp)]
def nB:Wi->Wi
 | .un cs=>.un (sk .s cs)
 | .mn U cs lo hi=>.mn (sk .i U) (sk .s cs) lo hi
 | .sm ts lo hi=>.sm (sk kT ts) lo hi
 | .tb cs rows=>.tb (sk .s cs) (sk .r (rows.map (bQ 0 (plc cs))))
 | .wy cs ps es=>.wy cs (sk kP ps) (sk .i es)
 | .bh cs z=>.bh cs z
def dO:Wx->Wx
 | .pl W=>.pl (nB W)
 | .sa c vs W=>.sa c (sk .i vs) (nB W)
def xz:Wi->Wi->Prop
 | .un cs,.un cs'=>cs'.Perm cs
 | .mn av cs lo hi,.mn av' cs' lo' hi'=>av'.Perm av/\cs'.Perm cs/\lo'=lo/\hi'=hi
 | .sm ts lo hi,.sm ts' lo' hi'=>ts'.Perm ts/\lo'=lo/\hi'=hi
 | .tb cs rows,.tb cs' rows'=>∃pl:List Nat,pl.Perm (range cs.length)/\cs'=bQ noS pl cs/\rows'.Perm (rows.map (bQ 0 pl))
 | .wy cs ps es,.wy cs' ps' es'=>cs'=cs/\ps'.Perm ps/\es'.Perm es
 | .bh cs gap,.bh cs' gap'=>cs'=cs/\gap'=gap
 | _,_=>False
def ze:Wx->Wx->Prop
 | .pl W,.pl W'=>xz W W'
 | .sa c vs W,.sa c' vs' W'=>c'=c/\vs'.Perm vs/\xz W W'
 | _,_=>False
theorem iW : ∀{W:Wi},okW ws ns W->xz W (nB W)
 | .un cs,_=>bU _ _
 | .mn av cs lo hi,_=>⟨bU _ _,bU _ _,rfl,rfl⟩
 | .sm ts lo hi,_=>⟨bU _ _,rfl,rfl⟩
 | .tb cs rows,h=>⟨plc cs,gc cs,(qS h.1.2.1).symm,bU _ _⟩
 | .wy cs ps es,_=>⟨rfl,bU _ _,bU _ _⟩
 | .bh cs gap,_=>⟨rfl,rfl⟩
theorem fc : ∀{W:Wx},okX ws ns W->ze W (dO W)
 | .pl W,h=>iW (W:=W) h
 | .sa c vs W,h=>⟨rfl,bU _ _,iW h.2.2.1⟩
theorem ki {cs:List Str} (h:okC ws cs) (p:cs'.Perm cs):okC ws cs':=⟨λe=>h.1 (by rw[e] at p;exact p.symm.eq_nil),p.nodup_iff.mpr h.2.1,λc z=>h.2.2.1 c (p.mem_iff.mp z),by rw[p.length_eq];exact h.2.2.2⟩
theorem we {vs z:List Int} (h:okV ns vs) (p:z.Perm vs):okV ns z:=⟨p.nodup_iff.mpr h.1,λc U=>h.2.1 c (p.mem_iff.mp U),by rw[p.length_eq];exact h.2.2⟩
theorem sU : ∀{W z:Wi},okW ws ns W->xz W z->okW ws ns z
 | .un cs,.un cs',h,m=>ki h m
 | .mn av cs lo hi,.mn av' cs' lo' hi',h,m=>⟨ki h.1 m.2.1,we h.2 m.1⟩
 | .sm ts lo hi,.sm ts' lo' hi',h,m=>⟨ki h.1 (m.1.map _),λx Y=>h.2 x (m.1.mem_iff.mp Y)⟩
 | .tb cs rows,.tb cs' rows',h,⟨pl,hp,e,hr⟩=>by
  subst e;have hl:(bQ noS pl cs).length=cs.length:=by unfold bQ;rw[a_,hp.length_eq,Kf]
  have Z : ∀r,(bQ (0:Int) pl r).length=cs.length:=λr=>by unfold bQ;rw[a_,hp.length_eq,Kf]
  refine⟨ki h.1 (lP noS hp),hr.nodup_iff.mpr ?_,λr U=>?_,by rw[hr.length_eq,a_];exact h.2.2.2⟩
  .refine l9.mpr (List.Pairwise.imp_of_mem (λ{a b} ha hb ne e=>ne (Ac hp (h.2.2.1 a ha) (h.2.2.1 b hb) e)) h.2.1)
  .obtain⟨r0,_,rfl⟩:=e7.mp (hr.mem_iff.mp U)
   rw[hl,Z]
 | .wy cs ps es,.wy cs' ps' es',h,⟨e,p,q⟩=>by
  subst e;exact⟨h.1,(p.map _).nodup_iff.mpr h.2.1,by rw[p.length_eq];exact h.2.2.1,by rw[q.length_eq];exact h.2.2.2⟩
 | .bh cs gap,.bh cs' gap',h,m=>by
  obtain⟨rfl,rfl⟩:=m;exact h
theorem ll : ∀{W z:Wi},xz W z->(cE z).Perm (cE W)
 | .un cs,.un cs',m=>m
 | .mn av cs lo hi,.mn av' cs' lo' hi',m=>m.2.1
 | .sm ts lo hi,.sm ts' lo' hi',m=>m.1.map _
 | .tb cs rows,.tb cs' rows',⟨pl,hp,e,hr⟩=>by subst e;exact lP noS hp
 | .wy cs ps es,.wy cs' ps' es',⟨e,p,q⟩=>by subst e;exact .refl _
 | .bh cs gap,.bh cs' gap',m=>by obtain⟨rfl,rfl⟩:=m;exact .refl _
theorem yY : ∀{W U:Wx},okX ws ns W->ze W U->okX ws ns U
 | .pl W,.pl U,h,m=>sU (W:=W) h m
 | .sa c vs W,.sa c' vs' U,h,⟨e,p,m⟩=>by
  subst e;exact⟨h.1,we h.2.1 p,sU h.2.2.1 m,λz=>h.2.2.2 ((ll m).mem_iff.mp z)⟩
theorem pd : ∀{W z:Wx},ze W z->(cp z).Perm (cp W)
 | .pl W,.pl z,m=>ll (W:=W) m
 | .sa c vs W,.sa c' vs' z,⟨e,p,m⟩=>by subst e;exact(ll m).cons _
def nh:Sp:=λvs H Q _=>∃(p:Addr) (zs:List (V × PySem.W.Ky)),vs=[.ref p]/\(H p*>(zs.map (·.1))\/H p>>(zs.map (·.1)))/\zs.length<=60/\(∀z∈zs,KyV H z.1 z.2)/\(∃t:Nat,∀z∈zs,z.2.tag=t/\z.2≠.r []) /\
 ∀(r:Addr) (U:List (V × PySem.W.Ky)) (H':Hp),aj H H'->U.Perm zs->(U.map (·.2)).Pairwise PySem.W.Ky.le->H' r>>(U.map (·.1))->Q (.ref r) H'
def Ent (H:Hp) (e:Addr × V × PySem.W.Ky):Prop:=∃kv,H e.1>>[kv,e.2.1]/\KyV H kv e.2.2
theorem Ent.keep {e:Addr × V × PySem.W.Ky} (h:Ent H e) (k : ∀a xs,H a>>xs->H' a>>xs):Ent H' e:=by
 obtain⟨kv,h1,h2⟩:=h;refine⟨kv,k _ _ h1,?_⟩
 obtain⟨a,v,y⟩:=e;cases y with
 | s x=>exact h2
 | i x=>exact h2
 | r l=>obtain⟨b,e1,e2⟩:=h2;exact⟨b,e1,k _ _ e2⟩
def Hc:Sp:=λvs H Q _=>∃(p:Addr) (x kv:V) (k:PySem.W.Ky) (es:List (Addr × V × PySem.W.Ky)),vs=[.ref p,x,kv]/\H p*>(es.map λe=>V.ref e.1)/\es.length<=60/\(∀e∈es,Ent H e)/\KyV H kv k/\(∀e∈es,e.2.2.tag=k.tag)/\(es.map (·.2.2)).Pairwise PySem.W.Ky.le /\
 ∀(z:List (Addr × V × PySem.W.Ky)) (H':Hp),(∀b o,b≠p->H b=some o->H' b=some o)->H' p*>(z.map λe=>V.ref e.1)->(∀e∈z,Ent H' e)->(z.map (·.2)).Perm ((x,k) :: es.map (·.2))->(z.map (·.2.2)).Pairwise PySem.W.Ky.le->Q .non H'
def Ik:Sp:=λvs H Q _=>∃(a b:Addr) (zs:List (V × PySem.W.Ky)) (kvs:List V),vs=[.ref a,.ref b]/\H a*>(zs.map (·.1))/\H b*>kvs/\kvs.length=zs.length/\(∀(i:Nat) v z,kvs[i]? = some v->zs[i]? = some z->KyV H v z.2)/\zs.length<=60/\(∃t:Nat,∀z∈zs,z.2.tag=t) /\
 ∀(r:Addr) (U:List (V × PySem.W.Ky)) (H':Hp),aj H H'->U.Perm zs->(U.map (·.2)).Pairwise PySem.W.Ky.le->H' r*>(U.map (·.1))->Q (.ref r) H'
abbrev CQ:=Fn P w K mg base "in_order" 1 ["things"] (nh)
theorem ua (T:Txt w K mg base) (L:FnL K mg "in_order" jG ["things"]) : @CQ P w K mg base:=by
 ctx_has z vR <;> obtain⟨p,zs,rfl,hp,hl,hk,ht,k⟩:=h
 .rfl
 refine⟨_,(ag (aC (aG aM T.b_tuple (aa (aF xy T.b_sorted (aa (pvM 0) ac)) ac)))),?_⟩
 ctx_has v Bw
 refine⟨zs,hp,(),hk,ht,λq U hq Z Y=>⟨_,ab,λr hr=>?_⟩⟩
 exact k r U _ ((aj.upd0 hq).upd_new hr) Z Y ab
abbrev Hq:=Fn P w K mg base "_law_insert" 1 ["_law_found","_law_thing","_law_key"] (Hc)
theorem nK (T:Txt w K mg base) (L:FnL K mg "_law_insert" fS ["_law_found","_law_thing","_law_key"]) : @Hq P w K mg base:=by
 ctx_has z pU <;> obtain⟨p,x,kv,y,es,rfl,hp,hl,he,ah,av,am,k⟩:=h
 .rfl
 refine⟨_,(af (aB 3 ae)
  (af (fZ JV (PW.pt (gL (ay DI (pvM 3) (aF aZ T.b_len (aa (pvM 0) ac))) (gC (ay (Ew hu) (ak wm (ak dE (pvM 0) (pvM 3)) ae) (pvM 2))))) (ag (aB 3 (aO bq (pvM 3) ae))))
  (ag (bu (cA PySem.F.slot_list_insert PySem.F.type_list_insert zF (pvM 0) (aa (pvM 3) (aa (aI (aa (pvM 2) (aa (pvM 1) ac))) ac))))))),?_⟩
 dsimp only [zV,yl,xb,tC,fh,Cf,ko,wx,L2.gg,J0,List.append_eq,KA,length_nil,replicate,KZ,List.nil_append,Nat.reduceAdd,Nat.reduceSub,List.set,List.set_cons_zero,List.set_cons_succ];refine gb (λμ σ H'=>∃i:Nat,σ=[-p,some x,some kv,some (.int i)]/\H'=H/\i<=es.length/\(∀(j:Nat) e,j < i->es[j]? = some e->PySem.W.Ky.le e.2.2 y)/\μ=es.length - i)
  (λσ H'=>∃i:Nat,σ=[-p,some x,some kv,some (.int i)]/\H'=H/\i<=es.length/\(∀(j:Nat) e,j < i->es[j]? = some e->PySem.W.Ky.le e.2.2 y)/\(∀e,es[i]? = some e->¬ PySem.W.Ky.le e.2.2 y))
  ⟨_,0,rfl,rfl,r_ _,λj e hj=>by omega,rfl⟩ ?_ ?_
 .rintro R hR μ σ H ⟨i,rfl,rfl,hi,hle,rfl⟩
  ctx_has v hp Ht
  refine cN (λh1=>?_) (λh1=>?_)
  .have ad:i < es.length:=by rw[a_] at h1;omega
   obtain⟨⟨ea,ev,ek⟩,U⟩ : ∃e,es[i]? = some e:=⟨_,h_ ad⟩;obtain⟨az,e1,e2⟩:=he _ (i4 U);refine⟨_,aQ (by rw[e9,U];rfl),ea,rfl,_,e1,_,aQ (j:=0) rfl,ek,e2,y,ah,av _ (i4 U),?_⟩
   refine cN (λh2=>?_) (λh2=>?_)
   .refine⟨λσ' H'=>σ'=[-p,some x,some kv,some (.int ((i:Int)+1))]/\H'=H,?_,rfl,rfl⟩
    rintro _ _ ⟨rfl,rfl⟩
    refine⟨es.length - (i+1),(),i+1,by simp,rfl,(),λj e hj ej=>?_,rfl⟩
    by_cases aw:j=i
    .subst aw
     rw[U] at ej;cases ej;exact h2
    .exact hle j e () ej
   .refine hR _ _ ⟨i,rfl,rfl,hi,hle,λe ee=>?_⟩
    rw[U] at ee;cases ee;exact h2
  .refine hR _ _ ⟨i,rfl,rfl,hi,hle,λe ee=>?_⟩
   have:=(i7.mp ee).1
   rw[a_] at h1;omega
 .rintro σ H ⟨i,rfl,rfl,hi,hle,hno⟩
  ctx_has v hp
  refine⟨∅,λt ht=>?_⟩
  have aq:p≠t:=ap hp ht
  have s1:=aj.upd0 (o:=.tup [kv,x]) ht;refine⟨_,s1 _ _ hp,(),by rw[a_];omega,by rw[a_];exact au (),?_⟩
  have ao : ∀e∈es.drop i,PySem.W.Ky.le y e.2.2:=λe Z=>by
   obtain⟨j,hj,ej⟩:=Jy Z;rw[List.getElem_drop] at ej;have ad:i < es.length:=by rw[D_] at hj;omega
   have h1:=PySem.W.Ky.le_of_not (hno _ (h_ ad))
   by_cases ar:j=0
   .subst ar
    rw[<- ej];exact h1
   .have h2:=List.pairwise_iff_getElem.mp (l9.mp am) i (i+j) ad (by rw[D_] at hj;omega) ()
    rw[ej] at h2;exact PySem.W.Ky.le_trans h1 h2
  have an : ∀e∈es.take i,PySem.W.Ky.le e.2.2 y:=λe Z=>by
   obtain⟨j,hj,ej⟩:=Jy Z;rw[pk] at hj;rw[List.getElem_take] at ej;exact hle j e () (by rw[h_ (),ej])
  have kp : ∀b o,b≠p->H b=some o->upd (upd H t (.tup [kv,x])) p (.lst ((es.map λe=>V.ref e.1).take ((i:Int)).toNat++V.ref t ::(es.map λe=>V.ref e.1).drop ((i:Int)).toNat)) b=some o:=λb o hb e=>by rw[ai hb];exact s1 _ _ e
  have Y : ∀a xs,H a>>xs->upd (upd H t (.tup [kv,x])) p (.lst ((es.map λe=>V.ref e.1).take ((i:Int)).toNat++V.ref t ::(es.map λe=>V.ref e.1).drop ((i:Int)).toNat)) a>>xs:=λa xs e=>kp _ _ (bA e hp (by intro z;cases z)) e
  have hE:Ent (upd (upd H t (.tup [kv,x])) p (.lst ((es.map λe=>V.ref e.1).take ((i:Int)).toNat++V.ref t ::(es.map λe=>V.ref e.1).drop ((i:Int)).toNat))) (t,x,y):=by
   refine⟨kv,by rw[ai aq.symm,ab],?_⟩
   cases y with
   | s z=>exact ah
   | i z=>exact ah
   | r l=>obtain⟨c,c1,c2⟩:=ah;exact⟨c,c1,Y _ _ c2⟩
  refine k (es.take i++(t,x,y) :: es.drop i) _ kp ?_ (λe Z=>?_) ?_ ?_
  .rw[ab,ii,i_,map_take,map_drop]
   simp
  .rcases j6.mp Z with z | z
   .exact(he e (v_ z)).keep Y
   .rcases i6.mp z with rfl | z
    .exact hE
    .exact(he e (List.mem_of_mem_drop z)).keep Y
  .rw[ii,i_]
   refine perm_middle.trans ?_
   rw[<- ii,List.take_append_drop]
  .rw[l9,List.pairwise_append]
   refine⟨(l9.mp am).sublist (JF _ _),List.pairwise_cons.mpr ⟨λe Z=>ao e Z,(l9.mp am).sublist (List.drop_sublist _ _)⟩,λe Z e' ax=>?_⟩
   rcases i6.mp ax with rfl | z
   .exact an e Z
   .exact PySem.W.Ky.le_trans (an e Z) (ao e' z)
abbrev Gi:=Fn P w K mg base "_law_by_key" 2 ["_law_things","_law_keys"] (Ik)
theorem oX (T:Txt w K mg base) (L:FnL K mg "_law_by_key" dU ["_law_things","_law_keys"]) (FU : @Hq P w K mg base) : @Gi P w K mg base:=by
 ctx_has z oD <;> obtain⟨a,b,zs,kvs,rfl,ha,hb,a1,a0,hl,⟨tg,an⟩,k⟩:=h
 .rfl
 refine⟨_,(af (aB 2 (ba ac))
  (af (bc (ci rfl T.b_range (aa (aF aZ T.b_len (aa (pvM 0) ac)) ac)) (az 3) (ag (bu (ah FU (aa (pvM 2) (aa (ak dE (pvM 0) (pvM 3)) (aa (ak dE (pvM 1) (pvM 3)) ac)))))))
  (ag (aC (aW (N:=["_law_key","_law_thing"]) (nt:=2) (js:=[]) (aE ["_law_things","_law_keys","_law_found","_law_k"] (am dU).names) (dg (K:=K) rfl (pvM 2)) (cH (n:=2) rfl (aV (az 0) (aV (az 1) cG))) dj aU (pvM 1)))))),?_⟩
 ctx_has v ha
 refine⟨ot (au (by simp)),λp hp=>?_⟩
 have s1:=aj.upd0 (o:=.lst []) hp;refine⟨_,s1 _ _ ha,(),by rw[a_];omega,?_⟩
 rw[show((((zs.map (·.1)).length:Nat):Int)).toNat=zs.length by simp]
 refine bK bM (λi σ H'=>∃(v:Option V) (es:List (Addr × V × PySem.W.Ky)),σ=[-a,-b,-p,v]/\H' p*>(es.map λe=>V.ref e.1)/\(∀e∈es,Ent H' e)/\(es.map (·.2)).Perm (zs.take i)/\(es.map (·.2.2)).Pairwise PySem.W.Ky.le/\aj H H')
  ⟨none,[],rfl,ab,by simp,by simp,by simp,s1⟩ (λ_ _ _ _=>ow) ?_ ?_
 .rintro i x σ H2 hi hx ⟨v,es,rfl,h2p,he,hpm,hso,s2⟩
  rw[aK] at hi;rw[er hi] at hx;cases hx;have av:=s2 _ _ ha;have ax:=s2 _ _ hb;have U:zs[i]? = some zs[i]:=h_ hi
  have ao:kvs[i]? = some kvs[i]:=h_ ()
  have ad:es.length<=60:=by have:=hpm.length_eq;rw[a_,pk] at this;omega
  have e1:atI (zs.map (·.1)) ((0:Int)+i)=some zs[i].1:=by rw[Kk];exact aQ (by rw[e9,U];rfl)
  have e2:atI kvs ((0:Int)+i)=some kvs[i]:=by rw[Kk];exact aQ ao
  ctx_has v av ax e1 e2
  refine⟨p,_,_,zs[i].2,es,rfl,h2p,ad,he,(a0 i _ _ ao U).same s2,λe hm=>?_,hso,λay H3 kp ar aw aq Y=>⟨ay,ar,aw,?_,Y,λb' o e=>kp b' o (ap e hp) (s2 _ _ e)⟩⟩
  .rw[an zs[i] (A_ hi),an e.2 (v_ (hpm.mem_iff.mp (e7.mpr ⟨e,hm,rfl⟩)))]
  .refine aq.trans ?_
   rw[i8,U];exact(hpm.cons _).trans (List.perm_append_comm (l₁:=[zs[i]]))
 .rintro σ H2 ⟨v,es,rfl,h2p,he,hpm,hso,s2⟩
  rw[aK,k9] at hpm;have ad:es.length<=60:=by have:=hpm.length_eq;rw[a_] at this;omega
  ctx_has v h2p
  intro D hD;refine bL bz (λi ys H'=>ys=(es.take i).map (·.2.1)/\H' D*>ys/\aj H2 H') ⟨by simp,ab,aj.upd0 hD⟩ (λi ys H' Z=>by obtain⟨_,_,s⟩:=Z;exact(.of (s _ _ h2p))) ?_ ?_
  .rintro i x ys H3 hi hx ⟨rfl,h3D,s3⟩
   rw[a_] at hi;have ae:es[i]? = some es[i]:=h_ hi
   rw[e9,ae] at hx;cases hx;obtain⟨a2,e1,e2⟩:=(he es[i] (A_ hi)).keep λa xs e=>s3 _ _ e
   ctx_has v e1
   refine⟨h3D,by simp;exact au (),?_,ab,λb' o e=>by rw[ai (ap e hD)];exact s3 _ _ e⟩
   rw[i8,ae,ii];rfl
  .rintro ys H3 ⟨rfl,h3D,s3⟩
   rw[a_,k9] at h3D;refine k D (es.map (·.2)) H3 (s2.trans s3) hpm ?_ ?_
   .rw[fx];exact hso
   .rw[fx];exact h3D
abbrev G8:=Fn P w K mg base "_law_rising" 3 ["_law_things"] (nh)
theorem nQ (T:Txt w K mg base) (L:FnL K mg "_law_rising" fI ["_law_things"]) (Fl : @Gi P w K mg base) : @G8 P w K mg base:=by
 ctx_has z nL <;> obtain⟨p,zs,rfl,hp,hl,hk,ht,k⟩:=h
 .rfl
 refine⟨_,(ag (aC (aG aM T.b_tuple (aa (ah Fl (aa (aG jw T.b_list (aa (pvM 0) ac)) (aa (aG jw T.b_list (aa (pvM 0) ac)) ac))) ac)))),?_⟩
 ctx_has v sf
 have U:xC H p (zs.map (·.1)):=hp
 refine⟨_,U,λl1 h1=>?_⟩
 have Z:=aj.upd0 (o:=.lst (zs.map (·.1))) h1;refine⟨_,U.imp (λe=>Z _ _ e) (λe=>Z _ _ e),λl2 h2=>?_⟩
 have s2:=Z.upd_new (o:=.lst (zs.map (·.1))) h2;have ad:l1≠l2:=λz=>by rw[<- z,ab] at h2;cases h2
 refine⟨l1,l2,zs,zs.map (·.1),rfl,by rw[ai ad,ab],ab,by simp,λi v z e1 e2=>?_,hl,?_,λr af H3 s3 ae Y ak=>⟨r,rfl,_,ak,λq U=>?_⟩⟩
 .rw[e9,e2] at e1
  cases e1;exact(hk z (i4 e2)).same s2
 .obtain⟨tg,h⟩:=ht
  exact⟨tg,λz hz=>(h z hz).1⟩
 .exact k q af _ ((s2.trans s3).upd_new U) ae Y ab
theorem bB {F:α->β} {zs m:List β} (h:zs.Perm m) : ∀{l:List α},m=l.map F->∃z:List α,z.Perm l/\zs=z.map F:=by
 induction h with
 | nil =>
  intro l e;cases l with
  | nil=>exact⟨[],.refl _,rfl⟩
  | cons a l=>cases e
 | cons x h ih =>
  intro l e;cases l with
  | nil=>cases e
  | cons a l =>
   obtain⟨e1,e2⟩:=List.cons.inj e;obtain⟨z,h1,h2⟩:=ih e2;exact⟨a :: z,h1.cons a,by rw[e1,h2];rfl⟩
 | swap x y m =>
  intro l e;cases l with
  | nil=>cases e
  | cons a l =>
   cases l with
   | nil=>cases (List.cons.inj e).2
   | cons b l =>
    obtain⟨e1,e2⟩:=List.cons.inj e;obtain⟨e2,e3⟩:=List.cons.inj e2;exact⟨b :: a :: l,.swap _ _ _,by rw[e1,e2,e3];rfl⟩
 | trans _ _ U Y =>
  intro l e;obtain⟨l2,h1,h2⟩:=Y e;obtain⟨Z,h3,h4⟩:=U h2;exact⟨Z,h3.trans h1,h4⟩
theorem AJ (h:α->β) (g:β->PySem.W.Ky) {l:List α} (hi : ∀a∈l.map h,∀b∈l.map h,g a=g b->a=b):(sk (λa=>g (h a)) l).map h=sk g (l.map h) :=
 fC ((bU _ l).map h) (by rw[fx];exact lQ (λa=>g (h a)) l) hi
theorem sh {l:List α} {Q:VK} {E:XK} (F:α->V) (f:α->PySem.W.Ky) (hp:H p*>(l.map F)\/H p>>(l.map F)) (hl:l.length<=60) (hk : ∀a∈l,KyV H (F a) (f a)) (ht : ∃t:Nat,∀a∈l,(f a).tag=t/\f a≠.r [])
  (hi : ∀a∈l,∀b∈l,f a=f b->a=b) (q : ∀r H',aj H H'->H' r>>((sk f l).map F)->Q (.ref r) H'):nh [.ref p] H Q E:=by
 refine⟨p,l.map λa=>(F a,f a),rfl,by rw[fx];exact hp,by simpa using hl,λz hz=>?_,?_,λr ac H' s aa U Y=>?_⟩
 .obtain⟨a,Z,rfl⟩:=e7.mp hz
  exact hk a Z
 .obtain⟨t,h⟩:=ht
  refine⟨t,λz hz=>?_⟩
  obtain⟨a,Z,rfl⟩:=e7.mp hz;exact h a Z
 .obtain⟨l',h1,rfl⟩:=bB aa rfl
  rw[fx] at U Y;have e:l'=sk f l:=fC h1 U hi
  rw[e] at Y;exact q r H' s Y
theorem iV {cs:List Str} {Q:VK} {E:XK} (U:H p>>(cs.map V.str)) (hl:cs.length<=60) (q : ∀r H',aj H H'->H' r>>((sk .s cs).map V.str)->Q (.ref r) H'):nh [.ref p] H Q E :=
 sh V.str .s (.inr U) hl (λ_ _=>rfl) ⟨0,λ_ _=>⟨rfl,λz=>nomatch z⟩⟩ (DS cs) q
theorem iQ {cs:List Int} {Q:VK} {E:XK} (U:H p>>(cs.map V.int)) (hl:cs.length<=60) (q : ∀r H',aj H H'->H' r>>((sk .i cs).map V.int)->Q (.ref r) H'):nh [.ref p] H Q E :=
 sh V.int .i (.inr U) hl (λ_ _=>rfl) ⟨1,λ_ _=>⟨rfl,λz=>nomatch z⟩⟩ (HL cs) q
theorem uG {as:List (Addr × List Int)} {Q:VK} {E:XK} (hp:H p*>(as.map λx=>V.ref x.1)\/H p>>(as.map λx=>V.ref x.1)) (hl:as.length<=60) (Z : ∀x∈as,H x.1>>(x.2.map V.int))
  (hn:(as.map (·.2)).Nodup) (h0 : ∀x∈as,x.2≠[]) (q : ∀r vs H',aj H H'->H' r>>vs->dJ H' vs (sk .r (as.map (·.2)))->Q (.ref r) H'):nh [.ref p] H Q E :=
 sh (λx=>V.ref x.1) (λx=>.r x.2) hp hl (λx U=>⟨x.1,rfl,Z x U⟩) ⟨2,λx U=>⟨rfl,λz=>h0 x U (by injection z)⟩⟩ (λa ha b hb e=>mM hn ha hb (by injection e))
  λr H' s Y=>q r _ H' s Y ⟨sk (λx=>.r x.2) as,rfl,(AJ (λx:Addr × List Int=>x.2) .r (Hm _)).symm,λx U=>s _ _ (Z x ((bU _ as).mem_iff.mp U))⟩
theorem rh {as:List (Addr × Int × Int × Int)} {Q:VK} {E:XK} (hp:H p>>(as.map λx=>V.ref x.1)) (hl:as.length<=60) (Z : ∀x∈as,H x.1>>[.int x.2.1,.int x.2.2.1,.int x.2.2.2])
  (hn:(as.map (·.2)).Nodup) (q : ∀r vs H',aj H H'->H' r>>vs->kW H' vs (sk kP (as.map (·.2)))->Q (.ref r) H'):nh [.ref p] H Q E :=
 sh (λx:Addr × Int × Int × Int=>V.ref x.1) (λx=>kP x.2) (.inr hp) hl (λx U=>(⟨x.1,rfl,Z x U⟩ : ∃a,V.ref x.1 = .ref a/\H a>>([x.2.1,x.2.2.1,x.2.2.2].map V.int))) ⟨2,λx U=>⟨rfl,λz=>by unfold kP at z;injection z with z;cases z⟩⟩ (λa ha b hb e=>mM hn ha hb (Eh (as.map (·.2)) _ (e7.mpr ⟨a,ha,rfl⟩) _ (e7.mpr ⟨b,hb,rfl⟩) e))
  λr H' s Y=>q r _ H' s Y ⟨sk (λx=>kP x.2) as,rfl,AJ (λx:Addr × Int × Int × Int=>x.2) kP (Eh _),λx U=>s _ _ (Z x ((bU _ as).mem_iff.mp U))⟩
theorem rQ {f:α->β} {l:List α} (h:(l.map f).Nodup):l.Nodup:=(l9.mp h).imp λne e=>ne (by rw[e])
def bJ (H:Hp):Prop:=lY tabs H
theorem bJ.same (h:bJ H) (e:aj H H'):bJ H':=λt z=>e _ _ (h t z)
theorem bJ.t1 (h:bJ H):H 110=some (.tab (qL "plain_table")):=h (112,110,qL "plain_table") (by simp[tabs])
theorem bJ.t2 (h:bJ H):H 115=some (.tab (qL "plain_form")):=h (119,115,qL "plain_form") (by simp[tabs])
def Il:Sp:=λvs H Q _=>∃(w:Addr) (ws cs:List Str) (ns:List Int) (rows:List (List Int)),vs=[.ref w]/\bJ H/\WS H w (.tb cs rows)/\okW ws ns (.tb cs rows)/\∀r H',aj H H'->WS H' r (nB (.tb cs rows))->Q (.ref r) H'
def Bb:Sp:=λvs H Q _=>∃(w:Addr) (ws:List Str) (ns:List Int) (W:Wi),vs=[.ref w]/\bJ H/\WS H w W/\okW ws ns W/\∀r H',aj H H'->WS H' r (nB W)->Q (.ref r) H'
def AK:Sp:=λvs H Q _=>∃(w:Addr) (ws:List Str) (ns:List Int) (c:Str) (us:List Int) (W:Wi),vs=[.ref w]/\bJ H/\WX H w (.sa c us W)/\okX ws ns (.sa c us W)/\∀r H',aj H H'->WX H' r (dO (.sa c us W))->Q (.ref r) H'
theorem oP (T:Txt w K mg base) (L:vf K mg "plain_table" bY ["wish"] 110) (Ff : @CQ P w K mg base):Fn P w K mg base "plain_table" 2 ["wish"] (Il):=by
 have nd:=iF.nd;refine L.ok iF (λvs H Q E h=>?_) (λf c hc A outer s H vs Q E hr h=>?_) <;> obtain⟨w,ws,cs,ns,rows,rfl,tb,hW,U,k⟩:=h
 .rfl
 have hu:=vH hr;refine⟨_,(af (aB 1 (Ar (pt:=110) (q:=qL "plain_table") (j:=0) hr rfl rfl T.b_sorted rfl T.b_range (aa (aF cB T.b_len (aa (ak ao (pvM 0) ae) ac)) ac) rfl hc T.bm rfl rfl rfl rfl rfl rfl rfl (λ_ _ _ _=>rfl) rfl rfl rfl rfl rfl (by decide+kernel) ∅ ∅ ∅ (λ_ _=>rfl) (λ_ _=>rfl)))
  (af (bW 2 (N:=["row","places"]) (nt:=1) (js:=[1]) (aE ["wish","places","rows"] (am bY).names) (bR K (ak ao (pvM 0) ae)) (az 0) aL aU (aG aM T.b_tuple (aa (aW (N:=["place","row"]) (nt:=1) (js:=[0]) (aE ["row","places"] (Go (am bY).kind (am bY).names _)) (dg (K:=K) rfl (pvM 1)) (az 0) aL aU (ak wm (pvM 1) (pvM 0))) ac)))
  (ag (aC (aI (aa aw (aa (ah Ff (aa (ak ao (pvM 0) ae) ac)) (aa (ah Ff (aa (pvM 2) ac)) ac)))))))),?_⟩
 obtain⟨c,t,vs,h1,h2,h3,as,rfl,rfl,h4⟩:=hW;ctx_has v h1 h2 Cd
 have aN:cs.length<=12:=U.1.2.2.2
 have a8:cs.Nodup:=U.1.2.1
 have aK:as.length<=7:=by have:=U.2.2.2;rw[a_] at this;exact this
 refine⟨cs,rfl,by simp,(),tb.t1,λH2 r aq s2 a9 aJ ay=>?_⟩
 have ez:aq=sk kT ((range cs.length).zip cs):=fC aJ ay (vO (wE (by simp) a8))
 have a1:aq.map (λz=>V.int z.1)=(plc cs).map λi:Nat=>V.int i:=by rw[ez];unfold plc;rw[fx];rfl
 rw[a1];have s3:=s2.upd_new (o:=.lst ((plc cs).map λi:Nat=>V.int i)) a9
 have ai:upd H2 r (.lst ((plc cs).map λi:Nat=>V.int i)) r*>((plc cs).map λi:Nat=>V.int i):=ab
 generalize upd H2 r (.lst ((plc cs).map λi:Nat=>V.int i))=H3 at s3 ai ⊢
 have ap:(plc cs).length=cs.length:=by rw[(gc cs).length_eq,Kf]
 refine⟨_,s3 _ _ h1,_,aQ (j:=2) rfl,t,rfl,_,s3 _ _ h3,λD hD=>?_⟩
 refine dz aT (f:=λx:Addr × List Int=>bQ 0 (plc cs) x.2) (c:=λr:List Int=>r.map V.int) hD (λH' s=>.of (s _ _ (s3 _ _ h3))) () ?_ ?_
 .intro z hz H4 Q4 s4 q4
  have au:=s4 _ _ ai;have aD:=s4 _ _ (s3 _ _ (h4 z hz));have a2:z.2.length=cs.length:=U.2.2.1 z.2 (e7.mpr ⟨z,hz,rfl⟩)
  ctx_has v au
  intro D2 a6;refine dr bz (λv=>match v with | .int i=>.int (z.2.getD i.toNat 0) | _=>.non) a6 (λH' s=>.of (s _ _ au)) (by rw[a_];omega) ?_ ?_
  .intro x H5 Q5 hx Y q5
   obtain⟨i,hi,rfl⟩:=e7.mp hx;have ar:i < z.2.length:=by rw[a2];exact x8.mp ((gc cs).mem_iff.mp hi)
   have ax:=Y _ _ aD;ctx_has v ax
   refine⟨_,aQ (by rw[e9,h_ ar];rfl),?_⟩
   have:=q5 H5 (aj.refl _)
   simpa [j7,ar] using this
  .intro H5 Y h5
   ctx_has v h5
   intro t' a4;refine q4 t' _ (Y.upd_new a4) ?_
   rw[ab];unfold bQ;rw[fx,fx];rfl
 .intro bs H4 hbs hbt s4 h4D
  have Z:=s3.trans s4;refine⟨_,Z _ _ h1,_,aQ (j:=1) rfl,?_⟩
  refine iV (Z _ _ h2) () λr2 H5 Y aH=>?_
  have av:=sU U (iW U);have ad:bs.map (·.2)=(as.map (·.2)).map (bQ 0 (plc cs)):=by rw[hbs,fx];rfl
  have a7:bs.length<=60:=by have:=congrArg u8 hbs;rw[a_,a_] at this;omega
  have a3:(bs.map (·.2)).Nodup:=by rw[ad];exact(bU _ _).nodup_iff.mp av.2.1
  refine uG (.inl (Y _ _ h4D)) a7 (λx hx=>Y _ _ (hbt x hx)) a3 (λx hx e=>?_) λr3 vs H6 s6 a5 an=>⟨∅,λw' aA=>?_⟩
  .have:x.2∈bs.map (·.2):=e7.mpr ⟨x,hx,rfl⟩
   rw[ad,e] at this;obtain⟨r0,_,e0⟩:=e7.mp this;have a0:=U.1.1;unfold bQ at e0;rw[map_eq_nil_iff] at e0;rw[e0] at ap;exact a0 (JC.mp ap.symm)
  .have s7:=aj.upd0 (o:=.tup [V.str "table",V.ref r2,V.ref r3]) aA
   refine k w' _ (((Z.trans Y).trans s6).trans s7) ⟨r2,r3,vs,ab,s7 _ _ (s6 _ _ aH),s7 _ _ a5,?_⟩
   rw[ad] at an;exact an.keep λa xs e=>s7 _ _ e
abbrev Ds:=Fn P w K mg base "plain_form" 3 ["wish"] (Bb)
theorem pJ (T:Txt w K mg base) (L:vf K mg "plain_form" du ["wish"] 115) (Ff : @CQ P w K mg base) (FT:Fn P w K mg base "plain_table" 2 ["wish"] (Il)) : @Ds P w K mg base:=by
 have nd:=dW.nd;refine L.ok dW (λvs H Q E h=>?_) (λf c hc A outer s H vs Q E hr h=>?_) <;> obtain⟨w,ws,ns,W,rfl,tb,hW,U,k⟩:=h
 .rfl
 have hu:=vH hr;refine⟨_,(af (aJ (ay aP (ak ao (pvM 0) ae) aw) (ag (aC (aI (aa aw (aa (ah Ff (aa (ak ao (pvM 0) ae) ac)) ac))))) aA)
  (af (aJ (ay aP (ak ao (pvM 0) ae) aw) (ag (aC (aI (aa aw (aa (ah Ff (aa (ak ao (pvM 0) ae) ac)) (aa (ah Ff (aa (ak ao (pvM 0) ae) ac)) (aa (ak ao (pvM 0) ae) (aa (ak ao (pvM 0) ae) ac)))))))) aA)
  (af (aJ (ay aP (ak ao (pvM 0) ae) aw) (ag (aC (aI (aa aw (aa (aG aM T.b_tuple (aa (Bo (pt:=115) (q:=qL "plain_form") hr rfl T.b_sorted (ak ao (pvM 0) ae) rfl hc T.bm rfl rfl rfl (λ_ _ _ _=>rfl) rfl rfl rfl rfl (by decide+kernel) ∅ (λ_ _=>rfl)) ac)) (aa (ak ao (pvM 0) ae) (aa (ak ao (pvM 0) ae) ac))))))) aA)
  (af (aJ (ay aP (ak ao (pvM 0) ae) aw) (ag (aC (ah FT (aa (pvM 0) ac)))) aA)
  (af (aJ (ay aP (ak ao (pvM 0) ae) aw) (ag (aC (aI (aa aw (aa (ak ao (pvM 0) ae) (aa (ah Ff (aa (ak ao (pvM 0) ae) ac)) (aa (ah Ff (aa (ak ao (pvM 0) ae) ac)) ac))))))) aA)
  (af (aJ (ay aP (ak ao (pvM 0) ae) aw) (ag aN) aA)
  (ag (aC (pvM 0))))))))),?_⟩
 cases W with
 | un cs =>
  obtain⟨c,h1,h2⟩:=hW;have a0:cs.length<=12:=U.2.2.2
  refine ax λR hR=>?_
  ctx_has v h1
  refine iV h2 () λr H1 s1 Z=>⟨∅,λw' ad=>?_⟩
  have Y:=aj.upd0 (o:=.tup [V.str "unlike",V.ref r]) ad;exact k w' _ (s1.trans Y) ⟨r,ab,Y _ _ Z⟩
 | mn av cs lo hi =>
  obtain⟨a,c,h1,h2,h3⟩:=hW;have a0:cs.length<=12:=U.1.2.2.2
  have a5:av.length<=20:=U.2.2.2
  ctx_has s h1;refine ax λR hR=>?_
  ctx_has v h1
  refine iQ h2 () λr H1 s1 Z=>?_
  have ai:=s1 _ _ h1;ctx_has v ai
  refine iV (s1 _ _ h3) () λr2 H2 Y am=>?_
  have ar:=Y _ _ ai;ctx_has v ar
  refine⟨∅,λw' ad=>?_⟩
  have s3:=aj.upd0 (o:=.tup [V.str "many",V.ref r,V.ref r2,V.int lo,V.int hi]) ad;exact k w' _ ((s1.trans Y).trans s3) ⟨r,r2,ab,s3 _ _ (Y _ _ Z),s3 _ _ am⟩
 | sm ts lo hi =>
  obtain⟨t,h1,as,h2,rfl,h3⟩:=hW;have a4:as.length<=12:=by have:=U.1.2.2.2;rw[a_,a_] at this;exact this
  ctx_has s h1;ctx_has s h1;refine ax λR hR=>?_
  ctx_has v h1 BX
  refine⟨as.map λx=>(V.ref x.1,x.2.2),by rw[fx];exact h2,by rw[a_];omega,tb.t2,λz hz=>?_,λH2 r a6 Y a1 a2 an=>⟨_,ab,λl hl=>?_⟩⟩
  .obtain⟨x,hx,rfl⟩:=e7.mp hz
   exact⟨x.1,rfl,_,h3 x hx,aQ (j:=1) rfl⟩
  .obtain⟨as',hp',rfl⟩:=bB a2 rfl
   rw[fx] at an;have hT:as'.map (·.2)=sk kT (as.map (·.2)):=fC (hp'.map _) (by rw[fx];exact an) (vO U.1.2.1)
   have s4:=(Y.upd_new a1).upd_new (o:=.tup ((as'.map λx=>(V.ref x.1,x.2.2)).map λx=>x.1)) hl
   have ap:upd (upd H2 r (.lst ((as'.map λx=>(V.ref x.1,x.2.2)).map λx=>x.1))) l (.tup ((as'.map λx=>(V.ref x.1,x.2.2)).map λx=>x.1)) l>>(as'.map λx=>V.ref x.1):=by rw[ab,fx];rfl
   generalize upd (upd H2 r (.lst ((as'.map λx=>(V.ref x.1,x.2.2)).map λx=>x.1))) l (.tup ((as'.map λx=>(V.ref x.1,x.2.2)).map λx=>x.1))=H4 at s4 ap ⊢
   refine⟨_,s4 _ _ h1,_,aQ (j:=2) rfl,_,s4 _ _ h1,_,aQ (j:=3) rfl,∅,λp hp=>?_⟩
   have s5:=aj.upd0 (o:=.tup [V.str "sum",V.ref l,bV lo,bV hi]) hp;exact k p _ (s4.trans s5) ⟨l,ab,as',s5 _ _ ap,hT,λx hx=>s5 _ _ (s4 _ _ (h3 x (hp'.mem_iff.mp hx)))⟩
 | tb cs rows =>
  obtain⟨c,t,vs,h1,h2,h3,h4⟩:=id hW;ctx_has s h1;ctx_has s h1;ctx_has s h1;refine ax λR hR=>?_
  ctx_has v h1
  exact⟨w,ws,cs,ns,rows,rfl,tb,hW,U,k⟩
 | wy cs ps es =>
  obtain⟨c,t,e,vs,h1,h2,h3,⟨as,rfl,rfl,h4⟩,h5⟩:=hW;have az:as.length<=60:=by have:=U.2.2.1;rw[a_] at this;exact this
  have au:es.length<=60:=U.2.2.2
  have a3:(as.map (·.2)).Nodup:=rQ U.2.1
  ctx_has s h1;ctx_has s h1;ctx_has s h1;ctx_has s h1;refine ax λR hR=>?_
  ctx_has v h1
  refine rh h3 az h4 a3 λr vs H1 s1 Z aq=>?_
  have ai:=s1 _ _ h1;ctx_has v ai
  refine iQ (s1 _ _ h5) au λr2 H2 Y am=>⟨∅,λw' ad=>?_⟩
  have s3:=aj.upd0 (o:=.tup [V.str "way",V.ref c,V.ref r,V.ref r2]) ad;exact k w' _ ((s1.trans Y).trans s3) ⟨c,r,r2,vs,ab,s3 _ _ (Y _ _ (s1 _ _ h2)),s3 _ _ (Y _ _ Z),aq.keep λa xs e=>s3 _ _ (Y _ _ e),s3 _ _ am⟩
 | bh cs a7 =>
  obtain⟨c,h1,h2⟩:=id hW;ctx_has s h1;ctx_has s h1;ctx_has s h1;ctx_has s h1;ctx_has s h1;ctx_has s h1;ctx_has v h1
  exact k w H (aj.refl H) hW
abbrev Gc:=Fn P w K mg base "plain_form" 4 ["wish"] (AK)
theorem oC (T:Txt w K mg base) (L:vf K mg "plain_form" du ["wish"] 115) (Z : @Ds P w K mg base) (Ff : @CQ P w K mg base) : @Gc P w K mg base:=by
 have nd:=dW.nd;refine L.ok dW (λvs H Q E h=>?_) (λf c hc A outer s H vs Q E hr h=>?_) <;> obtain⟨w,ws,ns,c,us,W,rfl,tb,hW,z,k⟩:=h
 .rfl
 have hu:=vH hr;refine⟨_,(af (aJ (ay aP (ak ao (pvM 0) ae) aw) (ag aN) aA)
  (af (aJ (ay aP (ak ao (pvM 0) ae) aw) (ag aN) aA)
  (af (aJ (ay aP (ak ao (pvM 0) ae) aw) (ag aN) aA)
  (af (aJ (ay aP (ak ao (pvM 0) ae) aw) (ag aN) aA)
  (af (aJ (ay aP (ak ao (pvM 0) ae) aw) (ag aN) aA)
  (af (aJ (ay aP (ak ao (pvM 0) ae) aw) (ag (aC (aI (aa aw (aa (ak ao (pvM 0) ae) (aa (ah Ff (aa (ak ao (pvM 0) ae) ac)) (aa (ah Z (aa (ak ao (pvM 0) ae) ac)) ac))))))) aA)
  (ag aN))))))),?_⟩
 obtain⟨t,u,h1,h2,h3⟩:=hW;have ap:us.length<=20:=z.2.1.2.2
 ctx_has v h1
 refine iQ h2 () λr H1 U am=>?_
 have an:=U _ _ h1;ctx_has v an
 refine⟨u,ws,ns,W,rfl,tb.same U,cM h3 λa xs e=>U _ _ e,z.2.2.1,λr2 H2 s2 ad=>⟨∅,λw' ai=>?_⟩⟩
 have Y:=aj.upd0 (o:=.tup [V.str "same",V.str c,V.ref r,V.ref r2]) ai;exact k w' _ ((U.trans s2).trans Y) ⟨r,r2,ab,Y _ _ (s2 _ _ am),cM ad λa xs e=>Y _ _ e⟩
abbrev Dq:=Fn P w K mg base "_law_plain" 4 ["_law_wish_here"] (Bb)
theorem nT (T:Txt w K mg base) (L:FnL K mg "_law_plain" cu ["_law_wish_here"]) (Fe : @G8 P w K mg base) (Fl : @Gi P w K mg base) : @Dq P w K mg base:=by
 ctx_has z jl <;> obtain⟨w,ws,ns,W,rfl,tb,hW,U,k⟩:=h
 .rfl
 refine⟨_,(af (aJ (ay aP (ak ao (pvM 0) ae) aw) (ag aN) aA)
  (af (aJ (ay aP (ak ao (pvM 0) ae) aw) (ag (aC (aI (aa aw (aa (ah Fe (aa (ak ao (pvM 0) ae) ac)) (aa (ah Fe (aa (ak ao (pvM 0) ae) ac)) (aa (ak ao (pvM 0) ae) (aa (ak ao (pvM 0) ae) ac)))))))) aA)
  (af (aJ (ay aP (ak ao (pvM 0) ae) aw) (ag (aC (aI (aa aw (aa (ah Fe (aa (ak ao (pvM 0) ae) ac)) ac))))) aA)
  (af (aJ (ay aP (ak ao (pvM 0) ae) aw) (ag (aC (aO eh (aI (aa aw (aa (aG aM T.b_tuple (aa (ah Fl (aa (aG fj T.b_list (aa (ak ao (pvM 0) ae) ac)) (aa (aW (N:=["_law_a","_law_name"]) (nt:=2) (js:=[]) (aE ["_law_wish_here","_law_rows_here"] (am cu).names) (bR K (ak ao (pvM 0) ae)) (cH (n:=2) rfl (aV (az 0) (aV (az 1) cG))) dj aU (pvM 1)) ac))) ac)) ac))) (bI nM (pvM 0) (bP ae) cb)))) aA)
  (af (aJ (ay aP (ak ao (pvM 0) ae) aw) (ag (aC (aI (aa aw (aa (ak ao (pvM 0) ae) (aa (ah Fe (aa (ak ao (pvM 0) ae) ac)) (aa (ah Fe (aa (ak ao (pvM 0) ae) ac)) ac))))))) aA)
  (af (aJ (ay aP (ak ao (pvM 0) ae) aw) (af (bW 1 (N:=["_law_row","_law_wish_here"]) (nt:=1) (js:=[0]) (aE ["_law_wish_here","_law_rows_here"] (am cu).names) (bR K (ak ao (pvM 0) ae)) (az 0) aL aU (aG aM T.b_tuple (aa (ah Fl (aa (aG fj T.b_list (aa (pvM 0) ac)) (aa (aG fj T.b_list (aa (ak ao (pvM 1) ae) ac)) ac))) ac)))
  (ag (aC (aI (aa aw (aa (ah Fe (aa (ak ao (pvM 0) ae) ac)) (aa (ah Fe (aa (pvM 1) ac)) ac))))))) aA)
  (ag (aC (pvM 0))))))))),?_⟩
 cases W with
 | un cs =>
  obtain⟨c,h1,h2⟩:=hW;have aB:cs.length<=12:=U.2.2.2
  ctx_has s h1;ctx_has s h1;refine ax λR hR=>?_
  ctx_has v h1
  refine iV h2 () λr H1 Y an=>⟨∅,λw' Z=>?_⟩
  have s2:=aj.upd0 (o:=.tup [V.str "unlike",V.ref r]) Z;exact k w' _ (Y.trans s2) ⟨r,ab,s2 _ _ an⟩
 | mn av cs lo hi =>
  obtain⟨a,c,h1,h2,h3⟩:=hW;have aB:cs.length<=12:=U.1.2.2.2
  have bn:av.length<=20:=U.2.2.2
  ctx_has s h1;refine ax λR hR=>?_
  ctx_has v h1
  refine iQ h2 () λr H1 Y an=>?_
  have ar:=Y _ _ h1;ctx_has v ar
  refine iV (Y _ _ h3) () λr2 H2 s2 a0=>?_
  have ba:=s2 _ _ ar;ctx_has v ba
  refine⟨∅,λw' Z=>?_⟩
  have s3:=aj.upd0 (o:=.tup [V.str "many",V.ref r,V.ref r2,V.int lo,V.int hi]) Z;exact k w' _ ((Y.trans s2).trans s3) ⟨r,r2,ab,s3 _ _ (s2 _ _ an),s3 _ _ a0⟩
 | sm ts lo hi =>
  obtain⟨t,h1,as,h2,rfl,h3⟩:=hW;have aX:as.length<=12:=by have:=U.1.2.2.2;rw[a_,a_] at this;exact this
  ctx_has s h1;ctx_has s h1;ctx_has s h1;refine ax λR hR=>?_
  ctx_has v h1 h2
  intro l1 hl1;have Y:=aj.upd0 (o:=.lst (as.map λx=>V.ref x.1)) hl1
  have a7:upd H l1 (.lst (as.map λx=>V.ref x.1)) l1*>(as.map λx=>V.ref x.1):=ab
  generalize upd H l1 (.lst (as.map λx=>V.ref x.1))=H1 at Y a7 ⊢
  refine⟨_,Y _ _ h1,_,aQ (j:=1) rfl,t,rfl,_,Y _ _ h2,λD hD=>?_⟩
  refine bL aT (λi ys H'=>ys=(as.take i).map (λx=>V.str x.2.2)/\H' D*>ys/\aj H1 H') ⟨by simp,ab,aj.upd0 hD⟩ (λi ys H' aD=>by obtain⟨_,_,s⟩:=aD;exact(.of (s _ _ (Y _ _ h2)))) ?_ ?_
  .rintro i x ys H3 hi hx ⟨rfl,h3D,s3⟩
   rw[a_] at hi;have aF:as[i]? = some as[i]:=h_ hi
   rw[e9,aF] at hx;cases hx;have e1:=s3 _ _ (Y _ _ (h3 as[i] (A_ hi)));ctx_has v e1
   refine⟨h3D,by simp;exact au (),?_,ab,λb' o e=>by rw[ai (ap e hD)];exact s3 _ _ e⟩
   rw[i8,aF,ii];rfl
  .rintro ys H2 ⟨rfl,h2D,s2⟩
   rw[a_,k9] at h2D;refine⟨l1,D,as.map λx=>(V.ref x.1,PySem.W.Ky.s x.2.2),as.map λx=>V.str x.2.2,rfl,by rw[fx];exact s2 _ _ a7,h2D,by simp,λi v z e1 e2=>?_,by simp;omega,⟨0,λz hz=>?_⟩,λr be H3 s3 a3 ad aK=>⟨r,rfl,_,aK,λl2 hl2=>⟨∅,λp hp=>?_⟩⟩⟩
   .rw[e9] at e1 e2
    cases ea:as[i]? with
    | none=>rw[ea] at e1;cases e1
    | some x=>rw[ea] at e1 e2;cases e1;cases e2;rfl
   .obtain⟨x,_,rfl⟩:=e7.mp hz
    rfl
   .obtain⟨as',hp',rfl⟩:=bB a3 rfl
    rw[fx] at ad;have hT:as'.map (·.2)=sk kT (as.map (·.2)):=fC (hp'.map _) (by rw[fx];exact ad) (vO U.1.2.1)
    have lp:l2≠p:=λz=>by rw[<- z,ab] at hp;cases hp
    have s5:=(aj.upd0 hl2).upd_new (o:=.tup [V.str "sum",V.ref l2]) hp;have a5:upd (upd H3 l2 (.tup ((as'.map λx=>(V.ref x.1,PySem.W.Ky.s x.2.2)).map λx=>x.1))) p (.tup [V.str "sum",V.ref l2]) l2>>(as'.map λx=>V.ref x.1):=by rw[ai lp,ab,fx];rfl
    have a8:upd (upd H3 l2 (.tup ((as'.map λx=>(V.ref x.1,PySem.W.Ky.s x.2.2)).map λx=>x.1))) p (.tup [V.str "sum",V.ref l2]) p>>[V.str "sum",V.ref l2]:=ab
    generalize upd (upd H3 l2 (.tup ((as'.map λx=>(V.ref x.1,PySem.W.Ky.s x.2.2)).map λx=>x.1))) p (.tup [V.str "sum",V.ref l2])=H5 at s5 a5 a8 ⊢
    have a1:=((Y.trans s2).trans s3).trans s5;refine⟨_,a1 _ _ h1,λp6 H6 h6 s6=>?_⟩
    rw[iO] at h6;refine⟨_,s6 _ _ a8,_,h6,ot (au (by simp)),λp7 H7 h7 s7=>?_⟩
    have a4:=s6.trans s7;exact k p7 _ (a1.trans a4) ⟨l2,h7,as',a4 _ _ a5,hT,λx hx=>a4 _ _ (a1 _ _ (h3 x (hp'.mem_iff.mp hx)))⟩
 | tb cs rows =>
  obtain⟨c,t,vs,h1,h2,h3,as,rfl,rfl,h4⟩:=hW;have aB:cs.length<=12:=U.1.2.2.2
  have a9:cs.Nodup:=U.1.2.1
  have aX:as.length<=7:=by have:=U.2.2.2;rw[a_] at this;exact this
  have aq:(plc cs).length=cs.length:=by rw[(gc cs).length_eq,Kf]
  ctx_has s h1;ctx_has s h1;ctx_has s h1;ctx_has s h1;ctx_has s h1;refine ax λR hR=>?_
  ctx_has v h1 h3
  intro D hD;refine dz aT (f:=λx:Addr × List Int=>bQ 0 (plc cs) x.2) (c:=λr:List Int=>r.map V.int) hD (λH' s=>.of (s _ _ h3)) () ?_ ?_
  .intro z hz H4 Q4 s4 q4
   have bi:=s4 _ _ (h4 z hz);have bg:=s4 _ _ h1;have aY:z.2.length=cs.length:=U.2.2.1 z.2 (e7.mpr ⟨z,hz,rfl⟩)
   ctx_has v bi
   intro l1 hl1;have s5:=aj.upd0 (o:=.lst (z.2.map V.int)) hl1;refine⟨_,s5 _ _ bg,_,aQ (j:=1) rfl,c,rfl,_,s5 _ _ (s4 _ _ h2),λl2 hl2=>?_⟩
   have s6:=s5.upd_new (o:=.lst (cs.map V.str)) hl2;have bk:l1≠l2:=λe=>by rw[<- e,ab] at hl2;cases hl2
   refine⟨l1,l2,(z.2.zip cs).map λy=>(V.int y.1,PySem.W.Ky.s y.2),cs.map V.str,rfl,?_,ab,by simp;omega,λi v y e1 e2=>?_,by simp;omega,⟨0,λy hy=>?_⟩,λr be H7 s7 a3 ad bb=>⟨r,rfl,_,bb,λq hq=>?_⟩⟩
   .rw[ai bk,ab,fx]
    have e:((λx:V × PySem.W.Ky=>x.1) ∘ λy:Int × Str=>(V.int y.1,PySem.W.Ky.s y.2))=V.int ∘ Prod.fst:=rfl
    rw[e,<- fx,map_fst_zip ()]
   .rw[e9] at e1 e2
    cases ey:(z.2.zip cs)[i]? with
    | none=>rw[ey] at e2;cases e2
    | some y' =>
     rw[ey] at e2;cases e2;obtain⟨_,ec⟩:=List.getElem?_zip_eq_some.mp ey;rw[ec] at e1;cases e1;rfl
   .obtain⟨x,_,rfl⟩:=e7.mp hy
    rfl
   .obtain⟨l',hp',rfl⟩:=bB a3 rfl
    rw[fx] at ad;have hT:l'=sk kT (z.2.zip cs):=fC hp' ad (vO (wE () a9))
    refine q4 q _ ((s6.trans s7).upd_new hq) ?_
    rw[ab,hT,Dj a9 aY,fx,fx];rfl
  .intro bs H4 hbs hbt s4 h4D
   refine⟨_,s4 _ _ h1,_,aQ (j:=1) rfl,?_⟩
   refine iV (s4 _ _ h2) () λr2 H5 s5 bj=>?_
   have aH:=sU U (iW U);have a2:bs.map (·.2)=(as.map (·.2)).map (bQ 0 (plc cs)):=by rw[hbs,fx];rfl
   have bf:bs.length<=60:=by have:=congrArg u8 hbs;rw[a_,a_] at this;omega
   have aZ:(bs.map (·.2)).Nodup:=by rw[a2];exact(bU _ _).nodup_iff.mp aH.2.1
   refine uG (.inl (s5 _ _ h4D)) bf (λx hx=>s5 _ _ (hbt x hx)) aZ (λx hx e=>?_) λr3 vs H6 s6 bd a6=>⟨∅,λw' Z=>?_⟩
   .have:x.2∈bs.map (·.2):=e7.mpr ⟨x,hx,rfl⟩
    rw[a2,e] at this;obtain⟨r0,_,e0⟩:=e7.mp this;have aS:=U.1.1;unfold bQ at e0;rw[map_eq_nil_iff] at e0;rw[e0] at aq;exact aS (JC.mp aq.symm)
   .have s7:=aj.upd0 (o:=.tup [V.str "table",V.ref r2,V.ref r3]) Z
    refine k w' _ (((s4.trans s5).trans s6).trans s7) ⟨r2,r3,vs,ab,s7 _ _ (s6 _ _ bj),s7 _ _ bd,?_⟩
    rw[a2] at a6;exact a6.keep λa xs e=>s7 _ _ e
 | wy cs ps es =>
  obtain⟨c,t,e,vs,h1,h2,h3,⟨as,rfl,rfl,h4⟩,h5⟩:=hW;have aq:as.length<=60:=by have:=U.2.2.1;rw[a_] at this;exact this
  have bc:es.length<=60:=U.2.2.2
  have bm:(as.map (·.2)).Nodup:=rQ U.2.1
  ctx_has s h1;ctx_has s h1;ctx_has s h1;ctx_has s h1;refine ax λR hR=>?_
  ctx_has v h1
  refine rh h3 aq h4 bm λr vs H1 Y an aR=>?_
  have ar:=Y _ _ h1;ctx_has v ar
  refine iQ (Y _ _ h5) bc λr2 H2 s2 a0=>⟨∅,λw' Z=>?_⟩
  have s3:=aj.upd0 (o:=.tup [V.str "way",V.ref c,V.ref r,V.ref r2]) Z;exact k w' _ ((Y.trans s2).trans s3) ⟨c,r,r2,vs,ab,s3 _ _ (s2 _ _ (Y _ _ h2)),s3 _ _ (s2 _ _ an),aR.keep λa xs e=>s3 _ _ (s2 _ _ e),s3 _ _ a0⟩
 | bh cs bo =>
  obtain⟨c,h1,h2⟩:=id hW;ctx_has s h1;ctx_has s h1;ctx_has s h1;ctx_has s h1;ctx_has s h1;ctx_has s h1;ctx_has v h1
  exact k w H (aj.refl H) hW
abbrev ED:=Fn P w K mg base "_law_plain" 5 ["_law_wish_here"] (AK)
theorem pR (T:Txt w K mg base) (L:FnL K mg "_law_plain" cu ["_law_wish_here"]) (Z : @Dq P w K mg base) (Fe : @G8 P w K mg base) : @ED P w K mg base:=by
 ctx_has z jl <;> obtain⟨w,ws,ns,c,us,W,rfl,tb,hW,U,k⟩:=h
 .rfl
 refine⟨_,(af (aJ (ay aP (ak ao (pvM 0) ae) aw) (ag (aC (aI (aa aw (aa (ak ao (pvM 0) ae) (aa (ah Fe (aa (ak ao (pvM 0) ae) ac)) (aa (ah Z (aa (ak ao (pvM 0) ae) ac)) ac))))))) aA)
  (af (aJ (ay aP (ak ao (pvM 0) ae) aw) (ag aN) aA)
  (af (aJ (ay aP (ak ao (pvM 0) ae) aw) (ag aN) aA)
  (af (aJ (ay aP (ak ao (pvM 0) ae) aw) (ag aN) aA)
  (af (aJ (ay aP (ak ao (pvM 0) ae) aw) (ag aN) aA)
  (af (aJ (ay aP (ak ao (pvM 0) ae) aw) (af aN
  (ag aN)) aA)
  (ag aN))))))),?_⟩
 obtain⟨t,u,h1,h2,h3⟩:=hW;have ap:us.length<=20:=U.2.1.2.2
 ctx_has v h1
 refine iQ h2 () λr H1 Y am=>?_
 have an:=Y _ _ h1;ctx_has v an
 refine⟨u,ws,ns,W,rfl,tb.same Y,cM h3 λa xs e=>Y _ _ e,U.2.2.1,λr2 H2 s2 ad=>⟨∅,λw' ai=>?_⟩⟩
 have s3:=aj.upd0 (o:=.tup [V.str "same",V.str c,V.ref r,V.ref r2]) ai;exact k w' _ ((Y.trans s2).trans s3) ⟨r,r2,ab,s3 _ _ (s2 _ _ am),cM ad λa xs e=>s3 _ _ e⟩
theorem dw {Q:VK} {E:XK} {m:Int} (D:aD H d l) (ha:xC H a xs) (hm:m=xs.length) (hl:xs.length<=60) (q : ∀p z H',z.Perm xs->H' p>>z->aD H' d l->But d l H H'->Q (.ref p) H'):Ak [.ref d,.ref a,.int m] H Q E:=by
 refine⟨d,l,a,m,xs,rfl,D,ha,(),(),hl,λp z rest H' _ U aa hp D' Z=>?_⟩
 have Y:rest=[]:=by
  have:=U.length_eq
  rw[nH] at this;exact JC.mp ()
 rw[Y,J8] at U;exact q p z H' U hp D' Z
def BV:Sp:=λvs H Q _=>∃(d l w:Addr) (ws:List Str) (ns:List Int) (W:Wi),vs=[.ref d,.ref w]/\aD H d l/\WS H w W/\okW ws ns W/\∀r z H',WS H' r z->xz W z->aD H' d l->But d l H H'->Q (.ref r) H'
def BF:Sp:=λvs H Q _=>∃(d l w:Addr) (ws:List Str) (ns:List Int) (c:Str) (us:List Int) (W:Wi),vs=[.ref d,.ref w]/\aD H d l/\WX H w (.sa c us W)/\okX ws ns (.sa c us W)/\∀r z H',WX H' r z->ze (.sa c us W) z->aD H' d l->But d l H H'->Q (.ref r) H'
abbrev GF:=Fn P w K mg base "_law_mixed_up" 3 ["_law_deal_here","_law_wish_here"] (BV)
abbrev nz2:List Str:=["_law_deal_here","_law_wish_here","_law_cells","_law_steps","_law_places","_law_rows_here"]
theorem kr (T:Txt w K mg base) (L:FnL K mg "_law_mixed_up" bw ["_law_deal_here","_law_wish_here"]) (Fb : @Dz5 P w K mg base) : @GF P w K mg base:=by
 ctx_has z gu <;> obtain⟨d,l,w,ws,ns,W,rfl,D,hW,ai,k⟩:=h
 .rfl
 refine⟨_,(af (aJ (ay aP (ak ao (pvM 1) ae) aw) (ag aN) aA)
  (af (aJ (ay aP (ak ao (pvM 1) ae) aw) (af (aB 2 (ah Fb (aa (pvM 0) (aa (ak ao (pvM 1) ae) (aa (aF cB T.b_len (aa (ak ao (pvM 1) ae) ac)) ac)))))
  (ag (aC (aI (aa aw (aa (ah Fb (aa (pvM 0) (aa (ak ao (pvM 1) ae) (aa (aF cB T.b_len (aa (ak ao (pvM 1) ae) ac)) ac)))) (aa (pvM 2) (aa (ak ao (pvM 1) ae) (aa (ak ao (pvM 1) ae) ac))))))))) aA)
  (af (aJ (ay oB (ak ao (pvM 1) ae) (aI (aa aw (aa aw ac)))) (ag (aC (aO eh (aI (aa (ak ao (pvM 1) ae) (aa (ah Fb (aa (pvM 0) (aa (ak ao (pvM 1) ae) (aa (aF cB T.b_len (aa (ak ao (pvM 1) ae) ac)) ac)))) ac))) (bI nM (pvM 1) (bP ae) cb)))) aA)
  (af (aJ (ay aP (ak ao (pvM 1) ae) aw) (af (aB 3 (ah Fb (aa (pvM 0) (aa (ak ao (pvM 1) ae) (aa (aF cB T.b_len (aa (ak ao (pvM 1) ae) ac)) ac)))))
  (ag (aC (aI (aa aw (aa (ak ao (pvM 1) ae) (aa (pvM 3) (aa (ah Fb (aa (pvM 0) (aa (ak ao (pvM 1) ae) (aa (aF cB T.b_len (aa (ak ao (pvM 1) ae) ac)) ac)))) ac)))))))) aA)
  (af (aJ (ay aP (ak ao (pvM 1) ae) aw) (af (aB 4 (ah Fb (aa (pvM 0) (aa (wf rfl rfl T.b_list rfl T.b_range (aa (aF cB T.b_len (aa (ak ao (pvM 1) ae) ac)) ac)) (aa (aF cB T.b_len (aa (ak ao (pvM 1) ae) ac)) ac)))))
  (af (bW 5 (N:=["_law_row","_law_places"]) (nt:=1) (js:=[4]) (aE nz2 (am bw).names) (bR K (ak ao (pvM 1) ae)) (az 0) aL aU (aG aM T.b_tuple (aa (aW (N:=["_law_place","_law_row"]) (nt:=1) (js:=[0]) (aE ["_law_row","_law_places"] (Go (am bw).kind (am bw).names _)) (jz (K:=K) rfl (pvM 1)) (az 0) aL aU (ak wm (pvM 1) (pvM 0))) ac)))
  (ag (aC (aI (aa aw (aa (aG aM T.b_tuple (aa (aW (N:=["_law_place","_law_wish_here"]) (nt:=1) (js:=[1]) (aE nz2 (am bw).names) (jz (K:=K) rfl (pvM 4)) (az 0) aL aU (ak wm (ak ao (pvM 1) ae) (pvM 0))) ac)) (aa (ah Fb (aa (pvM 0) (aa (pvM 5) (aa (aF aZ T.b_len (aa (pvM 5) ac)) ac)))) ac)))))))) aA)
  (ag (aC (pvM 1)))))))),?_⟩
 cases W with
 | un cs =>
  obtain⟨c,h1,h2⟩:=hW;have aY:cs.length<=12:=ai.2.2.2
  ctx_has s h1;ctx_has s h1;refine ax λR hR=>?_
  ctx_has v h1 h2
  refine⟨∅,λp0 an=>⟨_,ab,rfl,∅,?_⟩⟩
  have Y:=aj.upd0 (o:=.tup [V.str "unlike",V.str "sum"]) an;rw[if_pos (show inV (V.str "unlike") [V.str "unlike",V.str "sum"]=true by decide+kernel)]
  generalize upd H p0 (.tup [V.str "unlike",V.str "sum"])=H1 at Y ⊢;have D1:=D.same Y;have B1:=(But.refl (d:=d) (l:=l) H).same Y;have U:=Y _ _ h1;have ad:=Y _ _ h2;ctx_has v U ad
  refine dw D1 (.inr ad) rfl (by rw[a_];omega) λp2 ar H2 hg a0 D2 B2=>?_
  obtain⟨cs',aD,rfl⟩:=bB hg rfl;have Z:=B2.tup D1 U;ctx_has v Z
  refine⟨∅,λp3 a2=>?_⟩
  have s3:=aj.upd0 (o:=.tup [V.str "unlike",V.ref p2]) a2;have a4:upd H2 p3 (.tup [V.str "unlike",V.ref p2]) p3>>[V.str "unlike",V.ref p2]:=ab
  generalize upd H2 p3 (.tup [V.str "unlike",V.ref p2])=H3 at s3 a4 ⊢;refine⟨_,s3 _ _ Z,λp4 H4 h4 s4=>?_⟩
  rw[iO] at h4;refine⟨_,s4 _ _ a4,_,h4,ot (au (by simp)),λp5 H5 h5 s5=>?_⟩
  have ap:=(s3.trans s4).trans s5;exact k p5 (.un cs') H5 ⟨p2,h5,ap _ _ a0⟩ aD (D2.same ap) ((B1.trans B2).same ap)
 | mn av cs lo hi =>
  obtain⟨a,c,h1,h2,h3⟩:=hW;have aY:cs.length<=12:=ai.1.2.2.2
  have b7:av.length<=20:=ai.2.2.2
  ctx_has s h1;refine ax λR hR=>?_
  ctx_has v h1 h3
  refine dw D (.inr h3) rfl (by rw[a_];omega) λp1 ar H1 hg b4 D1 B1=>?_
  obtain⟨cs',aD,rfl⟩:=bB hg rfl;have U:=B1.tup D h1;have ad:=B1.tup D h2;ctx_has v U ad
  refine dw D1 (.inr ad) rfl (by rw[a_];omega) λp2 ar H2 hg a0 D2 B2=>?_
  obtain⟨bq,aq,rfl⟩:=bB hg rfl;have Z:=B2.tup D1 U;ctx_has v Z
  refine⟨∅,λp3 a2=>?_⟩
  have s3:=aj.upd0 (o:=.tup [V.str "many",V.ref p2,V.ref p1,V.int lo,V.int hi]) a2;exact k p3 (.mn bq cs' lo hi) _ ⟨p2,p1,ab,s3 _ _ a0,s3 _ _ (B2.tup D1 b4)⟩ ⟨aq,aD,rfl,rfl⟩ (D2.same s3) ((B1.trans B2).same s3)
 | sm ts lo hi =>
  obtain⟨t,h1,as,h2,rfl,h3⟩:=hW;have bm:as.length<=12:=by have:=ai.1.2.2.2;rw[a_,a_] at this;exact this
  ctx_has s h1;ctx_has s h1;refine ax λR hR=>?_
  ctx_has v h1 h2
  refine⟨∅,λp0 an=>⟨_,ab,rfl,∅,?_⟩⟩
  have Y:=aj.upd0 (o:=.tup [V.str "unlike",V.str "sum"]) an;rw[if_pos (show inV (V.str "sum") [V.str "unlike",V.str "sum"]=true by decide+kernel)]
  generalize upd H p0 (.tup [V.str "unlike",V.str "sum"])=H1 at Y ⊢;have D1:=D.same Y;have B1:=(But.refl (d:=d) (l:=l) H).same Y;have U:=Y _ _ h1;have ad:=Y _ _ h2;ctx_has v U ad
  refine dw D1 (.inr ad) rfl (by rw[a_];omega) λp2 ar H2 hg a0 D2 B2=>?_
  obtain⟨a3,aq,rfl⟩:=bB hg rfl;have Z:=B2.tup D1 U;ctx_has v Z
  refine⟨∅,λp3 a2=>?_⟩
  have s3:=aj.upd0 (o:=.tup [V.str "sum",V.ref p2]) a2;have a4:upd H2 p3 (.tup [V.str "sum",V.ref p2]) p3>>[V.str "sum",V.ref p2]:=ab
  generalize upd H2 p3 (.tup [V.str "sum",V.ref p2])=H3 at s3 a4 ⊢;refine⟨_,s3 _ _ Z,λp4 H4 h4 s4=>?_⟩
  rw[iO] at h4;refine⟨_,s4 _ _ a4,_,h4,ot (au (by simp)),λp5 H5 h5 s5=>?_⟩
  have ap:=(s3.trans s4).trans s5;exact k p5 (.sm (a3.map (·.2)) lo hi) H5 ⟨p2,h5,a3,ap _ _ a0,rfl,λx hx=>ap _ _ (B2.tup D1 (Y _ _ (h3 x (aq.mem_iff.mp hx))))⟩ ⟨aq.map _,rfl,rfl⟩ (D2.same ap) ((B1.trans B2).same ap)
 | tb cs rows =>
  obtain⟨c,t,vs,h1,h2,h3,as,rfl,rfl,h4⟩:=hW;have aY:cs.length<=12:=ai.1.2.2.2
  have bm:as.length<=7:=by have:=ai.2.2.2;rw[a_] at this;exact this
  ctx_has s h1;ctx_has s h1;refine ax λR hR=>?_
  ctx_has v h1 h2 sW
  refine⟨∅,λp0 an=>⟨_,ab,rfl,∅,?_⟩⟩
  have Y:=aj.upd0 (o:=.tup [V.str "unlike",V.str "sum"]) an;rw[if_neg (show ¬ inV (V.str "table") [V.str "unlike",V.str "sum"]=true by decide+kernel)]
  generalize upd H p0 (.tup [V.str "unlike",V.str "sum"])=H1 at Y ⊢;have D1:=D.same Y;have B1:=(But.refl (d:=d) (l:=l) H).same Y;have U:=Y _ _ h1;subst hR;ctx_has s U;refine ax λR hR=>?_
  have ad:=Y _ _ h2;ctx_has v U ad sW
  refine⟨(),by rw[a_];omega,λl1 hl1=>?_⟩
  rw[show((((cs.map V.str).length:Nat):Int)).toNat=cs.length by simp]
  have s2:=aj.upd0 (o:=.lst (km 0 cs.length)) hl1;have aV:upd H1 l1 (.lst (km 0 cs.length)) l1*>(km 0 cs.length):=ab
  generalize upd H1 l1 (.lst (km 0 cs.length))=H2 at s2 aV ⊢;have Z:=s2 _ _ U;have bx:=s2 _ _ ad;ctx_has v Z bx
  refine dw (D1.same s2) (.inl aV) (by rw[aK,a_]) (by rw[aK];omega) λp3 ar H3 hg a6 D3 B3=>?_
  obtain⟨pl,a7,rfl⟩:=bB (F:=λi:Nat=>V.int ((0:Int)+i)) hg rfl
  have D2:=D1.same s2;have bc:=B3.tup D2 Z;have ba:=B3.tup D2 (s2 _ _ (Y _ _ h3));ctx_has v bc ba
  intro D0 bg;have aS : ∀b xs,H b>>xs->H3 b>>xs:=λb xs e=>B3.tup D2 (s2 _ _ (Y _ _ e))
  have a8 : ∀i∈pl,i < cs.length:=λi hi=>x8.mp (a7.mem_iff.mp hi)
  have b6:pl.length=cs.length:=by rw[a7.length_eq,Kf]
  refine dz aT (f:=λx:Addr × List Int=>bQ 0 pl x.2) (c:=λr:List Int=>r.map V.int) bg (λH' s=>.of (s _ _ ba)) () ?_ ?_
  .intro z hz H4 Q4 s4 q4
   have a1:=s4 _ _ a6;have b5:=s4 _ _ (aS _ _ (h4 z hz));have bo:z.2.length=cs.length:=ai.2.2.1 z.2 (e7.mpr ⟨z,hz,rfl⟩)
   ctx_has v a1
   intro D5 a9;refine dr aT (λv=>match v with | .int i=>.int (z.2.getD i.toNat 0) | _=>.non) a9 (λH' s=>.of (s _ _ a1)) (by rw[a_];omega) ?_ ?_
   .intro x H5 Q5 hx s5 q5
    obtain⟨i,hi,rfl⟩:=e7.mp hx;have a5:i < z.2.length:=by rw[bo];exact a8 i hi
    have bj:=s5 _ _ b5;ctx_has v bj
    refine⟨_,by rw[Kk];exact aQ (by rw[e9,h_ a5];rfl),?_⟩
    have:=q5 H5 (aj.refl _)
    simpa [j7,a5] using this
   .intro H5 s5 h5
    ctx_has v h5
    intro t' bp;refine q4 t' _ (s5.upd_new bp) ?_
    rw[ab];unfold bQ;rw[fx,fx];refine congrArg (λz=>some (HO.tup z)) (q_ λi _=>?_)
    simp
  .intro bs H4 hbs hbt s4 h4D
   have a1:=s4 _ _ a6;have b1:=s4 _ _ bc;have bt:=s4 _ _ (aS _ _ h2);refine⟨_,a1,λD5 a9=>?_⟩
   refine dr aT (λv=>match v with | .int i=>.str (cs.getD i.toNat noS) | _=>.non) a9 (λH' s=>.of (s _ _ a1)) (by rw[a_];omega) ?_ ?_
   .intro x H5 Q5 hx s5 q5
    obtain⟨i,hi,rfl⟩:=e7.mp hx;have a5:i < cs.length:=a8 i hi
    have bi:=s5 _ _ b1;have bz:=s5 _ _ bt;ctx_has v bi bz
    refine⟨_,by rw[Kk];exact aQ (by rw[e9,h_ a5];rfl),?_⟩
    have:=q5 H5 (aj.refl _)
    simpa [j7,a5] using this
   .intro H5 s5 h5
    have e5:(pl.map λi:Nat=>V.int ((0:Int)+i)).map (λv=>match v with | .int i=>V.str (cs.getD i.toNat noS) | _=>V.non)=(bQ noS pl cs).map V.str:=by
     unfold bQ;rw[fx,fx];refine q_ λi _=>?_
     simp
    rw[e5] at h5;refine⟨D5,rfl,_,h5,λl6 bk=>?_⟩
    have s6:=aj.upd0 (o:=.tup ((bQ noS pl cs).map V.str)) bk;have bd:upd H5 l6 (.tup ((bQ noS pl cs).map V.str)) l6>>((bQ noS pl cs).map V.str):=ab
    generalize upd H5 l6 (.tup ((bQ noS pl cs).map V.str))=H6 at s6 bd ⊢;have aH:=(s4.trans s5).trans s6;have aX:=s6 _ _ (s5 _ _ h4D);have D6:=D3.same aH;have bu:bs.length<=60:=by have:=congrArg u8 hbs;rw[a_,a_] at this;omega
    refine⟨_,aX,dw D6 (.inl aX) rfl (by rw[a_];exact bu) λp7 ar H7 hg b0 D7 B7=>⟨∅,λp8 b3=>?_⟩⟩
    obtain⟨bf,bb,rfl⟩:=bB hg rfl;have s8:=aj.upd0 (o:=.tup [V.str "table",V.ref l6,V.ref p7]) b3;refine k p8 (.tb (bQ noS pl cs) (bf.map (·.2))) _ ⟨l6,p7,_,ab,s8 _ _ (B7.tup D6 bd),s8 _ _ b0,bf,rfl,rfl,λx hx=>s8 _ _ (B7.tup D6 (s6 _ _ (s5 _ _ (hbt x (bb.mem_iff.mp hx)))))⟩ ⟨pl,a7,rfl,?_⟩ (D7.same s8) (((((B1.same s2).trans B3).same aH).trans B7).same s8)
    have:=bb.map (·.2)
    rw[hbs] at this;rw[fx];exact this
 | wy cs ps es =>
  obtain⟨c,t,e,vs,h1,h2,h3,⟨as,rfl,rfl,h4⟩,h5⟩:=hW;have a7:as.length<=60:=by have:=ai.2.2.1;rw[a_] at this;exact this
  have b8:es.length<=60:=ai.2.2.2
  ctx_has s h1;ctx_has s h1;refine ax λR hR=>?_
  ctx_has v h1 h3
  refine⟨∅,λp0 an=>⟨_,ab,rfl,∅,?_⟩⟩
  have Y:=aj.upd0 (o:=.tup [V.str "unlike",V.str "sum"]) an;rw[if_neg (show ¬ inV (V.str "way") [V.str "unlike",V.str "sum"]=true by decide+kernel)]
  generalize upd H p0 (.tup [V.str "unlike",V.str "sum"])=H1 at Y ⊢;have D1:=D.same Y;have B1:=(But.refl (d:=d) (l:=l) H).same Y;have U:=Y _ _ h1;subst hR;refine ax λR hR=>?_
  have be:=Y _ _ h3;ctx_has v U be
  refine dw D1 (.inr be) rfl (by rw[a_];omega) λp2 ar H2 hg a0 D2 B2=>?_
  obtain⟨a3,aq,rfl⟩:=bB hg rfl;have Z:=B2.tup D1 U;have aR:=B2.tup D1 (Y _ _ h5);ctx_has v Z aR
  refine dw D2 (.inr aR) rfl (by rw[a_];omega) λp3 ar H3 hg a6 D3 B3=>?_
  obtain⟨bn,b2,rfl⟩:=bB hg rfl;refine⟨∅,λp4 br=>?_⟩
  have s4:=aj.upd0 (o:=.tup [V.str "way",V.ref c,V.ref p2,V.ref p3]) br;have kt : ∀b xs,H b>>xs->upd H3 p4 (.tup [V.str "way",V.ref c,V.ref p2,V.ref p3]) b>>xs:=λb xs e=>s4 _ _ (B3.tup D2 (B2.tup D1 (Y _ _ e)))
  exact k p4 (.wy cs (a3.map (·.2)) bn) _ ⟨c,p2,p3,_,ab,kt _ _ h2,s4 _ _ (B3.tup D2 a0),⟨a3,rfl,rfl,λx hx=>kt _ _ (h4 x (aq.mem_iff.mp hx))⟩,s4 _ _ a6⟩ ⟨rfl,aq.map _,b2⟩ (D3.same s4) (((B1.trans B2).trans B3).same s4)
 | bh cs bv =>
  obtain⟨c,h1,h2⟩:=id hW;ctx_has s h1;ctx_has s h1;refine ax λR hR=>?_
  ctx_has v h1
  refine⟨∅,λp0 an=>⟨_,ab,rfl,∅,?_⟩⟩
  have Y:=aj.upd0 (o:=.tup [V.str "unlike",V.str "sum"]) an;rw[if_neg (show ¬ inV (V.str "behind") [V.str "unlike",V.str "sum"]=true by decide+kernel)]
  generalize upd H p0 (.tup [V.str "unlike",V.str "sum"])=H1 at Y ⊢;have D1:=D.same Y;have B1:=(But.refl (d:=d) (l:=l) H).same Y;have U:=Y _ _ h1;subst hR;ctx_has s U;ctx_has s U;ctx_has v U
  exact k w (.bh cs bv) H1 (cM hW λa xs e=>Y _ _ e) ⟨rfl,rfl⟩ D1 B1
abbrev Hx:=Fn P w K mg base "_law_mixed_up" 4 ["_law_deal_here","_law_wish_here"] (BF)
theorem kq (T:Txt w K mg base) (L:FnL K mg "_law_mixed_up" bw ["_law_deal_here","_law_wish_here"]) (Z : @GF P w K mg base) (Fb : @Dz5 P w K mg base) : @Hx P w K mg base:=by
 ctx_has z gu <;> obtain⟨d,l,w,ws,ns,c,us,W,rfl,D,hW,U,k⟩:=h
 .rfl
 refine⟨_,(af (aJ (ay aP (ak ao (pvM 1) ae) aw) (ag (aC (aI (aa aw (aa (ak ao (pvM 1) ae) (aa (ah Fb (aa (pvM 0) (aa (ak ao (pvM 1) ae) (aa (aF cB T.b_len (aa (ak ao (pvM 1) ae) ac)) ac)))) (aa (ah Z (aa (pvM 0) (aa (ak ao (pvM 1) ae) ac))) ac))))))) aA)
  (af (aJ (ay aP (ak ao (pvM 1) ae) aw) (af aN
  (ag aN)) aA)
  (af (aJ (ay oB (ak ao (pvM 1) ae) (aI (aa aw (aa aw ac)))) (ag aN) aA)
  (af (aJ (ay aP (ak ao (pvM 1) ae) aw) (af aN
  (ag aN)) aA)
  (af (aJ (ay aP (ak ao (pvM 1) ae) aw) (af aN
  (af aN
  (ag aN))) aA)
  (ag aN)))))),?_⟩
 obtain⟨t,u,h1,h2,h3⟩:=hW;have aq:us.length<=20:=U.2.1.2.2
 ctx_has v h1 h2
 refine dw D (.inr h2) rfl (by rw[a_];omega) λp1 ar H1 hg ai D1 B1=>?_
 obtain⟨an,ad,rfl⟩:=bB hg rfl;have am:=B1.tup D h1;ctx_has v am
 refine⟨d,l,u,ws,ns,W,rfl,D1,cM h3 λa xs e=>B1.tup D e,U.2.2.1,λr W' H2 hr hm D2 B2=>⟨∅,λp3 ap=>?_⟩⟩
 have Y:=aj.upd0 (o:=.tup [V.str "same",V.str c,V.ref p1,V.ref r]) ap;exact k p3 (.sa c an W') _ ⟨p1,r,ab,Y _ _ (B2.tup D1 ai),cM hr λa xs e=>Y _ _ e⟩ ⟨rfl,ad,hm⟩ (D2.same Y) ((B1.trans B2).same Y)
def bD:Option Int->j8 | none=>.none | some i=>.int i
def cT:Wi->j8
 | .un cs=>.tuple [.str "unlike",.tuple (cs.map .str)]
 | .mn U cs lo hi=>.tuple [.str "many",.tuple (U.map .int),.tuple (cs.map .str),.int lo,.int hi]
 | .sm ts lo hi=>.tuple [.str "sum",.tuple (ts.map λx=>.tuple [.int x.1,.str x.2]),bD lo,bD hi]
 | .tb cs rows=>.tuple [.str "table",.tuple (cs.map .str),.tuple (rows.map λr=>.tuple (r.map .int))]
 | .wy cs ps es=>.tuple [.str "way",.tuple (cs.map .str),.tuple (ps.map λx=>.tuple [.int x.1,.int x.2.1,.int x.2.2]),.tuple (es.map .int)]
 | .bh cs z=>.tuple [.str "behind",.tuple (cs.map .str),.int z]
def cm:Wx->j8
 | .pl W=>cT W
 | .sa c vs W=>.tuple [.str "same",.str c,.tuple (vs.map .int),cT W]
theorem DP (o:Option Int):Rep K H (bV o) (bD o):=by
 cases o with
 | none=>exact .non
 | some i=>exact .int i
theorem ku {K:ge} {H:Hp} {α:Type} {f:α->V} {d:α->j8} : ∀{l:List α},(∀x∈l,Rep K H (f x) (d x))->cC K H (l.map f) (l.map d)
 | [],_=>.nil
 | x :: l,h=>.cons (h x j_) (ku λy z=>h y (j9 _ z))
theorem DL {w:Addr} {W:Wi} (h:WS H w W):Rep K H (.ref w) (cT W):=by
 cases W with
 | un cs =>
  obtain⟨c,h1,h2⟩:=h;exact .tup (.of h1) (.cons (.str _) (.cons (.tup (.of h2) (cC.strs cs)) .nil))
 | mn av cs lo hi =>
  obtain⟨a,c,h1,h2,z⟩:=h;exact .tup (.of h1) (.cons (.str _) (.cons (.tup (.of h2) (cC.ints av)) (.cons (.tup (.of z) (cC.strs cs)) (.cons (.int _) (.cons (.int _) .nil)))))
 | sm ts lo hi =>
  obtain⟨t,h1,as,h2,rfl,z⟩:=h;refine .tup (.of h1) (.cons (.str _) (.cons (.tup (.of h2) ?_) (.cons (DP lo) (.cons (DP hi) .nil))))
  rw[fx];exact ku λx U=>.tup (.of (z x U)) (.cons (.int _) (.cons (.str _) .nil))
 | tb cs rows =>
  obtain⟨c,t,vs,h1,h2,z,as,rfl,rfl,Y⟩:=h;refine .tup (.of h1) (.cons (.str _) (.cons (.tup (.of h2) (cC.strs cs)) (.cons (.tup (.of z) ?_) .nil)))
  rw[fx];exact ku λx U=>.tup (.of (Y x U)) (cC.ints x.2)
 | wy cs ps es =>
  obtain⟨c,t,e,vs,h1,h2,z,⟨as,rfl,rfl,Y⟩,Z⟩:=h;refine .tup (.of h1) (.cons (.str _) (.cons (.tup (.of h2) (cC.strs cs)) (.cons (.tup (.of z) ?_) (.cons (.tup (.of Z) (cC.ints es)) .nil))))
  rw[fx];exact ku λx U=>.tup (.of (Y x U)) (.cons (.int _) (.cons (.int _) (.cons (.int _) .nil)))
 | bh cs aa =>
  obtain⟨c,h1,h2⟩:=h;exact .tup (.of h1) (.cons (.str _) (.cons (.tup (.of h2) (cC.strs cs)) (.cons (.int _) .nil)))
theorem ml {w:Addr} {W:Wx} (h:WX H w W):Rep K H (.ref w) (cm W):=by
 cases W with
 | pl W=>exact DL h
 | sa c vs W =>
  obtain⟨t,u,h1,h2,z⟩:=h;exact .tup (.of h1) (.cons (.str _) (.cons (.str _) (.cons (.tup (.of h2) (cC.ints vs)) (.cons (DL z) .nil))))
theorem BR {α:Type} {d:α->j8} : ∀{l:List α},(∀x∈l,(d x).canLay0=true)->l_ (l.map d)=true
 | [],_=>rfl
 | x :: l,h=>by rw[i_,l_,h x j_,BR λy z=>h y (j9 _ z)];rfl
theorem lM {α:Type} {d:α->j8} {n:Nat} : ∀{l:List α},(∀x∈l,(d x).depth<=n)->l8 (l.map d)<=n
 | [],_=>r_ _
 | x :: l,h=>by rw[i_,l8];exact Nat.max_le.mpr ⟨h x j_,lM λy z=>h y (j9 _ z)⟩
theorem xS {s:Str} (h:cD s):(Kz s).canLay0=true:=by
 have:=on (ws:=[s]) (λw hw=>by rw[g7.mp hw];exact h)
 rw[i_,l_,mx] at this;exact this.1
theorem Ii (i:Int):(Jr i).canLay0=true:=by
 have:=lay_ints [i]
 rw[i_,l_,mx] at this;exact this.1
theorem Hv (o:Option Int):(bD o).depth=0:=by cases o <;> rfl
theorem IS:Kj (b_ "unlike")=true:=by decide+kernel
theorem IZ:Kj (b_ "many")=true:=by decide+kernel
theorem IJ:Kj (b_ "sum")=true:=by decide+kernel
theorem Jc:Kj (b_ "table")=true:=by decide+kernel
theorem Jl:Kj (b_ "way")=true:=by decide+kernel
theorem Je:Kj (b_ "behind")=true:=by decide+kernel
theorem Jj:Kj (b_ "same")=true:=by decide+kernel
theorem DR (W:Wi):(cT W).depth<=3:=by
 cases W with
 | un cs=>simp[cT,t3,l8,df]
 | mn U cs lo hi=>simp[cT,t3,l8,df,depth_ints]
 | sm ts lo hi =>
  have h1:l8 (ts.map λx=>.tuple [.int x.1,.str x.2])<=1:=lM λx _=>by simp[t3,l8]
  simp[cT,t3,l8,Hv]
  omega
 | tb cs rows =>
  have h1:l8 (rows.map λr=>.tuple (r.map .int))<=1:=lM λr _=>by simp[t3,depth_ints]
  simp[cT,t3,l8,df]
  omega
 | wy cs ps es =>
  have h1:l8 (ps.map λx=>.tuple [.int x.1,.int x.2.1,.int x.2.2])<=1:=lM λx _=>by simp[t3,l8]
  simp[cT,t3,l8,df,depth_ints]
  omega
 | bh cs z=>simp[cT,t3,l8,df]
def kvR (xs:List (Str × Addr × List Int)):List (Key × V):=xs.map λx=>(e_ x.1,.ref x.2.1)
def RmT (H:Hp) (xs:List (Str × Addr × List Int)):Prop:=∀x∈xs,H x.2.1>>(x.2.2.map V.int)
def dat (xs:List (Str × Addr × List Int)):List (Str × List Int):=xs.map λx=>(x.1,x.2.2)
def srt (l:List Int):List Int:=l.mergeSort λa b=>decide (a<=b)
theorem iy (l:List Int):(srt l).Perm l:=List.mergeSort_perm _ _
theorem mN (l:List Int):(srt l).Pairwise (·<=·):=by
 have:=List.pairwise_mergeSort (le:=λa b:Int=>decide (a<=b)) (λa b c h g=>by simp only[decide_eq_true_eq] at *;omega) (λa b=>by simp only[Bool.or_eq_true,decide_eq_true_eq];omega) l
 exact this.imp λh=>of_decide_eq_true h
theorem nX : ∀{l m:List Int},l.Perm m->l.Pairwise (·<=·)->m.Pairwise (·<=·)->l=m
 | [],m,hp,_,_=>(List.Perm.eq_nil hp.symm).symm
 | a :: l,[],hp,_,_=>absurd (List.Perm.eq_nil hp) (by simp)
 | a :: l,b :: m,hp,h1,h2=>by
  rw[List.pairwise_cons] at h1 h2;have Y:a=b:=by
   have z:a∈b :: m:=hp.mem_iff.mp j_
   have U:b∈a :: l:=hp.mem_iff.mpr j_
   rcases i6.mp z with e | z
   .exact e
   .rcases i6.mp U with e | U
    .exact e.symm
    .exact Int.le_antisymm (h1.1 b U) (h2.1 a z)
  subst Y;rw[nX ((List.perm_cons a).mp hp) h1.2 h2.2]
theorem Bx {l m:List Int} (h:m.Perm l) (z:m.Pairwise (·<=·)):m=srt l:=nX (h.trans (iy l).symm) z (mN l)
def rH (mS:List (Str × Str)) (mI:List (Int × Int)) (x:Str × List Int):Str × List Int:=(ld mS x.1,srt (x.2.map (ld mI)))
theorem xW : ∀{W:Wi},okW ws ns W->szT W
 | .un _,⟨_,_,_,d⟩=>d
 | .mn _ _ _ _,⟨⟨_,_,_,d⟩,_,_,e⟩=>⟨e,d⟩
 | .sm ts _ _,⟨⟨_,_,_,d⟩,_⟩=>by simpa [szT] using d
 | .tb cs rows,⟨⟨_,_,_,d⟩,_,e,f⟩=>⟨d,(),λr z=>by rw[e r z];exact d⟩
 | .wy _ _ _,⟨⟨_,_,_,d⟩,_,f,_⟩=>⟨d,f⟩
 | .bh _ _,⟨_,_,_,d⟩=>d
theorem tK : ∀{W:Wx},okX ws ns W->Gh W
 | .pl _,h=>xW h
 | .sa _ _ _,h=>⟨xW h.2.2.1,h.2.1.2.2⟩
theorem tQ (h:PM mS) {ws:List Str} (Y : ∀x∈mS,x.1∈ws) {c:Str} (U:c∈ws):ld mS c∈ws:=by
 by_cases z:c∈mS.map (·.1)
 .have:=rP h z
  obtain⟨y,Z,e⟩:=e7.mp this;rw[<- e];exact Y y Z
 .rw[gw z];exact U
theorem jx {w:Addr} {W:Wx} {Q:VK} {E:XK} (tb:bJ H) (z:WX H w W) (U:okX ws ns W) (k : ∀r H',aj H H'->WX H' r (dO W)->Q (.ref r) H'):Bb [.ref w] H Q E\/AK [.ref w] H Q E:=by
 cases W with
 | pl W=>exact .inl ⟨w,ws,ns,W,rfl,tb,z,U,k⟩
 | sa c vs W=>exact .inr ⟨w,ws,ns,c,vs,W,rfl,tb,z,U,k⟩
theorem Gk {w:Addr} {W:Wx} {Q:VK} {E:XK} (D:aD H d l) (U:WX H w W) (Y:okX ws ns W) (k : ∀r z H',WX H' r z->ze W z->aD H' d l->But d l H H'->Q (.ref r) H'):BV [.ref d,.ref w] H Q E\/BF [.ref d,.ref w] H Q E:=by
 cases W with
 | pl W=>exact .inl ⟨d,l,w,ws,ns,W,rfl,D,U,Y,λr z H' h m=>k r (.pl z) H' h m⟩
 | sa c vs W=>exact .inr ⟨d,l,w,ws,ns,c,vs,W,rfl,D,U,Y,k⟩
theorem bJ.but (h:bJ H) (D:aD H d l) (B:But d l H H'):bJ H':=λt U=>by
 obtain⟨m,Y,n,xs,e1,e2,_⟩:=D.ex;exact B _ _ (bA (h t U) e1 (by intro z;cases z)) (bA (h t U) e2 (by intro z;cases z)) (h t U)
noncomputable def dP (W:Wx):j8:=cm (dO W)
noncomputable def cn (l:List j8) (d:j8):Nat:=l.count d
noncomputable def mG (l:List j8) (d:j8):Option Int:=if cn l d=0 then none else some (cn l d:Nat)
theorem pS (d:j8):cn [] d=0:=by unfold cn;exact List.count_nil
theorem kI (l:List j8) (x d:j8):cn (l++[x]) d=cn l d+if d=x then 1 else 0:=by
 unfold cn;rw[List.count_append,List.count_singleton]
 by_cases h:d=x
 .subst h;simp
 .have : ¬ x=d:=λe=>h e.symm
  simp[h,this]
theorem mW (l:List j8) (x d:j8):cn (x :: l) d=cn l d+if d=x then 1 else 0:=by
 unfold cn;rw[List.count_cons]
 by_cases h:d=x
 .subst h;simp
 .have : ¬ x=d:=λe=>h e.symm
  simp[h,this]
theorem pN (l:List j8) (d:j8):(mG l d).getD 0=(cn l d:Nat):=by
 unfold mG;split
 .next h=>rw[h];rfl
 .rfl
theorem iY {α:Type} {f:α->j8} : ∀{l:List α},(∀x∈l,eQ (f x)=true)->bS (l.map f)=true
 | [],_=>rfl
 | x :: l,h=>by rw[i_,bS,h x (by simp),iY λy z=>h y (by simp[z])];rfl
theorem kh (ns:List Int):bS (ns.map Jr)=true:=iY λ_ _=>rfl
theorem gX {cs:List Str} (h : ∀c∈cs,cD c):bS (cs.map Kz)=true:=iY λc z=>by
 have:=xS (h c z)
 rw[y8] at this;exact this
theorem HF (o:Option Int):eQ (bD o)=true:=by cases o <;> rfl
theorem DM {W:Wi} (h : ∀c∈cE W,cD c):eQ (cT W)=true:=by
 cases W with
 | un cs=>simp[cT,eQ,bS,gX (cs:=cs) h,IS]
 | mn Y cs lo hi=>simp[cT,eQ,bS,gX (cs:=cs) h,kh,IZ]
 | sm ts lo hi =>
  have h1:bS (ts.map λx=>.tuple [.int x.1,.str x.2])=true:=iY λx U=>by
   have:=xS (h x.2 (e7.mpr ⟨x,U,rfl⟩))
   rw[y8] at this;simp[eQ,bS,this]
  simp[cT,eQ,bS,h1,HF,IJ]
 | tb cs rows =>
  have h1:bS (rows.map λr=>.tuple (r.map .int))=true:=iY λr _=>by rw[eQ];exact kh r
  simp[cT,eQ,bS,gX (cs:=cs) h,h1,Jc]
 | wy cs ps es =>
  have h1:bS (ps.map λx=>.tuple [.int x.1,.int x.2.1,.int x.2.2])=true:=iY λx _=>by simp[eQ,bS]
  simp[cT,eQ,bS,gX (cs:=cs) h,kh,h1,Jl]
 | bh cs z=>simp[cT,eQ,bS,gX (cs:=cs) h,Je]
theorem Ej {W:Wx} (h : ∀c∈cp W,cD c):lg (cm W):=by
 cases W with
 | pl W=>exact⟨DM h,le_trans (DR W) ∅⟩
 | sa c vs W =>
  have z:=xS (h c j_);have hw:=DM (W:=W) λc U=>h c (j9 _ U)
  have Y:=DR W;rw[y8] at z;refine⟨by simp[cm,eQ,bS,kh,hw,z,Jj],?_⟩
  simp[cm,t3,l8,depth_ints]
  omega
theorem vI {W:Wx} (U : ∀c∈ws,cD c) (ok:okX ws ns W):lg (dP W):=Ej λc z=>U c (rJ (yY ok (fc ok)) c z)
def iu (H:Hp) (us:List V) (Ws:List Wx):Prop:=∃bs:List (Addr × Wx),us=bs.map (λx=>V.ref x.1)/\bs.map (·.2)=Ws/\∀x∈bs,WX H x.1 x.2
theorem iu.keep {us:List V} {Ws:List Wx} (h:iu H us Ws) (k : ∀a xs,H a>>xs->H' a>>xs):iu H' us Ws:=by
 obtain⟨bs,h1,h2,z⟩:=h;exact⟨bs,h1,h2,λx U=>bF (z x U) k⟩
structure qu (H:Hp) (t:Addr) (us:List V) (Ws:List Wx) (ws:List Str) (ns:List Int):Prop where
 ht:H t>>us
 wa:iu H us Ws
 ok : ∀W∈Ws,okX ws ns W
 nm : ∀c∈ws,cD c
 ln:Ws.length<=40
theorem qu.same {us:List V} {Ws:List Wx} (h:qu H t us Ws ws ns) (s:aj H H'):qu H' t us Ws ws ns :=
 ⟨s _ _ h.ht,h.wa.keep λa xs e=>s _ _ e,h.ok,h.nm,h.ln⟩
theorem qu.at {H:Hp} {t:Addr} {us:List V} {Ws:List Wx} {ws:List Str} {ns:List Int} (h:qu H t us Ws ws ns) {i:Nat} {x:V} (z:us[i]? = some x) : ∃w W,x = .ref w/\Ws[i]? = some W/\WX H w W/\W∈Ws:=by
 obtain⟨bs,rfl,rfl,U⟩:=h.wa;rw[e9] at z;cases e:bs[i]? with
 | none=>rw[e] at z;cases z
 | some y =>
  rw[e] at z;cases f_ z;exact⟨y.1,y.2,rfl,by rw[e9,e];rfl,U y (i4 e),e7.mpr ⟨y,i4 e,rfl⟩⟩
theorem qu.len {us:List V} {Ws:List Wx} (h:qu H t us Ws ws ns):us.length=Ws.length:=by
 obtain⟨bs,rfl,rfl,z⟩:=h.wa;rw[a_,a_]
def ft (H:Hp) (kvs:List CT):Prop:=∀x∈kvs,∃W,lg (cm W)/\x.1=cm W/\WX H x.2.1 W
theorem ft.ins {kvs:List CT} (h:ft H kvs):lF K H kvs:=λx z=>by
 obtain⟨W,a,b,c⟩:=h x z;rw[b];exact⟨a,ml c⟩
theorem ft.keep {kvs:List CT} (h:ft H kvs) (k : ∀a xs,H a>>xs->H' a>>xs):ft H' kvs:=λx z=>by
 obtain⟨W,a,b,c⟩:=h x z;exact⟨W,a,b,bF c k⟩
theorem ft.put {kvs:List CT} {W:Wx} {n:Int} (h:ft H kvs) (Y:lg (cm W)) (Z:WX H b W):ft H (gZ kvs (cm W) b n):=λx U=>by
 unfold gZ at U
 split at U
 .obtain⟨y,hy,rfl⟩:=e7.mp U
  have:=h y hy
  by_cases z:y.1=cm W
  .rw[if_pos z];exact this
  .rw[if_neg z];exact this
 .rcases j6.mp U with z | z
  .exact h x z
  .rw[g7.mp z];exact⟨W,Y,rfl,Z⟩
theorem rL (h:H p=some (.ext φ)) : ∀a xs,H a>>xs->upd H p o a>>xs:=λa xs e=>by
 rw[ai (bA e h (by intro z;cases z))];exact e
def IH (P:Program) (w:World):Sp:=λvs H Q _=>∃(t:Addr) (us:List V) (Ws:List Wx) (ws:List Str) (ns:List Int),vs=[.ref t]/\bJ H/\qu H t us Ws ws ns /\
 ∀r o kvs H',aj H H'->H' r=some (cX P w r o kvs)->ft H' kvs->(∀d,atC kvs d=mG (Ws.map dP) d)->kvs.length<=Ws.length->Q (.ref r) H'
theorem uq {l:List j8} {kvs:List CT} {x:j8} (h : ∀d,atC kvs d=mG l d) (d:j8):atC (gZ kvs x a ((cn l x:Nat)+1)) d=mG (l++[x]) d:=by
 rw[yn,h];unfold mG;rw[kI]
 by_cases e:d=x
 .subst e
  rw[if_pos rfl,if_pos rfl,if_neg ()]
  rfl
 .rw[if_neg e,if_neg e,Nat.add_zero]
abbrev G0:=Fn P w K mg base "plain_forms" 5 ["wishes"] (IH P w)
theorem mX (T:Txt w K mg base) (L:FnL K mg "plain_forms" fO ["wishes"]) (Fm : @Ds P w K mg base) (Fp : @Gc P w K mg base) : @G0 P w K mg base:=by
 ctx_has z nA <;> obtain⟨t,us,Ws,ws,ns,rfl,tb,Z,k⟩:=h
 .rfl
 refine⟨_,(af (aB 1 (vj (P:=P) (w:=w) rfl rfl))
  (af (bc (jz (K:=K) rfl (pvM 0)) (az 2) (af (aB 3 (cg Fm Fp (aa (pvM 2) ac)))
  (ag (yO (P:=P) (w:=w) (K:=K) rfl rfl rfl (hu9 hr) (pvM 1) (pvM 3) (aO bq (sT (P:=P) (w:=w) (K:=K) rfl rfl rfl (hu9 hr) (pvM 1) (pvM 3) ae ⟨rfl,rfl,rfl,rfl⟩) ae) rfl))))
  (ag (aC (pvM 1))))),?_⟩
 have h1:=Z.ht;have ak:=Z.len;ctx_has v
 intro p o H2 hp s2 h2;refine⟨us,s2 _ _ h1,?_⟩
 refine bK aT (λi σ H'=>∃v2 v3 o kvs,σ=[-t,-p,v2,v3]/\H' p=some (cX P w p o kvs)/\ft H' kvs/\(∀d,atC kvs d=mG ((Ws.take i).map dP) d)/\kvs.length<=i/\aj H H') ⟨_,_,o,[],rfl,h2,(λx hx=>by cases hx),(λd=>by unfold mG;rw[List.take_zero,KF,pS];rfl),r_ _,s2⟩ (λi σ H' ad=>by obtain⟨_,_,_,_,_,_,_,_,_,s⟩:=ad;exact(.of (s _ _ h1))) ?_ ?_
 .rintro i x σ H3 hi hx ⟨v2,v3,o3,kvs,rfl,h3,hk,hc,hl,s3⟩
  obtain⟨wv,W,rfl,am,an,hm⟩:=(Z.same s3).at hx;ctx_has v
  refine jx (tb.same s3) an (Z.ok W hm) λr H4 s4 h4=>?_
  have U:=hk.keep (λa xs e=>s4 a _ e)
  have ah:=ml (K:=K) h4;have Y:=vI Z.nm (Z.ok W hm);have ao:=Z.ln;have ai:=s4 _ _ h3;ctx_has v ai
  have et:(Ws.take (i+1)).map dP=(Ws.take i).map dP++[dP W]:=by rw[i8,am];simp
  refine⟨⟨_,_,rfl,U.ins⟩,_,_,rfl,U.ins,_,Y,ah,_,_,rfl,U.ins,(),_,Y,ah,λo'=>⟨_,_,ab,(U.put Y h4).keep (rL ai),λd=>?_,?_,(s3.trans s4).putN hp⟩⟩
  .rw[hc,pN,et]
   exact uq hc d
  .exact le_trans (pP _ _ _ _) ()
 .rintro σ H3 ⟨v2,v3,o3,kvs,rfl,h3,hk,hc,hl,s3⟩
  rw[ak,k9] at hc;ctx_has v
  exact k p o3 kvs H3 s3 h3 hk hc ()
structure WsL (H:Hp) (t:Addr) (us:List V) (Ws:List Wx) (ws:List Str) (ns:List Int):Prop where
 ht:H t*>us
 wa:iu H us Ws
 ok : ∀W∈Ws,okX ws ns W
 nm : ∀c∈ws,cD c
 ln:Ws.length<=40
theorem WsL.same {us:List V} {Ws:List Wx} (h:WsL H t us Ws ws ns) (s:aj H H'):WsL H' t us Ws ws ns :=
 ⟨s _ _ h.ht,h.wa.keep λa xs e=>s _ _ e,h.ok,h.nm,h.ln⟩
theorem WsL.at {H:Hp} {t:Addr} {us:List V} {Ws:List Wx} {ws:List Str} {ns:List Int} (h:WsL H t us Ws ws ns) {i:Nat} {x:V} (z:us[i]? = some x) : ∃w W,x = .ref w/\Ws[i]? = some W/\WX H w W/\W∈Ws:=by
 obtain⟨bs,rfl,rfl,U⟩:=h.wa;rw[e9] at z;cases e:bs[i]? with
 | none=>rw[e] at z;cases z
 | some y =>
  rw[e] at z;cases f_ z;exact⟨y.1,y.2,rfl,by rw[e9,e];rfl,U y (i4 e),e7.mpr ⟨y,i4 e,rfl⟩⟩
theorem WsL.len {us:List V} {Ws:List Wx} (h:WsL H t us Ws ws ns):us.length=Ws.length:=by
 obtain⟨bs,rfl,rfl,z⟩:=h.wa;rw[a_,a_]
def Led (mS:List (Str × Str)) (mI:List (Int × Int)) (Ws:List Wx) (L:List j8):Prop:=∃z:List Wx,Ws.map (bG mS mI)=z.map some/\∀d,cn (z.map dP) d<=cn L d
theorem yF {Ws:List Wx} (h:Led mS mI Ws L) {i:Nat} {U:List Wx} (Z:(Ws.take i).map (bG mS mI)=U.map some) (d:j8):cn (U.map dP) d<=cn L d:=by
 obtain⟨Y,e,h⟩:=h;have:U=Y.take i:=by
  have e2:(U.map some:List (Option Wx))=(Y.take i).map some:=by rw[<- Z,map_take,e,map_take]
  exact(map_inj_right λa b z=>f_ z).mp e2
 subst this;refine le_trans ?_ (h d)
 unfold cn;rw[map_take];exact(JF i _).count_le d
theorem uf {Ws:List Wx} (h:Led mS mI Ws L) {i:Nat} {W:Wx} (Y:Ws[i]? = some W):bG mS mI W≠none:=λz=>by
 obtain⟨Z,e,h⟩:=h;have:(Ws.map (bG mS mI))[i]? = some none:=by rw[e9,Y,Kh,z]
 rw[e,e9] at this;cases U:Z[i]? with
 | none=>rw[U] at this;cases this
 | some u=>rw[U] at this;cases this
structure TOk (mS:List (Str × Str)) (mI:List (Int × Int)) (Ws:List Wx) (ws':List Str) (ns:List Int):Prop where
 ok : ∀W∈Ws,∀V,bG mS mI W=some V->okX ws' ns V
 nm : ∀c∈ws',cD c
def DW (P:Program) (w:World):Sp:=λvs H Q _=>∃(t na va U z:Addr) (mS:List (Str × Str)) (mI:List (Int × Int)) (us:List V) (Ws:List Wx) (ws ws':List Str) (ns:List Int) (o:Obj) (kvs:List CT) (L:List j8),vs=[.ref t,.ref U,.ref z]/\bJ H/\ce H t na va mS mI/\WsL H U us Ws ws ns/\TOk mS mI Ws ws' ns /\
 H z=some (cX P w z o kvs)/\ft H kvs/\(∀d,atC kvs d=mG L d)/\∀(b:Bool) H',aj H H'->(b=true↔Led mS mI Ws L)->Q (.bl b) H'
abbrev EJ:=Fn P w K mg base "leads_wishes_among" 8 ["turning","wishes","forms"] (DW P w)
theorem gP (T:Txt w K mg base) (L:FnL K mg "leads_wishes_among" cI ["turning","wishes","forms"]) (FV:Fn P w K mg base "turned_wish" 7 ["turning","wish"] (sB)) (Fm : @Ds P w K mg base) (Fp : @Gc P w K mg base) : @EJ P w K mg base:=by
 ctx_has z gQ <;> obtain⟨t,na,va,tw,fm,mS,mI,us,Ws,ws,ws',ns,o,kvs,L,rfl,tb,T0,hW,hT,av,a1,au,k⟩:=h
 .rfl
 refine⟨_,(af (aB 3 (vj (P:=P) (w:=w) rfl rfl))
  (af (bc (dg (K:=K) rfl (pvM 1)) (az 4) (af (aB 5 (ah FV (aa (pvM 0) (aa (pvM 4) ac))))
  (af (aJ (fV (oy (pvM 5))) (ag (aC ga)) aA)
  (af (aB 6 (cg Fm Fp (aa (pvM 5) ac)))
  (af (yO (P:=P) (w:=w) (K:=K) rfl rfl rfl (hu9 hr) (pvM 3) (pvM 6) (aO bq (sT (P:=P) (w:=w) (K:=K) rfl rfl rfl (hu9 hr) (pvM 3) (pvM 6) ae ⟨rfl,rfl,rfl,rfl⟩) ae) rfl)
  (ag (aJ (ay vg (EC (P:=P) (w:=w) (K:=K) rfl rfl rfl (hu9 hr) (pvM 3) (pvM 6) (λ_ _=>rfl)) (sT (P:=P) (w:=w) (K:=K) rfl rfl rfl (hu9 hr) (pvM 2) (pvM 6) ae ⟨rfl,rfl,rfl,rfl⟩)) (ag (aC ga)) aA)))))))
  (ag (aC ga)))),?_⟩
 have h1:=hW.ht;have ar:=hW.len;have a2:=hW.ln;ctx_has v
 intro p o2 H2 hp s2 h2;refine⟨us,s2 _ _ h1,?_⟩
 refine bK bz (λi σ H'=>∃v4 v5 v6 o kvs,σ=[-t,-tw,-fm,-p,v4,v5,v6]/\H' p=some (cX P w p o kvs)/\ft H' kvs/\(∃Y,(Ws.take i).map (bG mS mI)=Y.map some/\(∀d,atC kvs d=mG (Y.map dP) d)/\∀d,cn (Y.map dP) d<=cn L d)/\kvs.length<=i/\aj H H')
  ⟨_,_,_,o2,[],rfl,h2,(λx hx=>by cases hx),⟨[],by simp,(λd=>by unfold mG;rw[KF,pS];rfl),λd=>by rw[KF,pS];exact r_ _⟩,r_ _,s2⟩ (λi σ H' ap=>by obtain⟨_,_,_,_,_,_,_,_,_,_,s⟩:=ap;exact(.of (s _ _ h1))) ?_ ?_
 .rintro i x σ H3 hi hx ⟨v4,v5,v6,o3,kv3,rfl,h3,hk,⟨Y,hV,hc,hle⟩,hl,s3⟩
  obtain⟨wv,W,rfl,am,ax,hm⟩:=(hW.same s3).at hx;have eT:(Ws.take (i+1)).map (bG mS mI)=Y.map some++[bG mS mI W]:=by rw[i8,am,ii,hV];rfl
  ctx_has v
  refine⟨t,wv,na,va,mS,mI,W,rfl,T0.same s3,ax,tK (hW.ok W hm),λv H4 s4 hv=>?_⟩
  have ai:=s3.trans s4;cases ht:bG mS mI W with
  | none =>
   rw[ht] at hv;cases (show v = .non from hv)
   ctx_has v
   exact k false H4 ai ⟨λz=>(by cases z),λz=>absurd ht (uf z am)⟩
  | some U =>
   rw[ht] at hv eT;obtain⟨wt,rfl,aw⟩:=hv;have ak:=hT.ok W hm U ht;have aq:(Ws.take (i+1)).map (bG mS mI)=(Y++[U]).map some:=by rw[eT,ii];rfl
   ctx_has v
   refine jx (tb.same ai) aw ak λr H5 s5 h5=>?_
   have a0:=ai.trans s5;have ad:=hk.keep (λa xs e=>s5 a _ (s4 a _ e))
   have an:=ml (K:=K) h5;have Z:=vI hT.nm ak;have ao:=s5 _ _ (s4 _ _ h3);ctx_has v ao
   refine⟨⟨_,_,rfl,ad.ins⟩,_,_,rfl,ad.ins,_,Z,an,_,_,rfl,ad.ins,(),_,Z,an,λo'=>?_⟩
   rw[hc,pN];have gp:upd H5 p (cX P w p o' (gZ kv3 (dP U) r ((cn (Y.map dP) (dP U):Nat)+1))) p=some (cX P w p o' (gZ kv3 (dP U) r ((cn (Y.map dP) (dP U):Nat)+1))):=ab
   have sG:aj H (upd H5 p (cX P w p o' (gZ kv3 (dP U) r ((cn (Y.map dP) (dP U):Nat)+1)))):=a0.putN hp
   have gt:=rL (o:=cX P w p o' (gZ kv3 (dP U) r ((cn (Y.map dP) (dP U):Nat)+1))) ao;have kp:=(ad.put (n:=(cn (Y.map dP) (dP U):Nat)+1) Z h5).keep gt;have rg:=ml (K:=K) (bF h5 gt);change ft _ (gZ kv3 (dP U) r _) at kp;change Rep K _ _ (dP U) at rg;generalize upd H5 p (cX P w p o' (gZ kv3 (dP U) r ((cn (Y.map dP) (dP U):Nat)+1)))=G at gp sG gt kp rg ⊢;have gf:=sG _ _ av;have kf:=a1.keep (λa xs e=>sG a _ e)
   have ec:((Y++[U]).map dP)=Y.map dP++[dP U]:=by rw[ii];rfl
   refine⟨_,_,gp,kp.ins,_,Z,rg,_,by rw[yn,if_pos rfl],⟨_,_,gf,kf.ins⟩,_,_,gf,kf.ins,_,Z,rg,?_⟩
   rw[au,pN];refine cN (λh=>?_) (λh=>?_)
   .refine k false G sG ⟨λz=>(by cases z),λz=>?_⟩
    have:=yF z aq (dP U)
    rw[ec,kI,if_pos rfl] at this;omega
   .refine⟨_,_,gp,kp,⟨Y++[U],aq,λd=>?_,λd=>?_⟩,le_trans (pP _ _ _ _) (),sG⟩
    .rw[ec];exact uq hc d
    .rw[ec,kI]
     by_cases e:d=dP U
     .subst e;rw[if_pos rfl];omega
     .rw[if_neg e];exact hle d
 .rintro σ H3 ⟨v4,v5,v6,o3,kv3,rfl,h3,hk,⟨Y,hV,hc,hle⟩,hl,s3⟩
  rw[ar,k9] at hV;ctx_has v
  exact k true H3 s3 ⟨λ_=>⟨Y,hV,hle⟩,λ_=>rfl⟩
theorem Bn (xs:List (Str × Addr × List Int)):(kvR xs).map (·.1)=xs.map λx=>(e_ x.1:Key):=by unfold kvR;rw[fx];rfl
theorem AY {xs:List (Str × Addr × List Int)} (h:(xs.map (·.1)).Nodup):((kvR xs).map (·.1)).Nodup:=by
 rw[Bn];have:(xs.map λx=>(e_ x.1:Key))=(xs.map (·.1)).map e_:=by rw[fx];rfl
 rw[this];exact List.Pairwise.map _ (λa b z e=>z (I_ e)) h
def kR (mS:List (Str × Str)) (mI:List (Int × Int)) (ds:List (Str × List Int)):Prop:=(∀x∈mS,x.1∈ds.map (·.1))/\∀x∈ds,rH mS mI x∈ds
structure C5 (H:Hp) (r:Addr) (xs:List (Str × Addr × List Int)):Prop where
 hr:H r<*(kvR xs)
 rt:RmT H xs
 nd:(xs.map (·.1)).Nodup
 ln:xs.length<=40
 rl : ∀x∈xs,x.2.2.length<=60
theorem cV {k:Key} : ∀{l:List (Key × V)},(bg l k).isSome=true↔k∈l.map (·.1)
 | []=>by simp[bg]
 | x :: l=>by
  by_cases h:x.1=k
  .rw[bi h];simp[h]
  .rw[aS h,cV]
   simp only[i_,i6];exact⟨.inr,λz=>z.elim (λe=>absurd e.symm h) id⟩
def lk (ds:List (Str × List Int)) (s:Str):List Int:=((ds.find? λx=>decide (x.1=s)).map (·.2)).getD []
theorem xA : ∀{ds:List (Str × List Int)} {x:Str × List Int},(ds.map (·.1)).Nodup->x∈ds->lk ds x.1=x.2
 | [],_,_,h=>by cases h
 | y :: ds,x,hn,h=>by
  rw[i_,w5] at hn;unfold lk;rw[xq];rcases i6.mp h with rfl | h
  .simp
  .have : ¬ y.1=x.1:=λe=>hn.1 (by rw[e];exact e7.mpr ⟨x,h,rfl⟩)
   simp only[this,decide_false];exact xA hn.2 h
theorem tP {xs:List (Str × Addr × List Int)} {s:Str}:(e_ s:Key)∈(kvR xs).map (·.1)↔s∈(dat xs).map (·.1):=by
 unfold kvR dat;rw[fx,fx]
 constructor
 .intro h
  obtain⟨x,z,e⟩:=e7.mp h;exact e7.mpr ⟨x,z,I_ e⟩
 .intro h
  obtain⟨x,z,e⟩:=e7.mp h;exact e7.mpr ⟨x,z,congrArg e_ e⟩
theorem kX (xs:List (Str × Addr × List Int)):(dat xs).map (·.1)=xs.map (·.1):=by unfold dat;rw[fx];rfl
structure ij (H:Hp) (p c t:Addr) (cs:List (Addr × Str × Addr × List Int)) (us:List V) (Ws:List Wx) (ws:List Str) (ns:List Int):Prop where
 hp:H p>>[.ref c,.ref t]
 hc:H c>>(cs.map λx=>V.ref x.1)
 ca : ∀x∈cs,H x.1>>[.str x.2.1,.ref x.2.2.1]/\H x.2.2.1>>(x.2.2.2.map V.int)
 nd:(cs.map (·.2.1)).Nodup
 ln:cs.length<=40
 rl : ∀x∈cs,x.2.2.2.length<=60
 wa:qu H t us Ws ws ns
theorem ij.keep {H H':Hp} {p c t:Addr} {cs:List (Addr × Str × Addr × List Int)} {us:List V} {Ws:List Wx} {ws:List Str} {ns:List Int} (h:ij H p c t cs us Ws ws ns) (k : ∀a xs,H a>>xs->H' a>>xs):ij H' p c t cs us Ws ws ns :=
 ⟨k _ _ h.hp,k _ _ h.hc,λx z=>⟨k _ _ (h.ca x z).1,k _ _ (h.ca x z).2⟩,h.nd,h.ln,h.rl,⟨k _ _ h.wa.ht,h.wa.wa.keep k,h.wa.ok,h.wa.nm,h.wa.ln⟩⟩
theorem ij.same {us:List V} {Ws:List Wx} (h:ij H p c t cs us Ws ws ns) (s:aj H H'):ij H' p c t cs us Ws ws ns:=h.keep λa xs e=>s _ _ e
abbrev xsH (cs:List (Addr × Str × Addr × List Int)):List (Str × Addr × List Int):=cs.map (·.2)
def HZ:Sp:=λvs H Q _=>∃(p c t:Addr) (cs:List (Addr × Str × Addr × List Int)) (us:List V) (Ws:List Wx) (ws:List Str) (ns:List Int),vs=[.ref p]/\ij H p c t cs us Ws ws ns/\∀r H',H r=none->aj H H'->C5 H' r (xsH cs)->Q (.ref r) H'
theorem xP (hn:(cs.map (·.2.1)).Nodup) {i:Nat} {x:Addr × Str × Addr × List Int} (Z:cs[i]? = some x):bj (kvR (xsH (cs.take i))) (e_ x.2.1) (.ref x.2.2.1)=kvR (xsH (cs.take (i+1))):=by
 have Y:cs.take (i+1)=cs.take i++[x]:=by rw[i8,Z];rfl
 have U:(e_ x.2.1:Key)∉(kvR (xsH (cs.take i))).map (·.1):=λz=>by
  rw[tP,kX,fx] at z;have hl:((cs.take i++[x]).map (·.2.1)).Nodup:=by
   rw[<- Y,map_take];exact hn.sublist (JF _ _)
  rw[ii,x_] at hl;exact hl.2.2 _ z _ (by simp) rfl
 rw[dC _ (gE U),Y];unfold kvR xsH;rw[ii,ii];rfl
def kN (mS:List (Str × Str)) (mI:List (Int × Int)) (ds:List (Str × List Int)) (Ws:List Wx):Prop:=kR mS mI ds/\Led mS mI Ws (Ws.map dP)
def GJ:Sp:=λvs H Q _=>∃(p c t tn na va:Addr) (mS:List (Str × Str)) (mI:List (Int × Int)) (cs:List (Addr × Str × Addr × List Int)) (us:List V) (Ws:List Wx) (ws ws':List Str) (ns:List Int),vs=[.ref p,.ref tn]/\bJ H/\ij H p c t cs us Ws ws ns/\ce H tn na va mS mI/\TOk mS mI Ws ws' ns /\
 ∀(b:Bool) H',aj H H'->(b=true↔kN mS mI (dat (xsH cs)) Ws)->Q (.bl b) H'
theorem oz (T:Txt w K mg base) (L:FnL K mg "first_rooms" fQ ["hall"]):Fn P w K mg base "first_rooms" 1 ["hall"] (HZ):=by
 ctx_has z ny <;> obtain⟨p,c,t,cs,us,Ws,ws,ns,rfl,Y,k⟩:=h
 .rfl
 refine⟨_,(af (aB 1 cj)
  (af (bc (bR K (ak ao (pvM 0) ae)) (az 2) (ag (fH hu (pvM 1) (ak ao (pvM 2) ae) (ak ao (pvM 2) ae) rfl)))
  (ag (aC (pvM 1))))),?_⟩
 have h1:=Y.hp;have h2:=Y.hc;have ad:=Y.ln;ctx_has v
 intro q hq;have s0:=aj.upd0 (o:=.dK []) hq;have ac:=s0 _ _ h1;ctx_has v ac
 refine⟨_,s0 _ _ h2,?_⟩
 refine bK aT (λi σ H'=>∃v2,σ=[-p,-q,v2]/\H' q<*(kvR (xsH (cs.take i)))/\aj H H') ⟨_,rfl,ab,s0⟩ (λi σ H' aa=>by obtain⟨_,_,_,s⟩:=aa;exact(.of (s _ _ h2))) ?_ ?_
 .rintro i x σ H2 hi U ⟨v2,rfl,h2q,s2⟩
  obtain⟨y,Z,rfl⟩ : ∃y,cs[i]? = some y/\V.ref y.1=x:=by
   rw[e9] at U;cases e:cs[i]? with
   | none=>rw[e] at U;cases U
   | some nm=>rw[e] at U;exact⟨nm,rfl,f_ U⟩
  have h3:=s2 _ _ (Y.ca y (i4 Z)).1;have ah:i < cs.length:=(i7.mp Z).1
  ctx_has v h3 h2q
  exact⟨by unfold kvR xsH;simp;exact au (),by rw[ab,xP Y.nd Z],s2.putN hq⟩
 .rintro σ H2 ⟨v2,rfl,h2q,s2⟩
  rw[a_,k9] at h2q;ctx_has v
  exact k q H2 hq s2 ⟨h2q,λx U=>by
   obtain⟨y,Z,rfl⟩:=e7.mp U;exact s2 _ _ (Y.ca y Z).2,by rw[fx];exact Y.nd,by rw[a_];exact ad,λx U=>by
   obtain⟨y,Z,rfl⟩:=e7.mp U;exact Y.rl y Z⟩
theorem iM {U:Hp} (e:H2 a<*kvs) (k : ∀b u,b≠a->H2 b=some u->U b=some u):aj H2 (upd U a (.dK kvs)):=λb u h=>by
 by_cases z:b=a
 .subst z;rw[ab,<- h,e]
 .rw[ai z];exact k b u z h
theorem BQ {w:Addr} {W:Wx} {Q:VK} {E:XK} (Y:ce H t na va mS mI) (U:WX H w W) (z:Gh W) (k : ∀v H',aj H H'->WO H' v (bG mS mI W)->Q v H'):jW [.ref t,.ref w] H Q E\/gV [.ref t,.ref w] H Q E:=by
 cases W with
 | pl W=>exact .inl ⟨t,w,na,va,mS,mI,W,rfl,Y,U,z,λv H' s h=>k v H' s h.up⟩
 | sa c vs W=>exact .inr ⟨t,w,na,va,mS,mI,c,vs,W,rfl,Y,U,z.1,z.2,k⟩
def lG (H:Hp) (ps:List (Addr × Wx)):Prop:=∀x∈ps,WX H x.1 x.2/\lg (cm x.2)
theorem lG.keep {ps:List (Addr × Wx)} (h:lG H ps) (k : ∀a xs,H a>>xs->H' a>>xs):lG H' ps:=λx z=>⟨bF (h x z).1 k,(h x z).2⟩
abbrev pD (ps:List (Addr × Wx)):List j8:=ps.map λx=>cm x.2
theorem lG.reps {K:ge} {H:Hp} : ∀{ps:List (Addr × Wx)},lG H ps->cC K H (ps.map λx=>V.ref x.1) (pD ps)/\l_ (pD ps)=true
 | [],_=>⟨.nil,rfl⟩
 | x :: ps,h=>by
  obtain⟨a,b⟩:=lG.reps (K:=K) (ps:=ps) λy z=>h y (j9 _ z)
  obtain⟨c,d⟩:=h x j_;refine⟨.cons (ml c) a,?_⟩
  show l_ (cm x.2 :: pD ps)=true
  rw[l_,fb _ d.1,b];rfl
theorem cz (h:H p*>ys) : ∀a xs,H a>>xs->upd H p o a>>xs:=λa xs e=>by
 rw[ai (bA e h (by intro z;cases z))];exact e
theorem Ea {ps:List (Addr × Wx)} (h:lG H ps) {d:j8} (z:lg d):inD d (pD ps)=true↔0 < cn (pD ps) d:=by
 unfold inD cn;rw[Ke,List.count_pos_iff]
 constructor
 .rintro⟨e,he,q⟩
  obtain⟨x,U,rfl⟩:=e7.mp he;rw[(iU _ _ (h x U).2.1 z.1).mp q] at he;exact he
 .intro he
  obtain⟨x,U,e⟩:=e7.mp he;exact⟨d,he,(iU _ _ z.1 z.1).mpr rfl⟩
theorem vt {H:Hp} : ∀{ps:List (Addr × Wx)} (_:lG H ps) {d:j8} (_:lg d),0 < cn (pD ps) d->∃j,j < (pD ps).length/\(∀e,(pD ps)[j]? = some e->n_ e d=true)/\(∀m e,m < j->(pD ps)[m]? = some e->n_ e d=false)/\∀x,cn (pD (ps.eraseIdx j)) x+(if x=d then 1 else 0)=cn (pD ps) x
 | [],_,d,_,h=>by rw[show pD []=[] from rfl,pS] at h;omega
 | p :: ps,hp,d,hd,h=>by
  have Y:=(hp p j_).2
  by_cases e:d=cm p.2
  .refine⟨0,by simp,λx z=>?_,λm _ U=>absurd U (Nat.not_lt_zero _),λx=>?_⟩
   .simp only[pD,i_,z_,Ju] at z
    rw[<- z];exact(iU _ _ Y.1 hd.1).mpr e.symm
   .show cn (pD ps) x+_=cn (cm p.2 :: pD ps) x
    rw[mW,e]
  .have h':0 < cn (pD ps) d:=by
    rw[show pD (p :: ps)=cm p.2 :: pD ps from rfl,mW,if_neg e] at h
    omega
   obtain⟨j,j1,j2,j3,j4⟩:=vt (ps:=ps) (λy Z=>hp y (j9 _ Z)) hd h'
   refine⟨j+1,by simpa using j1,λx z=>j2 x (by simpa using z),λm x U z=>?_,λx=>?_⟩
   .cases m with
    | zero =>
     simp only[pD,i_,z_,Ju] at z;rw[<- z];cases q:n_ (cm p.2) d with
     | false=>rfl
     | true=>exact absurd ((iU _ _ Y.1 hd.1).mp q).symm e
    | succ m=>exact j3 m x () (by simpa using z)
   .show cn (cm p.2 :: pD (ps.eraseIdx j)) x+_=cn (cm p.2 :: pD ps) x
    rw[mW,mW];have:=j4 x
    omega
abbrev HM:=Fn P w K mg base "_law_leads_on" 9 ["_law_hall","_law_turning"] (GJ)
theorem lm (T:Txt w K mg base) (L:FnL K mg "_law_leads_on" db ["_law_hall","_law_turning"]) (Fc : @At P w K mg base) (Fh : @Dq P w K mg base) (Fj : @ED P w K mg base) (Fi : @Di P w K mg base) (Fk : @EZ P w K mg base) : @HM P w K mg base:=by
 ctx_has z lI <;> obtain⟨p,c,t,tn,na,va,mS,mI,cs,us,Ws,ws,ws',ns,rfl,tb,hH,T0,hT,k⟩:=h
 .rfl
 refine⟨_,(af (aB 2 cj)
  (bO (bc (bR K (ak ao (pvM 0) ae)) (cH (n:=2) rfl (aV (az 3) (aV (az 4) cG))) (ag (fH hu (pvM 2) (pvM 3) (pvM 4) rfl)))
  (bO (yV (bc (GM (ak ao (pvM 1) ae)) (az 3) (ag (aJ (fV (oh hu (pvM 3) (pvM 2))) (ag (aC ga)) aA))))
  (bO (yV (bc (GM (pvM 2)) (az 3) (ag (aJ (ay (jr (iw hr)) (aG aM T.b_tuple (aa (aF gJ T.b_sorted (aa (ah Fc (aa (ak ao (pvM 1) ae) (aa (xM hu (pvM 2) (pvM 3)) ac))) ac)) ac)) (xM hu (pvM 2) (eA hu (ak ao (pvM 1) ae) (pvM 3) (pvM 3) ⟨rfl,rfl,rfl,rfl⟩))) (ag (aC ga)) aA))))
  (af (bW 5 (N:=["_law_wish_here"]) (nt:=1) (js:=[]) (aE ["_law_hall","_law_turning","_law_rooms_here","_law_name","_law_room","_law_left","_law_wish_here","_law_other"] (am db).names) (bR K (ak ao (pvM 0) ae)) (az 0) aL aU (cg Fh Fj (aa (pvM 0) ac)))
  (af (bc (bR K (ak ao (pvM 0) ae)) (az 6) (af (aB 7 (cg Fi Fk (aa (pvM 1) (aa (pvM 6) ac))))
  (af (aJ (PW.pt (kM (fV (oy (pvM 7))) (gY (ay (jE (xN hr)) (cg Fh Fj (aa (pvM 7) ac)) (pvM 5))))) (ag (aC ga)) aA)
  (ag (bu (cA PySem.F.slot_list_remove PySem.F.type_list_remove (zT (xN hr)) (pvM 5) (aa (cg Fh Fj (aa (pvM 7) ac)) ac)))))))
  (ag (aC ga)))))))),?_⟩
 have h1:=hH.hp;have h2:=hH.hc;have b1:=hH.ln;have aY:(dat (xsH cs)).map (·.1)=cs.map (·.2.1):=by rw[kX,fx];rfl
 ctx_has v jT
 intro q hq;have s0:=aj.upd0 (o:=.dK []) hq;have bp:=s0 _ _ h1;refine⟨λσ H'=>∃Z v4,σ=[-p,-tn,-q,Z,v4,none,none,none]/\H' q<*(kvR (xsH cs))/\aj H H',?_,?_⟩
 .ctx_has v bp
  refine⟨_,s0 _ _ h2,?_⟩
  refine bK aT (λi σ H'=>∃Z v4,σ=[-p,-tn,-q,Z,v4,none,none,none]/\H' q<*(kvR (xsH (cs.take i)))/\aj H H') ⟨_,_,rfl,ab,s0⟩ (λi σ H' aH=>by obtain⟨_,_,_,_,s⟩:=aH;exact(.of (s _ _ h2))) ?_ ?_
  .rintro i x σ H2 hi U ⟨Z,v4,rfl,Y,s2⟩
   obtain⟨y,hy,rfl⟩ : ∃y,cs[i]? = some y/\V.ref y.1=x:=by
    rw[e9] at U;cases e:cs[i]? with
    | none=>rw[e] at U;cases U
    | some nm=>rw[e] at U;exact⟨nm,rfl,f_ U⟩
   have h3:=s2 _ _ (hH.ca y (i4 hy)).1;have b3:i < cs.length:=(i7.mp hy).1
   ctx_has v h3 Y
   exact⟨by unfold kvR xsH;simp;exact au (),by rw[ab,xP hH.nd hy],s2.putN hq⟩
  .rintro σ H2 ⟨Z,v4,rfl,Y,s2⟩
   rw[a_,k9] at Y;exact⟨_,_,rfl,Y,s2⟩
 rintro σ H2 ⟨Z,v4,rfl,Y,s2⟩
 have e1:=s2 _ _ T0.ht;have e2:=s2 _ _ T0.hn;have nq:q≠na:=(ap T0.hn hq).symm
 ctx_has v jT
 refine⟨λσ H'=>(∃Z v4,σ=[-p,-tn,-q,Z,v4,none,none,none]/\H' q<*(kvR (xsH cs))/\aj H H')/\∀x∈mS,x.1∈(dat (xsH cs)).map (·.1),?_,?_⟩
 .ctx_has v Ad e1
  refine⟨na,_,e2,_,e2,λo=>?_⟩
  refine bK wL (λi σ H'=>(∃Z,σ=[-p,-tn,-q,Z,v4,none,none,none])/\H' na=some (.frz o (.dK (kvS mS)))/\(∀x∈mS.take i,x.1∈(dat (xsH cs)).map (·.1))/\∀b u,b≠na->H2 b=some u->H' b=some u)
   ⟨⟨_,rfl⟩,ab,by simp,λb u hb e=>by rw[ai hb];exact e⟩ (λi σ H' aO=>by obtain⟨_,h,_⟩:=aO;exact(h)) ?_ ?_
  .rintro i x σ H3 hi U ⟨⟨Z,rfl⟩,h3n,hall,k3⟩
   obtain⟨y,hy,rfl⟩ : ∃y,mS[i]? = some y/\V.str y.1=x:=by
    unfold kvS at U;rw[e9,e9] at U;cases e:mS[i]? with
    | none=>rw[e] at U;cases U
    | some nm=>rw[e] at U;exact⟨nm,rfl,f_ U⟩
   have bs:=k3 q _ nq Y;ctx_has v bs
   refine cN (λh=>?_) (λh=>?_)
   .exact⟨⟨o,h3n⟩,k false _ (s2.trans (iM e2 k3)) ⟨λz=>(by cases z),λz=>absurd (cV.mpr (tP.mpr (z.1.1 y (i4 hy)))) (by rw[h];decide)⟩⟩
   .refine⟨h3n,λx U=>?_,k3⟩
    rw[i8,hy] at U;rcases j6.mp U with z | z
    .exact hall x z
    .rw[show x=y by simpa using z]
     exact tP.mp (cV.mp (by cases hv:(bg (kvR (xsH cs)) (e_ y.1)).isSome with | true=>rfl | false=>exact absurd hv h))
  .rintro σ H3 ⟨⟨Z,rfl⟩,h3n,hall,k3⟩
   have hl2:((kvS mS).map λx=>kV x.1).length=mS.length:=by unfold kvS;rw[a_,a_]
   rw[hl2,k9] at hall;have s3:=iM e2 k3;exact⟨⟨o,h3n⟩,⟨_,_,rfl,s3 _ _ Y,s2.trans s3⟩,hall⟩
 clear s2 Y e1 e2;rintro σ H3 ⟨⟨Z,v4,rfl,Y,s2⟩,bd⟩
 have e1:=s2 _ _ T0.ht;have nv:q≠va:=(ap T0.hv hq).symm
 ctx_has v jT
 refine⟨λσ H'=>(∃Z v4,σ=[-p,-tn,-q,Z,v4,none,none,none]/\aj H H')/\kR mS mI (dat (xsH cs)),?_,?_⟩
 .ctx_has v Ad
  refine⟨q,_,Y,_,Y,λo=>?_⟩
  refine bK wL (λi σ H'=>(∃Z,σ=[-p,-tn,-q,Z,v4,none,none,none])/\H' q=some (.frz o (.dK (kvR (xsH cs))))/\(∀x∈(dat (xsH cs)).take i,rH mS mI x∈dat (xsH cs))/\∀b u,b≠q->H3 b=some u->H' b=some u)
   ⟨⟨_,rfl⟩,ab,by simp,λb u hb e=>by rw[ai hb];exact e⟩ (λi σ H' ba=>by obtain⟨_,h,_⟩:=ba;exact(h)) ?_ ?_
  .rintro i x σ H4 hi U ⟨⟨Z,rfl⟩,h4q,hall,k4⟩
   obtain⟨y,hy,rfl⟩ : ∃y,cs[i]? = some y/\V.str y.2.1=x:=by
    unfold kvR xsH at U;rw[fx,fx,e9] at U;cases e:cs[i]? with
    | none=>rw[e] at U;cases U
    | some nm=>rw[e] at U;exact⟨nm,rfl,f_ U⟩
   have be:=k4 tn _ (bA e1 Y (by intro z;cases z)) e1
   ctx_has v G5 fL be
   have av:=i4 hy;have a9:((xsH cs).map (·.1)).Nodup:=by rw[fx];exact hH.nd
   have aQ:((dat (xsH cs)).map (·.1)).Nodup:=by rw[kX];exact a9
   have bb : ∀z∈cs,bg (kvR (xsH cs)) (e_ z.2.1)=some (.ref z.2.2.1):=λz hz=>jK (AY a9) (e7.mpr ⟨z.2,e7.mpr ⟨z,hz,rfl⟩,rfl⟩)
   have aK : ∀z∈cs,H4 z.2.2.1>>(z.2.2.2.map V.int):=λz hz=>by
    have:=s2 _ _ (hH.ca z hz).2
    exact k4 _ _ (bA this Y (by intro z;cases z)) this
   have bq:=k4 va _ nv.symm (s2 _ _ T0.hv);have bi:=k4 na _ nq.symm (s2 _ _ T0.hn);have bt:=hH.rl y av;refine⟨o,_,h4q,_,bb y av,_,_,rfl,.inr ⟨va,y.2.2.1,y.2.2.2,mI,rfl,bq,aK y av,bt,λpm H5 s5 h5=>⟨pm,rfl,_,h5,by rw[a_];omega,λq1 ms bk bz an=>⟨_,ab,λl hl=>?_⟩⟩⟩⟩
   have s6:aj H4 (upd (upd H5 q1 (.lst (ms.map V.int))) l (.tup (ms.map V.int))):=(s5.upd_new bk).upd_new hl
   have g6:upd (upd H5 q1 (.lst (ms.map V.int))) l (.tup (ms.map V.int)) l>>(ms.map V.int):=ab
   generalize upd (upd H5 q1 (.lst (ms.map V.int))) l (.tup (ms.map V.int))=G at s6 g6 ⊢;obtain⟨z,hz,ez⟩ : ∃z∈cs,z.2.1=ld mS y.2.1:=by
    have:=tQ T0.ps bd (c:=y.2.1) (by rw[aY];exact e7.mpr ⟨y,av,rfl⟩)
    rw[aY] at this;obtain⟨z,hz,e⟩:=e7.mp this;exact⟨z,hz,e⟩
   have aW:ms=srt (y.2.2.2.map (ld mI)):=Bx bz an
   have bf:(z.2.1,z.2.2.2)∈dat (xsH cs):=e7.mpr ⟨z.2,e7.mpr ⟨z,hz,rfl⟩,rfl⟩
   have aP:(dat (xsH cs))[i]? = some (y.2.1,y.2.2.2):=by unfold dat xsH;rw[fx,e9,hy];rfl
   refine⟨_,s6 _ _ be,_,rfl,na,rfl,.inl ⟨_,.inl (s6 _ _ bi)⟩,_,.inl ⟨_,e_ y.2.1,.inl (s6 _ _ bi),rfl,rfl⟩,e_ (ld mS y.2.1),by rw[BO];rfl,o,_,s6 _ _ h4q,.ref z.2.2.1,by rw[<- ez];exact bb z hz,gF ms,gF z.2.2.2,.tup (.of g6) (cC.ints _),.tup (.of (s6 _ _ (aK z hz))) (cC.ints _),fA _,fA _,le_trans (ja _) ∅,_,rfl,?_⟩
   rw[sV]
   by_cases aw:ms=z.2.2.2
   .rw[decide_eq_true aw,if_neg ∅]
    refine⟨s6 _ _ h4q,λx U=>?_,λb u hb e=>s6 _ _ (k4 b u hb e)⟩
    rw[i8,aP] at U;rcases j6.mp U with w | w
    .exact hall x w
    .rw[show x=(y.2.1,y.2.2.2) by simpa using w]
     show(ld mS y.2.1,srt (y.2.2.2.map (ld mI)))∈_
     rw[<- aW,aw,<- ez];exact bf
   .rw[decide_eq_false aw,if_pos ∅]
    refine⟨⟨o,s6 _ _ h4q⟩,k false _ (s2.trans (iM Y λb u hb e=>s6 _ _ (k4 b u hb e))) ⟨λz=>(by cases z),λw=>absurd ?_ aw⟩⟩
    have hm:=w.1.2 _ (i4 aP);have e1:lk (dat (xsH cs)) (ld mS y.2.1)=srt (y.2.2.2.map (ld mI)):=xA aQ hm
    have e2:lk (dat (xsH cs)) z.2.1=z.2.2.2:=xA aQ bf
    rw[aW,<- e1,<- ez,e2]
  .rintro σ H4 ⟨⟨Z,rfl⟩,h4q,hall,k4⟩
   have hl2:((kvR (xsH cs)).map λx=>kV x.1).length=(dat (xsH cs)).length:=by unfold kvR dat;simp
   rw[hl2,k9] at hall;exact⟨⟨o,h4q⟩,⟨_,_,rfl,s2.trans (iM Y k4)⟩,bd,hall⟩
 clear s2 Y e1;rintro σ H4 ⟨⟨Z,v4,rfl,s4⟩,bm⟩
 have e1:=s4 _ _ h1;ctx_has v e1
 have W4:=hH.wa.same s4;have aI:=hH.wa.len;have b2:=hH.wa.ln;refine⟨us,W4.ht,λD hD=>?_⟩
 have bj:=s4.free hD;refine bL aT (λj ys H'=>∃ps:List (Addr × Wx),ys=ps.map (λx=>V.ref x.1)/\ps.map (·.2)=(Ws.take j).map dO/\lG H' ps/\H' D*>ys/\aj H4 H') ⟨[],rfl,by simp,(λx U=>by cases U),ab,aj.upd0 hD⟩ (λj ys H' aD=>by obtain⟨_,_,_,_,_,s⟩:=aD;exact(.of (s _ _ W4.ht))) ?_ ?_
 .rintro j x ys H5 hj U ⟨ps,rfl,hps,an,h5,s5⟩
  obtain⟨wv,W,rfl,ax,a8,hm⟩:=(W4.same s5).at U;ctx_has v
  refine jx ((tb.same s4).same s5) a8 (hH.wa.ok W hm) λr H6 s6 h6=>?_
  have aq:=s6 _ _ h5;have a4:ps.length=j:=by
   have:=congrArg u8 hps
   rw[a_,a_,pk] at this;omega
  refine⟨aq,by rw[a_];exact au (),ps++[(r,dO W)],by simp,by rw[ii,hps,i8,ax,ii];rfl,λx U=>?_,ab,(s5.trans s6).putN hD⟩
  rcases j6.mp U with z | z
  .exact((an.keep λa xs e=>s6 _ _ e).keep (cz aq)) x z
  .rw[g7.mp z]
   exact⟨bF h6 (cz aq),vI hH.wa.nm (hH.wa.ok W hm)⟩
 rintro ys H5 ⟨a1,rfl,ar,aZ,br,s5⟩
 rw[aI,k9] at ar;have bv:=s5 _ _ e1;have bw:=s4.trans s5;have bo:pD a1=Ws.map dP:=by
  show a1.map (λx=>cm x.2)=_
  have:=congrArg (J0 cm) ar
  rw[fx,fx] at this;exact this
 have b4:a1.length=Ws.length:=by have:=congrArg u8 ar;simpa using this
 ctx_has v bv
 have W5:=W4.same s5;refine⟨us,W5.ht,?_⟩
 refine bK aT (λi σ H'=>∃v6 v7 ps Vs,σ=[-p,-tn,-q,Z,v4,-D,v6,v7]/\H' D*>(ps.map λx:Addr × Wx=>V.ref x.1)/\lG H' ps/\(Ws.take i).map (bG mS mI)=Vs.map some/\(∀d,cn (Vs.map dP) d+cn (pD ps) d=cn (Ws.map dP) d)/\ps.length<=40/\aj H H')
  ⟨_,_,a1,[],rfl,br,aZ,by simp,(λd=>by rw[bo,KF,pS,Nat.zero_add]),(),bw⟩ (λi σ H' aR=>by obtain⟨_,_,_,_,_,_,_,_,_,_,s⟩:=aR;exact(.of (s _ _ hH.wa.ht))) ?_ ?_
 .rintro i x σ H6 hi U ⟨v6,v7,ps,Vs,rfl,aq,an,hV,hcn,a4,s6⟩
  obtain⟨wv,W,rfl,ax,a8,hm⟩:=(hH.wa.same s6).at U;have eT:(Ws.take (i+1)).map (bG mS mI)=Vs.map some++[bG mS mI W]:=by rw[i8,ax,ii,hV];rfl
  ctx_has v
  refine BQ (T0.same s6) a8 (tK (hH.wa.ok W hm)) λv H7 s7 hv=>?_
  have a2:=s6.trans s7;have b0:=s7 _ _ aq;cases ht:bG mS mI W with
  | none =>
   rw[ht] at hv;cases (show v = .non from hv)
   ctx_has v
   exact k false H7 a2 ⟨λz=>(by cases z),λz=>absurd ht (uf z.2 ax)⟩
  | some Vt =>
   rw[ht] at hv eT;obtain⟨wt,rfl,aS⟩:=hv;have a3:=hT.ok W hm Vt ht;have ad:=vI hT.nm a3;have bh:(Ws.take (i+1)).map (bG mS mI)=(Vs++[Vt]).map some:=by rw[eT,ii];rfl
   have ec:((Vs++[Vt]).map dP)=Vs.map dP++[dP Vt]:=by rw[ii];rfl
   ctx_has v
   refine jx (tb.same a2) aS a3 λr H8 s8 h8=>?_
   have a0:=(an.keep λa xs e=>s7 _ _ e).keep λa xs e=>s8 _ _ e
   obtain⟨rp,ly⟩:=a0.reps (K:=K);have a5:=s8 _ _ b0;have a7:=a2.trans s8;have aN:(dP Vt).canLay0=true:=fb _ ad.1
   refine⟨dP Vt,pD ps,ml h8,.lst (.of a5) rp,aN,ly,le_trans ad.2 ∅,_,rfl,?_⟩
   rw[if_pos rfl];cases hi:inD (dP Vt) (pD ps) with
   | false =>
    rw[if_pos ∅]
    refine k false H8 a7 ⟨λz=>(by cases z),λz=>?_⟩
    have h1:=yF z.2 bh (dP Vt);rw[ec,kI,if_pos rfl] at h1;have h2:=hcn (dP Vt);have h3 : ¬ 0 < cn (pD ps) (dP Vt):=λq=>by rw[(Ea a0 ad).mpr q] at hi;cases hi
    omega
   | true =>
    rw[if_neg ∅]
    refine⟨⟨_,a5⟩,jx (tb.same a7) (bF aS λa xs e=>s8 _ _ e) a3 λr2 H9 s9 h9=>?_⟩
    have a6:=a0.keep λa xs e=>s9 _ _ e
    obtain⟨bn,bx⟩:=a6.reps (K:=K);have aX:=s9 _ _ a5;obtain⟨j,j1,j2,j3,j4⟩:=vt a6 ad ((Ea a0 ad).mp hi);refine⟨r2,rfl,_,aX,pD ps,bn,bx,dP Vt,ml h9,aN,le_trans ad.2 ∅,j,j1,j2,j3,ps.eraseIdx j,by rw[ab,iG],?_,Vs++[Vt],bh,λd=>?_,le_trans (List.length_eraseIdx_le _ _) a4,(a7.trans s9).putN bj⟩
    .exact λx U=>(a6.keep (cz aX)) x (List.mem_of_mem_eraseIdx U)
    .rw[ec,kI]
     have h1:=hcn d;have h2:=j4 d;omega
 .rintro σ H6 ⟨v6,v7,ps,Vs,rfl,aq,an,hV,hcn,a4,s6⟩
  rw[aI,k9] at hV;ctx_has v
  exact k true H6 s6 ⟨λ_=>⟨bm,Vs,hV,λd=>by have:=hcn d;omega⟩,λ_=>rfl⟩
theorem DJ (m:List (Key × Key)) (k:Key):(bg (kvK m) k).getD (kV k)=kV (ld m k):=by
 unfold ld
 induction m with
 | nil=>rfl
 | cons x m z =>
  by_cases h:x.1=k
  .rw[show kvK (x :: m)=(x.1,kV x.2) :: kvK m from rfl,bi h,xq]
   simp[h]
  .rw[show kvK (x :: m)=(x.1,kV x.2) :: kvK m from rfl,aS h,xq]
   simp only[h,decide_false];exact z
def Dr:Sp:=λvs H Q _=>∃(a:Addr) (m:List (Key × Key)) (z:Key),vs=[.ref a,kV z]/\H a<*(kvK m)/\PM m/\m.length<=40 /\
 ∀(p:Addr) (fs:List Key) (H':Hp),H p=none->aj H H'->H' p*>(fs.map kV)->z∈fs->fs.Nodup->(∀x∈fs,x=z\/x∈m.map (·.1))->fs.length<=41->Q (.ref p) H'
theorem iB {α:Type} [DecidableEq α] : ∀{xs ys:List α},xs.Nodup->(∀x∈xs,x∈ys)->xs.length<=ys.length
 | [],_,_,_=>r_ _
 | x :: xs,ys,hn,h=>by
  rw[w5] at hn;have z:=h x (by simp)
  have:=iB (xs:=xs) (ys:=ys.erase x) hn.2 λy U=>(List.mem_erase_of_ne (λe=>hn.1 (by rw[<- e];exact U))).mpr (h y (by simp[U]))
  rw[List.length_erase_of_mem z] at this;have:=List.length_pos_of_mem z
  simp
  omega
structure jC (m:List (Key × Key)) (k0:Key) (l0:List Key) (x:Key):Prop where
 nd:(l0++[x]).Nodup
 hm:k0∈l0++[x]
 fr : ∀y∈l0++[x],y=k0\/∃z∈l0,ld m z=y
 ks : ∀y∈l0++[x],y=k0\/y∈m.map (·.1)
theorem jC.next (Z:PM m) {Y x:Key} {l0:List Key} (r:jC m Y l0 x) (h:ld m x≠Y):jC m Y (l0++[x]) (ld m x) where
 nd:=by
  rw[x_];refine⟨r.nd,by simp,λy U z hz e=>?_⟩
  rw[g7.mp hz] at e;rcases r.fr y U with q | ⟨u,hu,q⟩
  .exact h (e.symm.trans q)
  .have:u=x:=iH Z (q.trans e)
   have hn:=r.nd;rw[x_] at hn;exact hn.2.2 u hu x (by simp) this
 hm:=t6 _ r.hm
 fr:=λy U=>by
  rcases j6.mp U with q | q
  .rcases r.fr y q with e | ⟨u,hu,e⟩
   .exact .inl e
   .exact .inr ⟨u,t6 _ hu,e⟩
  .exact .inr ⟨x,by simp,(g7.mp q).symm⟩
 ks := λy U=>by
  rcases j6.mp U with q | q
  .exact r.ks y q
  .rw[g7.mp q]
   by_cases hx:x∈m.map (·.1)
   .exact .inr (rP Z hx)
   .rw[gw hx] at h ⊢
    exact r.ks x (by simp)
theorem jC.len {z x:Key} (r:jC m z l0 x):(l0++[x]).length<=m.length+1:=by
 have:=iB (ys:=z :: m.map (·.1)) r.nd λy U=>by
  rcases r.ks y U with e | e
  .rw[e];simp
  .exact j9 _ e
 simpa using this
theorem Ch (a b:Key):qG (kV a) (kV b)=true:=by cases a <;> cases b <;> rfl
theorem Ek {a b:Key}:kV a=kV b↔a=b:=⟨λh=>by cases a <;> cases b <;> cases h <;> rfl,λh=>by rw[h]⟩
abbrev HE:=Fn P w K mg base "_law_round" 1 ["_law_leads_here","_law_thing"] (Dr)
theorem qA (T:Txt w K mg base) (L:FnL K mg "_law_round" gB ["_law_leads_here","_law_thing"]) : @HE P w K mg base:=by
 ctx_has z pY <;> obtain⟨a,m,Z,rfl,ha,hp,hl,k⟩:=h
 .rfl
 refine⟨_,(af (aB 2 (ba (aa (pvM 1) ac)))
  (af (fZ JV (ay Be (eA hu (pvM 0) (ak dE (pvM 2) (ji fW ae)) (ak dE (pvM 2) (ji fW ae)) ⟨rfl,rfl,rfl,rfl⟩) (pvM 1)) (ag (bu (cA l5 l7 bo (pvM 2) (aa (eA hu (pvM 0) (ak dE (pvM 2) (ji fW ae)) (ak dE (pvM 2) (ji fW ae)) ⟨rfl,rfl,rfl,rfl⟩) ac)))))
  (ag (aC (pvM 2))))),?_⟩
 ctx_has v
 refine⟨∅,λp ad=>?_⟩
 have s0:=aj.upd0 (o:=.lst [kV Z]) ad;refine gb (λμ σ H'=>∃l0 x,σ=[-a,some (kV Z),-p]/\H' p*>((l0++[x]).map kV)/\jC m Z l0 x/\aj H H'/\μ=m.length+1 - (l0++[x]).length)
  (λσ H'=>∃l0 x,σ=[-a,some (kV Z),-p]/\H' p*>((l0++[x]).map kV)/\jC m Z l0 x/\aj H H') ?_ ?_ ?_
 .exact⟨_,[],Z,rfl,ab,⟨by simp,by simp,λy hy=>.inl (by simpa using hy),λy hy=>.inl (by simpa using hy)⟩,s0,rfl⟩
 .rintro R hR μ σ H2 ⟨l0,x,rfl,h2,hr2,s2,rfl⟩
  have U:=s2 _ _ ha;have Y:atI ((l0++[x]).map kV) (-1)=some (kV x):=by rw[ii];exact nY _ _
  ctx_has v fL h2
  refine⟨.inl ⟨_,.inl U⟩,_,Y,_,Y,_,.inl ⟨_,x,.inl U,rfl,rfl⟩,?_⟩
  rw[DJ];refine⟨Ch _ _,?_⟩
  by_cases e:ld m x=Z
  .rw[if_neg (by rw[decide_eq_true (Ek.mpr e)];decide)]
   exact hR _ _ ⟨l0,x,rfl,h2,hr2,s2⟩
  .rw[if_pos (decide_eq_false (λz=>e (Ek.mp z)))]
   have hn:=hr2.next hp e;have hl1:=hn.len;have hl2:(l0++[x]++[ld m x]).length=(l0++[x]).length+1:=by simp
   refine⟨λσ' H'=>σ'=[-a,some (kV Z),-p]/\H' p*>((l0++[x]++[ld m x]).map kV)/\aj H H',?_,.inl ⟨_,.inl U⟩,_,Y,_,Y,_,.inl ⟨_,x,.inl U,rfl,rfl⟩,by rw[a_];exact au (),?_⟩
   .rintro σ' H' ⟨rfl,h3,s3⟩
    exact⟨_,(),rfl,l0++[x],ld m x,h3,hn,s3,rfl⟩
   .rw[DJ]
    exact⟨rfl,by rw[ab,ii (l₁:=l0++[x])];rfl,s2.putN ad⟩
 .rintro σ H2 ⟨l0,x,rfl,h2,hr2,s2⟩
  ctx_has v
  exact k p _ H2 ad s2 h2 hr2.hm hr2.nd hr2.ks (by have:=hr2.len;omega)
def dZ (ns r:List Int):Prop:=r≠[]/\r.length<=20/\r.Pairwise (· < ·)/\∀v∈r,v∈ns
def lT (H:Hp) (kvs:List (Key × V)) (ws:List Str) (ns:List Int):Prop:=∀p∈kvs,∃c a r,p=(e_ c,.ref a)/\c∈ws/\H a>>(r.map V.int)/\dZ ns r
theorem lT.keep (h:lT H kvs ws ns) (k : ∀a xs,H a>>xs->H' a>>xs):lT H' kvs ws ns:=λp U=>by
 obtain⟨c,a,r,e,h1,h2,z⟩:=h p U;exact⟨c,a,r,e,h1,k _ _ h2,z⟩
theorem lT.put (h:lT H kvs ws ns) {c:Str} {a:Addr} {r:List Int} (U:c∈ws) (Z:H a>>(r.map V.int)) (Y:dZ ns r):lT H (bj kvs (e_ c) (.ref a)) ws ns:=λp z=>by
 unfold bj at z
 split at z
 .obtain⟨x,hx,rfl⟩:=e7.mp z
  split
  .rename_i e
   exact⟨c,a,r,by rw[<- e],U,Z,Y⟩
  .exact h x hx
 .rcases j6.mp z with q | q
  .exact h p q
  .rw[g7.mp q]
   exact⟨c,a,r,rfl,U,Z,Y⟩
theorem el {k:Key} {v:V} : ∀x,x∈(bj kvs k v).map (·.1)↔x=k\/x∈kvs.map (·.1):=λx=>by
 rw[<- cV,nF,<- cV]
 by_cases h:x=k
 .rw[if_pos h];simp[h]
 .rw[if_neg h];simp[h]
theorem EV {k:Key} {v:V} (h:(kvs.map (·.1)).Nodup):((bj kvs k v).map (·.1)).Nodup:=by
 by_cases z:bg kvs k=none
 .exact De v h z
 .unfold bj
  rw[if_pos]
  .rw[fx]
   have:((λx:Key × V=>x.1) ∘ λkv:Key × V=>if kv.1=k then(kv.1,v) else kv)=λx=>x.1:=by
    funext x
    show(if x.1=k then(x.1,v) else x).1=x.1
    split <;> rfl
   rw[this];exact h
  .have hm:k∈kvs.map (·.1):=cV.mp (by cases U:bg kvs k with | none=>exact absurd U z | some _=>rfl)
   obtain⟨x,Y,e⟩:=e7.mp hm;exact Ke.mpr ⟨x,Y,decide_eq_true e⟩
theorem EG {m:List (Str × Str)} (h:PM m):PM (upS m):=by
 refine⟨?_,?_⟩
 .have:(upS m).map (·.1)=(m.map (·.1)).map e_:=by unfold upS;rw[fx,fx];rfl
  rw[this];exact l9.mpr (h.1.imp λne e=>ne (I_ e))
 .have e1:(upS m).map (·.1)=(m.map (·.1)).map e_:=by unfold upS;rw[fx,fx];rfl
  have e2:(upS m).map (·.2)=(m.map (·.2)).map e_:=by unfold upS;rw[fx,fx];rfl
  rw[e1,e2];exact h.2.map _
theorem GI {m:List (Int × Int)} (h:PM m):PM (upI m):=by
 refine⟨?_,?_⟩
 .have:(upI m).map (·.1)=(m.map (·.1)).map i9:=by unfold upI;rw[fx,fx];rfl
  rw[this];exact l9.mpr (h.1.imp λne e=>ne (Jz e))
 .have e1:(upI m).map (·.1)=(m.map (·.1)).map i9:=by unfold upI;rw[fx,fx];rfl
  have e2:(upI m).map (·.2)=(m.map (·.2)).map i9:=by unfold upI;rw[fx,fx];rfl
  rw[e1,e2];exact h.2.map _
theorem F8 {c:Str} (U:c∈ws) (Y : ∀x∈mS,x.1∈ws) (h : ∀x∈fs,x=e_ c\/x∈(upS mS).map (·.1)) : ∀x∈fs,∃s∈ws,x=e_ s:=λx Z=>by
 rcases h x Z with e | e
 .exact⟨c,U,e⟩
 .obtain⟨y,hy,rfl⟩:=e7.mp e
  obtain⟨z,hz,rfl⟩:=e7.mp hy;exact⟨z.1,Y z hz,rfl⟩
theorem Gs {v:Int} (hv:v∈ns) (Z : ∀x∈mI,x.1∈ns) (hn:fs.Nodup) (h : ∀x∈fs,x=i9 v\/x∈(upI mI).map (·.1)) : ∃is:List Int,fs=is.map i9/\is.Nodup/\∀i∈is,i∈ns:=by
 induction fs with
 | nil=>exact⟨[],rfl,by simp,by simp⟩
 | cons x fs ih =>
  rw[w5] at hn;obtain⟨is,rfl,h1,h2⟩:=ih hn.2 λy U=>h y (by simp[U])
  obtain⟨i,hi,rfl⟩ : ∃i∈ns,x=i9 i:=by
   rcases h x (by simp) with e | e
   .exact⟨v,hv,e⟩
   .obtain⟨y,U,rfl⟩:=e7.mp e
    obtain⟨z,hz,rfl⟩:=e7.mp U;exact⟨z.1,Z z hz,rfl⟩
  refine⟨i :: is,rfl,w5.mpr ⟨λz=>hn.1 (e7.mpr ⟨i,z,rfl⟩),h1⟩,λj Y=>?_⟩
  rcases i6.mp Y with rfl | Y
  .exact hi
  .exact h2 j Y
theorem ud {r:List Int} (h:r.Pairwise (·<=·)) (hn:r.Nodup):r.Pairwise (· < ·):=by
 induction r with
 | nil=>exact .nil
 | cons a r U =>
  rw[List.pairwise_cons] at h ⊢;rw[w5] at hn;exact⟨λb z=>by
   have:=h.1 b z
   have ne:a≠b:=λe=>hn.1 (e ▸ z)
   omega,U h.2 hn.2⟩
theorem AZ {r:List Int} (h:r.Pairwise (· < ·)):r.Nodup:=h.imp λh=>by omega
theorem zy (z:PM mI) {ns r:List Int} (Z : ∀x∈mI,x.1∈ns) (h:dZ ns r):dZ ns (srt (r.map (ld mI))):=by
 have pm:=iy (r.map (ld mI));refine⟨λe=>?_,by rw[pm.length_eq,a_];exact h.2.1,ud (mN _) (pm.nodup_iff.mpr (l9.mpr ((AZ h.2.2.1).imp λne e=>ne (iH z e)))),λv Y=>?_⟩
 .have:=pm.length_eq
  rw[e,a_] at this;exact h.1 (JC.mp this.symm)
 .obtain⟨x,hx,rfl⟩:=e7.mp (pm.mem_iff.mp Y)
  by_cases U:x∈mI.map (·.1)
  .obtain⟨y,hy,e⟩:=e7.mp (rP z U)
   rw[<- e];exact Z y hy
  .rw[gw U];exact h.2.2.2 x hx
def FJ (j:Nat) (is ns:List Int):Prop:=(j=0->is=[])/\(j=1->is≠[]/\is.Nodup/\∀i∈is,i∈ns)
theorem Eo {q:Addr} (D:aD H d l) (z:q≠d/\q≠l) (k : ∀b u,b≠q->H b=some u->H' b=some u):aD H' d l:=by
 obtain⟨m,U,n,xs,Y,hl,r⟩:=D.ex;exact⟨⟨m,U,n,xs,k _ _ z.1.symm Y,k _ _ z.2.symm hl,r⟩⟩
theorem sO (h:H p<*kvs) : ∀a xs,H a>>xs->upd H p o a>>xs:=λa xs e=>by
 rw[ai (bA e h (by intro z;cases z))];exact e
structure mv (H:Hp) (d l a pa t na va:Addr) (ws:List Str) (ns:List Int) (mS:List (Str × Str)) (mI:List (Int × Int)):Prop where
 D:aD H d l
 n1:a≠d/\a≠l
 n2:pa≠d/\pa≠l
 n3:na≠d/\na≠l
 n4:va≠d/\va≠l
 ha:H a*>(ws.map V.str)
 hp:H pa*>(ns.map V.int)
 T:ce H t na va mS mI
 ms : ∀x∈mS,x.1∈ws
 mi : ∀x∈mI,x.1∈ns
 wn:ws≠[]
 nd:ws.Nodup
 wl:ws.length<=12
 n5:ns.length=5
 pw:ns.Pairwise (· < ·)
 nb : ∀x∈ns,-1000000<=x/\x<=1000000
 nm : ∀c∈ws,cD c
theorem mv.but (h:mv H d l a pa t na va ws ns mS mI) (D:aD H' d l) (B:But d l H H'):mv H' d l a pa t na va ws ns mS mI :=
 ⟨D,h.n1,h.n2,h.n3,h.n4,B _ _ h.n1.1 h.n1.2 h.ha,B _ _ h.n2.1 h.n2.2 h.hp,⟨B.tup h.D h.T.ht,B _ _ h.n3.1 h.n3.2 h.T.hn,B _ _ h.n4.1 h.n4.2 h.T.hv,h.T.ps,h.T.pi,h.T.ls,h.T.li⟩,h.ms,h.mi,h.wn,h.nd,h.wl,h.n5,h.pw,h.nb,h.nm⟩
theorem mv.same {H H':Hp} {d l a pa t na va:Addr} {ws:List Str} {ns:List Int} {mS:List (Str × Str)} {mI:List (Int × Int)} (h:mv H d l a pa t na va ws ns mS mI) (s:aj H H'):mv H' d l a pa t na va ws ns mS mI:=h.but (h.D.same s) ((But.refl H).same s)
def IG:Sp:=λvs H Q _=>∃(d l a pa t na va:Addr) (ws:List Str) (ns:List Int) (mS:List (Str × Str)) (mI:List (Int × Int)),vs=[.ref d,.ref a,.ref pa,.ref t]/\mv H d l a pa t na va ws ns mS mI /\
 ∀(r:Addr) (kvs:List (Key × V)) (H':Hp),H r=none->H' r<*kvs->lT H' kvs ws ns->(∀c∈ws,e_ c∈kvs.map (·.1))->kvs.length<=12->aD H' d l->But d l H H'->Q (.ref r) H'
abbrev Hu:=Fn P w K mg base "_law_even_rooms" 4 ["_law_deal_here","_law_names_here","_law_pool_here","_law_turning"] (IG)
theorem jJ (T:Txt w K mg base) (L:FnL K mg "_law_even_rooms" dA ["_law_deal_here","_law_names_here","_law_pool_here","_law_turning"]) (bE : @Dz4 P w K mg base) (FK : @HE P w K mg base) (Fc : @At P w K mg base) : @Hu P w K mg base:=by
  ctx_has z jt <;> obtain⟨d,l,a,pa,t,na,va,ws,ns,mS,mI,rfl,E0,k⟩:=h
  . rfl
  refine⟨_,(af (aB 4 cj)
    (af (bc (dg (K:=K) rfl (pvM 1)) (az 5) (ag (aJ (fV (oh hu (pvM 5) (pvM 4))) (af (aB 6 (ah FK (aa (ak ao (pvM 3) ae) (aa (pvM 5) ac))))
    (af (aB 7 (dY hu (ah bE (aa (pvM 0) (aa (ba (aa (pvM 5) ac)) (aa (pvM 2) (aa ae ac))))) (pvM 5)))
    (af (aB 8 (pvM 7))
    (bO (bc (dg (K:=K) rfl (pvM 6)) (az 9) (ag (aB 8 (aG aM T.b_tuple (aa (aF gJ T.b_sorted (aa (ah Fc (aa (ak ao (pvM 3) ae) (aa (pvM 8) ac))) ac)) ac)))))
    (bO (aJ (ay (jr (iw hr)) (pvM 8) (pvM 7)) (af (aB 10 (ba ac))
    (af (bc (bR K (bI nM (pvM 7) cb (bP ae))) (az 11) (ag (aB 10 (aO sP (pvM 10) (ah FK (aa (ak ao (pvM 3) ae) (aa (pvM 11) ac)))))))
    (ag (aB 7 (aG aM T.b_tuple (aa (aF me T.b_sorted (aa (pvM 10) ac)) ac)))))) aA)
    (ag (bc (dg (K:=K) rfl (pvM 6)) (az 9) (af (fH hu (pvM 4) (pvM 9) (pvM 7) rfl)
    (ag (aB 7 (aG aM T.b_tuple (aa (aF gJ T.b_sorted (aa (ah Fc (aa (ak ao (pvM 3) ae) (aa (pvM 7) ac))) ac)) ac)))))))))))) aA)))
    (ag (aC (pvM 4))))),?_⟩
  have h1:=E0.ha;ctx_has v
  intro q hq;have nq:=E0.D.ne hq;have B0:But d l H (upd H q (.dK [])):=(But.refl H).new hq
  refine⟨_,by rw[ai (ap h1 hq)];exact h1,?_⟩
  refine bK bz (λi σ H'=>∃v5 v6 v7 v8 v9 Y U kvs,σ=[-d,-a,-pa,-t,-q,v5,v6,v7,v8,v9,Y,U]/\H' q<*kvs/\lT H' kvs ws ns/\(∀c∈ws.take i,e_ c∈kvs.map (·.1))/\(kvs.map (·.1)).Nodup/\aD H' d l/\But d l H H')
    ⟨_,_,_,_,_,_,_,[],rfl,ab,(λp hp=>by cases hp),by simp,by simp,E0.D.new hq,B0⟩ (λi σ H' bf=>by obtain⟨_,_,_,_,_,_,_,_,_,_,_,_,_,_,B⟩:=bf;exact(.of (B _ _ E0.n1.1 E0.n1.2 h1))) ?_ ?_
  . rintro i x σ H2 hi hx ⟨v5,v6,v7,v8,v9,Y,U,kvs,rfl,a2,aw,a1,a8,D2,B2⟩
    obtain⟨c,hc,rfl⟩ : ∃c,ws[i]? = some c/\V.str c=x:=by
      rw[e9] at hx;cases e:ws[i]? with
      | none=>rw[e] at hx;cases hx
      | some nm=>rw[e] at hx;exact⟨nm,rfl,f_ hx⟩
    have bV:=i4 hc;have E2:=E0.but D2 B2;have e1:=E2.T.ht;have e2:=E2.T.hn;ctx_has v a2 jT
    refine cN (λh=>?_) (λh=>?_)
    . ctx_has v e1
      refine⟨na,upS mS,e_ c,rfl,by rw[Ei];exact e2,EG E2.T.ps,by unfold upS;rw[a_];exact E2.T.ls,λrg fs H3 bm s3 h3 bv ck b3 cf=>⟨∅,λp ax=>?_⟩⟩
      have bN:=F8 bV E0.ms b3;have E3:=E2.same s3;have np:=E3.D.ne ax;refine⟨d,l,p,pa,[c],ns,3,rfl,E3.D.new ax,np,E3.n2,ab,by simp,by rw[ai (ap E3.hp ax)];exact E3.hp,E3.n5,E3.pw,∅,∅,λrr bH rm H4 ce bT bS bw ca ci D4 B4=>⟨rr,rfl,bH,bT,?_⟩⟩
      obtain⟨ar,bq,a6⟩:=bS c (by simp)
      have a7:dZ ns (rm c):=by
        obtain⟨g1,g2,g3,g4⟩:=bw c (by simp)
        exact⟨g1,(),g3,g4⟩
      have aH:But d l H2 H4:=(((But.refl H2).same s3).new ax).trans B4
      have E4:=E2.but D4 aH;have bb:=E2.D.ne bm;have aI:=B4 rg _ bb.1 bb.2 (by rw[ai (ap h3 ax)];exact h3)
      have bx:=aH q _ nq.1 nq.2 a2;have aS:=aw.keep λb xs e=>aH.tup D2 e
      have aR:=E4.T.ht;have aL:=E4.T.hv;refine⟨.ref ar,bq,λσ H'=>∃Z r8 v9,σ=[-d,-a,-pa,-t,-q,some (.str c),-rg,-ar,-Z,v9,Y,U]/\H' Z>>(J0 V.int r8)/\aj H4 H',?_,?_⟩
      . refine⟨_,aI,?_⟩
        refine bK bz (λj σ H'=>∃Z r8 v9,σ=[-d,-a,-pa,-t,-q,some (.str c),-rg,-ar,-Z,v9,Y,U]/\H' Z>>(J0 V.int r8)/\r8.length<=20/\aj H4 H') ⟨ar,rm c,_,rfl,a6,a7.2.1,aj.refl _⟩ (λj σ H' bi=>by obtain⟨_,_,_,_,_,_,s⟩:=bi;exact(.of (s _ _ aI))) ?_ ?_
        . rintro j x σ H5 hj bY ⟨Z,r8,v9,rfl,h5,b9,s5⟩
          have b7:=s5 _ _ aR;ctx_has v b7
          refine⟨_,_,rfl,.inr ⟨va,Z,r8,mI,rfl,s5 _ _ aL,h5,(),λpm H6 s6 h6=>⟨pm,rfl,_,h6,by rw[a_];omega,λq1 ms av ad a4=>⟨_,ab,λz hz=>?_⟩⟩⟩⟩
          have b0:=ad.length_eq;rw[a_] at b0;exact⟨ms,ab,(),((s5.trans s6).upd_new av).upd_new hz⟩
        . rintro σ H5 ⟨Z,r8,v9,rfl,h5,b9,s5⟩
          exact⟨_,_,_,rfl,h5,s5⟩
      rintro σ H5 ⟨Z,r8,v9,rfl,h5,s5⟩
      refine⟨λσ H'=>∃an r' v8 v9 Y U,σ=[-d,-a,-pa,-t,-q,some (.str c),-rg,-an,v8,v9,Y,U]/\H' an>>(J0 V.int r')/\dZ ns r'/\aj H4 H',?_,?_⟩
      . ctx_has v
        refine⟨gF r8,gF (rm c),.tup (.of h5) (cC.ints _),.tup (.of (s5 _ _ a6)) (cC.ints _),fA _,fA _,le_trans (ja _) ∅,_,rfl,?_⟩
        refine cN (λhy=>?_) (λhy=>?_)
        . refine⟨∅,λp6 b2=>?_⟩
          have s6:=s5.upd_new (o:=.lst []) b2;have g6:upd H5 p6 (.lst []) p6*>[]:=ab
          refine⟨_,s6 _ _ a6,λp7 H7 h7 s7=>⟨_,h7,?_⟩⟩
          have aP:=s6.trans s7;obtain⟨v0,rest,e0⟩ : ∃v0 rest,rm c=v0 :: rest:=by
            cases e:rm c with
            | nil=>exact absurd e a7.1
            | cons v0 rest=>exact⟨v0,rest,rfl⟩
          have bQ:v0∈ns:=a7.2.2.2 v0 (by rw[e0];simp)
          have bh:dM ((rm c).map V.int) none (some 1)=[V.int v0]:=by
            have:=iN V.int (rm c) 1
            rw[e0] at this ⊢;exact this
          rw[bh] at h7;refine bK aT (λj σ H'=>∃fl is U,σ=[-d,-a,-pa,-t,-q,some (.str c),-rg,-ar,-Z,v9,-fl,U]/\H' fl*>(J0 V.int is)/\FJ j is ns/\aj H7 H')
            ⟨p6,[],_,rfl,s7 _ _ g6,⟨λ_=>rfl,λz=>by omega⟩,aj.refl _⟩ (λj σ H' be=>by obtain⟨_,_,_,_,_,_,s⟩:=be;exact(.of (s _ _ h7))) ?_ ?_
          . rintro j x σ H8 hj bo ⟨fl,is,U,rfl,h8,⟨bk,bp⟩,s8⟩
            obtain rfl:j=0:=by simp at hj;omega
            obtain rfl:=bk rfl
            simp at bo
            subst bo;have bU:=s8 _ _ (aP _ _ aR);have b6:=s8 _ _ (aP _ _ aL);ctx_has v bU
            refine⟨va,upI mI,i9 v0,rfl,by rw[AG];exact b6,GI E2.T.pi,by unfold upI;rw[a_];exact E2.T.li,λaW bZ H9 bX s9 h9 aU b8 bu bG=>?_⟩
            obtain⟨is,rfl,br,bM⟩:=Gs bQ E0.mi b8 bu;have bL:H9 aW*>(is.map V.int):=by rw[h9,fx];rfl
            rw[a_] at bG;refine⟨aW,rfl,_,s9 _ _ h8,_,bL,by simp;exact ot (au ()),λz hz=>⟨is,ab,⟨λz=>by omega,λ_=>⟨λe=>?_,br,bM⟩⟩,(s8.trans s9).upd_new hz⟩⟩
            rw[e] at aU;cases aU
          . rintro σ H8 ⟨fl,is,U,rfl,h8,⟨bk,bp⟩,s8⟩
            obtain⟨i1,i2,i3⟩:=bp rfl;have cg:=iB i2 i3;have h5:=E0.n5;ctx_has v h8
            refine⟨is,rfl,(),λq1 ms av ad a4=>⟨_,ab,λz hz=>⟨ms,ab,⟨λe=>?_,by rw[ad.length_eq];omega,ud a4 (ad.nodup_iff.mpr i2),λv hv=>i3 v (ad.mem_iff.mp hv)⟩,((aP.trans s8).upd_new av).upd_new hz⟩⟩⟩
            rw[e] at ad;exact i1 (List.nil_perm.mp ad)
        . exact⟨_,s5 _ _ a6,a7,s5⟩
      rintro σ H6 ⟨an,r',v8,v9,Y,U,rfl,bs,bD,s6⟩
      ctx_has v
      refine⟨_,s6 _ _ aI,?_⟩
      have bn:=s6 _ _ bx;have aY:=s6 _ _ aR;have bd:=s6 _ _ aL;have b5:=s6 _ _ aI;have bC:But d l H H6:=(B2.trans aH).same s6
      have D6:=E4.D.same s6;have bt:rg≠q:=(ap a2 bm).symm
      refine bK bz (λj σ H'=>∃an r' v8 v9 Y U kv,σ=[-d,-a,-pa,-t,-q,some (.str c),-rg,-an,v8,v9,Y,U]/\H' q<*kv/\lT H' kv ws ns/\(kv.map (·.1)).Nodup/\(∀x∈kvs.map (·.1),x∈kv.map (·.1))/\(∀x∈fs.take j,x∈kv.map (·.1))/\H' an>>(J0 V.int r')/\dZ ns r'/\∀b u,b≠q->H6 b=some u->H' b=some u)
        ⟨_,_,_,_,_,_,kvs,rfl,bn,aS.keep λb xs e=>s6 _ _ e,a8,λ_ h=>h,by simp,bs,bD,λ_ _ _ h=>h⟩ (λj σ H' aZ=>by obtain⟨_,_,_,_,_,_,_,_,_,_,_,_,_,_,_,k⟩:=aZ;exact(.of (k _ _ bt b5))) ?_ ?_
      . rintro j x σ H7 hj aq ⟨aN,r7,v8,v9,Y,U,kv,rfl,aE,am,a3,aK,a9,aQ,a5,k7⟩
        obtain⟨f0,aX,rfl⟩ : ∃f0,fs[j]? = some f0/\kV f0=x:=by
          rw[e9] at aq;cases e:fs[j]? with
          | none=>rw[e] at aq;cases aq
          | some nm=>rw[e] at aq;exact⟨nm,rfl,f_ aq⟩
        obtain⟨s0,bJ,rfl⟩:=bN f0 (i4 aX);have bF:=iB (ys:=ws.map e_) a3 λx hx=>by
          obtain⟨y,hy,rfl⟩:=e7.mp hx;obtain⟨c,a',r,rfl,hc,_⟩:=am y hy;exact e7.mpr ⟨c,hc,rfl⟩
        rw[a_,a_] at bF;have cc:=E0.wl;ctx_has v aE
        have gk:=sO (o:=.dK (bj kv (e_ s0) (.ref aN))) aE;have b4:=k7 t _ (bA aY bn (by intro z;cases z)) aY
        have aV:va≠q:=λz=>by rw[z] at bd;exact absurd (E0.T.hv) (by rw[z,hq];intro z;cases z)
        have bW:=a5.2.1;refine⟨e_ s0,rfl,au (),_,gk _ _ b4,_,rfl,_,_,rfl,.inr ⟨va,aN,r7,mI,rfl,by rw[ai aV];exact k7 va _ aV bd,gk _ _ aQ,(),λpm H8 s8 h8=>⟨pm,rfl,_,h8,by rw[a_];omega,λq1 ms av ad a4=>⟨_,ab,λz hz=>?_⟩⟩⟩⟩
        have s9:=(s8.upd_new (o:=.lst (ms.map V.int)) av).upd_new (o:=.tup (ms.map V.int)) hz;have bB:ms=srt (r7.map (ld mI)):=Bx ad a4
        refine⟨ms,_,s9 _ _ ab,((am.put bJ aQ a5).keep gk).keep λb xs e=>s9 _ _ e,EV a3,λx hx=>(el x).mpr (.inr (aK x hx)),λx hx=>?_,ab,by rw[bB];exact zy E0.T.pi E0.mi a5,λb u hb e=>s9 _ _ (by rw[ai hb];exact k7 b u hb e)⟩
        rw[i8,aX] at hx;rcases j6.mp hx with w | w
        . exact(el x).mpr (.inr (a9 x w))
        . exact(el x).mpr (.inl (by simpa using w))
      . rintro σ H7 ⟨aN,r7,v8,v9,Y,U,kv,rfl,aE,am,a3,aK,a9,aQ,a5,k7⟩
        rw[a_,k9] at a9;refine⟨_,_,_,_,_,_,_,rfl,kv,aE,am,λc' a0=>?_,a3,Eo D6 nq k7,λb u h1 h2 e=>?_⟩
        . rw[i8,hc] at a0
          rcases j6.mp a0 with z | z
          . exact aK _ (a1 c' z)
          . rw[show c'=c by simpa using z]
            exact a9 _ bv
        . exact k7 b u (ap e hq) (bC b u h1 h2 e)
    . refine⟨aw,λc' a0=>?_,a8,D2,B2⟩
      rw[i8,hc] at a0;rcases j6.mp a0 with z | z
      . exact a1 c' z
      . rw[show c'=c by simpa using z]
        exact cV.mp (by cases hv:(bg kvs (e_ c)).isSome with | true=>rfl | false=>exact absurd hv h)
  . rintro σ H2 ⟨v5,v6,v7,v8,v9,Y,U,kvs,rfl,a2,aw,a1,a8,D2,B2⟩
    rw[a_,k9] at a1;ctx_has v
    have b1:=iB (ys:=ws.map e_) a8 λx hx=>by
      obtain⟨y,hy,rfl⟩:=e7.mp hx;obtain⟨c,a',r,rfl,hc,_⟩:=aw y hy;exact e7.mpr ⟨c,hc,rfl⟩
    rw[a_,a_] at b1;have:=E0.wl
    exact k q kvs H2 hq a2 aw a1 () D2 B2
theorem gi (z:PM mS) (h1 : ∀c∈ws,ld mS c∈ws') {cs:List Str} (h:okC ws cs):okC ws' (cs.map (ld mS)):=by
 obtain⟨a,b,c,d⟩:=h;refine⟨λe=>a (map_eq_nil_iff.mp e),l9.mpr (b.imp λne e=>ne (iH z e)),λx U=>?_,by rw[a_];exact d⟩
 obtain⟨y,Y,rfl⟩:=e7.mp U;exact h1 y (c y Y)
theorem vA (U:PM mI) (h2 : ∀v∈ns,ld mI v∈ns) {z:List Int} (h:okV ns z):okV ns (z.map (ld mI)):=by
 obtain⟨a,b,c⟩:=h;refine⟨l9.mpr (a.imp λne e=>ne (iH U e)),λx Y=>?_,by rw[a_];exact c⟩
 obtain⟨y,Z,rfl⟩:=e7.mp Y;exact h2 y (b y Z)
theorem vo (U:PM mS) (hI:PM mI) (h1 : ∀c∈ws,ld mS c∈ws') (h2 : ∀v∈ns,ld mI v∈ns) {W V:Wi} (ok:okW ws ns W) (h:cS mS mI W=some V):okW ws' ns V/\cE V=(cE W).map (ld mS):=by
 cases W with
 | un cs=>cases h;exact⟨gi U h1 ok,rfl⟩
 | mn av cs lo hi=>cases h;exact⟨⟨gi U h1 ok.1,vA hI h2 ok.2⟩,rfl⟩
 | sm ts lo hi =>
  unfold cS at h;dsimp only at h
  split at h
  .cases h
   have e:(ts.map λx=>(x.1,ld mS x.2)).map (·.2)=(ts.map (·.2)).map (ld mS):=by rw[fx,fx];rfl
   refine⟨⟨by rw[e];exact gi U h1 ok.1,λx hx=>?_⟩,e⟩
   obtain⟨y,hy,rfl⟩:=e7.mp hx;exact ok.2 y hy
  .cases h
 | tb cs rows =>
  cases h;obtain⟨o1,Z,Y,o4⟩:=ok;refine⟨⟨gi U h1 o1,?_,λr hr=>?_,by rw[a_];exact o4⟩,rfl⟩
  .exact l9.mpr (Z.imp λne e=>ne ((map_inj_right λa b z=>iH hI z).mp e))
  .obtain⟨y,hy,rfl⟩:=e7.mp hr
   rw[a_,a_];exact Y y hy
 | wy cs ps es =>
  cases h;obtain⟨o1,Z,Y,o4⟩:=ok;refine⟨⟨gi U h1 o1,?_,by rw[a_];exact Y,o4⟩,rfl⟩
  rw[fx];have e:((λx:Int × Int × Int=>(x.1,x.2.1)) ∘ λx:Int × Int × Int=>(x.1,ld mI x.2.1,x.2.2))=(λy:Int × Int=>(y.1,ld mI y.2)) ∘ λx:Int × Int × Int=>(x.1,x.2.1):=rfl
  rw[e,<- fx];refine l9.mpr (Z.imp λ{a b} ne e=>ne ?_)
  have e1:(a.1,ld mI a.2)=(b.1,ld mI b.2):=e
  exact Prod.ext (Prod.mk.inj e1).1 (iH hI (Prod.mk.inj e1).2)
 | bh cs aa =>
  unfold cS at h;dsimp only at h
  split at h
  .cases h;exact⟨gi U h1 ok,rfl⟩
  .cases h
theorem nG (U:PM mS) (Z:PM mI) (h1 : ∀c∈ws,ld mS c∈ws') (h2 : ∀v∈ns,ld mI v∈ns) {W V:Wx} (ok:okX ws ns W) (h:bG mS mI W=some V):okX ws' ns V:=by
 cases W with
 | pl W =>
  obtain⟨V',Y,rfl⟩:=JG.mp h;exact(vo U Z h1 h2 ok Y).1
 | sa c vs W =>
  obtain⟨V',Y,rfl⟩:=JG.mp h;obtain⟨o1,o2,o3,o4⟩:=ok;obtain⟨p1,p2⟩:=vo U Z h1 h2 o3 Y;refine⟨h1 c o1,vA Z h2 o2,p1,?_⟩
  rw[p2];intro z;obtain⟨x,hx,e⟩:=e7.mp z;exact o4 (by rw[<- iH U e];exact hx)
def vT (H:Hp) (bs:List (Addr × Wx)) (ws:List Str) (ns:List Int):Prop:=∀x∈bs,WX H x.1 x.2/\okX ws ns x.2
theorem vT.keep {bs:List (Addr × Wx)} (h:vT H bs ws ns) (k : ∀a xs,H a>>xs->H' a>>xs):vT H' bs ws ns:=λx z=>⟨bF (h x z).1 k,(h x z).2⟩
abbrev rfs (bs:List (Addr × Wx)):List V:=bs.map λx=>V.ref x.1
theorem yM (Y:PM mI) {ns:List Int} (Z : ∀x∈mI,x.1∈ns) : ∀v∈ns,ld mI v∈ns:=λv U=>by
 by_cases z:v∈mI.map (·.1)
 .obtain⟨y,hy,e⟩:=e7.mp (rP Y z)
  rw[<- e];exact Z y hy
 .rw[gw z];exact U
def IM:Sp:=λvs H Q _=>∃(d l a ra pa t na va:Addr) (ws:List Str) (ns:List Int) (mS:List (Str × Str)) (mI:List (Int × Int)) (kvs:List (Key × V)) (rm:Str->List Int),vs=[.ref d,.ref a,.ref ra,.ref pa,.ref t]/\bJ H/\mv H d l a pa t na va ws ns mS mI/\gA H d l a ra pa ws ns kvs rm /\
 ∀(p:Addr) (bs:List (Addr × Wx)) (H':Hp),H p=none->H' p*>(rfs bs)->vT H' bs ws ns->bs.length<=14->aD H' d l->But d l H H'->Q (.ref p) H'
structure mL (H H':Hp) (d l so p:Addr) (bs:List (Addr × Wx)) (ws:List Str) (ns:List Int):Prop where
 D:aD H' d l
 B:But d l H H'
 fp:H p=none
 hp:H' p*>(rfs bs)
 hs:H' so*>((fK true).map V.str)
 ns':so≠p
 np:p≠d/\p≠l
 wo:vT H' bs ws ns
 ln:bs.length<=14
theorem mL.but {bs:List (Addr × Wx)} (h:mL H H' d l so p bs ws ns) (z:so≠d/\so≠l) (D:aD H2 d l) (B:But d l H' H2):mL H H2 d l so p bs ws ns :=
 ⟨D,h.B.trans B,h.fp,B _ _ h.np.1 h.np.2 h.hp,B _ _ z.1 z.2 h.hs,h.ns',h.np,h.wo.keep λb xs e=>B.tup h.D e,h.ln⟩
theorem mL.putF {bs:List (Addr × Wx)} {zs:List V} (h:mL H H' d l so p bs ws ns) (U:H f=none) (z:f≠d/\f≠l) (fp:f≠p) (fs:f≠so) (hl:H' f*>ys):mL H (upd H' f (.lst zs)) d l so p bs ws ns :=
 ⟨h.D.put z.1 z.2,h.B.put U,h.fp,by rw[ai fp.symm];exact h.hp,by rw[ai fs.symm];exact h.hs,h.ns',h.np,h.wo.keep (cz hl),h.ln⟩
theorem mL.add {r:Addr} {bs:List (Addr × Wx)} {W:Wx} (h:mL H H' d l so p bs ws ns) (hl:bs.length < 14) (U:WX H' r W) (ok:okX ws ns W):mL H (upd H' p (.lst (rfs bs++[V.ref r]))) d l so p (bs++[(r,W)]) ws ns :=
 ⟨h.D.put h.np.1 h.np.2,h.B.put h.fp,h.fp,by rw[ab];simp,by rw[ai h.ns'];exact h.hs,h.ns',h.np,λx Y=>by
  rcases j6.mp Y with z | z
  .exact(h.wo.keep (cz h.hp)) x z
  .rw[g7.mp z];exact⟨bF U (cz h.hp),ok⟩,by simp;omega⟩
def WhV (H:Hp) (v:V) (ws:List Str) (ns:List Int):Prop:=v = .non\/∃w W,v = .ref w/\WX H w W/\okX ws ns W
structure my (H H':Hp) (d l so p f:Addr) (bs fs:List (Addr × Wx)) (ws:List Str) (ns:List Int):Prop where
 W:mL H H' d l so p bs ws ns
 hf:H' f*>(rfs fs)
 ff:H f=none
 nf:f≠d/\f≠l
 fp:f≠p
 fs':f≠so
 pw:lG H' fs
 le:fs.length<=bs.length
theorem my.but {H H' H2:Hp} {d l so p f:Addr} {bs fs:List (Addr × Wx)} {ws:List Str} {ns:List Int} (h:my H H' d l so p f bs fs ws ns) (z:so≠d/\so≠l) (D:aD H2 d l) (B:But d l H' H2):my H H2 d l so p f bs fs ws ns :=
 ⟨h.W.but z D B,B _ _ h.nf.1 h.nf.2 h.hf,h.ff,h.nf,h.fp,h.fs',h.pw.keep λb xs e=>B.tup h.W.D e,h.le⟩
theorem my.same {H H' H2:Hp} {d l so p f:Addr} {bs fs:List (Addr × Wx)} {ws:List Str} {ns:List Int} (h:my H H' d l so p f bs fs ws ns) (z:so≠d/\so≠l) (s:aj H' H2):my H H2 d l so p f bs fs ws ns:=h.but z (h.W.D.same s) ((But.refl H').same s)
abbrev HW:=Fn P w K mg base "_law_even_wishes" 16 ["_law_deal_here","_law_names_here","_law_rooms_here","_law_pool_here","_law_turning"] (IM)
theorem jb (T:Txt w K mg base) (L:FnL K mg "_law_even_wishes" dh ["_law_deal_here","_law_names_here","_law_rooms_here","_law_pool_here","_law_turning"]) (Fa : @Dz0 P w K mg base) (aD:Fn P w K mg base "_law_wish" 15 ["_law_deal_here","_law_names_here","_law_rooms_here","_law_pool_here","_law_sorts"] (iK true)) (Fh : @Dq P w K mg base) (Fj : @ED P w K mg base) (Fi : @Di P w K mg base) (Fk : @EZ P w K mg base) (Ft : @GF P w K mg base) (FG : @Hx P w K mg base) : @HW P w K mg base:=by
  ctx_has z jc <;> obtain⟨d,l,a,ra,pa,t,na,va,ws,ns,mS,mI,kvs,rm,rfl,tb,E0,F0,k⟩:=h
  . rfl
  refine⟨_,(af (aB 5 (ba (aa aw (aa aw (aa aw (aa aw (aa aw (aa aw (aa aw ac)))))))))
    (af (aB 6 (ba ac))
    (af (bc (ci rfl T.b_range (aa (ah Fa (aa (pvM 0) (aa ae ac))) ac)) (az 7) (af (aB 8 (ah aD (aa (pvM 0) (aa (pvM 1) (aa (pvM 2) (aa (pvM 3) (aa (pvM 5) ac)))))))
    (af (aB 9 (ba ac))
    (bO (fZ JV (PW.pt (gL (fV (Du (pvM 8))) (gL (ay (jE (xN hr)) (cg Fh Fj (aa (pvM 8) ac)) (pvM 9)) (gC (ay DI (aF aZ T.b_len (aa (pvM 6) ac)) ae))))) (af (bu (cA l5 l7 bo (pvM 9) (aa (cg Fh Fj (aa (pvM 8) ac)) ac)))
    (af (bu (cA l5 l7 bo (pvM 6) (aa (cg Ft FG (aa (pvM 0) (aa (pvM 8) ac))) ac)))
    (ag (aB 8 (cg Fi Fk (aa (pvM 4) (aa (pvM 8) ac))))))))
    (ag (aJ (fV (oy (pvM 8))) (ag (aB 6 (bI A1 (pvM 6) cb (bP (aO gx (aF aZ T.b_len (aa (pvM 6) ac)) (aF aZ T.b_len (aa (pvM 9) ac))))))) aA))))))
    (ag (aC (pvM 6)))))),?_⟩
  ctx_has v
  refine⟨∅,λso ak=>⟨∅,λp hp=>?_⟩⟩
  have Z:=E0.D.ne ak;have ao:H p=none:=by
    cases e:H p with
    | none=>rfl
    | some u=>rw[ai (ap e ak),e] at hp;cases hp
  have sp:so≠p:=λz=>by rw[<- z,ab] at hp;cases hp
  have np:=E0.D.ne ao;have D0:=(E0.D.new (o:=.lst ((fK true).map V.str)) ak).new (o:=.lst []) hp;refine aR D0 ∅ ∅ λx1 H1 aI aK D1 B1=>⟨_,rfl,(),(),?_⟩
  have aq:But d l H H1:=(((But.refl H).new ak).new hp).trans B1
  have W1:mL H H1 d l so p [] ws ns:=⟨D1,aq,ao,B1 _ _ np.1 np.2 ab,B1 _ _ Z.1 Z.2 (by rw[ai sp];exact ab),sp,np,(λx hx=>by cases hx),∅⟩
  refine bK bM (λi σ H'=>∃p bs v7 v8 v9,σ=[-d,-a,-ra,-pa,-t,-so,-p,v7,v8,v9]/\mL H H' d l so p bs ws ns) ⟨p,[],_,_,_,rfl,W1⟩ (λ_ _ _ _=>ow) ?_ ?_
  . clear W1 aq D1 B1 D0 hp np sp ao p
    rintro i x σ H2 hi hx ⟨p,bs,v7,v8,v9,rfl,W2⟩
    have F2:=F0.but W2.D W2.B;ctx_has v jT
    refine⟨d,l,a,ra,pa,so,ws,ns,kvs,rm,rfl,F2,Z,W2.hs,λw W H3 hW a5 _ D3 B3=>⟨∅,λf hf=>?_⟩⟩
    have W3:=W2.but Z D3 B3;have a6:H f=none:=by
      cases e:H f with
      | none=>rfl
      | some u =>
        have nd:=E0.D.ex;have nf:f≠d/\f≠l:=D3.ne hf
        rw[W3.B f u nf.1 nf.2 e] at hf;cases hf
    have nf:=D3.ne hf;have Ef:my H (upd H3 f (.lst [])) d l so p f bs [] ws ns :=
      ⟨W3.but Z (D3.new hf) ((But.refl H3).new hf),ab,a6,nf,(ap W3.hp hf).symm,(ap W3.hs hf).symm,(λx hx=>by cases hx),r_ _⟩
    have hV:WhV (upd H3 f (.lst [])) (.ref w) ws ns:=.inr ⟨w,W,rfl,bF hW λb xs e=>by rw[ai (ap e hf)];exact e,a5⟩
    refine⟨λσ H'=>∃v bs fs,σ=[-d,-a,-ra,-pa,-t,-so,-p,some x,some v,-f]/\my H H' d l so p f bs fs ws ns,?_,?_⟩
    . refine gb (λμ σ H'=>∃v bs fs,σ=[-d,-a,-ra,-pa,-t,-so,-p,some x,some v,-f]/\my H H' d l so p f bs fs ws ns/\WhV H' v ws ns/\μ=14 - bs.length)
        (λσ H'=>∃v bs fs,σ=[-d,-a,-ra,-pa,-t,-so,-p,some x,some v,-f]/\my H H' d l so p f bs fs ws ns) ⟨_,_,_,_,rfl,Ef,hV,rfl⟩ ?_ (λ_ _ h=>h)
      rintro R hR μ σ H4 ⟨v,Y,U,rfl,E4,hv,rfl⟩
      rcases hv with rfl | ⟨w4,W4,rfl,hW4,hok4⟩
      . ctx_has v yq
        exact hR _ _ ⟨_,_,_,rfl,E4⟩
      . ctx_has v yq
        rw[if_pos (by simp)]
        have ax:=tb.but E0.D E4.W.B;have an:=vI F0.nm hok4;refine jx ax hW4 hok4 λr H5 s5 h5=>?_
        have E5:=E4.same Z s5;obtain⟨rp,ly⟩:=E5.pw.reps (K:=K);refine⟨dP W4,pD U,ml h5,.lst (.of E5.hf) rp,fb _ an.1,ly,le_trans an.2 ∅,_,rfl,?_⟩
        rw[if_pos rfl];cases aH:inD (dP W4) (pD U) with
        | true =>
          rw[if_neg ∅]
          exact hR _ _ ⟨_,_,_,rfl,E5⟩
        | false =>
          rw[if_pos ∅]
          refine⟨_,E5.W.hp,?_⟩
          refine cN (λa0=>?_) (λa0=>hR _ _ ⟨_,_,_,rfl,E5⟩)
          have av:Y.length < 14:=by rw[a_] at a0;omega
          have a8:=E4.le;refine⟨λσ' H'=>∃v am fs',σ'=[-d,-a,-ra,-pa,-t,-so,-p,some x,some v,-f]/\my H H' d l so p f am fs' ws ns/\WhV H' v ws ns/\am.length=Y.length+1,?_,⟨_,E5.hf⟩,jx (ax.same s5) (bF hW4 λb xs e=>s5 _ _ e) hok4 λr2 H6 s6 h6=>?_⟩
          . rintro σ' H' ⟨v,am,fs',rfl,e,hv,hl⟩
            exact⟨_,(),v,rfl,am,fs',e,hv,rfl⟩
          have E6:=E5.same Z s6;have k6:=cz (o:=.lst (rfs U++[V.ref r2])) E6.hf;have W6:=E6.W.putF (zs:=rfs U++[V.ref r2]) E6.ff E6.nf E6.fp E6.fs' E6.hf;have aE:upd H6 f (.lst (rfs U++[V.ref r2])) f*>(rfs (U++[(r2,dO W4)])):=by rw[ab];simp
          have a3:lG (upd H6 f (.lst (rfs U++[V.ref r2]))) (U++[(r2,dO W4)]):=λx hx=>by
            rcases j6.mp hx with z | z
            . exact(E6.pw.keep k6) x z
            . rw[g7.mp z];exact⟨bF h6 k6,an⟩
          have ar:=bF (bF hW4 λb xs e=>s6 _ _ (s5 _ _ e)) k6
          refine⟨_,E6.hf,by rw[a_];exact au (),⟨_,W6.hp⟩,Gk W6.D ar hok4 λr3 W3 H7 h7 m7 D7 B7=>?_⟩
          have W7:=W6.but Z D7 B7;have a7:=B7 f _ E6.nf.1 E6.nf.2 aE;have a4:=a3.keep λb xs e=>B7.tup W6.D e
          have W8:=W7.add av h7 (yY hok4 m7);have k8:=cz (o:=.lst (rfs Y++[V.ref r3])) W7.hp;have a2:=bF (bF ar λb xs e=>B7.tup W6.D e) k8
          have E8:my H (upd H7 p (.lst (rfs Y++[V.ref r3]))) d l so p f (Y++[(r3,W3)]) (U++[(r2,dO W4)]) ws ns :=
            ⟨W8,by rw[ai E6.fp];exact a7,E6.ff,E6.nf,E6.fp,E6.fs',a4.keep k8,by simp;omega⟩
          refine⟨_,W7.hp,by rw[a_];exact au (),BQ (E0.but W8.D W8.B).T a2 (tK hok4) λv H9 s9 hv=>⟨v,_,_,rfl,E8.same Z s9,?_,by simp⟩⟩
          cases ht:bG mS mI W4 with
          | none=>rw[ht] at hv;exact .inl hv
          | some Vt =>
            rw[ht] at hv;obtain⟨wt,rfl,a9⟩:=hv;exact .inr ⟨wt,Vt,rfl,a9,nG E0.T.ps E0.T.pi (λc hc=>tQ E0.T.ps E0.ms hc) (yM E0.T.pi E0.mi) hok4 ht⟩
    . rintro σ H4 ⟨v,Y,U,rfl,E4⟩
      have g1:=E4.W.hp;have g2:=E4.hf;have a8:=E4.le;ctx_has v g1 g2
      refine cN (λhy=>λp3 ad=>⟨Y.take (Y.length - U.length),?_⟩) (λhy=>⟨_,E4.W⟩)
      have n3:=E4.W.D.ne ad;have a1:H p3=none:=by
        cases e:H p3 with
        | none=>rfl
        | some u=>rw[E4.W.B p3 u n3.1 n3.2 e] at ad;cases ad
      have ec:dM (rfs Y) none (some (((rfs Y).length:Int) - ((rfs U).length:Int)))=rfs (Y.take (Y.length - U.length)):=by
        rw[show(((rfs Y).length:Int) - ((rfs U).length:Int))=((Y.length - U.length:Nat):Int) by rw[a_,a_];omega]
        exact iN (λx:Addr × Wx=>V.ref x.1) Y _
      rw[ec];have aG:=E4.W.ln;exact⟨E4.W.D.new ad,E4.W.B.new ad,a1,ab,by rw[ai (ap E4.W.hs ad)];exact E4.W.hs,ap E4.W.hs ad,n3,(λx hx=>(E4.W.wo.keep λb xs e=>by rw[ai (ap e ad)];exact e) x (v_ hx)),by rw[pk];omega⟩
  . rintro σ H2 ⟨p,bs,v7,v8,v9,rfl,W2⟩
    ctx_has v
    exact k p bs H2 W2.fp W2.hp W2.wo W2.ln W2.D W2.B
theorem EL (h:ws.Nodup):(ws.map (e_:Str->Key)).Nodup:=l9.mpr (h.imp λne e=>ne (I_ e))
theorem G4 (h:ns.Nodup):(ns.map (i9:Int->Key)).Nodup:=l9.mpr (h.imp λne e=>ne (Jz e))
theorem CJ {Q:VK} {E:XK} (D:aD H d l) (sq:xC H a (ws.map V.str)) (nd:ws.Nodup) (ln:ws.length<=40)
  (k : ∀na mS H',H na=none->H' na<*(kvS mS)->PM mS->(∀x∈mS,x.1∈ws)->mS.length<=40->aD H' d l->But d l H H'->Q (.ref na) H'):tL [.ref d,.ref a] H Q E:=by
 refine⟨d,l,a,ws.map e_,rfl,D,by rw[fx];exact sq,EL nd,by rw[a_];exact ln,λna m H' Z h aa Y U D' B'=>?_⟩
 obtain⟨mS,rfl,ac⟩:=Ip aa λy hy=>by
  obtain⟨z,_,e⟩:=e7.mp (Y y hy);exact⟨z,e.symm⟩
 rw[Ei] at h;refine k na mS H' Z h ac (λx hx=>?_) (by unfold upS at U;rw[a_] at U;exact U) D' B'
 obtain⟨z,hz,e⟩:=e7.mp (Y (e_ x.1,e_ x.2) (e7.mpr ⟨x,hx,rfl⟩));rw[<- I_ e];exact hz
theorem Dk {Q:VK} {E:XK} (D:aD H d l) (sq:xC H a (ns.map V.int)) (nd:ns.Nodup) (ln:ns.length<=40)
  (k : ∀va mI H',H va=none->H' va<*(kvI mI)->PM mI->(∀x∈mI,x.1∈ns)->mI.length<=40->aD H' d l->But d l H H'->Q (.ref va) H'):tL [.ref d,.ref a] H Q E:=by
 refine⟨d,l,a,ns.map i9,rfl,D,by rw[fx];exact sq,G4 nd,by rw[a_];exact ln,λva m H' Z h ac Y U D' B'=>?_⟩
 obtain⟨mI,rfl,aa⟩:=Iv ac λy hy=>by
  obtain⟨z,_,e⟩:=e7.mp (Y y hy);exact⟨z,e.symm⟩
 rw[AG] at h;refine k va mI H' Z h aa (λx hx=>?_) (by unfold upI at U;rw[a_] at U;exact U) D' B'
 obtain⟨z,hz,e⟩:=e7.mp (Y (i9 x.1,i9 x.2) (e7.mpr ⟨x,hx,rfl⟩));rw[<- Jz e];exact hz
theorem yZ {z rest:List V} (h:(z++rest).Perm (ns.map V.int)) : ∃is:List Int,z=is.map V.int/\(ns.Nodup->is.Nodup)/\(∀i∈is,i∈ns)/\is.length<=ns.length:=by
 have Y : ∀v∈z,∃i,v=V.int i:=λv U=>by
  obtain⟨i,_,e⟩:=e7.mp (h.mem_iff.mp (t6 _ U));exact⟨i,e.symm⟩
 have Z : ∀v∈rest,∃i,v=V.int i:=λv U=>by
  obtain⟨i,_,e⟩:=e7.mp (h.mem_iff.mp (uj _ U));exact⟨i,e.symm⟩
 have conv : ∀l:List V,(∀v∈l,∃i,v=V.int i)->∃is:List Int,l=is.map V.int:=λl=>by
  induction l with
  | nil=>exact λ_=>⟨[],rfl⟩
  | cons v l ih =>
   intro hl;obtain⟨i,rfl⟩:=hl v (by simp)
   obtain⟨is,rfl⟩:=ih λv U=>hl v (by simp[U])
   exact⟨i :: is,rfl⟩
 obtain⟨is,rfl⟩:=conv z Y;obtain⟨js,rfl⟩:=conv rest Z;have hl:=h.length_eq;rw[nH,a_,a_,a_] at hl;refine⟨is,rfl,λhn=>?_,λi hi=>?_,()⟩
 .have:(is.map V.int++js.map V.int).Nodup:=h.nodup_iff.mpr (l9.mpr (hn.imp λne e=>ne (V.int.inj e)))
  have:=(x_.mp this).1
  exact(l9.mp this).imp λne e=>ne (by rw[e])
 .obtain⟨j,hj,e⟩:=e7.mp (h.mem_iff.mp (t6 _ (e7.mpr ⟨i,hi,rfl⟩)))
  rw[<- V.int.inj e];exact hj
structure im (H H':Hp) (d l a pa tn na va ra p:Addr) (ws:List Str) (ns:List Int) (mS:List (Str × Str)) (mI:List (Int × Int)) (kvs:List (Key × V)) (bs:List (Addr × Wx)):Prop where
 E:mv H' d l a pa tn na va ws ns mS mI
 B:But d l H H'
 hr:H' ra<*kvs
 fr:H ra=none
 nr:ra≠d/\ra≠l
 xr:ra≠na/\ra≠va
 ro:lT H' kvs ws ns
 ck : ∀c∈ws,e_ c∈kvs.map (·.1)
 kl:kvs.length<=13
 hw:H' p*>(rfs bs)
 fw:H p=none
 nw:p≠d/\p≠l
 xw:p≠a/\p≠pa
 wo:vT H' bs ws ns
 wl:bs.length<=20
theorem im.but {H H' H2:Hp} {d l a pa tn na va ra p:Addr} {ws:List Str} {ns:List Int} {mS:List (Str × Str)} {mI:List (Int × Int)} {kvs:List (Key × V)} {bs:List (Addr × Wx)} (h:im H H' d l a pa tn na va ra p ws ns mS mI kvs bs) (D:aD H2 d l) (B:But d l H' H2):im H H2 d l a pa tn na va ra p ws ns mS mI kvs bs :=
 ⟨h.E.but D B,h.B.trans B,B _ _ h.nr.1 h.nr.2 h.hr,h.fr,h.nr,h.xr,h.ro.keep λb xs e=>B.tup h.E.D e,h.ck,h.kl,B _ _ h.nw.1 h.nw.2 h.hw,h.fw,h.nw,h.xw,h.wo.keep λb xs e=>B.tup h.E.D e,h.wl⟩
theorem im.same {H H' H2:Hp} {d l a pa tn na va ra p:Addr} {ws:List Str} {ns:List Int} {mS:List (Str × Str)} {mI:List (Int × Int)} {kvs:List (Key × V)} {bs:List (Addr × Wx)} (h:im H H' d l a pa tn na va ra p ws ns mS mI kvs bs) (s:aj H' H2):im H H2 d l a pa tn na va ra p ws ns mS mI kvs bs:=h.but (h.E.D.same s) ((But.refl H').same s)
theorem im.setW {bs cs:List (Addr × Wx)} (h:im H H' d l a pa tn na va ra p ws ns mS mI kvs bs) (U:vT H' cs ws ns) (hl:cs.length<=20):im H (upd H' p (.lst (rfs cs))) d l a pa tn na va ra p ws ns mS mI kvs cs:=by
 have k:=cz (o:=.lst (rfs cs)) h.hw;have nd : ∀{x:Addr} {kv:List (Key × V)},H' x<*kv->x≠p:=λe=>bA e h.hw (by intro z;cases z)
 exact⟨⟨h.E.D.put h.nw.1 h.nw.2,h.E.n1,h.E.n2,h.E.n3,h.E.n4,by rw[ai h.xw.1.symm];exact h.E.ha,by rw[ai h.xw.2.symm];exact h.E.hp,⟨k _ _ h.E.T.ht,by rw[ai (nd h.E.T.hn)];exact h.E.T.hn,by rw[ai (nd h.E.T.hv)];exact h.E.T.hv,h.E.T.ps,h.E.T.pi,h.E.T.ls,h.E.T.li⟩,h.E.ms,h.E.mi,h.E.wn,h.E.nd,h.E.wl,h.E.n5,h.E.pw,h.E.nb,h.E.nm⟩,h.B.put h.fw,by rw[ai (nd h.hr)];exact h.hr,h.fr,h.nr,h.xr,h.ro.keep k,h.ck,h.kl,ab,h.fw,h.nw,h.xw,U.keep k,hl⟩
theorem im.setR {r:Addr} {c:Str} {rs:List Int} {bs:List (Addr × Wx)} (h:im H H' d l a pa tn na va ra p ws ns mS mI kvs bs) (Z:c∈ws) (hr:H' r>>(rs.map V.int)) (hg:dZ ns rs) (hl:kvs.length<=12):im H (upd H' ra (.dK (bj kvs (e_ c) (.ref r)))) d l a pa tn na va ra p ws ns mS mI (bj kvs (e_ c) (.ref r)) bs:=by
 have k:=sO (o:=.dK (bj kvs (e_ c) (.ref r))) h.hr;have U : ∀{x:Addr} {ys:List V},H' x*>ys->x≠ra:=λe=>bA e h.hr (by intro z;cases z)
 exact⟨⟨h.E.D.put h.nr.1 h.nr.2,h.E.n1,h.E.n2,h.E.n3,h.E.n4,by rw[ai (U h.E.ha)];exact h.E.ha,by rw[ai (U h.E.hp)];exact h.E.hp,⟨k _ _ h.E.T.ht,by rw[ai h.xr.1.symm];exact h.E.T.hn,by rw[ai h.xr.2.symm];exact h.E.T.hv,h.E.T.ps,h.E.T.pi,h.E.T.ls,h.E.T.li⟩,h.E.ms,h.E.mi,h.E.wn,h.E.nd,h.E.wl,h.E.n5,h.E.pw,h.E.nb,h.E.nm⟩,h.B.put h.fr,ab,h.fr,h.nr,h.xr,(h.ro.put Z hr hg).keep k,λc' Y=>(el _).mpr (.inr (h.ck c' Y)),le_trans (bT _ _ _) (),by rw[ai (U h.hw)];exact h.hw,h.fw,h.nw,h.xw,h.wo.keep k,h.wl⟩
theorem oU {k:Key} {v:V} : ∀{l:List (Key × V)},bg l k=some v->(k,v)∈l
 | [],h=>by cases h
 | x :: l,h=>by
  by_cases e:x.1=k
  .rw[bi e] at h
   rw[<- e,<- f_ h];exact j_
  .rw[aS e] at h
   exact j9 _ (oU h)
theorem sZ (ro:lT H' kvs ws ns) (ck : ∀c∈ws,e_ c∈kvs.map (·.1)) {c:Str} (Z:c∈ws) : ∃b r,bg kvs (e_ c)=some (.ref b)/\H' b>>(r.map V.int)/\dZ ns r:=by
 have U:=cV.mpr (ck c Z);cases z:bg kvs (e_ c) with
 | none=>rw[z] at U;cases U
 | some x =>
  have hm:(e_ c,x)∈kvs:=oU z
  obtain⟨c',b,r,e,_,h2,Y⟩:=ro _ hm;cases e;exact⟨b,r,rfl,h2,Y⟩
theorem yi (E:mv H' d l a pa tn na va ws ns mS mI) (hr:H' ra<*kvs) (nr:ra≠d/\ra≠l) (ro:lT H' kvs ws ns) (ck : ∀c∈ws,e_ c∈kvs.map (·.1)) : ∃rm:Str->List Int,gA H' d l a ra pa ws ns kvs rm:=by
 classical
 have key : ∀c,∃r:List Int,c∈ws->(∃b,bg kvs (e_ c)=some (.ref b)/\H' b>>(r.map V.int))/\dZ ns r:=λc=>by
  by_cases Y:c∈ws
  .obtain⟨b,r,h1,h2,h3⟩:=sZ ro ck Y
   exact⟨r,λ_=>⟨⟨b,h1,h2⟩,h3⟩⟩
  .exact⟨[],λz=>absurd z Y⟩
 obtain⟨rm,U⟩:=Classical.axiomOfChoice key;exact⟨rm,E.D,E.n1,nr,E.n2,E.ha,hr,E.hp,λc Y=>(U c Y).1,E.wn,E.nd,E.wl,E.n5,E.pw.imp λz=>by omega,E.nm,λc Y=>⟨(U c Y).2.1,(U c Y).2.2.1,λv Z=>E.nb v ((U c Y).2.2.2.2 v Z)⟩⟩
theorem AO {q:Addr} {bs:List (Addr × Wx)} {Q:VK} (h:H p*>(rfs bs)) (h0:H q*>[]) (U:vT H bs ws ns) (nm : ∀c∈ws,cD c) (k:Q (.bl (!decide (bs=[]))) H):CW K (.ref p) (.ref q) H Q:=by
 have Y:lG H bs:=λx z=>⟨(U x z).1,Ej λc Z=>nm c (rJ (U x z).2 c Z)⟩
 obtain⟨rp,ly⟩:=Y.reps (K:=K);have hd:l8 (pD bs)<=8:=lM λx z=>(Y x z).2.2
 refine⟨.list (pD bs),.list [],.lst (.of h) rp,.lst (.of h0) .nil,by rw[y8];exact ly,rfl,by rw[t3];omega,?_⟩
 have e:n_ (.list (pD bs)) (.list [])=decide (bs=[]):=by
  cases bs with
  | nil=>rfl
  | cons x bs=>simp[n_,t5]
 rw[e];exact k
theorem Cv {f:α->β} {a b:List β} (h:a.Perm b) : ∀{l:List α},b=l.map f->∃U:List α,U.Perm l/\a=U.map f:=by
 induction h with
 | nil=>intro l e;cases l with
  | nil=>exact⟨[],.nil,rfl⟩
  | cons x l=>cases e
 | cons x h ih =>
  intro l e;cases l with
  | nil=>cases e
  | cons y l =>
   rw[i_,w6] at e;obtain⟨U,h1,h2⟩:=ih e.2;exact⟨y :: U,h1.cons y,by rw[e.1,h2,i_]⟩
 | swap x y l0 =>
  intro l e
  match l,e with
  | [],e=>cases e
  | [z],e=>cases e
  | z :: u :: l,e =>
   simp only[i_,w6] at e;exact⟨u :: z :: l,.swap z u l,by rw[e.1,e.2.1,e.2.2];rfl⟩
 | trans h1 h2 Y Z =>
  intro l e;obtain⟨U,a1,a2⟩:=Z e;obtain⟨l2,b1,b2⟩:=Y a2;exact⟨l2,b1.trans a1,b2⟩
theorem uK {f:α->β} {z rest:List β} {l:List α} (h:(z++rest).Perm (l.map f)) (hl:l.length<=z.length) : ∃U:List α,U.Perm l/\z=U.map f:=by
 have e:=h.length_eq;rw[nH,a_] at e;have:rest=[]:=JC.mp ()
 subst this;rw[J8] at h;exact Cv h rfl
def IO:Sp:=λvs H Q _=>∃(d l:Addr) (z:Int),vs=[.ref d,.int z]/\aD H d l/\1<=z/\z<=12/\bJ H /\
 ∀(r p c t tn na va pa:Addr) (cs:List (Addr × Str × Addr × List Int)) (us:List V) (Ws:List Wx) (ws:List Str) (ns:List Int) (mS:List (Str × Str)) (mI:List (Int × Int)) (H':Hp),H' r*>[.ref p,.ref tn,.ref pa]->ij H' p c t cs us Ws ws ns->ce H' tn na va mS mI->(∀x∈mS,x.1∈ws)->(∀x∈mI,x.1∈ns)->H' pa*>(ns.map V.int)->(pa≠d/\pa≠l)->(na≠d/\na≠l)->(va≠d/\va≠l)->ns.length=5->ns.Pairwise (· < ·)->(cs.map (·.2.1)).Perm ws->(∀x∈cs,dZ ns x.2.2.2)->(ws.length:Int)<=z->eO ws->aD H' d l->But d l H H'->Q (.ref r) H'
abbrev HC:=Fn P w K mg base "_law_even_hall" 18 ["_law_deal_here","_law_most"] (IO)
theorem jL (T:Txt w K mg base) (L:FnL K mg "_law_even_hall" cQ ["_law_deal_here","_law_most"]) (Fa : @Dz0 P w K mg base) (Fs : @Dz2 P w K mg base) (Fv : @Dz3 P w K mg base) (FN : @HV P w K mg base) (Fb : @Dz5 P w K mg base) (FA : @Hu P w K mg base) (Fx : @HW P w K mg base) (ci:Fn P w K mg base "_law_wish" 15 ["_law_deal_here","_law_names_here","_law_rooms_here","_law_pool_here","_law_sorts"] (iK false)) : @HC P w K mg base:=by
 ctx_has z kZ <;> obtain⟨d,l,mc,rfl,D,c0,c1,tb,k⟩:=h
 .rfl
 refine⟨_,(af (aB 2 (ah Fs (aa (pvM 0) (aa (aO bq ae (ah Fa (aa (pvM 0) (aa (pvM 1) ac)))) ac))))
  (af (aB 3 (ah Fv (aa (pvM 0) ac)))
  (af (aB 4 (aI (aa (ah FN (aa (pvM 0) (aa (pvM 2) ac))) (aa (ah FN (aa (pvM 0) (aa (ah Fb (aa (pvM 0) (aa (pvM 3) (aa ae ac)))) ac))) ac))))
  (bO (aJ (ay aP (ah Fa (aa (pvM 0) (aa ae ac))) ae) (ag (aB 4 (aI (aa (ak ao (pvM 4) ae) (aa cj ac))))) aA)
  (af (aB 5 (ah FA (aa (pvM 0) (aa (pvM 2) (aa (pvM 3) (aa (pvM 4) ac))))))
  (af (aB 6 (ah Fx (aa (pvM 0) (aa (pvM 2) (aa (pvM 5) (aa (pvM 3) (aa (pvM 4) ac)))))))
  (af (aB 7 (ah Fa (aa (pvM 0) (aa ae ac))))
  (bO (aJ (PW.pt (gL (ay aP (pvM 7) ae) (gC (ay (jr (iw hr)) (pvM 6) (ba ac))))) (ag (bu (cA PySem.F.slot_list_pop PySem.F.type_list_pop uQ (pvM 6) (aa (ah Fa (aa (pvM 0) (aa (aF aZ T.b_len (aa (pvM 6) ac)) ac))) ac)))) aA)
  (bO (aJ (PW.pt (gL (ay aP (pvM 7) ae) (gC (ay (jr (iw hr)) (pvM 6) (ba ac))))) (ag (bu (cA l5 l7 bo (pvM 6) (aa (ak dE (pvM 6) (ah Fa (aa (pvM 0) (aa (aF aZ T.b_len (aa (pvM 6) ac)) ac)))) ac)))) aA)
  (bO (aJ (ay aP (pvM 7) ae) (ag (fH hu (pvM 5) (ak dE (pvM 2) (ah Fa (aa (pvM 0) (aa (aF aZ T.b_len (aa (pvM 2) ac)) ac)))) (aI (aa (ak dE (pvM 3) (ah Fa (aa (pvM 0) (aa ae ac)))) ac)) rfl)) aA)
  (bO (aJ (ay aP (pvM 7) ae) (ag (bu (cA l5 l7 bo (pvM 6) (aa (ah ci (aa (pvM 0) (aa (pvM 2) (aa (pvM 5) (aa (pvM 3) (aa (ba (aa aw (aa aw (aa aw (aa aw (aa aw (aa aw ac))))))) ac)))))) ac)))) aA)
  (af (aB 6 (ah Fb (aa (pvM 0) (aa (pvM 6) (aa (aF aZ T.b_len (aa (pvM 6) ac)) ac)))))
  (af (bW 8 (N:=["_law_name","_law_rooms_here"]) (nt:=1) (js:=[5]) (aE ["_law_deal_here","_law_most","_law_names_here","_law_pool_here","_law_turning","_law_rooms_here","_law_wishes","_law_way_here","_law_cells"] (am cQ).names) (bR K (ah Fb (aa (pvM 0) (aa (pvM 2) (aa (aF aZ T.b_len (aa (pvM 2) ac)) ac))))) (az 0) aL aU (aI (aa (pvM 0) (aa (dY hu (pvM 1) (pvM 0)) ac))))
  (ag (aC (ba (aa (aI (aa (aG aM T.b_tuple (aa (pvM 8) ac)) (aa (pvM 6) ac))) (aa (pvM 4) (aa (pvM 3) ac))))))))))))))))))),?_⟩
 ctx_has v jT
 refine aR D () () λx1 H1 cO cP D1 B1=>?_
 refine⟨_,rfl,d,l,_,rfl,D1,(),(),λa ws H2 fa ok cF h2 D2 B2=>?_⟩
 have n1:=D1.ne fa;refine⟨d,l,rfl,D2,λpa ns H3 b8 b7 b0 c8 bB D3 B3=>?_⟩
 have n2:=D2.ne b8;have h3:=B3 a _ n1.1 n1.2 h2;have bg:ws.length<=12/\1<=ws.length:=()
 refine CJ D3 (.inl h3) ok.nd () λna mS H4 b6 bP c3 c6 cq D4 B4=>?_
 have n3:=D3.ne b6;have bp:=B4 pa _ n2.1 n2.2 bB;have cv:ns.Nodup:=b0.imp λh=>by omega
 refine⟨d,l,pa,0,_,rfl,D4,.inl bp,∅,by simp,by rw[a_];omega,λsp cw rest H5 cf an _ b2 D5 B5=>?_⟩
 obtain⟨is,rfl,bU,bv,bV⟩:=yZ an;refine Dk D5 (.inr b2) (bU cv) () λva mI H6 bS b3 bJ bZ bA D6 B6=>⟨∅,λtn b1=>?_⟩
 have n4:=D5.ne bS;have aX:But d l H2 H6:=((B3.trans B4).trans B5).trans B6
 have cx : ∀c∈ws,cD c:=ok.nm
 have s7:=aj.upd0 (o:=.tup [.ref na,.ref va]) b1;have E7:mv (upd H6 tn (.tup [.ref na,.ref va])) d l a pa tn na va ws ns mS mI :=
  ⟨D6.same s7,n1,n2,n3,n4,s7 _ _ (aX a _ n1.1 n1.2 h2),s7 _ _ (B6 pa _ n2.1 n2.2 (B5 pa _ n2.1 n2.2 bp)),⟨ab,s7 _ _ (B6 na _ n3.1 n3.2 (B5 na _ n3.1 n3.2 bP)),s7 _ _ b3,c3,bJ,cq,bA⟩,c6,λx hx=>bv _ (bZ x hx),λe=>by rw[e] at bg;simp at bg,ok.nd,bg.1,b7,b0,c8,cx⟩
 have bc:But d l H (upd H6 tn (.tup [.ref na,.ref va])):=((B1.trans B2).trans aX).same s7
 have cC:(ws.length:Int)<=mc:=()
 generalize upd H6 tn (.tup [.ref na,.ref va])=H7 at E7 bc s7 ⊢;clear s7 aX B6 B5 B4 B3 B2 B1 D6 D5 D4 D3 D2 D1 h2 h3 bp bP b2 b3 an bB fa b8 b6 cf bS b1;refine⟨λσ H'=>∃tn va mI,σ=[-d,some (.int mc),-a,-pa,-tn,none,none,none,none]/\mv H' d l a pa tn na va ws ns mS mI/\But d l H H',?_,?_⟩
 .ctx_has v
  refine aR E7.D ∅ ∅ λx8 H8 cJ cI D8 B8=>?_
  have E8:=E7.but D8 B8;have a0:=bc.trans B8;have e8:=E8.T.ht;ctx_has v e8
  refine cN (λh=>λp9 bh=>⟨∅,λt9 aN=>⟨p9,[],?_,?_⟩⟩) (λh=>⟨_,_,E8,a0⟩)
  .have s9:=(aj.upd0 (o:=.dK []) bh).upd_new (o:=.tup [.ref na,.ref p9]) aN
   have E9:=E8.same s9;have pt:p9≠t9:=λz=>by rw[<- z,ab] at aN;cases aN
   exact⟨E9.D,E9.n1,E9.n2,E9.n3,E8.D.ne bh,E9.ha,E9.hp,⟨ab,E9.T.hn,by rw[ai pt];exact ab,E9.T.ps,⟨by simp,by simp⟩,E9.T.ls,∅⟩,E9.ms,by simp,E9.wn,E9.nd,E9.wl,E9.n5,E9.pw,E9.nb,E9.nm⟩
  .exact a0.same ((aj.upd0 bh).upd_new aN)
 clear E7 bc bJ bZ bA bv bU bV n4;rintro σ H8 ⟨tn,va,mI,rfl,E8,a0⟩
 ctx_has v jT
 refine⟨d,l,a,pa,tn,na,va,ws,ns,mS,mI,rfl,E8,λra kvs H9 ax bb aW br co D9 B9=>?_⟩
 have ar:=E8.D.ne ax;have E9:=E8.but D9 B9;obtain⟨rm,F9⟩:=yi E9 bb ar aW br;have aQ:=a0.trans B9;refine⟨d,l,a,ra,pa,tn,na,va,ws,ns,mS,mI,kvs,rm,rfl,tb.but D aQ,E9,F9,λp bs c4 fp aV cb aq bX a5=>?_⟩
 have np:=E9.D.ne fp;have aS:=aQ.trans a5;have bY:H ra=none:=by
  cases e:H ra with
  | none=>rfl
  | some u=>rw[a0 ra u ar.1 ar.2 e] at ax;cases ax
 have cg:H p=none:=by
  cases e:H p with
  | none=>rfl
  | some u=>rw[aQ p u np.1 np.2 e] at fp;cases fp
 have bi:im H c4 d l a pa tn na va ra p ws ns mS mI kvs bs :=
  ⟨E9.but bX a5,aS,a5 _ _ ar.1 ar.2 bb,bY,ar,⟨(ap E8.T.hn ax).symm,(ap E8.T.hv ax).symm⟩,aW.keep λb xs e=>a5.tup D9 e,br,(),aV,cg,np,⟨(ap E9.ha fp).symm,(ap E9.hp fp).symm⟩,cb,()⟩
 clear cb aW F9 E9 E8 aV bb a5 B9 aS aQ a0 ax fp br;refine aR bi.E.D ∅ ∅ λwy cH y0 y1 bI bM=>⟨rfl,?_⟩
 have bd:=bi.but bI bM;clear bi bI bM bX D9;refine⟨λσ H'=>∃bs,σ=[-d,some (.int mc),-a,-pa,-tn,-ra,-p,some (.int wy),none]/\im H H' d l a pa tn na va ra p ws ns mS mI kvs bs/\bs.length<=14,?_,?_⟩
 .refine cN (λh=>⟨∅,λcL bF=>?_⟩) (λh=>⟨bs,rfl,bd,aq⟩)
  have U:=bd.same (aj.upd0 (o:=.lst []) bF);refine AO U.hw ab U.wo U.E.nm ⟨_,rfl,?_⟩
  by_cases hb:bs=[]
  .rw[decide_eq_true hb,if_neg ∅]
   exact⟨bs,rfl,U,aq⟩
  .rw[decide_eq_false hb,if_pos ∅]
   have b9:0 < bs.length:=length_pos_iff.mpr hb
   refine⟨p,rfl,⟨_,U.hw⟩,_,U.hw,aR U.E.D (by rw[a_];omega) (by rw[a_];omega) λi bH i0 i1 a8 a6=>?_⟩
   have Y:=U.but a8 a6;rw[a_] at i1;refine⟨i,rfl,_,Y.hw,i0,by rw[a_];exact i1,by rw[a_];omega,λy hy=>⟨bs.eraseIdx i.toNat,rfl,?_,le_trans (List.length_eraseIdx_le _ _) aq⟩⟩
   rw[iG];exact Y.setW (λx hx=>Y.wo x (List.mem_of_mem_eraseIdx hx)) (le_trans (List.length_eraseIdx_le _ _) ())
 clear bd;rintro σ bn ⟨bs,rfl,U,aq⟩
 ctx_has v jT
 refine⟨λσ H'=>∃bs,σ=[-d,some (.int mc),-a,-pa,-tn,-ra,-p,some (.int wy),none]/\im H H' d l a pa tn na va ra p ws ns mS mI kvs bs/\bs.length<=15,?_,?_⟩
 .refine cN (λh=>⟨∅,λcG bt=>?_⟩) (λh=>⟨bs,rfl,U,()⟩)
  have Y:=U.same (aj.upd0 (o:=.lst []) bt);refine AO Y.hw ab Y.wo Y.E.nm ⟨_,rfl,?_⟩
  by_cases hb:bs=[]
  .rw[decide_eq_true hb,if_neg ∅]
   exact⟨bs,rfl,Y,()⟩
  .rw[decide_eq_false hb,if_pos ∅]
   have b9:0 < bs.length:=length_pos_iff.mpr hb
   refine⟨⟨_,Y.hw⟩,_,Y.hw,aR Y.E.D (by rw[a_];omega) (by rw[a_];omega) λi a9 i0 i1 a7 av=>?_⟩
   have Z:=Y.but a7 av;obtain⟨v,hv,aY⟩:=iP (xs:=rfs bs) i0 i1;obtain⟨y,hy,rfl⟩:=e7.mp aY;refine⟨i,rfl,_,Z.hw,_,hv,_,Z.hw,by rw[a_];exact au (),bs++[y],rfl,?_,by simp;omega⟩
   rw[show rfs bs++[V.ref y.1]=rfs (bs++[y]) by simp]
   exact Z.setW (λx hx=>by
    rcases j6.mp hx with z | z
    .exact Z.wo x z
    .rw[g7.mp z];exact Z.wo y hy) (by simp;omega)
 clear U;rintro σ bn ⟨bs,rfl,U,aq⟩
 ctx_has v jT
 refine⟨λσ H'=>∃kvs,σ=[-d,some (.int mc),-a,-pa,-tn,-ra,-p,some (.int wy),none]/\im H H' d l a pa tn na va ra p ws ns mS mI kvs bs,?_,?_⟩
 .refine cN (λh=>?_) (λh=>⟨_,rfl,U⟩)
  refine aR U.E.D ∅ ∅ λi bH i0 i1 a8 a6=>?_
  have Y:=U.but a8 a6;obtain⟨v,hv,aY⟩:=iP (xs:=ns.map V.int) i0 (by rw[a_,b7];exact i1)
  obtain⟨n,hn,rfl⟩:=e7.mp aY;refine⟨i,rfl,_,Y.E.hp,_,hv,∅,λcM bK=>?_⟩
  have Z:=Y.same (aj.upd0 (o:=.tup [.int n]) bK);refine⟨_,Z.E.ha,aR Z.E.D (by rw[a_];omega) (by rw[a_];omega) λj ad j0 j1 cr bQ=>?_⟩
  have bm:=Z.but cr bQ;obtain⟨v2,cn,bw⟩:=iP (xs:=ws.map V.str) j0 j1;obtain⟨c,hc,rfl⟩:=e7.mp bw;exact⟨j,rfl,_,bm.E.ha,_,cn,e_ c,rfl,_,bm.hr,au (),_,rfl,bm.setR (rs:=[n]) hc (bQ.tup Z.E.D ab) ⟨by simp,by simp,by simp,λv hv=>by rw[g7.mp hv];exact hn⟩ co⟩
 clear U;rintro σ bn ⟨kvs,rfl,U⟩
 ctx_has v jT
 refine⟨λσ H'=>∃bs,σ=[-d,some (.int mc),-a,-pa,-tn,-ra,-p,some (.int wy),none]/\im H H' d l a pa tn na va ra p ws ns mS mI kvs bs/\bs.length<=16,?_,?_⟩
 .refine cN (λh=>⟨⟨_,U.hw⟩,∅,λso bx=>?_⟩) (λh=>⟨bs,rfl,U,()⟩)
  have Y:=U.same (aj.upd0 (o:=.lst ((fK false).map V.str)) bx);obtain⟨rm,F⟩:=yi Y.E Y.hr Y.nr Y.ro Y.ck;refine⟨d,l,a,ra,pa,so,ws,ns,kvs,rm,rfl,F,U.E.D.ne bx,ab,λw W a9 hW cm _ a7 av=>?_⟩
  have Z:=Y.but a7 av;refine⟨_,Z.hw,by rw[a_];exact au (),bs++[(w,W)],rfl,?_,by simp;omega⟩
  rw[show rfs bs++[V.ref w]=rfs (bs++[(w,W)]) by simp]
  exact Z.setW (λx hx=>by
   rcases j6.mp hx with z | z
   .exact Z.wo x z
   .rw[g7.mp z];exact⟨hW,cm⟩) (by simp;omega)
 clear U aq bs;rintro σ bn ⟨bs,rfl,U,aq⟩
 have g1:=U.hw;ctx_has v g1
 refine⟨d,l,p,_,_,rfl,U.E.D,.inl g1,by simp,Int.le_refl _,by rw[a_];omega,λtw cw rest bH c7 an cy c5 a8 a6=>?_⟩
 have Y:=U.but a8 a6;have g2:=Y.E.ha;ctx_has v g2
 refine⟨d,l,a,_,_,rfl,Y.E.D,.inl g2,by simp,Int.le_refl _,by rw[a_];omega,λtc cB cp a9 cK aK bD bN a7 av=>⟨tc,rfl,_,bN,λDl bE=>?_⟩⟩
 have Z:=Y.but a7 av;have ca:=U.E.D.ne c7;have bC:=av _ _ ca.1 ca.2 c5;obtain⟨nl,aH,rfl⟩:=uK aK (by rw[a_] at bD;omega)
 obtain⟨cl,bj,e0⟩:=uK (f:=λx:Addr × Wx=>V.ref x.1) an (by rw[a_] at cy;omega)
 subst e0;have b4:nl.length=ws.length:=aH.length_eq
 refine bL aT (λi xs H'=>∃cs:List (Addr × Str × Addr × List Int),xs=(cs.map λx=>V.ref x.1)/\cs.map (·.2.1)=nl.take i/\(∀x∈cs,H' x.1>>[.str x.2.1,.ref x.2.2.1]/\H' x.2.2.1>>(x.2.2.2.map V.int)/\dZ ns x.2.2.2)/\aj a9 H'/\H' Dl*>xs) ⟨[],rfl,rfl,(λx hx=>by cases hx),aj.upd0 bE,ab⟩ (λi xs H' bT=>by obtain⟨_,_,_,_,s,_⟩:=bT;exact(.of (s _ _ bN))) ?_ ?_
 .rintro i x xs ad hi hx ⟨cs,rfl,hcn,hca,s15,h15⟩
  obtain⟨c,bf,rfl⟩ : ∃c,nl[i]? = some c/\V.str c=x:=by
   rw[e9] at hx;cases e:nl[i]? with
   | none=>rw[e] at hx;cases hx
   | some c=>rw[e] at hx;exact⟨c,rfl,f_ hx⟩
  have c2:c∈ws:=aH.mem_iff.mp (i4 bf)
  have cE:cs.length<=i:=by
   have:=congrArg u8 hcn
   rw[a_,pk] at this;omega
  have bV:i < nl.length:=(i7.mp bf).1
  obtain⟨rb,rr,cc,cu,ce⟩:=sZ Z.ro Z.ck c2;have bz:=s15 _ _ Z.hr;have b5:=s15 _ _ cu;ctx_has v bz cc
  refine⟨∅,λq hq=>?_⟩
  have hk:=cz (o:=.lst ((cs.map λx=>V.ref x.1)++[V.ref q])) (aj.upd0 (o:=.tup [.str c,.ref rb]) hq _ _ h15)
  have kk : ∀a xs,ad a>>xs->upd (upd ad q (.tup [.str c,.ref rb])) Dl (.lst ((cs.map λx=>V.ref x.1)++[V.ref q])) a>>xs:=λa xs e=>hk _ _ (aj.upd0 hq _ _ e)
  refine⟨aj.upd0 hq _ _ h15,by rw[a_];exact au (),cs++[(q,c,rb,rr)],by simp,by rw[ii,hcn,i8,bf];rfl,λx hx=>?_,(s15.upd_new hq).putN bE,ab⟩
  rcases j6.mp hx with z | z
  .obtain⟨a1,a2,a3⟩:=hca x z
   exact⟨kk _ _ a1,kk _ _ a2,a3⟩
  .rw[g7.mp z]
   exact⟨hk _ _ ab,kk _ _ b5,ce⟩
 .rintro xs ad ⟨cs,rfl,hcn,hca,s15,h15⟩
  rw[a_,k9] at hcn;have c9:cs.length=ws.length:=by rw[<- b4,<- hcn,a_]
  refine⟨Dl,rfl,_,h15,λpc bG=>⟨∅,λpp bk=>⟨∅,λpr aD=>?_⟩⟩⟩
  have be:aj a9 (upd (upd (upd ad pc (.tup (cs.map λx=>V.ref x.1))) pp (.tup [.ref pc,.ref tw])) pr (.lst [.ref pp,.ref tn,.ref pa])):=((s15.upd_new bG).upd_new bk).upd_new aD
  have a4:aj ad (upd (upd (upd ad pc (.tup (cs.map λx=>V.ref x.1))) pp (.tup [.ref pc,.ref tw])) pr (.lst [.ref pp,.ref tn,.ref pa])):=((aj.upd0 bG).upd_new bk).upd_new aD
  have g1:upd (upd (upd ad pc (.tup (cs.map λx=>V.ref x.1))) pp (.tup [.ref pc,.ref tw])) pr (.lst [.ref pp,.ref tn,.ref pa]) pr*>[.ref pp,.ref tn,.ref pa]:=ab
  have g2:upd (upd (upd ad pc (.tup (cs.map λx=>V.ref x.1))) pp (.tup [.ref pc,.ref tw])) pr (.lst [.ref pp,.ref tn,.ref pa]) pp>>[.ref pc,.ref tw]:=(aj.upd0 aD) _ _ ab
  have g3:upd (upd (upd ad pc (.tup (cs.map λx=>V.ref x.1))) pp (.tup [.ref pc,.ref tw])) pr (.lst [.ref pp,.ref tn,.ref pa]) pc>>(cs.map λx=>V.ref x.1):=((aj.upd0 bk).upd_new aD) _ _ ab
  generalize upd (upd (upd ad pc (.tup (cs.map λx=>V.ref x.1))) pp (.tup [.ref pc,.ref tw])) pr (.lst [.ref pp,.ref tn,.ref pa])=G at be a4 g1 g2 g3 ⊢
  have GG:=Z.same be;refine k pr pp pc tw tn na va pa cs _ (cl.map (·.2)) ws ns mS mI G g1 ⟨g2,g3,λx hx=>⟨a4 _ _ (hca x hx).1,a4 _ _ (hca x hx).2.1⟩,?_,(),λx hx=>?_,be _ _ bC,⟨cl,rfl,rfl,λx hx=>(GG.wo x (bj.mem_iff.mp hx)).1⟩,λW hW=>?_,GG.E.nm,?_⟩ GG.E.T GG.E.ms GG.E.mi GG.E.hp GG.E.n2 GG.E.n3 GG.E.n4 GG.E.n5 GG.E.pw (by rw[hcn];exact aH) (λx hx=>(hca x hx).2.2) () ok GG.E.D GG.B
  .rw[hcn];exact aH.nodup_iff.mpr GG.E.nd
  .have:=(hca x hx).2.2.2.1
   omega
  .obtain⟨y,hy,rfl⟩:=e7.mp hW
   exact(GG.wo y (bj.mem_iff.mp hy)).2
  .rw[a_,bj.length_eq];omega
theorem oR {f:α->β} (z : ∀a b,f a=f b->a=b) {l m:List α} (h:l.map f=m.map f):l=m:=(map_inj_right z).mp h
theorem AH {a b:Option Int} (h:bD a=bD b):a=b:=by
 cases a <;> cases b <;> simp[bD] at h ⊢
 exact h
theorem dI {l m:List Int} (h:l.map Jr=m.map Jr):l=m:=oR (λ_ _ e=>PyData.int.inj e) h
theorem dS {l m:List Str} (h:l.map Kz=m.map Kz):l=m:=oR (λ_ _ e=>PyData.str.inj e) h
theorem dT {l m:List j8} (h:PyData.tuple l=PyData.tuple m):l=m:=PyData.tuple.inj h
theorem rX : ∀{W V:Wi},cT W=cT V->W=V:=by
 intro W V h;cases W <;> cases V <;> simp only[cT,JD,w6,KU,PyData.int.injEq,reduceCtorEq,and_false,false_and,and_true,true_and] at h <;> try (first | exact absurd h.1 ∅ | exact absurd h ∅)
 .rw[dS h]
 .rw[dI h.1,dS h.2.1,h.2.2.1,h.2.2.2]
 .rw[oR (λa b e=>?_) h.1,AH h.2.1,AH h.2.2]
  simp only[JD,w6,KU,PyData.int.injEq,and_true] at e;exact Prod.ext e.1 e.2
 .rw[dS h.1,oR (λa b e=>dI (dT e)) h.2]
 .rw[dS h.1,oR (λa b e=>?_) h.2.1,dI h.2.2]
  simp only[JD,w6,PyData.int.injEq,and_true] at e;exact Prod.ext e.1 (Prod.ext e.2.1 e.2.2)
 .rw[dS h.1,h.2]
theorem rW {W V:Wx} (h:cm W=cm V):W=V:=by
 cases W with
 | pl W =>
  cases V with
  | pl V=>rw[rX h]
  | sa c vs V =>
   exfalso
   cases W <;> simp only[cm,cT,JD,w6,KU] at h <;> exact absurd h.1 ∅
 | sa c vs W =>
  cases V with
  | pl V =>
   exfalso
   cases V <;> simp only[cm,cT,JD,w6,KU] at h <;> exact absurd h.1 ∅
  | sa U z V =>
   simp only[cm,JD,w6,KU,and_true,true_and] at h;rw[h.1,dI h.2.1,rX h.2.2]
theorem yE (ts:List (Int × Str)) (lo hi:Option Int):cS mS mI (.sm ts lo hi)=if idI mI then some (.sm (ts.map λx=>(x.1,ld mS x.2)) lo hi) else none:=rfl
theorem yC (cs:List Str) (z:Int):cS mS mI (.bh cs z)=if idI mI then some (.bh (cs.map (ld mS)) z) else none:=rfl
theorem DK (W:Wi):bG mS mI (.pl W)=(cS mS mI W).map .pl:=rfl
theorem DZ (c:Str) (vs:List Int) (W:Wi):bG mS mI (.sa c vs W)=(cS mS mI W).map (.sa (ld mS c) (vs.map (ld mI))):=rfl
theorem Ge (l m:List j8) (d:j8):cn (l++m) d=cn l d+cn m d:=by unfold cn;exact List.count_append
theorem Hk {l m:List j8} (h:l.Perm m) (d:j8):cn l d=cn m d:=h.count_eq d
theorem nE {α:Type} : ∀{l m:List α},l.Nodup->(∀x∈l,x∈m)->m.length<=l.length->l.Perm m
 | [],m,_,_,hl=>by
  cases m with
  | nil=>exact .nil
  | cons y m=>exact absurd hl (by simp)
 | x :: l,m,hn,h,hl=>by
  rw[w5] at hn;obtain⟨s,t,rfl⟩:=List.append_of_mem (h x j_);refine List.Perm.trans (.cons x (nE (m:=s++t) hn.2 (λy U=>?_) ?_)) perm_middle.symm
  .have:=h y (j9 _ U)
   rcases j6.mp this with z | z
   .exact t6 _ z
   .rcases i6.mp z with z | z
    .subst z;exact absurd U hn.1
    .exact uj _ z
  .simp at hl ⊢;omega
theorem lU  [DecidableEq α] (x:α):ld ([]:List (α × α)) x=x:=gw (by simp)
def xc {α:Type} (a b:α):List (α × α):=[(a,b),(b,a)]
theorem jS {a b:α} (h:a≠b):PM (xc a b):=⟨by simp[xc,h],.swap a b []⟩
theorem vS  [DecidableEq α] (a b x:α):ld (xc a b) x=if a=x then b else if b=x then a else x:=by
 unfold ld xc
 by_cases h:a=x
 .simp[h]
 .by_cases g:b=x
  .simp[h,g]
  .simp[h,g]
theorem tm  [DecidableEq α] (a b:α):ld (xc a b) a=b:=by rw[vS,if_pos rfl]
theorem xI  [DecidableEq α] (a b:α):ld (xc a b) b=a:=by
 rw[vS]
 by_cases h:a=b
 .rw[if_pos h,h]
 .rw[if_neg h,if_pos rfl]
theorem BA  [DecidableEq α] {a b x:α} (h:x≠a) (g:x≠b):ld (xc a b) x=x:=by rw[vS,if_neg h.symm,if_neg g.symm]
noncomputable def tnD (mS:List (Str × Str)) (mI:List (Int × Int)) (W:Wx):Wx:=(bG mS mI W).getD W
theorem tJ {Ws:List Wx}:Led mS mI Ws L↔(∀W∈Ws,bG mS mI W=some (tnD mS mI W))/\∀d,cn (Ws.map λW=>dP (tnD mS mI W)) d<=cn L d:=by
 have key : ∀z:List Wx,Ws.map (bG mS mI)=z.map some->(∀W∈Ws,bG mS mI W=some (tnD mS mI W))/\z=Ws.map (tnD mS mI):=by
  intro z h;have U : ∀W∈Ws,bG mS mI W=some (tnD mS mI W):=λW Y=>by
   have:bG mS mI W∈z.map some:=by rw[<- h];exact o7 Y
   obtain⟨V,_,e⟩:=e7.mp this;unfold tnD;rw[<- e];rfl
  refine⟨U,?_⟩
  have:z.map some=(Ws.map (tnD mS mI)).map some:=by
   rw[<- h,fx];exact q_ λW Y=>U W Y
  exact(map_inj_right λ_ _ e=>f_ e).mp this
 constructor
 .rintro⟨z,h,hc⟩
  obtain⟨U,e⟩:=key z h;refine⟨U,λd=>?_⟩
  have:=hc d
  rw[e,fx] at this;exact this
 .rintro⟨U,hc⟩
  refine⟨Ws.map (tnD mS mI),?_,λd=>?_⟩
  .rw[fx]
   exact q_ λW Y=>U W Y
  .rw[fx]
   exact hc d
theorem tY (g:α->j8) (t:α->Bool) (l:List α) (d:j8):cn (l.map g) d=cn ((l.filter t).map g) d+cn ((l.filter λx=>!t x).map g) d:=by
 rw[<- Ge,<- ii];exact Hk ((List.filter_append_perm t l).symm.map g) d
theorem wb {Ws:List Wx} (t:Wx->Bool) (Z : ∀W∈Ws,t W=false->bG mS mI W=some W)
  (hk : ∀W∈Ws,t W=true->∀V,bG mS mI W=some V->∀U∈Ws,t U=false->dP V≠dP U):Led mS mI (Ws.filter t) (Ws.map dP)↔Led mS mI Ws (Ws.map dP):=by
 rw[tJ,tJ]
 constructor
 .rintro⟨hs,hc⟩
  have Y : ∀W∈Ws,bG mS mI W=some (tnD mS mI W):=λW z=>by
   cases e:t W with
   | true=>exact hs W (u7.mpr ⟨z,e⟩)
   | false=>unfold tnD;rw[Z W z e];rfl
  refine⟨Y,λd=>?_⟩
  rw[tY _ t];have e0:((Ws.filter λx=>!t x).map λW=>dP (tnD mS mI W))=(Ws.filter λx=>!t x).map dP:=q_ λW z=>by
   obtain⟨h1,h2⟩:=u7.mp z;unfold tnD;rw[Z W h1 (by simpa using h2)]
   rfl
  rw[e0]
  by_cases h0:cn ((Ws.filter t).map λW=>dP (tnD mS mI W)) d=0
  .rw[h0,tY dP t Ws]
   omega
  .obtain⟨W,z,eW⟩:=e7.mp (List.count_pos_iff.mp (Nat.pos_of_ne_zero h0))
   obtain⟨h1,h2⟩:=u7.mp z;have:cn ((Ws.filter λx=>!t x).map dP) d=0:=by
    refine List.count_eq_zero.mpr λhd=>?_
    obtain⟨U,hU,eU⟩:=e7.mp hd;obtain⟨g1,g2⟩:=u7.mp hU;exact hk W h1 h2 _ (Y W h1) U g1 (by simpa using g2) (eW.trans eU.symm)
   rw[this];exact hc d
 .rintro⟨hs,hc⟩
  refine⟨λW z=>hs W (u7.mp z).1,λd=>le_trans ?_ (hc d)⟩
  exact List.Sublist.count_le d (List.filter_sublist.map _)
def fB:Wi->List Int
 | .mn z _ _ _=>z
 | .tb _ rows=>rows.flatten
 | .wy _ ps _=>ps.map (·.2.1)
 | _=>[]
def dt:Wx->List Int
 | .pl W=>fB W
 | .sa _ vs W=>vs++fB W
def qQ:Wi->Bool
 | .sm _ _ _=>true
 | .bh _ _=>true
 | _=>false
def jj:Wx->Bool
 | .pl W=>qQ W
 | .sa _ _ W=>qQ W
theorem eF {f:α->α} {l:List α} (h : ∀x∈l,f x=x):l.map f=l:=by
 conv=>rhs;rw[<- map_id l]
 exact q_ h
theorem rq {W:Wi} (z : ∀c∈cE W,ld mS c=c) (Z : ∀v∈fB W,ld mI v=v) (hs:qQ W=true->idI mI=true):cS mS mI W=some W:=by
 cases W with
 | un cs=>show some (Wi.un (cs.map (ld mS)))=_;rw[eF (l:=cs) z]
 | mn av cs lo hi=>show some (Wi.mn (av.map (ld mI)) (cs.map (ld mS)) lo hi)=_;rw[eF (l:=av) Z,eF (l:=cs) z]
 | sm ts lo hi =>
  rw[yE,if_pos (hs rfl),eF (f:=λx:Int × Str=>(x.1,ld mS x.2)) λx Y=>?_]
  rw[z x.2 (o7 (f:=Prod.snd) Y)]
 | tb cs rows =>
  show some (Wi.tb (cs.map (ld mS)) (rows.map λr=>r.map (ld mI)))=_
  rw[eF (l:=cs) z,eF (f:=λr:List Int=>r.map (ld mI)) λr hr=>eF λv U=>Z v (mem_flatten.mpr ⟨r,hr,U⟩)]
 | wy cs ps es =>
  show some (Wi.wy (cs.map (ld mS)) (ps.map λx=>(x.1,ld mI x.2.1,x.2.2)) es)=_
  rw[eF (l:=cs) z,eF (f:=λx:Int × Int × Int=>(x.1,ld mI x.2.1,x.2.2)) λx Y=>?_]
  rw[Z x.2.1 (o7 (f:=λx:Int × Int × Int=>x.2.1) Y)]
 | bh cs aa=>rw[yC,if_pos (hs rfl),eF (l:=cs) z]
theorem rn {W:Wx} (z : ∀c∈cp W,ld mS c=c) (U : ∀v∈dt W,ld mI v=v) (Y:jj W=true->idI mI=true):bG mS mI W=some W:=by
 cases W with
 | pl W=>rw[DK,rq z U Y];rfl
 | sa c vs W =>
  rw[DZ,rq (λx Z=>z x (j9 _ Z)) (λv h=>U v (uj _ h)) Y,z c j_,eF λv h=>U v (t6 _ h)]
  rfl
theorem oj {W:Wi} (Y:qQ W=true) (hi:idI mI=false):cS mS mI W=none:=by
 cases W with
 | sm ts lo z=>rw[yE,if_neg (by rw[hi];decide)]
 | bh cs U=>rw[yC,if_neg (by rw[hi];decide)]
 | _=>cases Y
theorem wU {W:Wx} (z:jj W=true) (hi:idI mI=false):bG mS mI W=none:=by
 cases W with
 | pl W=>rw[DK,oj z hi];rfl
 | sa c vs W=>rw[DZ,oj z hi];rfl
theorem oY {W V:Wi} (h:cS mS mI W=some V):cE V=(cE W).map (ld mS):=by
 cases W with
 | un cs=>cases h;rfl
 | mn U cs lo hi=>cases h;rfl
 | sm ts lo hi =>
  rw[yE] at h
  split at h <;> cases h
  show(ts.map _).map _=(ts.map _).map _
  rw[fx,fx];rfl
 | tb cs rows=>cases h;rfl
 | wy cs ps es=>cases h;rfl
 | bh cs z=>rw[yC] at h;split at h <;> cases h;rfl
theorem xl {W V:Wx} (h:bG mS mI W=some V):cp V=(cp W).map (ld mS):=by
 cases W with
 | pl W =>
  obtain⟨U,z,e⟩:=JG.mp h;subst e;exact oY z
 | sa c vs W =>
  obtain⟨U,z,e⟩:=JG.mp h;subst e
  show _ :: cE U=_
  rw[oY z];rfl
theorem pV {W V:Wi} (h:cS mS mI W=some V):fB V=(fB W).map (ld mI):=by
 cases W with
 | un cs=>cases h;rfl
 | mn U cs lo hi=>cases h;rfl
 | sm ts lo hi=>rw[yE] at h;split at h <;> cases h;rfl
 | tb cs rows=>cases h;show(rows.map λr=>r.map (ld mI)).flatten=rows.flatten.map (ld mI);rw[List.map_flatten]
 | wy cs ps es=>cases h;show(ps.map _).map _=(ps.map _).map _;rw[fx,fx];rfl
 | bh cs z=>rw[yC] at h;split at h <;> cases h;rfl
theorem xF {W V:Wx} (h:bG mS mI W=some V):dt V=(dt W).map (ld mI):=by
 cases W with
 | pl W =>
  obtain⟨U,z,e⟩:=JG.mp h;subst e;exact pV z
 | sa c vs W =>
  obtain⟨U,z,e⟩:=JG.mp h;subst e
  show vs.map _++fB U=(vs++fB W).map _
  rw[pV z,ii]
theorem vV {A B:Wi} (ok:okW ws ns A) (m:xz A B) : ∀v,v∈fB B↔v∈fB A:=by
 match A,B,ok,m with
 | .un _,.un _,_,_=>exact λ_=>Iff.rfl
 | .mn av cs lo hi,.mn av' cs' lo' hi',_,m=>exact λv=>m.1.mem_iff
 | .sm _ _ _,.sm _ _ _,_,_=>exact λ_=>Iff.rfl
 | .tb cs rows,.tb cs' rows',ok,⟨pl,hp,_,hr⟩ =>
  intro v
  show v∈rows'.flatten↔v∈rows.flatten
  rw[mem_flatten,mem_flatten];have Y : ∀r∈rows,∀x,x∈bQ 0 pl r↔x∈r:=λr z x=>by
   have hl:=ok.2.2.1 r z
   constructor
   .intro hx
    obtain⟨i,hi,e⟩:=e7.mp hx;have:i < r.length:=by rw[hl];exact x8.mp (hp.mem_iff.mp hi)
    rw[<- e,j7,h_ this];exact A_ this
   .intro hx
    obtain⟨i,hi,e⟩:=K2.mp hx;refine e7.mpr ⟨i,hp.mem_iff.mpr (x8.mpr (by rw[<- hl];exact hi)),?_⟩
    rw[j7,h_ hi];exact e
  constructor
  .rintro⟨r',h1,h2⟩
   obtain⟨r,U,e⟩:=e7.mp (hr.mem_iff.mp h1);subst e;exact⟨r,U,(Y r U v).mp h2⟩
  .rintro⟨r,h1,h2⟩
   exact⟨bQ 0 pl r,hr.mem_iff.mpr (o7 h1),(Y r h1 v).mpr h2⟩
 | .wy cs ps es,.wy cs' ps' es',_,⟨_,p,_⟩=>exact λv=>(p.map _).mem_iff
 | .bh _ _,.bh _ _,_,_=>exact λ_=>Iff.rfl
theorem rM {A B:Wx} (ok:okX ws ns A) (m:ze A B) : ∀v,v∈dt B↔v∈dt A:=by
 match A,B,ok,m with
 | .pl A,.pl B,ok,m=>exact vV (A:=A) ok m
 | .sa c vs A,.sa c' vs' B,ok,⟨_,p,m⟩ =>
  intro v
  show v∈vs'++fB B↔v∈vs++fB A
  rw[j6,j6,p.mem_iff,vV ok.2.2.1 m v]
theorem CO {A B:Wx} (z:okX ws ns A) (ob:okX ws ns B) (e:dP A=dP B) : ∀v,v∈dt A↔v∈dt B:=λv=>by
 have h:dO A=dO B:=rW e
 rw[<- rM z (fc z) v,h,rM ob (fc ob) v]
theorem Bd {A B:Wx} (z:okX ws ns A) (ob:okX ws ns B) (e:dP A=dP B) : ∀c,c∈cp A↔c∈cp B:=λc=>by
 have h:dO A=dO B:=rW e
 rw[<- (pd (fc z)).mem_iff,h,(pd (fc ob)).mem_iff]
noncomputable def jg (a b:Str) (W:Wx):Bool:=decide (a∈cp W) || decide (b∈cp W)
noncomputable def jf (a b:Int) (W:Wx):Bool:=decide (a∈dt W) || decide (b∈dt W)
theorem yX {p q:Prop} [Decidable p] [Decidable q] (h:(decide p || decide q)=false) : ¬ p/\¬ q:=by
 rw[Bool.or_eq_false_iff] at h;exact⟨of_decide_eq_false h.1,of_decide_eq_false h.2⟩
theorem BM {p q:Prop} [Decidable p] [Decidable q] (h:(decide p || decide q)=true):p\/q:=by
 rw[Bool.or_eq_true] at h;exact h.imp of_decide_eq_true of_decide_eq_true
section
variable {ns':List Int} {Ws:List Wx}
theorem zf {a b:Str} (ok : ∀W∈Ws,okX ws ns W) (Z : ∀W∈Ws,∀V,bG (xc a b) [] W=some V->okX ws ns V):Led (xc a b) [] (Ws.filter (jg a b)) (Ws.map dP)↔Led (xc a b) [] Ws (Ws.map dP):=by
 refine wb _ (λW _ h=>?_) λW hW h V hV U hU g e=>?_
 .obtain⟨h1,h2⟩:=yX h
  exact rn (λc Y=>BA (λz=>h1 (z ▸ Y)) (λz=>h2 (z ▸ Y))) (λv _=>lU v) (λ_=>rfl)
 .obtain⟨g1,g2⟩:=yX g
  have Y:=Bd (Z W hW V hV) (ok U hU) e;have ht:cp V=(cp W).map (ld (xc a b)):=xl hV
  rcases BM h with z | z
  .exact g2 ((Y b).mp (by rw[ht];exact e7.mpr ⟨a,z,tm a b⟩))
  .exact g1 ((Y a).mp (by rw[ht];exact e7.mpr ⟨b,z,xI a b⟩))
theorem Au {a b:Int} (hs : ∀W∈Ws,jj W=false) (ok : ∀W∈Ws,okX ws ns W) (Y : ∀W∈Ws,∀V,bG [] (xc a b) W=some V->okX ws ns V):Led [] (xc a b) (Ws.filter (jf a b)) (Ws.map dP)↔Led [] (xc a b) Ws (Ws.map dP):=by
 refine wb _ (λW Z h=>?_) λW Z h V hV U hU g e=>?_
 .obtain⟨h1,h2⟩:=yX h
  exact rn (λc _=>lU c) (λv hv=>BA (λz=>h1 (z ▸ hv)) (λz=>h2 (z ▸ hv))) (λz=>by rw[hs W Z] at z;cases z)
 .obtain⟨g1,g2⟩:=yX g
  have hc:=CO (Y W Z V hV) (ok U hU) e;have ht:=xF hV;rcases BM h with z | z
  .exact g2 ((hc b).mp (by rw[ht];exact e7.mpr ⟨a,z,tm a b⟩))
  .exact g1 ((hc a).mp (by rw[ht];exact e7.mpr ⟨b,z,xI a b⟩))
theorem BC {a b:Int} (h:a≠b) {W:Wx} (z:W∈Ws) (U:jj W=true) (L:List j8) : ¬ Led [] (xc a b) Ws L:=λhl=>by
 have:=(tJ.mp hl).1 W z
 rw[wU U (by unfold idI xc;simp[h])] at this
 cases this
theorem eY {α β:Type} : ∀{l:List (α × β)},(l.map (·.1)).Nodup->∀{x y:α × β},x∈l->y∈l->x.1=y.1->x=y
 | [],_,_,_,hx,_,_=>by cases hx
 | z :: l,hn,x,y,hx,hy,e=>by
  rw[i_,w5] at hn;rcases i6.mp hx with rfl | hx' <;> rcases i6.mp hy with rfl | hy'
  .rfl
  .exact absurd (by rw[e];exact o7 (f:=Prod.fst) hy') hn.1
  .exact absurd (by rw[<- e];exact o7 (f:=Prod.fst) hx') hn.1
  .exact eY hn.2 hx' hy' e
theorem vh (hn:(ds.map (·.1)).Nodup) (hs : ∀x∈ds,x.2.Pairwise (·<=·)) {a b:Str} {ra Z:List Int} (U:(a,ra)∈ds) (Y:(b,Z)∈ds):kR (xc a b) [] ds↔ra=Z:=by
 have tr : ∀x∈ds,rH (xc a b) [] x=(ld (xc a b) x.1,x.2):=λx z=>by
  unfold rH;rw[eF (f:=ld ([]:List (Int × Int))) λv _=>lU v,nX (iy x.2) (mN x.2) (hs x z)]
 constructor
 .rintro⟨_,h⟩
  have:=h _ U
  rw[tr _ U] at this;simp only[tm] at this;exact congrArg Prod.snd (eY hn this Y rfl)
 .rintro rfl
  refine⟨λx z=>?_,λx z=>?_⟩
  .rcases i6.mp z with rfl | z
   .exact o7 (f:=Prod.fst) U
   .rw[g7.mp z]
    exact o7 (f:=Prod.fst) Y
  .rw[tr x z,vS]
   by_cases h1:a=x.1
   .rw[if_pos h1,<- show(a,ra)=x from eY hn U z h1]
    exact Y
   .by_cases h2:b=x.1
    .rw[if_neg h1,if_pos h2,<- show(b,ra)=x from eY hn Y z h2]
     exact U
    .rw[if_neg h1,if_neg h2]
     exact z
theorem xu (hn:(ds.map (·.1)).Nodup) (hs : ∀x∈ds,x.2.Pairwise (· < ·)) {a b:Int} (Y:a≠b):kR [] (xc a b) ds↔∀x∈ds,(a∈x.2↔b∈x.2):=by
 have le : ∀x∈ds,x.2.Pairwise (·<=·):=λx U=>(hs x U).imp λh=>by omega
 have nd : ∀x∈ds,x.2.Nodup:=λx U=>(hs x U).imp λh=>by omega
 have Z : ∀x:Str × List Int,rH [] (xc a b) x=(x.1,srt (x.2.map (ld (xc a b)))):=λx=>by unfold rH;rw[lU]
 constructor
 .rintro⟨_,h⟩ x U
  have h1:=h x U;rw[Z] at h1;have h2:srt (x.2.map (ld (xc a b)))=x.2:=congrArg Prod.snd (eY hn h1 U rfl)
  have hm : ∀v,v∈x.2.map (ld (xc a b))↔v∈x.2:=λv=>by rw[<- (iy (x.2.map (ld (xc a b)))).mem_iff,h2]
  exact⟨λz=>(hm b).mp (e7.mpr ⟨a,z,tm a b⟩),λz=>(hm a).mp (e7.mpr ⟨b,z,xI a b⟩)⟩
 .intro h
  refine⟨λx U=>(by cases U),λx U=>?_⟩
  rw[Z];have hp:(x.2.map (ld (xc a b))).Perm x.2:=by
   refine nE ?_ (λv hv=>?_) (by rw[a_];exact j5 _)
   .exact l9.mpr ((nd x U).imp λne e=>ne (iH (jS Y) e))
   .obtain⟨u,hu,rfl⟩:=e7.mp hv
    rw[vS]
    by_cases h1:a=u
    .subst h1;rw[if_pos rfl];exact(h x U).mp hu
    .by_cases h2:b=u
     .subst h2;rw[if_neg h1,if_pos rfl];exact(h x U).mpr hu
     .rw[if_neg h1,if_neg h2];exact hu
  rw[nX ((iy _).trans hp) (mN _) (le x U)];exact U
end
def En:Sp:=λvs H Q _=>∃z k2:Key,vs=[kV z,kV k2]/\z≠k2/\∀p H',H p=none->aj H H'->H' p<*[(z,kV k2),(k2,kV z)]->Q (.ref p) H'
theorem HK {z k2:Key} (h:z≠k2) (x y:V):bj [(z,x)] k2 y=[(z,x),(k2,y)]:=dC y (by simp[bg,h])
theorem EH {z k2:Key} (h:z≠k2) (x y:V):dN [] [(z,x),(k2,y)]=[(z,x),(k2,y)]:=HK h x y
def DG:Sp:=λvs H Q _=>∃(t:Addr) (z k2:Key),vs=[.ref t]/\H t>>[kV z,kV k2]/\z≠k2/\∀p H',H p=none->aj H H'->H' p<*[(z,kV k2),(k2,kV z)]->Q (.ref p) H'
def prN (xs:List V) (n:Nat):List (V × V):=(range n).flatMap λj=>(xs.drop (j+1)).map λy=>(xs.getD j .non,y)
theorem pb (xs:List V) (n:Nat):prN xs (n+1)=prN xs n++(xs.drop (n+1)).map λy=>(xs.getD n .non,y):=by
 unfold prN;rw[range_succ,List.flatMap_append,List.flatMap_singleton]
theorem tM (xs:List V) : ∀n,(prN xs n).length<=n * xs.length
 | 0=>r_ _
 | n+1=>by
  rw[pb,nH,a_,D_,succ_mul];have:=tM xs n
  omega
theorem vF {ys:List (V × V)} (hl:xs.length<=20) (hi:i<=20) (h:as.map (·.2)=prN xs i++ys) (U:ys.length<=20):as.length<=500:=by
 have h1:=congrArg u8 h;rw[a_,nH] at h1;have h2:=tM xs i;have z:i * xs.length<=20 * 20:=mul_le_mul hi hl
 omega
theorem wW (h:i < xs.length):xs[i]? = some (xs.getD i .non):=by rw[j7,h_ h];rfl
theorem gv (h:H p*>ys) : ∀a xs,H a>>xs->upd H p o a>>xs:=λa xs e=>by
 rw[ai (bA e h (by intro z;cases z))];exact e
theorem Cb {q:Addr} {u v:V} (Y:H0 p=none) (s:aj H0 H) (hp:H p*>(as.map λx=>V.ref x.1)) (ha : ∀x∈as,H x.1>>[x.2.1,x.2.2]) (U:H q=none) (l:List V) (hl:l=(as.map λx=>V.ref x.1)++[V.ref q]) :
  upd (upd H q (.tup [u,v])) p (.lst l) p*>((as++[(q,u,v)]).map λx=>V.ref x.1)/\(∀x∈as++[(q,u,v)],upd (upd H q (.tup [u,v])) p (.lst l) x.1>>[x.2.1,x.2.2])/\aj H0 (upd (upd H q (.tup [u,v])) p (.lst l)):=by
 have Z:=gv (o:=.lst l) (aj.upd0 (o:=.tup [u,v]) U _ _ hp);refine⟨by rw[ab,hl,ii];rfl,λx hx=>?_,(s.upd_new U).putN Y⟩
 rcases j6.mp hx with z | z
 .exact Z _ _ (aj.upd0 U _ _ (ha x z))
 .rw[g7.mp z]
  exact Z _ _ ab
theorem Bp (xs:List V) (i:Nat):dM xs (some ((i:Int)+1)) none=xs.drop (i+1):=by
 unfold dM;rw[HT.sIx_none,show((i:Int)+1)=((i+1:Nat):Int) by omega,HT.sIx_nat]
 by_cases h:i+1<=xs.length
 .rw[min_eq_left h]
  exact t4 (by rw[D_];omega)
 .rw[Nat.min_eq_right (),List.drop_of_length_le (j5 _),List.drop_of_length_le ()]
  exact List.take_nil
def prs (xs:List V):List (V × V):=prN xs xs.length
def PrsAt (H:Hp) (p:Addr) (ps:List (V × V)):Prop:=∃as:List (Addr × V × V),H p*>(as.map λx=>V.ref x.1)/\as.map (·.2)=ps/\∀x∈as,H x.1>>[x.2.1,x.2.2]
def Aj:Sp:=λvs H Q _=>∃(a:Addr) (xs:List V),vs=[.ref a]/\H a*>xs/\xs.length<=20/\∀p H',H p=none->aj H H'->PrsAt H' p (prs xs)->Q (.ref p) H'
abbrev EN:=Fn P w K mg base "exchange" 1 ["one","other"] (En)
theorem vB (T:Txt w K mg base) (L:FnL K mg "exchange" jy ["one","other"]) : @EN P w K mg base:=by
 ctx_has z uD <;> obtain⟨Z,k2,rfl,U,k⟩:=h
 .rfl
 refine⟨_,(ag (aC (yu (gj (pvM 0) (pvM 1) (gj (pvM 1) (pvM 0) yp)) rfl rfl (by nofun) ∅))),?_⟩
 ctx_has v
 intro p Y;refine⟨ab,[(Z,kV k2),(k2,kV Z)],rfl,by simp,?_⟩
 rw[EH U,tf];exact k p _ Y (aj.upd0 Y) ab
theorem sI (T:Txt w K mg base) (L:FnL K mg "_law_swap" io ["_law_pair"]):Fn P w K mg base "_law_swap" 1 ["_law_pair"] (DG):=by
 ctx_has z sv <;> obtain⟨t,Y,k2,rfl,ht,Z,k⟩:=h
 .rfl
 refine⟨_,(af (aB 1 cj)
  (af (fH hu (pvM 1) (ak ao (pvM 0) ae) (ak ao (pvM 0) ae) rfl)
  (af (fH hu (pvM 1) (ak ao (pvM 0) ae) (ak ao (pvM 0) ae) rfl)
  (ag (aC (pvM 1)))))),?_⟩
 ctx_has v
 intro q U;have h1:=aj.upd0 (o:=.dK []) U _ _ ht;ctx_has v h1
 refine⟨Y,rfl,_,ab,∅,?_⟩
 rw[tf];have h2:=aj.upd0 (o:=.dK (bj [] Y (kV k2))) U _ _ ht;ctx_has v h2
 refine⟨k2,rfl,_,ab,au (by show 1<=1000;decide),?_⟩
 rw[tf,show bj [] Y (kV k2)=[(Y,kV k2)] from rfl,HK Z]
 exact k q _ U (aj.upd0 U) ab
abbrev GB:=Fn P w K mg base "pairs_of" 1 ["things"] (Aj)
theorem uh (T:Txt w K mg base) (L:FnL K mg "pairs_of" gy ["things"]) : @GB P w K mg base:=by
 ctx_has z vP <;> obtain⟨a,xs,rfl,ha,hl,k⟩:=h
 .rfl
 refine⟨_,(af (aB 1 (ba ac))
  (af (bc (An (K:=K) rfl rfl T.b_enumerate (aa (pvM 0) ac)) (cH (n:=2) rfl (aV (az 2) (aV (az 3) cG))) (ag (bu (cA PySem.F.slot_list_extend PySem.F.type_list_extend zC (pvM 1) (aa (aW (N:=["other","one"]) (nt:=1) (js:=[3]) (aE ["things","pairs","place","one"] (am gy).names) (qV K (bI A1 (pvM 0) (bP (aO bq (pvM 2) ae)) cb)) (az 0) aL aU (aI (aa (pvM 1) (aa (pvM 0) ac)))) ac)))))
  (ag (aC (pvM 1))))),?_⟩
 ctx_has v
 refine⟨∅,λp hp=>?_⟩
 have h0:=aj.upd0 (o:=.lst []) hp _ _ ha;unfold iEl;ctx_has v
 refine⟨xs,h0,?_⟩
 refine CH (xs:=xs) (λi σ H'=>∃(as:List (Addr × V × V)) (v2 v3:Option V),σ=[-a,-p,v2,v3]/\H' p*>(as.map λx=>V.ref x.1)/\as.map (·.2)=prN xs i/\(∀x∈as,H' x.1>>[x.2.1,x.2.2])/\aj H H')
  ⟨[],_,_,rfl,ab,rfl,(λx hx=>by cases hx),aj.upd0 hp⟩ (λi σ H' ai=>by obtain⟨_,_,_,_,_,_,_,s⟩:=ai;exact(.of (s _ _ ha))) ?_ ?_
 .rintro i x σ H1 t hx ⟨as,v2,v3,rfl,h1p,has,hat,s1⟩ ht
  have s2:=s1.upd_new (o:=.tup [.int (i:Nat),x]) ht;have U:=aj.upd0 (o:=.tup [.int (i:Nat),x]) ht _ _ h1p;have ah:=s2 _ _ ha;have ak:upd H1 t (.tup [.int (i:Nat),x]) t>>[.int (i:Nat),x]:=ab
  have Y : ∀y∈as,upd H1 t (.tup [.int (i:Nat),x]) y.1>>[y.2.1,y.2.2]:=λy hy=>aj.upd0 ht _ _ (hat y hy)
  generalize upd H1 t (.tup [.int (i:Nat),x])=H2 at s2 U ah ak Y ⊢;ctx_has v ak ah U
  intro c hc;rw[Bp];refine⟨_,ab,λD hD=>?_⟩
  have Z:=aj.upd0 (o:=.lst (xs.drop (i+1))) hc;have ao:upd H2 c (.lst (xs.drop (i+1))) c*>(xs.drop (i+1)):=ab
  generalize upd H2 c (.lst (xs.drop (i+1)))=H3 at Z ao hD ⊢;refine bL bz (λj ys H'=>∃bs:List (Addr × V × V),ys=(bs.map λz=>V.ref z.1)/\bs.map (·.2)=((xs.drop (i+1)).take j).map (λy=>(x,y))/\(∀z∈bs,H' z.1>>[z.2.1,z.2.2])/\aj H3 H'/\H' D*>ys) ⟨[],rfl,rfl,(λz hz=>by cases hz),aj.upd0 hD,ab⟩ (λj ys H' ad=>by obtain⟨_,_,_,_,s,_⟩:=ad;exact(.of (s _ _ ao))) ?_ ?_
  .rintro j y ys H4 hj hy ⟨bs,rfl,hbs,hbt,s4,h4D⟩
   ctx_has v
   refine⟨∅,λq hq=>⟨aj.upd0 hq _ _ h4D,?_,?_⟩⟩
   .have:=congrArg u8 hbs
    rw[a_,a_,pk] at this;rw[a_];exact au (by rw[D_] at this;omega)
   .obtain⟨g1,g2,g3⟩:=Cb (u:=x) (v:=y) hD s4 h4D hbt hq _ rfl
    refine⟨bs++[(q,x,y)],by simp,?_,g2,g3,ab⟩
    rw[ii,hbs,i8,ii,hy];rfl
  .rintro ys H4 ⟨bs,rfl,hbs,hbt,s4,h4D⟩
   rw[k9] at hbs;have an:=s4 _ _ (Z _ _ U);have aq:p≠D:=ap (Z _ _ U) hD
   refine⟨D,rfl,_,an,_,h4D,?_,as++bs,by rw[ab,ii],?_,λz hz=>?_,(s2.trans (Z.trans s4)).putN hp⟩
   .have h1:=vF (ys:=[]) hl (ot (l4 (i7.mp hx).1 hl)) (by rw[has,J8]) ∅
    have h2:=congrArg u8 hbs;rw[a_,a_,D_] at h2;rw[a_,a_];exact ot (au ())
   .rw[ii,has,hbs,pb,j7,hx]
    rfl
   .have hk:=gv (o:=.lst ((as.map λx=>V.ref x.1)++bs.map λz=>V.ref z.1)) an
    rcases j6.mp hz with y | y
    .exact hk _ _ (s4 _ _ (Z _ _ (Y z y)))
    .exact hk _ _ (hbt z y)
 .rintro σ H1 ⟨as,v2,v3,rfl,h1p,has,hat,s1⟩
  ctx_has v
  exact k p H1 hp s1 ⟨as,h1p,has,hat⟩
theorem qw (T:Txt w K mg base) (L:FnL K mg "_law_pairs" gz ["_law_things"]):Fn P w K mg base "_law_pairs" 1 ["_law_things"] (Aj):=by
 ctx_has z qt <;> obtain⟨a,xs,rfl,ha,hl,k⟩:=h
 .rfl
 refine⟨_,(af (aB 1 (ba ac))
  (af (bc (ci rfl T.b_range (aa (aF aZ T.b_len (aa (pvM 0) ac)) ac)) (az 2) (ag (bc (zN rfl T.b_range (aa (aO bq (pvM 2) ae) (aa (aF aZ T.b_len (aa (pvM 0) ac)) ac))) (az 3) (ag (bu (cA l5 l7 bo (pvM 1) (aa (aI (aa (ak dE (pvM 0) (pvM 2)) (aa (ak dE (pvM 0) (pvM 3)) ac))) ac)))))))
  (ag (aC (pvM 1))))),?_⟩
 ctx_has v
 refine⟨∅,λp Z=>?_⟩
 have h0:=aj.upd0 (o:=.lst []) Z _ _ ha;refine⟨xs,h0,(),(),?_⟩
 refine bK bM (λi σ H'=>∃(as:List (Addr × V × V)) (v2 Y:Option V),σ=[-a,-p,v2,Y]/\H' p*>(as.map λx=>V.ref x.1)/\as.map (·.2)=prN xs i/\(∀x∈as,H' x.1>>[x.2.1,x.2.2])/\aj H H')
  ⟨[],_,_,rfl,ab,rfl,(λx U=>by cases U),aj.upd0 Z⟩ (λ_ _ _ _=>ow) ?_ ?_
 .rintro i x σ H1 hi U ⟨as,v2,Y,rfl,h1p,has,hat,s1⟩
  rw[aK] at hi;rw[er hi] at U;cases U;have ad:=s1 _ _ ha;ctx_has v ad
  refine⟨(),(),(),(),?_⟩
  refine bK bM (λj σ H'=>∃(as:List (Addr × V × V)) (Y:Option V),σ=[-a,-p,some (.int (0+i)),Y]/\H' p*>(as.map λx=>V.ref x.1)/\as.map (·.2)=prN xs i++((xs.drop (i+1)).take j).map (λy=>(xs.getD i .non,y))/\(∀x∈as,H' x.1>>[x.2.1,x.2.2])/\aj H H')
   ⟨as,_,rfl,h1p,by simpa using has,hat,s1⟩ (λ_ _ _ _=>ow) ?_ ?_
  .rintro j x σ H2 hj U ⟨as,Y,rfl,h2p,has,hat,s2⟩
   rw[aK] at hj;rw[er hj] at U;cases U;have ah:=s2 _ _ ha;ctx_has v ah
   have e1:atI xs (0+(i:Int))=some (xs.getD i .non):=by rw[Kk];exact aQ (wW ())
   have e2:atI xs (0+(i:Int)+1+j)=some (xs.getD (i+1+j) .non):=by rw[show(0+(i:Int)+1+j)=((i+1+j:Nat):Int) by omega];exact aQ (wW ())
   refine⟨⟨_,h2p⟩,_,e1,_,e2,∅,λq hq=>⟨_,aj.upd0 hq _ _ h2p,?_,?_⟩⟩
   .rw[a_]
    exact au (le_trans (vF hl () has (by rw[a_,pk,D_];omega)) ∅)
   .obtain⟨g1,g2,g3⟩:=Cb (u:=xs.getD i .non) (v:=xs.getD (i+1+j) .non) Z s2 h2p hat hq _ rfl
    refine⟨as++[(q,xs.getD i .non,xs.getD (i+1+j) .non)],g1,?_,g2,g3⟩
    rw[ii,has,append_assoc,i8,ii,List.getElem?_drop,wW ()]
    rfl
  .rintro σ H2 ⟨as,Y,rfl,h2p,has,hat,s2⟩
   refine⟨as,_,_,rfl,h2p,?_,hat,s2⟩
   rw[has,pb,aK,t4 (by rw[D_];omega)]
 .rintro σ H1 ⟨as,v2,Y,rfl,h1p,has,hat,s1⟩
  ctx_has v
  rw[aK] at has;exact k p H1 Z s1 ⟨as,h1p,by rw[has];rfl,hat⟩
def Ab (H H':Hp):Prop:=∀a vs,H a>>vs->H' a>>vs
theorem aj.keepT (a:aj H H1):Ab H H1:=λp vs h=>a p _ h
def si (H:Hp) (x:V) (z:Str):Prop:=∃p c,x = .ref p/\H p>>[.int c,.str z]
def jk (H:Hp) (v:V) (cells:List Str):Prop:=∃p,v = .ref p /\
  ((∃(s:Str) (t:Addr) (rest:List V),(s = "unlike" \/ s = "table" \/ s = "way" \/ s = "behind")/\H p>>(.str s :: .ref t :: rest)/\H t>>(cells.map V.str)) \/
   (∃(x:V) (t:Addr) (rest:List V),H p>>(.str "many" :: x :: .ref t :: rest)/\H t>>(cells.map V.str)) \/
   (∃(t:Addr) (rest ts:List V),H p>>(.str "sum" :: .ref t :: rest)/\H t>>ts/\ts.length=cells.length/\∀(i:Nat) x,ts[i]? = some x->∃z,cells[i]? = some z/\si H x z))
theorem si.keep {x:V} {z:Str} (k:Ab H H') (h:si H x z):si H' x z:=by
 obtain⟨p,c,rfl,h⟩:=h;exact⟨p,c,rfl,k _ _ h⟩
theorem jk.keep {H H':Hp} {v:V} {cells:List Str} (k:Ab H H') (h:jk H v cells):jk H' v cells:=by
 obtain⟨p,rfl,h⟩:=h;refine⟨p,rfl,?_⟩
 rcases h with⟨s,t,rest,z,h1,h2⟩ | ⟨x,t,rest,h1,h2⟩ | ⟨t,rest,ts,h1,h2,h3,h4⟩
 .exact .inl ⟨s,t,rest,z,k _ _ h1,k _ _ h2⟩
 .exact .inr (.inl ⟨x,t,rest,k _ _ h1,k _ _ h2⟩)
 .exact .inr (.inr ⟨t,rest,ts,k _ _ h1,k _ _ h2,h3,λi x e=>by obtain⟨U,a,b⟩:=h4 i x e;exact⟨U,a,b.keep k⟩⟩)
def AN (H:Hp) (v:V) (cells:List Str):Prop:=jk H v cells\/∃(p:Addr) (z:Str) (x bZ:V) (cs:List Str),v = .ref p/\H p>>[.str "same",.str z,x,bZ]/\jk H bZ cs/\cells=z :: cs
def vi:Sp:=λvs H Q _=>∃(v:V) (cells:List Str),vs=[v]/\jk H v cells/\cells.length<=15/\∀(p:Addr) (H':Hp),H' p>>(cells.map V.str)->aj H H'->Q (.ref p) H'
def xQ:Sp:=λvs H Q _=>∃(v:V) (cells:List Str),vs=[v]/\AN H v cells/\cells.length<=15/\∀(p:Addr) (H':Hp),H' p>>(cells.map V.str)->aj H H'->Q (.ref p) H'
theorem uo {w:Addr} {W:Wi} (h:WS H w W):jk H (.ref w) (cE W):=by
 refine⟨w,rfl,?_⟩
 cases W with
 | un cs=>obtain⟨c,h1,h2⟩:=h;exact .inl ⟨_,c,_,.inl rfl,h1,h2⟩
 | mn av cs lo hi=>obtain⟨a,c,h1,h2,z⟩:=h;exact .inr (.inl ⟨_,c,_,h1,z⟩)
 | sm ts lo hi =>
  obtain⟨t,h1,as,h2,rfl,z⟩:=h;refine .inr (.inr ⟨t,_,_,h1,h2,by simp[cE],λi x e=>?_⟩)
  rw[e9] at e;cases e2:as[i]? with
  | none=>rw[e2] at e;cases e
  | some y =>
   rw[e2] at e;obtain rfl:=f_ e
   exact⟨y.2.2,by simp[cE,e2],y.1,y.2.1,rfl,z y (i4 e2)⟩
 | tb cs rows=>obtain⟨c,t,vs,h1,h2,z,Y⟩:=h;exact .inl ⟨_,c,_,.inr (.inl rfl),h1,h2⟩
 | wy cs ps es=>obtain⟨c,t,e,vs,h1,h2,z,Y,Z⟩:=h;exact .inl ⟨_,c,_,.inr (.inr (.inl rfl)),h1,h2⟩
 | bh cs U=>obtain⟨c,h1,h2⟩:=h;exact .inl ⟨_,c,_,.inr (.inr (.inr rfl)),h1,h2⟩
theorem Do {w:Addr} {W:Wx} (h:WX H w W):AN H (.ref w) (cp W):=by
 cases W with
 | pl W=>exact .inl (uo h)
 | sa c vs W=>obtain⟨t,u,h1,h2,z⟩:=h;exact .inr ⟨w,c,_,_,_,rfl,h1,uo z,rfl⟩
theorem kK (T:Txt w K mg base) (L:FnL K mg "plain_cells_of" cP ["wish"]):Fn P w K mg base "plain_cells_of" 1 ["wish"] (vi):=by
 ctx_has z jV <;> obtain⟨v,cells,rfl,hp,hl,k⟩:=h
 .rfl
 refine⟨_,(af (aJ (ay aP (ak ao (pvM 0) ae) aw) (ag (aC (aG aM T.b_tuple (aa (aW (N:=["term"]) (nt:=1) (js:=[]) (aE ["wish"] (am cP).names) (bR K (ak ao (pvM 0) ae)) (az 0) aL aU (ak ao (pvM 0) ae)) ac)))) aA)
  (af (aJ (ay aP (ak ao (pvM 0) ae) aw) (ag (aC (ak ao (pvM 0) ae))) aA)
  (ag (aC (ak ao (pvM 0) ae))))),?_⟩
 obtain⟨p,rfl,⟨s',t,rest,hs,h1,h2⟩ | ⟨x,t,rest,h1,h2⟩ | ⟨t,rest,ts,h1,h2,h3,h4⟩⟩:=hp
 .rcases hs with rfl | rfl | rfl | rfl
  all_goals
   ctx_has v h1
   exact k t H h2 (aj.refl _)
 .ctx_has v h1
  exact k t H h2 (aj.refl _)
 .ctx_has v h1 h2
  intro q hq;refine bL aT (λi ys H'=>ys=(cells.take i).map V.str/\H' q*>ys/\aj H H')
   ⟨by simp,ab,aj.upd0 hq⟩ (λi ys H' Y=>by obtain⟨_,_,U⟩:=Y;exact(.of (U _ _ h2))) ?_ ?_
  .rintro i x ys H' hi hx ⟨rfl,h5,U⟩
   obtain⟨nm,ad,g,c,rfl,hg⟩:=h4 i x hx;have Z:=U _ _ hg;ctx_has v Z
   refine⟨h5,by simp;exact au (),?_,ab,?_⟩
   .rw[i8,ad];simp
   .exact λb o e=>by rw[ai (ap e hq)];exact U b o e
  .rintro ys H' ⟨rfl,h5,U⟩
   rw[h3,k9] at h5;ctx_has v h5
   exact λu ah=>k u _ ab (U.upd_new ah)
theorem ur (T:Txt w K mg base) (L:FnL K mg "cells_of" jD ["wish"]) (FF:Fn P w K mg base "plain_cells_of" 1 ["wish"] (vi)):Fn P w K mg base "cells_of" 2 ["wish"] (xQ):=by
 ctx_has z uV <;> obtain⟨v,cells,rfl,hp,hl,k⟩:=h
 .rfl
 refine⟨_,(af (aB 1 (ba ac))
  (af (aB 2 (pvM 0))
  (af (fZ JV (ay aP (ak ao (pvM 2) ae) aw) (af (bu (cA l5 l7 bo (pvM 1) (aa (ak ao (pvM 2) ae) ac)))
  (ag (aB 2 (ak ao (pvM 2) ae)))))
  (ag (aC (aO eh (aG aM T.b_tuple (aa (pvM 1) ac)) (ah FF (aa (pvM 2) ac)))))))),?_⟩
 ctx_has v
 refine⟨∅,λg hg=>?_⟩
 refine gb (λμ σ H'=>∃(Y cs':List Str) (w:V),σ=[some v,-g,some w]/\H' g*>(Y.map V.str)/\aj H H'/\cells=Y++cs'/\((μ=0/\jk H w cs')\/(μ=1/\∃(p:Addr) (U:Str) (x bZ:V) (cs:List Str),w = .ref p/\H p>>[.str "same",.str U,x,bZ]/\jk H bZ cs/\cs'=U :: cs)))
  (λσ H'=>∃(Y cs':List Str) (w:V),σ=[some v,-g,some w]/\H' g*>(Y.map V.str)/\aj H H'/\cells=Y++cs'/\jk H w cs') ?_ ?_ ?_
 .rcases hp with hp | ⟨p,U,x,bZ,cs,rfl,h1,h2,rfl⟩
  .exact⟨0,[],cells,v,rfl,ab,aj.upd0 hg,rfl,.inl ⟨rfl,hp⟩⟩
  .exact⟨1,[],_,_,rfl,ab,aj.upd0 hg,rfl,.inr ⟨rfl,p,U,x,bZ,cs,rfl,h1,h2,rfl⟩⟩
 .rintro R hR μ σ H1 ⟨Y,cs',w',rfl,h1,sm,rfl,⟨rfl,hp1⟩ | ⟨rfl,p,U,x,bZ,cs,rfl,hp1,hp2,rfl⟩⟩
  .have hr:=hR _ _ ⟨Y,cs',w',rfl,h1,sm,rfl,hp1⟩
   obtain⟨p,rfl,⟨s',t,rest,hs,h2,h3⟩ | ⟨x,t,rest,h2,h3⟩ | ⟨t,rest,ts,h2,h3,h4,h5⟩⟩:=hp1
   .have h2':=sm _ _ h2
    rcases hs with rfl | rfl | rfl | rfl
    all_goals
     ctx_has v h2'
     exact hr
   .have h2':=sm _ _ h2
    ctx_has v h2'
    exact hr
   .have h2':=sm _ _ h2
    ctx_has v h2'
    exact hr
  .have h2':=sm _ _ hp1
   ctx_has v h2' h1
   refine⟨λσ' H'=>σ'=[some v,-g,some bZ]/\H'=upd H1 g (.lst ((Y++[U]).map V.str)),?_,?_⟩
   .rintro _ _ ⟨rfl,rfl⟩
    exact⟨0,Nat.zero_lt_one,Y++[U],cs,bZ,rfl,ab,λb o e=>by rw[ai (ap e hg)];exact sm b o e,by simp,.inl ⟨rfl,hp2⟩⟩
   .refine⟨by simp at hl ⊢;exact au (),_,by rw[ai (bA h2' h1 (by intro z;cases z))];exact h2',?_⟩
    ctx_has v
    simp
 .rintro σ H1 ⟨Y,cs',w',rfl,h1,sm,rfl,hp1⟩
  ctx_has v h1
  intro u am;have s1:=sm.upd_new (o:=.tup (Y.map V.str)) am;refine⟨w',cs',rfl,hp1.keep (aj.keepT s1),by simp at hl;omega,λq H2 hq Z=>?_⟩
  refine⟨q,rfl,_,Z _ _ ab,_,hq,ot (au (by simp at hl ⊢;omega)),λy H3 hy ad=>?_⟩
  exact k y H3 (by rw[hy];simp) ((s1.trans Z).trans ad)
def Ag:Sp:=λvs H Q _=>∃(w:Addr) (W:Wx),vs=[.ref w]/\WX H w W/\Q (.bl (jj W)) H
theorem DA (W:Wi):qQ W=(decide (qC W=b_ "sum") || decide (qC W=b_ "behind")):=by
 cases W with
 | un cs=>show false=(decide (b_ "unlike" = b_ "sum") || decide (b_ "unlike" = b_ "behind"));decide+kernel
 | mn U cs lo hi=>show false=(decide (b_ "many" = b_ "sum") || decide (b_ "many" = b_ "behind"));decide+kernel
 | sm ts lo hi=>show true=(decide (b_ "sum" = b_ "sum") || decide (b_ "sum" = b_ "behind"));decide+kernel
 | tb cs rows=>show false=(decide (b_ "table" = b_ "sum") || decide (b_ "table" = b_ "behind"));decide+kernel
 | wy cs ps es=>show false=(decide (b_ "way" = b_ "sum") || decide (b_ "way" = b_ "behind"));decide+kernel
 | bh cs z=>show true=(decide (b_ "behind" = b_ "sum") || decide (b_ "behind" = b_ "behind"));decide+kernel
theorem yN {Q:VK} {W:Wi} (h:Q (.bl (qQ W)) H):if qC W=b_ "sum" then Q (.bl true) H else Q (.bl (decide (qC W=b_ "behind"))) H:=by
 rw[DA] at h
 by_cases e:qC W=b_ "sum"
 .rw[if_pos e];rw[decide_eq_true e] at h;exact h
 .rw[if_neg e];rw[decide_eq_false e] at h;exact h
theorem uL {l:List (List Int)} (h : ∀r∈l,r.length<=n):l.flatten.length<=l.length * n:=by
 induction l with
 | nil=>exact r_ _
 | cons x l z =>
  rw[List.flatten_cons,nH,KA,succ_mul];have h1:=z λr U=>h r (j9 _ U)
  have h2:=h x j_;omega
theorem oK {W:Wi} (h:okW ws ns W):(fB W).length<=100:=by
 cases W with
 | mn U cs lo hi=>exact le_trans h.2.2.2 ∅
 | tb cs rows =>
  have f1:=uL (l:=rows) (n:=12) λr z=>by rw[h.2.2.1 r z];exact h.1.2.2.2
  have f4:rows.length * 12<=7 * 12:=Nat.mul_le_mul_right _ h.2.2.2
  exact le_trans f1 (le_trans f4 ∅)
 | wy cs ps es=>show(ps.map _).length<=100;rw[a_];exact le_trans h.2.2.1 ∅
 | _=>exact r_ _
theorem xt {w:Addr} {Q A:Prop} (h:H w>>(.str x :: xs)) (U:H p=none) (Y : ¬ (x=b_ "table")) (k:Q) : ∃ys,upd H p (.lst []) w>>ys/\∃v,atI ys 0=some v/\qG v (.str (b_ "table"))=true/\if v = .str "table" then A else Q :=
 ⟨_,aj.upd0 U _ _ h,_,il _ _,rfl,by rw[if_neg (λz=>Y (V.str.inj z))];exact k⟩
def By:Sp:=λvs H Q _=>∃(w:Addr) (W:Wi) (ws:List Str) (ns:List Int),vs=[.ref w]/\WS H w W/\okW ws ns W/\∀p H',H p=none->aj H H'->H' p*>((fB W).map V.int)->Q (.ref p) H'
def xp:Sp:=λvs H Q _=>∃(w:Addr) (c:Str) (us:List Int) (W:Wi) (ws:List Str) (ns:List Int),vs=[.ref w]/\WX H w (.sa c us W)/\okX ws ns (.sa c us W)/\∀p H',H p=none->aj H H'->H' p*>((dt (.sa c us W)).map V.int)->Q (.ref p) H'
theorem lA (T:Txt w K mg base) (L:FnL K mg "hangs_on_size" eD ["wish"]):Fn P w K mg base "hangs_on_size" 1 ["wish"] (Ag):=by
 ctx_has z lq <;> obtain⟨w,W,rfl,U,k⟩:=h
 .rfl
 refine⟨_,(af (aB 1 (AS (ay aP (ak ao (pvM 0) ae) aw) (ak ao (pvM 0) ae) (pvM 0)))
  (ag (aC (Ij (kx aP (ak ao (pvM 1) ae) aw) (BU (kx aP (ak ao (pvM 1) ae) aw)))))),?_⟩
 cases W with
 | pl W =>
  obtain⟨xs,h1⟩:=sR U;ctx_has v h1
  rw[if_neg (rC W)];ctx_has v h1
  exact yN k
 | sa c us W =>
  obtain⟨t,u,h1,h2,Y⟩:=U;obtain⟨xs,Z⟩:=sR Y;ctx_has v h1 Z
  exact yN k
abbrev GP:=Fn P w K mg base "values_in" 1 ["wish"] (By)
theorem qH (T:Txt w K mg base) (L:FnL K mg "values_in" dn ["wish"]) : @GP P w K mg base:=by
 ctx_has z kz <;> obtain⟨w,W,ws,ns,rfl,hW,hz,k⟩:=h
 .rfl
 refine⟨_,(af (aJ (ay aP (ak ao (pvM 0) ae) aw) (ag (aC (aG fj T.b_list (aa (ak ao (pvM 0) ae) ac)))) aA)
  (af (aJ (ay aP (ak ao (pvM 0) ae) aw) (ag (aC (aW (N:=["step"]) (nt:=1) (js:=[]) (aE ["wish","values","row"] (am dn).names) (bR K (ak ao (pvM 0) ae)) (az 0) aL aU (ak ao (pvM 0) ae)))) aA)
  (af (aJ (ay aP (ak ao (pvM 0) ae) aw) (ag aN) aA)
  (af (aB 1 (ba ac))
  (af (aJ (ay aP (ak ao (pvM 0) ae) aw) (ag (bc (bR K (ak ao (pvM 0) ae)) (az 2) (ag (bu (cA PySem.F.slot_list_extend PySem.F.type_list_extend om (pvM 1) (aa (pvM 2) ac)))))) aA)
  (ag (aC (pvM 1)))))))),?_⟩
 cases W with
 | un cs =>
  obtain⟨c,h1,h2⟩:=hW;ctx_has v h1
  exact⟨∅,λp U=>xt h1 U (by decide+kernel) (k p _ U (aj.upd0 U) ab)⟩
 | mn av cs lo hi =>
  obtain⟨a,c,h1,h2,Y⟩:=hW;ctx_has v h1 h2
  exact λp U=>k p _ U (aj.upd0 U) ab
 | sm ts lo hi =>
  obtain⟨t,h1,h2⟩:=hW;ctx_has v h1
  exact⟨∅,λp U=>xt h1 U (by decide+kernel) (k p _ U (aj.upd0 U) ab)⟩
 | tb cs rows =>
  obtain⟨c,t,vs,h1,h2,Y,h4⟩:=hW;ctx_has v h1
  refine⟨∅,λp U=>⟨_,aj.upd0 U _ _ h1,_,il _ _,rfl,?_⟩⟩
  rw[if_pos rfl];refine⟨_,aj.upd0 U _ _ h1,_,rfl,t,rfl,_,aj.upd0 U _ _ Y,?_⟩
  refine bK aT (λi σ H'=>∃v2:Option V,σ=[-w,-p,v2]/\H' p*>((rows.take i).flatten.map V.int)/\aj H H') ⟨_,rfl,ab,aj.upd0 U⟩ (λi σ H' ai=>by obtain⟨_,_,_,s⟩:=ai;exact(.of (s _ _ Y))) ?_ ?_
  .rintro i x σ H1 hi hx ⟨v2,rfl,h1p,s1⟩
   obtain⟨as,rfl,rfl,h5⟩:=h4;obtain⟨y,Z,rfl⟩ : ∃y,as[i]? = some y/\V.ref y.1=x:=by
    rw[e9] at hx;cases e:as[i]? with
    | none=>rw[e] at hx;cases hx
    | some y=>rw[e] at hx;exact⟨y,rfl,f_ hx⟩
   have h6:=s1 _ _ (h5 y (i4 Z));ctx_has v h6 h1p
   have an:y.2∈as.map (·.2):=o7 (i4 Z)
   have ad : ∀r∈as.map (·.2),r.length<=12:=λr hr=>by rw[hz.2.2.1 r hr];exact hz.1.2.2.2
   refine⟨_,rfl,_,h1p,_,h6,?_,?_,s1.putN U⟩
   .rw[a_,a_]
    have f1:=uL (l:=(as.map (·.2)).take i) (n:=12) λr hr=>ad r (v_ hr)
    have f2:=ad _ an;have f3:((as.map (·.2)).take i).length<=7:=le_trans (Jv _ _) hz.2.2.2
    have f4:((as.map (·.2)).take i).length * 12<=7 * 12:=Nat.mul_le_mul_right _ f3
    exact ot (au ())
   .rw[ab,i8,e9,Z,List.flatten_append,ii]
    simp
  .rintro σ H1 ⟨v2,rfl,h1p,s1⟩
   ctx_has v
   obtain⟨as,rfl,rfl,h5⟩:=h4;rw[a_,t4 (by rw[a_];exact j5 _)] at h1p
   exact k p H1 U s1 h1p
 | wy cs ps es =>
  obtain⟨c,t,e,vs,h1,h2,Y,h4,h5⟩:=hW;ctx_has v h1 Y
  intro D hD;refine bL aT (λi xs H'=>xs=(ps.take i).map (λx=>V.int x.2.1)/\aj H H'/\H' D*>xs) ⟨rfl,aj.upd0 hD,ab⟩ (λi xs H' ah=>by obtain⟨_,s,_⟩:=ah;exact(.of (s _ _ Y))) ?_ ?_
  .rintro i x xs H1 hi hx ⟨rfl,s1,h1D⟩
   obtain⟨as,rfl,rfl,h6⟩:=h4;obtain⟨y,Z,rfl⟩ : ∃y,as[i]? = some y/\V.ref y.1=x:=by
    rw[e9] at hx;cases e:as[i]? with
    | none=>rw[e] at hx;cases hx
    | some y=>rw[e] at hx;exact⟨y,rfl,f_ hx⟩
   have h7:=s1 _ _ (h6 y (i4 Z));ctx_has v h7
   refine⟨h1D,?_,?_,s1.putN hD,ab⟩
   .rw[a_,pk]
    have:=hz.2.2.1
    exact au ()
   .rw[i8,e9,Z,ii]
    rfl
  .rintro xs H1 ⟨rfl,s1,h1D⟩
   obtain⟨as,rfl,rfl,h6⟩:=h4;rw[a_,t4 (by rw[a_];exact j5 _)] at h1D
   exact k D H1 hD s1 (by rw[h1D];show _=some (HO.lst (((as.map (·.2)).map (·.2.1)).map V.int));rw[fx,fx,fx];rfl)
 | bh cs ap =>
  obtain⟨c,h1,h2⟩:=hW;ctx_has v h1
  exact⟨∅,λp U=>xt h1 U (by decide+kernel) (k p _ U (aj.upd0 U) ab)⟩
theorem qo (T:Txt w K mg base) (L:FnL K mg "values_in" dn ["wish"]) (Z : @GP P w K mg base):Fn P w K mg base "values_in" 2 ["wish"] (xp):=by
 ctx_has z kz <;> obtain⟨w,c,us,W,ws,ns,rfl,hW,hz,k⟩:=h
 .rfl
 refine⟨_,(af (aJ (ay aP (ak ao (pvM 0) ae) aw) (ag aN) aA)
  (af (aJ (ay aP (ak ao (pvM 0) ae) aw) (ag aN) aA)
  (af (aJ (ay aP (ak ao (pvM 0) ae) aw) (ag (aC (aO sP (aG fj T.b_list (aa (ak ao (pvM 0) ae) ac)) (ah Z (aa (ak ao (pvM 0) ae) ac))))) aA)
  (af aN
  (af (aJ (ay aP (ak ao (pvM 0) ae) aw) (ag (bc (bR K (ak ao (pvM 0) ae)) (az 2) (ag (bu (cA PySem.F.slot_list_extend PySem.F.type_list_extend om (pvM 1) (aa (pvM 2) ac)))))) aA)
  (ag (aC (pvM 1)))))))),?_⟩
 obtain⟨t,u,h1,h2,h3⟩:=hW;ctx_has v h1 h2
 intro l hl;have U:=aj.upd0 (o:=.lst (us.map V.int)) hl;have g1:upd H l (.lst (us.map V.int)) l*>(us.map V.int):=ab
 refine⟨_,U _ _ h1,_,rfl,u,W,ws,ns,rfl,cM h3 λa xs e=>U _ _ e,hz.2.2.1,λp H2 hp Y ad=>?_⟩
 refine⟨p,rfl,_,Y _ _ g1,_,ad,?_,λq hq=>?_⟩
 .rw[a_,a_]
  have f1:=oK hz.2.2.1;have f2:us.length<=20:=hz.2.1.2.2
  exact ot (au ())
 .refine k q _ ((U.trans Y).free hq) ((U.trans Y).upd_new hq) ?_
  rw[ab,<- ii];rfl
theorem ye {Q:VK} {D:Addr} (z:Nat->List V->Hp->Prop) (h0:z 0 [] (upd H1 D (.lst []))) (hl : ∀i ys H,z i ys H->SqT K H a xs)
  (hs : ∀(i:Nat) (x:V) (ys:List V) (H:Hp) (t:Addr),xs[i]? = some x->z i ys H->H t=none->g (.ref t) σ0 (upd H t (.tup [.int (i:Nat),x])) λU H3=>tc U H3 λc H4=>if c=true then te U H4 λv H5=>H5 D*>ys/\ys.length < g0/\z (i+1) (ys++[v]) (upd H5 D (.lst (ys++[v]))) else z (i+1) ys H4)
  (hd : ∀ys H,z xs.length ys H->Q (.ref D) H):kB (Ite K a) σ0 g tc te Q H1 D:=by
 refine⟨λi m ys H=>z i ys H/\i<=xs.length/\m=xs.length - i,⟨_,h0,r_ _,rfl⟩,?_⟩
 rintro i m ys H ⟨hp,hi,rfl⟩
 have sa:=hl i ys H hp
 by_cases Z:i=xs.length
 .left
  subst Z;exact⟨⟨xs,sa,rfl⟩,hd ys H hp⟩
 .right
  have h1:i < xs.length:=()
  refine⟨⟨xs,xs[i],sa,by simp[h1]⟩,λY H'=>z (i+1) Y H',λY H' h=>⟨_,(),h,(),rfl⟩,?_⟩
  rintro v H' ⟨t,x,ht,rfl,rfl,e1⟩
  exact hs i x ys H t (e1 xs sa) hp ht
theorem lN {l:List α} {y:α} {t:α->Bool} (h:l[i]? = some y) (z:t y=true):(l.take (i+1)).filter t=(l.take i).filter t++[y]:=by
 rw[i8,h,List.filter_append];simp[z]
theorem rK {l:List α} {y:α} {t:α->Bool} (h:l[i]? = some y) (z:t y=false):(l.take (i+1)).filter t=(l.take i).filter t:=by
 rw[i8,h,List.filter_append];simp[z]
theorem EB {U:Type} {as:List α} {bs:List β} {f:α->U} {g:β->U} (h:as.map f=bs.map g) {i:Nat} {y:β} (Y:bs[i]? = some y) : ∃z,as[i]? = some z/\f z=g y:=by
 have e:=congrArg (λl=>l[i]?) h
 simp only[e9,Y] at e;cases e2:as[i]? with
 | none=>rw[e2] at e;cases e
 | some z=>rw[e2] at e;exact⟨z,rfl,f_ e⟩
def GA (K:ge):Sp:=λvs H Q _=>∃(t l n:Addr) (a b:Str) (bs:List (Addr × Wx)) (ns:List (Addr × List Str)),vs=[.ref t,.ref l,.ref n]/\H t>>[.str a,.str b]/\H l>>(bs.map λx=>V.ref x.1)/\H n*>(ns.map λx=>V.ref x.1)/\ns.map (·.2)=bs.map (λx=>cp x.2)/\(∀x∈ns,H x.1>>(x.2.map V.str))/\bs.length<=40 /\
 ∀p H',H p=none->aj H H'->H' p*>((bs.filter λx=>jg a b x.2).map λx=>V.ref x.1)->Q (.ref p) H'
def EQ (K:ge):Sp:=λvs H Q _=>∃(t l n:Addr) (a b:Int) (bs:List (Addr × Wx)) (ns:List (Addr × List (Key × V))),vs=[.ref t,.ref l,.ref n]/\H t>>[.int a,.int b]/\H l>>(bs.map λx=>V.ref x.1)/\H n*>(ns.map λx=>V.ref x.1)/\ns.length=bs.length/\(∀(i:Nat) (x:Addr × List (Key × V)) (y:Addr × Wx),ns[i]? = some x->bs[i]? = some y->H x.1<*x.2/\∀v:Int,(bg x.2 (i9 v)).isSome=decide (v∈dt y.2))/\bs.length<=40 /\
 ∀p H',H p=none->aj H H'->H' p*>((bs.filter λx=>jf a b x.2).map λx=>V.ref x.1)->Q (.ref p) H'
abbrev HR:=Fn P w K mg base "touched_by" 1 ["pair","wishes","names_in"] (GA K)
theorem px (T:Txt w K mg base) (L:FnL K mg "touched_by" cx ["pair","wishes","names_in"]) : @HR P w K mg base:=by
 ctx_has z jn <;> obtain⟨t,l,n,a,b,bs,ns,rfl,ht,hl,hn,ah,ar,av,k⟩:=h
 .rfl
 refine⟨_,(ag (aC (aW (N:=["place","wish","pair","names_in"]) (nt:=2) (js:=[0,2]) (aE ["pair","wishes","names_in"] (am cx).names) (ou (K:=K) rfl rfl T.b_enumerate (aa (pvM 1) ac)) (cH (n:=2) rfl (aV (az 0) (aV (az 1) cG))) dj (fG (PW.pt (kM (ay oB (ak ao (pvM 2) ae) (ak dE (pvM 3) (pvM 0))) (gY (ay oB (ak ao (pvM 2) ae) (ak dE (pvM 3) (pvM 0))))))) (pvM 1)))),?_⟩
 ctx_has v
 refine⟨_,hl,λD hD=>?_⟩
 refine ye (xs:=bs.map λx=>V.ref x.1) (λi ys H'=>ys=(((bs.take i).filter λx=>jg a b x.2).map λx=>V.ref x.1)/\aj H H'/\H' D*>ys) ⟨rfl,aj.upd0 hD,ab⟩ (λi ys H' ad=>by obtain⟨_,s,_⟩:=ad;exact(.of (s _ _ hl))) ?_ ?_
 .rintro i x ys H1 t0 hx ⟨rfl,s1,h1D⟩ ht0
  obtain⟨y,hy,rfl⟩ : ∃y,bs[i]? = some y/\V.ref y.1=x:=by
   rw[e9] at hx;cases e:bs[i]? with
   | none=>rw[e] at hx;cases hx
   | some y=>rw[e] at hx;exact⟨y,rfl,f_ hx⟩
  have Z:=s1.upd_new (o:=.tup [.int (i:Nat),V.ref y.1]) ht0;have Y:=aj.upd0 (o:=.tup [.int (i:Nat),V.ref y.1]) ht0 _ _ h1D;have af:upd H1 t0 (.tup [.int (i:Nat),V.ref y.1]) t0>>[.int (i:Nat),V.ref y.1]:=ab
  generalize upd H1 t0 (.tup [.int (i:Nat),V.ref y.1])=H2 at Z Y af ⊢;have e1:=Z _ _ ht;have e2:=Z _ _ hn;have U:jg a b y.2=true->H2 D*>(((bs.take i).filter λx=>jg a b x.2).map λx=>V.ref x.1)/\(((bs.take i).filter λx=>jg a b x.2).map λx=>V.ref x.1).length < g0/\(((bs.take i).filter λx=>jg a b x.2).map λx=>V.ref x.1)++[V.ref y.1]=(((bs.take (i+1)).filter λx=>jg a b x.2).map λx=>V.ref x.1)/\aj H (upd H2 D (.lst ((((bs.take i).filter λx=>jg a b x.2).map λx=>V.ref x.1)++[V.ref y.1])))/\upd H2 D (.lst ((((bs.take i).filter λx=>jg a b x.2).map λx=>V.ref x.1)++[V.ref y.1])) D*>((((bs.take i).filter λx=>jg a b x.2).map λx=>V.ref x.1)++[V.ref y.1]):=λai=>by
   refine⟨Y,?_,by rw[lN (t:=λx=>jg a b x.2) hy ai,ii];rfl,Z.putN hD,ab⟩
   rw[a_];exact au (le_trans (t_ _ _) (le_trans (Jv _ _) ()))
  obtain⟨z,hz,ap⟩:=EB ah hy;have an:=aQ (xs:=ns.map λx=>V.ref x.1) (j:=i) (by rw[e9,hz];rfl)
  have aq:=Z _ _ (ar z (i4 hz));ctx_has v af e1 e2 an aq
  refine⟨rfl,lr _,?_⟩
  rw[kS,ap];refine cN (λh=>U ?_) (λh=>⟨rfl,lr _,?_⟩)
  .unfold jg;rw[h];rfl
  .rw[kS]
   refine cN (λg=>U ?_) (λg=>⟨by rw[rK (t:=λx=>jg a b x.2) hy];unfold jg;rw[Bool.eq_false_iff.mpr h,Bool.eq_false_iff.mpr g];rfl,Z,Y⟩)
   unfold jg;rw[g,Bool.or_true]
 .rintro ys H1 ⟨rfl,s1,h1D⟩
  rw[a_,k9] at h1D;exact k D H1 hD s1 h1D
abbrev Ho:=Fn P w K mg base "touched_by" 1 ["pair","wishes","names_in"] (EQ K)
theorem pQ (T:Txt w K mg base) (L:FnL K mg "touched_by" cx ["pair","wishes","names_in"]) : @Ho P w K mg base:=by
 ctx_has z jn <;> obtain⟨t,l,n,a,b,bs,ns,rfl,ht,hl,hn,ai,aw,ax,k⟩:=h
 .rfl
 refine⟨_,(ag (aC (aW (N:=["place","wish","pair","names_in"]) (nt:=2) (js:=[0,2]) (aE ["pair","wishes","names_in"] (am cx).names) (ou (K:=K) rfl rfl T.b_enumerate (aa (pvM 1) ac)) (cH (n:=2) rfl (aV (az 0) (aV (az 1) cG))) dj (fG (PW.pt (kM (fV (yH hu (ak ao (pvM 2) ae) (ak dE (pvM 3) (pvM 0)))) (gY (fV (yH hu (ak ao (pvM 2) ae) (ak dE (pvM 3) (pvM 0)))))))) (pvM 1)))),?_⟩
 ctx_has v
 refine⟨_,hl,λD hD=>?_⟩
 refine ye (xs:=bs.map λx=>V.ref x.1) (λi ys H'=>ys=(((bs.take i).filter λx=>jf a b x.2).map λx=>V.ref x.1)/\aj H H'/\H' D*>ys) ⟨rfl,aj.upd0 hD,ab⟩ (λi ys H' af=>by obtain⟨_,s,_⟩:=af;exact(.of (s _ _ hl))) ?_ ?_
 .rintro i x ys H1 t0 hx ⟨rfl,s1,h1D⟩ ht0
  obtain⟨y,hy,rfl⟩ : ∃y,bs[i]? = some y/\V.ref y.1=x:=by
   rw[e9] at hx;cases e:bs[i]? with
   | none=>rw[e] at hx;cases hx
   | some y=>rw[e] at hx;exact⟨y,rfl,f_ hx⟩
  have Z:=s1.upd_new (o:=.tup [.int (i:Nat),V.ref y.1]) ht0;have Y:=aj.upd0 (o:=.tup [.int (i:Nat),V.ref y.1]) ht0 _ _ h1D;have ah:upd H1 t0 (.tup [.int (i:Nat),V.ref y.1]) t0>>[.int (i:Nat),V.ref y.1]:=ab
  generalize upd H1 t0 (.tup [.int (i:Nat),V.ref y.1])=H2 at Z Y ah ⊢;have e1:=Z _ _ ht;have e2:=Z _ _ hn;have U:jf a b y.2=true->H2 D*>(((bs.take i).filter λx=>jf a b x.2).map λx=>V.ref x.1)/\(((bs.take i).filter λx=>jf a b x.2).map λx=>V.ref x.1).length < g0/\(((bs.take i).filter λx=>jf a b x.2).map λx=>V.ref x.1)++[V.ref y.1]=(((bs.take (i+1)).filter λx=>jf a b x.2).map λx=>V.ref x.1)/\aj H (upd H2 D (.lst ((((bs.take i).filter λx=>jf a b x.2).map λx=>V.ref x.1)++[V.ref y.1])))/\upd H2 D (.lst ((((bs.take i).filter λx=>jf a b x.2).map λx=>V.ref x.1)++[V.ref y.1])) D*>((((bs.take i).filter λx=>jf a b x.2).map λx=>V.ref x.1)++[V.ref y.1]):=λap=>by
   refine⟨Y,?_,by rw[lN (t:=λx=>jf a b x.2) hy ap,ii];rfl,Z.putN hD,ab⟩
   rw[a_];exact au (le_trans (t_ _ _) (le_trans (Jv _ _) ()))
  have an:=(i7.mp hy).1;obtain⟨z,hz⟩ : ∃z,ns[i]? = some z:=⟨_,h_ (by rw[ai];exact an)⟩
  obtain⟨ar,ad⟩:=aw i z y hz hy;have aq:=aQ (xs:=ns.map λx=>V.ref x.1) (j:=i) (by rw[e9,hz];rfl)
  have av:=Z _ _ ar;ctx_has v ah e1 e2 aq av
  rw[ad,ad];refine cN (λh=>U ?_) (λh=>?_)
  .unfold jf;rw[h];rfl
  .refine cN (λg=>U ?_) (λg=>⟨by rw[rK (t:=λx=>jf a b x.2) hy];unfold jf;rw[Bool.eq_false_iff.mpr h,Bool.eq_false_iff.mpr g];rfl,Z,Y⟩)
   unfold jf;rw[g,Bool.or_true]
 .rintro ys H1 ⟨rfl,s1,h1D⟩
  rw[a_,k9] at h1D;exact k D H1 hD s1 h1D
def kD:Key->j8
 | .inl i=>.int i
 | .inr s=>.str s
def KOk:Key->Prop
 | .inl _=>True
 | .inr s=>cD s
theorem DH (k:Key):Rep K H (kV k) (kD k):=by
 cases k with
 | inl i=>exact .int i
 | inr s=>exact .str s
theorem DN {k:Key} (h:KOk k):(kD k).canLay0=true:=by
 cases k with
 | inl i=>exact Ii i
 | inr s=>exact xS h
theorem Ia (a b:Key):n_ (kD a) (kD b)=decide (a=b):=by
 cases a <;> cases b <;> simp[kD,n_] <;> (rw[o_];simp)
def prD (ks:List (Key × Key)):List j8:=ks.map λx=>.tuple [kD x.1,kD x.2]
def PrK (H:Hp) (p:Addr) (ks:List (Key × Key)):Prop:=∃as:List (Addr × Key × Key),H p*>(as.map λx=>V.ref x.1)/\as.map (·.2)=ks/\∀x∈as,H x.1>>[kV x.2.1,kV x.2.2]
theorem PrK.same (h:PrK H p ks) (s:aj H H'):PrK H' p ks:=by
 obtain⟨as,h1,h2,z⟩:=h;exact⟨as,s _ _ h1,h2,λx U=>s _ _ (z x U)⟩
theorem PrK.rep (h:PrK H p ks):Rep K H (.ref p) (.list (prD ks)):=by
 obtain⟨as,h1,rfl,z⟩:=h;unfold prD;rw[fx];exact .lst (.of h1) (ku λx U=>.tup (.of (z x U)) (.cons (DH _) (.cons (DH _) .nil)))
theorem yB : ∀a b:List (Key × Key),t5 (prD a) (prD b)=decide (a=b)
 | [],[]=>by simp[prD,t5]
 | [],_ :: _=>by simp[prD,t5]
 | _ :: _,[]=>by simp[prD,t5]
 | x :: a,y :: b=>by
  have z:=yB a b
  show t5 (.tuple [kD x.1,kD x.2] :: prD a) (.tuple [kD y.1,kD y.2] :: prD b)=_
  simp only[t5,n_,z,Ia,Bool.and_true];rw[o_];simp[Prod.ext_iff]
theorem xX (h : ∀x∈ks,KOk x.1/\KOk x.2):(PyData.list (prD ks)).canLay0=true:=by
 rw[y8];exact BR λx z=>by simp[y8,l_,DN (h x z).1,DN (h x z).2]
theorem BK {q:Addr} {Q:VK} (U:PrK H p ks) (z:PrK H q ls) (kk : ∀x∈ks,KOk x.1/\KOk x.2) (Y : ∀x∈ls,KOk x.1/\KOk x.2) (k:Q (.bl (!decide (ks=ls))) H):CW K (.ref p) (.ref q) H Q:=by
 refine⟨_,_,U.rep,z.rep,xX kk,xX Y,?_,?_⟩
 .have hd:l8 (prD ks)<=3:=lM λx Z=>by cases x.1 <;> cases x.2 <;> simp[kD,t3,l8]
  rw[t3];omega
 .rw[n_,yB]
  exact k
def prK (ks:List Key):List (Key × Key):=(range ks.length).flatMap λj=>(ks.drop (j+1)).map λy=>(ks.getD j (.inl 0),y)
theorem vb {α β:Type} {f g:α->List β} : ∀{l:List α},(∀x∈l,f x=g x)->l.flatMap f=l.flatMap g
 | [],_=>rfl
 | x :: l,h=>by rw[List.flatMap_cons,List.flatMap_cons,h x j_,vb λy z=>h y (j9 _ z)]
theorem uH (ks:List Key):prs (ks.map kV)=(prK ks).map λx=>(kV x.1,kV x.2):=by
 unfold prs prN prK;rw[List.map_flatMap,a_];refine vb λj U=>?_
 have z:=x8.mp U;rw[<- map_drop,fx,fx];refine q_ λy _=>?_
 show((ks.map kV).getD j .non,kV y)=(kV (ks.getD j (.inl 0)),kV y)
 rw[j7,j7,e9,h_ z];rfl
theorem rc {α β:Type} {f:α->β} : ∀{as:List (Addr × β)} {l:List α},as.map (·.2)=l.map f->∃bs:List (Addr × α),(bs.map λx=>V.ref x.1)=(as.map λx=>V.ref x.1)/\bs.map (·.2)=l/\∀x∈bs,(x.1,f x.2)∈as
 | [],[],_=>⟨[],rfl,rfl,λx z=>(by cases z)⟩
 | [],_ :: _,h=>by cases h
 | _ :: _,[],h=>by cases h
 | a :: as,y :: l,h=>by
  rw[i_,i_,w6] at h;obtain⟨bs,h1,h2,U⟩:=rc h.2;refine⟨(a.1,y) :: bs,by rw[i_,i_,h1],by rw[i_,h2],λx z=>?_⟩
  rcases i6.mp z with rfl | z
  .rw[<- h.1];exact j_
  .exact j9 _ (U x z)
theorem PrsAt.keys {ks:List Key} (h:PrsAt H p (prs (ks.map kV))):PrK H p (prK ks):=by
 obtain⟨as,h1,h2,U⟩:=h;rw[uH] at h2;obtain⟨bs,Z,z,Y⟩:=rc h2;exact⟨bs,by rw[Z];exact h1,z,λx hx=>U _ (Y x hx)⟩
theorem iS {ks:List Key} (h:ks.length<=20):(prK ks).length<=400:=by
 have h1:=congrArg u8 (uH ks);have h2:=tM (ks.map kV) (ks.map kV).length;rw[a_] at h1;rw[<- h1];refine le_trans h2 ?_
 rw[a_];exact mul_le_mul h h
theorem gG {ks:List Key} {x:Key × Key} (h:x∈prK ks):x.1∈ks/\x.2∈ks:=by
 obtain⟨j,U,Y⟩:=mem_flatMap.mp h;obtain⟨y,Z,rfl⟩:=e7.mp Y;have z:=x8.mp U;refine⟨?_,List.mem_of_mem_drop Z⟩
 show ks.getD j (.inl 0)∈ks
 rw[j7,h_ z];exact A_ z
theorem pM {ks:List Key} (hn:ks.Nodup) {x:Key × Key} (h:x∈prK ks):x.1≠x.2:=by
 obtain⟨j,U,Z⟩:=mem_flatMap.mp h;obtain⟨y,hy,rfl⟩:=e7.mp Z;have z:=x8.mp U
 show ks.getD j (.inl 0)≠y
 rw[j7,h_ z];intro e;have Y:ks[j]=y:=e
 obtain⟨i,hi,e2⟩:=K2.mp hy;rw[List.getElem_drop] at e2;have:=(List.getElem_inj hn).mp (Y.trans e2.symm)
 omega
def Ao:Sp:=λvs H Q _=>∃(p q:Addr) (ks ls:List (Key × Key)),vs=[.ref p,.ref q]/\PrK H p ks/\PrK H q ls/\(∀x∈ks,KOk x.1/\KOk x.2)/\(∀x∈ls,KOk x.1/\KOk x.2)/\Q (.bl (decide (ks=ls))) H
theorem ph (T:Txt w K mg base) (L:FnL K mg "_law_listed" fU ["_law_found","_law_due"]):Fn P w K mg base "_law_listed" 1 ["_law_found","_law_due"] (Ao):=by
 ctx_has z pF <;> obtain⟨p,q,ks,ls,rfl,Y,hq,dp,dq,k⟩:=h
 .rfl
 refine⟨_,(af (aJ (PW.pt (kM (lB (dv (aF jZ T.b_isinstance (aa (pvM 0) (aa (yA (T := "list") rfl T.b_list (by decide+kernel)) ac))))) (gY (ay (jr (iw hr)) (pvM 0) (pvM 1))))) (ag (aC ga)) aA)
  (af (bc (dg (K:=K) rfl (pvM 0)) (az 2) (ag (aJ (PW.pt (kM (lB (dv (aF jZ T.b_isinstance (aa (pvM 2) (aa (yA (T := "tuple") rfl T.b_tuple (by decide+kernel)) ac))))) (kM (dv (aF jZ T.b_isinstance (aa (ak ao (pvM 2) ae) (aa (yA (T := "bool") rfl T.b_bool (by decide+kernel)) ac)))) (gY (dv (aF jZ T.b_isinstance (aa (ak ao (pvM 2) ae) (aa (yA (T := "bool") rfl T.b_bool (by decide+kernel)) ac)))))))) (ag (aC ga)) aA)))
  (ag (aC ga)))),?_⟩
 ctx_has v
 obtain⟨as,h1,h2,Z⟩:=id Y;refine⟨true,.inr ⟨_,h1,rfl⟩,?_⟩
 rw[if_neg ∅]
 refine BK Y hq dp dq ⟨_,rfl,?_⟩
 by_cases e:ks=ls
 .rw[decide_eq_true e] at k ⊢
  rw[if_neg ∅]
  refine⟨_,h1,?_⟩
  refine bK bz (λi σ H'=>H'=H/\∃U:Option V,σ=[-p,-q,U]) ⟨rfl,_,rfl⟩ (λi σ H' z=>by obtain⟨rfl,_⟩:=z;exact .of h1) ?_ ?_
  .rintro i x σ H' hi hx ⟨rfl,U,rfl⟩
   obtain⟨y,hy,rfl⟩ : ∃y,as[i]? = some y/\V.ref y.1=x:=by
    rw[e9] at hx;cases e:as[i]? with
    | none=>rw[e] at hx;cases hx
    | some y=>rw[e] at hx;exact⟨y,rfl,f_ hx⟩
   have h4:=Z y (i4 hy);obtain⟨ya,k1,k2⟩:=y;cases k1 <;> cases k2
   all_goals ctx_has v h4 kV
  .rintro σ H' ⟨rfl,U,rfl⟩
   ctx_has v
   exact k
 .rw[decide_eq_false e] at k ⊢
  rw[if_pos ∅]
  exact k
theorem lj:PM ([]:List (α × α)):=⟨by simp,by simp⟩
noncomputable def ldC (cs:List (Addr × Str × Addr × List Int)) (Ws:List Wx):Key × Key->Bool
 | (.inr a,.inr b)=>@decide (kN (xc a b) [] (dat (xsH cs)) Ws) (Classical.propDecidable _)
 | _=>false
theorem wI {Ws:List Wx} {y:Str} {b:Bool} (h:b=true↔kN (xc x y) [] (dat (xsH cs)) Ws):ldC cs Ws (e_ x,e_ y)=b:=by
 classical
 cases b
 .exact decide_eq_false λz=>by have:=h.mpr z;cases this
 .exact decide_eq_true (h.mp rfl)
theorem sA (a b:α):(xc a b).length<=40:=by show 2<=40;decide
theorem DE {W:Wx} (h:okX ws ns W):(cp W).length<=15:=by
 have hw : ∀W:Wi,okW ws ns W->(cE W).length<=12:=λW h=>by
  cases W with
  | un cs=>exact h.2.2.2
  | mn U cs lo hi=>exact h.1.2.2.2
  | sm ts lo hi=>exact h.1.2.2.2
  | tb cs rows=>exact h.1.2.2.2
  | wy cs ps es=>exact h.1.2.2.2
  | bh cs z=>exact h.2.2.2
 cases W with
 | pl W=>exact le_trans (hw W h) ∅
 | sa c vs W=>show(cE W).length+1<=15;have:=hw W h.2.2.1;omega
def nmK (cs:List (Addr × Str × Addr × List Int)):List Key:=cs.map λx=>e_ x.2.1
theorem AX {tw z:Addr} {bs:List (Addr × Wx)} {us:List V} {Ws:List Wx} {o:Obj} {kvs:List CT} {f:Wx->Bool} {Q:VK} {E:XK} (tb:bJ H) (T0:ce H t na va mS mI) (hW:qu H l us Ws ws ns) (Z:bs.map (·.2)=Ws) (Y : ∀x∈bs,WX H x.1 x.2)
  (aa:H tw*>((bs.filter λx=>f x.2).map λx=>V.ref x.1)) (hT:TOk mS mI Ws ws ns) (U:H z=some (cX P w z o kvs)) (ad:ft H kvs) (ac : ∀d,atC kvs d=mG (Ws.map dP) d) (hi:Led mS mI (Ws.filter f) (Ws.map dP)↔Led mS mI Ws (Ws.map dP))
  (k : ∀(b:Bool) H',aj H H'->(b=true↔Led mS mI Ws (Ws.map dP))->Q (.bl b) H'):DW P w [.ref t,.ref tw,.ref z] H Q E:=by
 have e:(bs.filter λx=>f x.2).map (·.2)=Ws.filter f:=by rw[<- Z,filter_map];rfl
 have hs : ∀W∈Ws.filter f,W∈Ws:=λW h=>(u7.mp h).1
 exact⟨t,na,va,tw,z,mS,mI,_,Ws.filter f,ws,ws,ns,o,kvs,Ws.map dP,rfl,tb,T0,⟨aa,⟨_,rfl,e,λx hx=>Y x (u7.mp hx).1⟩,λW h=>hW.ok W (hs W h),hW.nm,le_trans (t_ _ _) hW.ln⟩,⟨λW h=>hT.ok W (hs W h),hT.nm⟩,U,ad,ac,λb H' s h=>k b H' s (h.trans hi)⟩
structure HA (H:Hp) (p c t:Addr) (cs:List (Addr × Str × Addr × List Int)) (us:List V) (Ws:List Wx) (ws:List Str) (ns:List Int):Prop where
 hh:ij H p c t cs us Ws ws ns
 tb:bJ H
 cl:cs.length<=20
 nl:ns.length<=20
 gr : ∀x∈cs,dZ ns x.2.2.2
 cw : ∀x∈cs,x.2.1∈ws
theorem HA.same {H H':Hp} {p c t:Addr} {cs:List (Addr × Str × Addr × List Int)} {us:List V} {Ws:List Wx} {ws:List Str} {ns:List Int} (h:HA H p c t cs us Ws ws ns) (s:aj H H'):HA H' p c t cs us Ws ws ns:=⟨h.hh.same s,h.tb.same s,h.cl,h.nl,h.gr,h.cw⟩
section
variable {us:List V} {Ws:List Wx}
theorem HA.nx (h:HA H p c t cs us Ws ws ns):((xsH cs).map (·.1)).Nodup:=by rw[fx];exact h.hh.nd
theorem HA.nd (h:HA H p c t cs us Ws ws ns):((dat (xsH cs)).map (·.1)).Nodup:=by rw[kX];exact h.nx
theorem HA.nk (h:HA H p c t cs us Ws ws ns):(nmK cs).Nodup:=l9.mpr ((l9.mp h.hh.nd).imp λne e=>ne (I_ e))
theorem HA.sl (h:HA H p c t cs us Ws ws ns) : ∀x∈dat (xsH cs),x.2.Pairwise (· < ·):=λx U=>by
 obtain⟨y,Y,rfl⟩:=e7.mp U;obtain⟨z,hz,rfl⟩:=e7.mp Y;exact(h.gr z hz).2.2.1
theorem HA.se (h:HA H p c t cs us Ws ws ns) : ∀x∈dat (xsH cs),x.2.Pairwise (·<=·):=λx U=>(h.sl x U).imp λz=>by omega
theorem xh {z:Addr × Str × Addr × List Int} (hz:z∈cs):(z.2.1,z.2.2.2)∈dat (xsH cs):=e7.mpr ⟨z.2,e7.mpr ⟨z,hz,rfl⟩,rfl⟩
theorem HA.tokC (h:HA H p c t cs us Ws ws ns) {a b:Str} (ha:a∈ws) (hb:b∈ws) (z:a≠b):TOk (xc a b) [] Ws ws ns:=⟨λW hW V hV=>nG (jS z) lj (λc Y=>tQ (jS z) (λx U=>by
 rcases i6.mp U with rfl | U
 .exact ha
 .rw[g7.mp U];exact hb) Y) (λv Z=>by rw[lU];exact Z) (h.hh.wa.ok W hW) hV,h.hh.wa.nm⟩
theorem HA.tokV (h:HA H p c t cs us Ws ws ns) {a b:Int} (ha:a∈ns) (hb:b∈ns) (z:a≠b):TOk [] (xc a b) Ws ws ns:=⟨λW Z V hV=>nG lj (jS z) (λc Y=>by rw[lU];exact Y) (yM (jS z) (λx U=>by
 rcases i6.mp U with rfl | U
 .exact ha
 .rw[g7.mp U];exact hb)) (h.hh.wa.ok W Z) hV,h.hh.wa.nm⟩
end
def Ed:Sp:=λvs H Q _=>∃(p c t:Addr) (cs:List (Addr × Str × Addr × List Int)) (us:List V) (Ws:List Wx) (ws:List Str) (ns:List Int),vs=[.ref p]/\HA H p c t cs us Ws ws ns /\
 ∀r H',H r=none->aj H H'->PrK H' r ((prK (nmK cs)).filter (ldC cs Ws))->Q (.ref r) H'
theorem qK (T:Txt w K mg base) (L:FnL K mg "cell_swaps" eK ["hall"]) (FX:Fn P w K mg base "first_rooms" 1 ["hall"] (HZ)) (Fr : @G0 P w K mg base) (bi:Fn P w K mg base "cells_of" 2 ["wish"] (xQ)) (FB : @GB P w K mg base) (FC : @EN P w K mg base) (FY : @HR P w K mg base) (Fg : @EJ P w K mg base):Fn P w K mg base "cell_swaps" 9 ["hall"] (Ed):=by
 ctx_has z qe <;> obtain⟨p,c,t,cs,us,Ws,ws,ns,rfl,hA,k⟩:=h
 .rfl
 refine⟨_,(af (aB 1 (ah FX (aa (pvM 0) ac)))
  (af (aB 2 (ah Fr (aa (ak ao (pvM 0) ae) ac)))
  (af (bW 3 (N:=["wish"]) (nt:=1) (js:=[]) (aE ["hall","rooms","forms","cells","found","pair","turning"] (am eK).names) (bR K (ak ao (pvM 0) ae)) (az 0) aL aU (ah bi (aa (pvM 0) ac)))
  (af (aB 4 (ba ac))
  (af (bc (qV K (ah FB (aa (aG (wJ rfl) T.b_list (aa (pvM 1) ac)) ac))) (az 5) (ag (aJ (ay (tG (iw hr)) (dY hu (pvM 1) (ak ao (pvM 5) ae)) (dY hu (pvM 1) (ak ao (pvM 5) ae))) (af (aB 6 (aI (aa (ah FC (aa (ak ao (pvM 5) ae) (aa (ak ao (pvM 5) ae) ac))) (aa cj ac))))
  (ag (aJ (dv (ah Fg (aa (pvM 6) (aa (ah FY (aa (pvM 5) (aa (ak ao (pvM 0) ae) (aa (pvM 3) ac)))) (aa (pvM 2) ac))))) (ag (bu (cA l5 l7 bo (pvM 4) (aa (pvM 5) ac)))) aA))) aA)))
  (ag (aC (pvM 4)))))))),?_⟩
 have hH:=hA.hh;have tb:=hA.tb;have aP:=hA.cl;have aN:=hH.wa.ln;ctx_has v
 refine⟨p,c,t,cs,us,Ws,ws,ns,rfl,hH,λr H1 b0 s1 hR=>?_⟩
 have a8:=hH.same s1;have e1:=a8.hp;ctx_has v e1
 refine⟨t,us,Ws,ws,ns,rfl,tb.same s1,a8.wa,λfm o kvs H2 s2 h2 aX bj bv=>?_⟩
 have bb:=s1.trans s2;have a3:=a8.same s2;have e2:=a3.hp;have e3:=a3.wa.ht;ctx_has v e2 e3
 intro D hD;refine bL aT (λi xs H'=>∃nl:List (Addr × List Str),xs=(nl.map λx=>V.ref x.1)/\nl.map (·.2)=(Ws.take i).map cp/\(∀x∈nl,H' x.1>>(x.2.map V.str))/\aj H2 H'/\H' D*>xs) ⟨[],rfl,rfl,(λx U=>by cases U),aj.upd0 hD,ab⟩ (λi xs H' aH=>by obtain⟨_,_,_,_,s,_⟩:=aH;exact(.of (s _ _ e3))) ?_ ?_
 .rintro i x xs H3 hi U ⟨nl,rfl,ad,a7,s3,a0⟩
  obtain⟨wv,W,rfl,be,bm,hm⟩:=(a3.wa.same s3).at U;ctx_has v
  refine⟨_,_,rfl,Do bm,DE (a3.wa.ok W hm),λq H4 h4 s4=>⟨s4 _ _ a0,?_,nl++[(q,cp W)],by simp,?_,λy hy=>?_,(s3.trans s4).putN hD,ab⟩⟩
  .have:=congrArg u8 ad
   rw[a_,a_,pk] at this;rw[a_];exact au ()
  .rw[ii,ad,i8,be,ii]
   rfl
  .have hk:=gv (o:=.lst ((nl.map λx=>V.ref x.1)++[V.ref q])) (s4 _ _ a0)
   rcases j6.mp hy with z | z
   .exact hk _ _ (s4 _ _ (a7 y z))
   .rw[g7.mp z]
    exact hk _ _ h4
 rintro xs H3 ⟨nl,rfl,ad,a7,s3,a0⟩
 ctx_has v
 refine⟨∅,λfo a1=>⟨r,rfl,kvR (xsH cs),?_,λl hl=>?_⟩⟩
 .exact aj.upd0 a1 _ _ (s3 _ _ (s2 _ _ hR.hr))
 have s4:=(aj.upd0 (o:=.lst []) a1).upd_new (o:=.lst ((kvR (xsH cs)).map λx=>kV x.1)) hl
 have a4:upd (upd H3 fo (.lst [])) l (.lst ((kvR (xsH cs)).map λx=>kV x.1)) l*>((kvR (xsH cs)).map λx=>kV x.1):=ab
 have a6:upd (upd H3 fo (.lst [])) l (.lst ((kvR (xsH cs)).map λx=>kV x.1)) fo*>[]:=(aj.upd0 hl) _ _ ab
 generalize upd (upd H3 fo (.lst [])) l (.lst ((kvR (xsH cs)).map λx=>kV x.1))=H4 at s4 a4 a6 ⊢
 have ek:((kvR (xsH cs)).map λx=>kV x.1)=(nmK cs).map kV:=by
  unfold kvR xsH nmK;simp only[fx];rfl
 rw[ek] at a4;refine⟨l,_,rfl,a4,by rw[a_];unfold nmK;rw[a_];exact aP,λpp H5 bk s5 hP=>?_⟩
 obtain⟨as,g1,g2,g3⟩:=hP.keys;obtain⟨bs,aY,a5,bt⟩:=hH.wa.wa;have aS : ∀z∈cs,bg (kvR (xsH cs)) (e_ z.2.1)=some (.ref z.2.2.1):=λz hz=>jK (AY hA.nx) (e7.mpr ⟨z.2,e7.mpr ⟨z,hz,rfl⟩,rfl⟩)
 have Z:=bb.trans s3;have ad:nl.map (·.2)=bs.map λx=>cp x.2:=by rw[ad,hH.wa.len,k9,<- a5,fx];rfl
 have bh:=s3 _ _ (s2 _ _ hR.hr);have bq:pp≠fo:=(ap a6 bk).symm
 have br:=s4.trans s5;have aW:=s5 _ _ a6;ctx_has v
 refine⟨_,g1,?_⟩
 refine bK bz (λi σ H'=>∃v5 v6:Option V,σ=[-p,-r,-fm,-D,-fo,v5,v6]/\H' fo*>(((as.take i).filter λx=>ldC cs Ws x.2).map λx=>V.ref x.1)/\H' pp*>(as.map λx=>V.ref x.1)/\(∀x∈as,H' x.1>>[kV x.2.1,kV x.2.2])/\aj H3 H')
  ⟨_,_,rfl,aW,g1,g3,br⟩ (λi σ H' aR=>by obtain⟨_,_,_,_,h,_⟩:=aR;exact(.of h)) ?_ ?_
 .rintro i x σ H6 hi U ⟨v5,v6,rfl,h6f,h6p,h6a,s6⟩
  obtain⟨⟨ya,ka,kb⟩,hy,rfl⟩ : ∃y,as[i]? = some y/\V.ref y.1=x:=by
   rw[e9] at U;cases e:as[i]? with
   | none=>rw[e] at U;cases U
   | some y=>rw[e] at U;exact⟨y,rfl,f_ U⟩
  have aD:=i4 hy;have aO:(ka,kb)∈prK (nmK cs):=by rw[<- g2];exact o7 (f:=Prod.snd) aD
  obtain⟨ma,mb⟩:=gG aO;obtain⟨za,ax,ea⟩:=e7.mp ma;obtain⟨zb,aw,eb⟩:=e7.mp mb;have ea:ka=e_ za.2.1:=ea.symm
  have eb:kb=e_ zb.2.1:=eb.symm
  subst ea eb;have a9:za.2.1≠zb.2.1:=λz=>pM hA.nk aO (by rw[z])
  have ar:H6 ya>>[.str za.2.1,.str zb.2.1]:=h6a _ aD
  have bf:=s6 _ _ bh;ctx_has v ar bf
  have ra:=s6 _ _ (Z _ _ (hH.ca za ax).2);have rb:=s6 _ _ (Z _ _ (hH.ca zb aw).2);have aM:=vh hA.nd hA.se (xh ax) (xh aw);have aV:ldC cs Ws (e_ za.2.1,e_ zb.2.1)=false->∀H7,aj H6 H7->H7 fo*>(((as.take (i+1)).filter λx=>ldC cs Ws x.2).map λx=>V.ref x.1)/\H7 pp*>(as.map λx=>V.ref x.1)/\(∀x∈as,H7 x.1>>[kV x.2.1,kV x.2.2])/\aj H3 H7:=λh H7 s7=>⟨by rw[rK (t:=λx=>ldC cs Ws x.2) hy h];exact s7 _ _ h6f,s7 _ _ h6p,λx U=>s7 _ _ (h6a x U),s6.trans s7⟩
  refine⟨_,aS za ax,_,aS zb aw,gF za.2.2.2,gF zb.2.2.2,.tup (.of ra) (cC.ints _),.tup (.of rb) (cC.ints _),fA _,fA _,le_trans (ja _) ∅,_,rfl,?_⟩
  rw[sV]
  by_cases hq:za.2.2.2=zb.2.2.2
  .rw[decide_eq_true hq,if_pos rfl]
   refine⟨_,ar,_,rfl,_,ar,_,rfl,e_ _,e_ _,rfl,λz=>a9 (I_ z),λe H7 he s7 h7 e2 bn=>⟨∅,λt2 aK=>?_⟩⟩
   have s8:=(aj.upd0 (o:=.dK []) bn).upd_new (o:=.tup [.ref e,.ref e2]) aK;have T8:ce (upd (upd H7 e2 (.dK [])) t2 (.tup [.ref e,.ref e2])) t2 e e2 (xc za.2.1 zb.2.1) []:=⟨ab,s8 _ _ h7,(aj.upd0 aK) _ _ ab,jS a9,lj,sA _ _,∅⟩
   have a2:=s7.trans s8;generalize upd (upd H7 e2 (.dK [])) t2 (.tup [.ref e,.ref e2])=H8 at a2 T8 ⊢;have av:=s6.trans a2;have aQ:=hH.same (Z.trans av);refine⟨_,aQ.hp,_,rfl,ya,t,D,za.2.1,zb.2.1,bs,nl,rfl,a2 _ _ ar,by rw[<- aY];exact aQ.wa.ht,av _ _ a0,ad,λx U=>av _ _ (a7 x U),by rw[<- a5,a_] at aN;exact aN,λtw H9 bx s9 h9=>?_⟩
   have an:=av.trans s9;have tk:=hA.tokC (hA.cw za ax) (hA.cw zb aw) a9;refine AX ((tb.same Z).same an) (T8.same s9) (hH.wa.same (Z.trans an)) a5 (λx U=>bF (bt x U) λa xs e=>an _ _ (Z _ _ e)) h9 tk (an _ _ (s3 _ _ h2)) (aX.keep λa xs e=>an _ _ (s3 _ _ e)) bj (zf hH.wa.ok tk.ok) λb bp bd hb=>⟨b,rfl,?_⟩
   have aF:ldC cs Ws (e_ za.2.1,e_ zb.2.1)=b:=wI ⟨λz=>⟨aM.mpr hq,hb.mp z⟩,λz=>hb.mpr z.2⟩
   have Y:=a2.trans (s9.trans bd);cases b with
   | true =>
    have aq:=Y _ _ h6f;rw[if_pos rfl];refine⟨⟨_,aq⟩,_,aq,?_,?_,?_,λx U=>gv aq _ _ (Y _ _ (h6a x U)),(s6.trans Y).putN a1⟩
    .rw[a_]
     have aZ:=congrArg u8 g2;rw[a_] at aZ;have bw:=iS (ks:=nmK cs) (by unfold nmK;rw[a_];exact aP)
     exact au (le_trans (t_ _ _) (le_trans (Jv _ _) ()))
    .rw[ab,lN (t:=λx=>ldC cs Ws x.2) hy aF,ii];rfl
    .rw[ai bq];exact Y _ _ h6p
   | false=>rw[if_neg ∅];exact aV aF bp Y
  .rw[decide_eq_false hq,if_neg ∅]
   exact aV (wI ⟨λz=>(by cases z),λz=>absurd (aM.mp z.1) hq⟩) H6 (aj.refl _)
 .rintro σ H6 ⟨v5,v6,rfl,h6f,h6p,h6a,s6⟩
  ctx_has v
  rw[a_,k9] at h6f;exact k fo H6 (Z.free a1) (Z.trans s6) ⟨_,h6f,by rw[<- g2,filter_map];rfl,λx U=>h6a x (u7.mp U).1⟩
def plV (rs:List (List Int)) (i:Nat) (v:Int):List Int:=((range i).filter λn=>decide (v∈rs.getD n [])).map Int.ofNat
def plJ (rs:List (List Int)) (i j:Nat) (v:Int):List Int:=plV rs i v++if v∈(rs.getD i []).take j then[(i:Int)] else[]
theorem uS (rs:List (List Int)) (i:Nat) (v:Int):plJ rs i 0 v=plV rs i v:=by unfold plJ;simp
theorem AM (h:(rs.getD i []).length<=j) (v:Int):plJ rs i j v=plV rs (i+1) v:=by
 unfold plJ plV;rw[t4 h,range_succ,List.filter_append,ii]
 by_cases z:v∈rs.getD i []
 .rw[if_pos z,List.filter_cons_of_pos (by simpa using z)];rfl
 .rw[if_neg z,List.filter_cons_of_neg (by simpa using z)];rfl
theorem xO {u:Int} (hn:(rs.getD i []).Nodup) (U:(rs.getD i [])[j]? = some u):plJ rs i (j+1) u=plJ rs i j u++[(i:Int)]:=by
 unfold plJ;have h1:u∉(rs.getD i []).take j:=λz=>by
  have e:(rs.getD i []).take (j+1)=(rs.getD i []).take j++[u]:=by rw[i8,U];rfl
  have:=hn.sublist (JF (j+1) _)
  rw[e,x_] at this;exact this.2.2 _ z _ (by simp) rfl
 rw[if_neg h1,J8,if_pos (by rw[i8,U];simp)]
theorem uT {u v:Int} (z:(rs.getD i [])[j]? = some u) (U:v≠u):plJ rs i (j+1) v=plJ rs i j v:=by
 unfold plJ;rw[i8,z];simp[U]
theorem CB (rs:List (List Int)) (i:Nat) (v:Int):(plV rs i v).length<=i:=by
 unfold plV;rw[a_];exact le_trans (t_ _ _) (by rw[Kf];exact j5 _)
theorem Dh (rs:List (List Int)) (i j:Nat) (v:Int):(plJ rs i j v).length<=i+1:=by
 unfold plJ;rw[nH];have:=CB rs i v
 split <;> simp <;> omega
theorem yR {v:Int} (h:plJ rs i j v≠[]) : ∃r∈rs,v∈r:=by
 have key : ∀n,v∈rs.getD n []->∃r∈rs,v∈r:=λn hn=>by
  rw[j7] at hn;cases e:rs[n]? with
  | none=>rw[e] at hn;cases hn
  | some r=>rw[e] at hn;exact⟨r,i4 e,hn⟩
 by_cases z:v∈(rs.getD i []).take j
 .exact key i (v_ z)
 .unfold plJ at h
  rw[if_neg z,J8] at h;obtain⟨x,U⟩:=List.exists_mem_of_ne_nil _ h;obtain⟨n,hn,_⟩:=e7.mp U;exact key n (by simpa using (u7.mp hn).2)
theorem DD (rs:List (List Int)) (v:Int):plV rs rs.length v≠[]↔∃r∈rs,v∈r:=by
 constructor
 .intro h
  rw[<- uS] at h;exact yR h
 .rintro⟨r,hr,hv⟩ e
  obtain⟨n,hn,rfl⟩:=K2.mp hr;have:(n:Int)∈plV rs rs.length v:=e7.mpr ⟨n,u7.mpr ⟨x8.mpr hn,by rw[j7,h_ hn];simpa using hv⟩,rfl⟩
  rw[e] at this;cases this
theorem Eu (rs:List (List Int)) (a b:Int):plV rs rs.length a=plV rs rs.length b↔∀r∈rs,(a∈r↔b∈r):=by
 constructor
 .intro h r hr
  obtain⟨n,hn,rfl⟩:=K2.mp hr;have e:rs.getD n []=rs[n]:=by rw[j7,h_ hn];rfl
  have m : ∀v,(n:Int)∈plV rs rs.length v↔v∈rs[n]:=λv=>by
   unfold plV;rw[e7]
   constructor
   .rintro⟨k,hk,ek⟩
    cases (show k=n from Int.ofNat.inj ek)
    rw[<- e];simpa using (u7.mp hk).2
   .intro hv
    exact⟨n,u7.mpr ⟨x8.mpr hn,by rw[e];simpa using hv⟩,rfl⟩
  rw[<- m a,<- m b,h]
 .intro h
  unfold plV
  congr 1
  refine List.filter_congr λn hn=>?_
  have hn:=x8.mp hn;have e:rs.getD n []=rs[n]:=by rw[j7,h_ hn];rfl
  rw[e];exact decide_eq_decide.mpr (h _ (A_ hn))
theorem wg {l m:List α} (hn:l.Nodup) (h : ∀x∈l,x∈m):l.length<=m.length:=by
 rcases Nat.le_total m.length l.length with z | z
 .exact le_of_eq (nE hn h z).length_eq
 .exact z
abbrev kvP (ks:List (Int × Addr)):List (Key × V):=ks.map λx=>(i9 x.1,V.ref x.2)
structure gR (H0 H:Hp) (p:Addr) (ks:List (Int × Addr)) (F:Int->List Int):Prop where
 hp:H p<*(kvP ks)
 nk:(ks.map (·.1)).Nodup
 na : ∀x∈ks,∀y∈ks,x.2=y.2->x=y
 hl : ∀x∈ks,H x.2*>((F x.1).map V.int)
 fr : ∀x∈ks,H0 x.2=none
 fp:H0 p=none
 sm:aj H0 H
 ky : ∀v,v∈ks.map (·.1)↔F v≠[]
theorem gR.same {ks:List (Int × Addr)} (h:gR H0 H p ks F) (s:aj H H'):gR H0 H' p ks F :=
 ⟨s _ _ h.hp,h.nk,h.na,λx z=>s _ _ (h.hl x z),h.fr,h.fp,h.sm.trans s,h.ky⟩
theorem gR.keys {ks:List (Int × Addr)} (h:gR H0 H p ks F):((kvP ks).map (·.1)).Nodup:=by
 rw[fx];exact l9.mpr ((l9.mp h.nk).imp λne e=>ne (Jz e))
theorem gR.val {ks:List (Int × Addr)} (h:gR H0 H p ks F) {u:Int} {v:V} (e:bg (kvP ks) (i9 u)=some v) : ∃q,v = .ref q/\(u,q)∈ks:=by
 have:=oU e
 obtain⟨x,z,ex⟩:=e7.mp this;cases ex;exact⟨x.2,rfl,z⟩
theorem gR.none {H0 H:Hp} {p:Addr} {ks:List (Int × Addr)} {F:Int->List Int} (h:gR H0 H p ks F) {u:Int} (e:bg (kvP ks) (i9 u)=none):u∉ks.map (·.1):=λz=>by
 have U:(bg (kvP ks) (i9 u)).isSome=true:=cV.mpr (by
  obtain⟨x,Y,rfl⟩:=e7.mp z;exact e7.mpr ⟨_,e7.mpr ⟨x,Y,rfl⟩,rfl⟩)
 rw[e] at U;cases U
theorem gR.more {q:Addr} {ks:List (Int × Addr)} {u n:Int} (h:gR H0 H p ks F) (U:(u,q)∈ks) (hu:F' u=F u++[n]) (Z : ∀v,v≠u->F' v=F v):gR H0 (upd H q (.lst ((F u).map V.int++[.int n]))) p ks F':=by
 have hq:=h.hl _ U;refine⟨by rw[ai (bA h.hp hq (by intro z;cases z))];exact h.hp,h.nk,h.na,λx Y=>?_,h.fr,h.fp,h.sm.putN (h.fr _ U),λv=>?_⟩
 .by_cases e:x.2=q
  .cases h.na x Y _ U e
   rw[ab,hu,ii];rfl
  .rw[ai e,h.hl x Y,Z x.1 λz=>e ?_]
   have hk:(kvP ks).map (·.1)=ks.map λx=>(i9 x.1:Key):=by rw[fx];rfl
   exact congrArg Prod.snd (eY h.nk Y U z)
 .by_cases e:v=u
  .subst e
   rw[hu];exact⟨λ_=>by simp,λ_=>o7 (f:=Prod.fst) U⟩
  .rw[Z v e];exact h.ky v
theorem gR.new {q:Addr} {ks:List (Int × Addr)} {u n:Int} (h:gR H0 H p ks F) (Y:H q=Option.none) (hn:u∉ks.map (·.1)) (hu:F' u=F u++[n]) (hv : ∀v,v≠u->F' v=F v):gR H0 (upd (upd (upd H q (.lst [])) p (.dK (bj (kvP ks) (i9 u) (.ref q)))) q (.lst [.int n])) p (ks++[(u,q)]) F':=by
 have aa:p≠q:=ap h.hp Y
 have hf:F u=[]:=by
  by_cases z:F u=[]
  .exact z
  .exact absurd ((h.ky u).mpr z) hn
 have hk:(i9 u:Key)∉(kvP ks).map (·.1):=λz=>by
  obtain⟨y,hy,e⟩:=e7.mp z;obtain⟨x,U,rfl⟩:=e7.mp hy;exact hn (by rw[<- Jz e];exact o7 (f:=Prod.fst) U)
 have Z : ∀x∈ks,x.2≠q:=λx U=>ap (h.hl x U) Y
 refine⟨?_,?_,λx U y hy e=>?_,λx U=>?_,λx U=>?_,h.fp,?_,λv=>?_⟩
 .rw[ai aa,ab,dC _ (gE hk)]
  simp[kvP]
 .rw[ii]
  exact x_.mpr ⟨h.nk,by simp,λa ha b hb e=>hn (by rw[g7.mp hb] at e;rw[show a=u from e] at ha;exact ha)⟩
 .rcases j6.mp U with x1 | x1 <;> rcases j6.mp hy with y1 | y1
  .exact h.na x x1 y y1 e
  .rw[g7.mp y1] at e;exact absurd e (Z x x1)
  .rw[g7.mp x1] at e;exact absurd e.symm (Z y y1)
  .rw[g7.mp x1,g7.mp y1]
 .rcases j6.mp U with x1 | x1
  .have hx1:=h.hl x x1
   rw[ai (Z x x1),ai (bA hx1 h.hp (by intro z;cases z)),ai (Z x x1),hx1,hv x.1 λz=>hn (z ▸ o7 (f:=Prod.fst) x1)]
  .rw[g7.mp x1,ab,hu,hf];rfl
 .rcases j6.mp U with x1 | x1
  .exact h.fr x x1
  .rw[g7.mp x1];exact h.sm.free Y
 .exact(((h.sm.upd_new Y).putN h.fp).putN (h.sm.free Y))
 .rw[ii,j6]
  by_cases e:v=u
  .subst e
   rw[hu];simp
  .rw[hv v e,<- h.ky v]
   simp[e]
abbrev rsH (cs:List (Addr × Str × Addr × List Int)):List (List Int):=cs.map (·.2.2.2)
def El:Sp:=λvs H Q _=>∃(p c t:Addr) (cs:List (Addr × Str × Addr × List Int)) (us:List V) (Ws:List Wx) (ws:List Str) (ns:List Int),vs=[.ref p]/\HA H p c t cs us Ws ws ns/\∀q ks H',gR H H' q ks (plV (rsH cs) cs.length)->Q (.ref q) H'
theorem jh (T:Txt w K mg base) (L:FnL K mg "places_of_values" de ["hall"]):Fn P w K mg base "places_of_values" 1 ["hall"] (El):=by
 ctx_has z je <;> obtain⟨p,c,t,cs,us,Ws,ws,ns,rfl,hA,k⟩:=h
 .rfl
 refine⟨_,(af (aB 1 cj)
  (af (bc (ou (K:=K) rfl rfl T.b_enumerate (aa (ak ao (pvM 0) ae) ac)) (cH (n:=2) rfl (aV (az 2) (aV (az 3) cG))) (ag (bc (bR K (ak ao (pvM 3) ae)) (az 4) (ag (bu (cA l5 l7 bo (zW (pvM 1) (pvM 4) (ba ac) ⟨rfl,rfl,rfl,rfl⟩) (aa (pvM 2) ac)))))))
  (ag (aC (pvM 1))))),?_⟩
 have e1:=hA.hh.hp;have e2:=hA.hh.hc;have ay:=hA.cl;ctx_has v
 intro q hq;have s0:=aj.upd0 (o:=.dK []) hq;have aw:=s0 _ _ e1;have av:=s0 _ _ e2;ctx_has v aw av
 refine GT (xs:=cs.map λx=>V.ref x.1) (λi σ H'=>∃(ks:List (Int × Addr)) (v2 v3 v4:Option V),σ=[-p,-q,v2,v3,v4]/\gR H H' q ks (plV (rsH cs) i)) ⟨[],_,_,_,rfl,ab,by simp,(λx U=>by cases U),(λx U=>by cases U),(λx U=>by cases U),hq,s0,λv=>by simp[plV]⟩ (λi σ H' ah=>by obtain⟨_,_,_,_,_,h⟩:=ah;exact(.of (h.sm _ _ e2))) ?_ ?_
 .rintro i x σ H1 t0 U ⟨ks,v2,v3,v4,rfl,h1⟩ ht0
  obtain⟨y,hy,rfl⟩ : ∃y,cs[i]? = some y/\V.ref y.1=x:=by
   rw[e9] at U;cases e:cs[i]? with
   | none=>rw[e] at U;cases U
   | some nm=>rw[e] at U;exact⟨nm,rfl,f_ U⟩
  have P2:=h1.same (aj.upd0 (o:=.tup [.int (i:Nat),V.ref y.1]) ht0);have aq:upd H1 t0 (.tup [.int (i:Nat),V.ref y.1]) t0>>[.int (i:Nat),V.ref y.1]:=ab
  generalize upd H1 t0 (.tup [.int (i:Nat),V.ref y.1])=H2 at P2 aq ⊢;have Z:=i4 hy;have ax:=(i7.mp hy).1;have g3:=P2.sm _ _ (hA.hh.ca y Z).1;have g4:=P2.sm _ _ (hA.hh.ca y Z).2;have ad:(rsH cs).getD i []=y.2.2.2:=by rw[j7,e9,hy];rfl
  have an:((rsH cs).getD i []).Nodup:=by rw[ad];exact(hA.gr y Z).2.2.1.imp λh=>by omega
  ctx_has v aq g3 g4
  refine bK aT (λj σ H'=>∃(ks:List (Int × Addr)) (v4:Option V),σ=[-p,-q,some (.int (i:Nat)),some (.ref y.1),v4]/\gR H H' q ks (plJ (rsH cs) i j)) ⟨ks,_,rfl,by rw[show plJ (rsH cs) i 0=plV (rsH cs) i from funext λv=>uS _ _ v];exact P2⟩ (λj σ H' am=>by obtain⟨_,_,_,h⟩:=am;exact(.of (h.sm _ _ (hA.hh.ca y Z).2))) ?_ ?_
  .rintro j x σ H3 hj U ⟨ks,v4,rfl,P3⟩
   obtain⟨u,hu,rfl⟩ : ∃u,y.2.2.2[j]? = some u/\V.int u=x:=by
    rw[e9] at U;cases e:y.2.2.2[j]? with
    | none=>rw[e] at U;cases U
    | some u=>rw[e] at U;exact⟨u,rfl,f_ U⟩
   rw[<- ad] at hu;have g5:=P3.hp;ctx_has v xT g5
   have P4:=λ(q0:Addr) (Y:H3 q0=none)=>P3.same (aj.upd0 (o:=.lst []) Y)
   refine⟨∅,λq0 Y=>⟨_,(P4 q0 Y).hp,?_,λv hv=>?_,λhv=>?_⟩⟩
   .have:=wg P3.nk (m:=ns) λv hv=>by
     obtain⟨r,hr,ar⟩:=yR ((P3.ky v).mp hv);obtain⟨z,hz,rfl⟩:=e7.mp hr;exact(hA.gr z hz).2.2.2 v ar
    have a0:=hA.nl;rw[a_] at this ⊢;exact au ()
   .obtain⟨q1,rfl,hm⟩:=P3.val hv
    have g6:=(P4 q0 Y).hl _ hm;exact⟨q1,rfl,⟨_,g6⟩,_,g6,by rw[a_];exact au (le_trans (Dh (rsH cs) i j u) ()),ks,(P4 q0 Y).more hm (xO an hu) λv hv=>uT hu hv⟩
   .have hn:=P3.none hv
    refine⟨⟨[],?_⟩,[],?_,∅,ks++[(u,q0)],P3.new Y hn (xO an hu) λv hv=>uT hu hv⟩
    all_goals rw[ai (ap g5 Y).symm];exact ab
  .rintro σ H3 ⟨ks,v4,rfl,P3⟩
   exact⟨ks,_,_,_,rfl,by rw[<- show plJ (rsH cs) i (y.2.2.2.map V.int).length=plV (rsH cs) (i+1) from funext λv=>AM (by rw[ad,a_];exact j5 _) v];exact P3⟩
 .rintro σ H1 ⟨ks,v2,v3,v4,rfl,h1⟩
  ctx_has v
  rw[a_] at h1;exact k q ks H1 h1
theorem pe {k:Key} : ∀{ps l:List (Key × V)},k∈(dN l ps).map (·.1)↔k∈l.map (·.1)\/k∈ps.map (·.1)
 | [],l=>by simp[dN]
 | x :: ps,l=>by
  show k∈(dN (bj l x.1 x.2) ps).map (·.1)↔_
  rw[pe,el,i_,i6]
  constructor
  .rintro((h | h) | h)
   .exact .inr (.inl h)
   .exact .inl h
   .exact .inr (.inr h)
  .rintro(h | h | h)
   .exact .inl (.inr h)
   .exact .inl (.inl h)
   .exact .inr h
noncomputable def ldV (cs:List (Addr × Str × Addr × List Int)) (Ws:List Wx):Key × Key->Bool
 | (.inl a,.inl b)=>@decide (kN [] (xc a b) (dat (xsH cs)) Ws) (Classical.propDecidable _)
 | _=>false
theorem sY {Ws:List Wx} {x y:Int} {b:Bool} (h:b=true↔kN [] (xc x y) (dat (xsH cs)) Ws):ldV cs Ws (i9 x,i9 y)=b:=by
 classical
 cases b
 .exact decide_eq_false λz=>by have:=h.mpr z;cases this
 .exact decide_eq_true (h.mp rfl)
def xm (cs:List (Addr × Str × Addr × List Int)) (ms:List Int):Prop:=ms.Pairwise (· < ·)/\∀v,v∈ms↔∃r∈rsH cs,v∈r
theorem xm.one {ls:List Int} (h:xm cs ms) (g:xm cs ls):ms=ls:=by
 have nd : ∀{l:List Int},l.Pairwise (· < ·)->l.Nodup:=λh=>h.imp λz=>by omega
 have le : ∀{l:List Int},l.Pairwise (· < ·)->l.Pairwise (·<=·):=λh=>h.imp λz=>by omega
 exact nX ((List.perm_ext_iff_of_nodup (nd h.1) (nd g.1)).mpr λv=>(h.2 v).trans (g.2 v).symm) (le h.1) (le g.1)
theorem Dp (a b:List Int):n_ (.list (a.map .int)) (.list (b.map .int))=decide (a=b):=by unfold n_;exact ib a b
theorem xY (a:List Int):(PyData.list (a.map .int)).canLay0=true:=by unfold y8;exact lay_ints a
theorem zH (a:List Int):(PyData.list (a.map .int)).depth<=1:=by unfold t3;rw[depth_ints];decide
def inK (ms:List Int):List Key:=ms.map i9
def DV:Sp:=λvs H Q _=>∃(p c t:Addr) (cs:List (Addr × Str × Addr × List Int)) (us:List V) (Ws:List Wx) (ws:List Str) (ns:List Int),vs=[.ref p]/\HA H p c t cs us Ws ws ns /\
 ∀r H',H r=none->aj H H'->(∀ms,xm cs ms->PrK H' r ((prK (inK ms)).filter (ldV cs Ws)))->Q (.ref r) H'
theorem xL (h:ms.Pairwise (· < ·)):(inK ms).Nodup:=l9.mpr (h.imp λz e=>by have:=Jz e;omega)
theorem Df {Ws:List Wx} (hv:xm cs ms) (h:(Ws.map jj).any id=true):(prK (inK ms)).filter (ldV cs Ws)=[]:=by
 refine List.filter_eq_nil_iff.mpr λx hx=>?_
 obtain⟨b,hb,h⟩:=Ke.mp h;obtain⟨W,hW,rfl⟩:=e7.mp hb;have Y:=pM (xL hv.1) hx;obtain⟨ma,mb⟩:=gG hx;obtain⟨a,_,U⟩:=e7.mp ma;obtain⟨b,_,Z⟩:=e7.mp mb;obtain⟨ka,kb⟩:=x;have U:ka=i9 a:=U.symm
 have Z:kb=i9 b:=Z.symm
 subst U Z;rw[sY (b:=false) ⟨λz=>(by cases z),λz=>absurd z.2 (BC (λe=>Y (by rw[e])) hW h _)⟩]
 decide
theorem Cw {w:Addr} {W:Wx} {Q:VK} {E:XK} (z:WX H w W) (ok:okX ws ns W) (k : ∀p H',H p=none->aj H H'->H' p*>((dt W).map V.int)->Q (.ref p) H'):By [.ref w] H Q E\/xp [.ref w] H Q E:=by
 cases W with
 | pl W=>exact .inl ⟨w,W,ws,ns,rfl,z,ok,k⟩
 | sa c us W=>exact .inr ⟨w,c,us,W,ws,ns,rfl,z,ok,k⟩
theorem zJ {W:Wx} (h:okX ws ns W):(dt W).length<=120:=by
 cases W with
 | pl W=>exact le_trans (oK h) ∅
 | sa c us W =>
  have f1:=oK h.2.2.1;have f2:us.length<=20:=h.2.1.2.2
  show(us++fB W).length<=120
  rw[nH];omega
abbrev Hd (W:Wx):List (Key × V):=(dt W).map λy=>(i9 y,V.bl true)
abbrev Ay (W:Wx):List (Key × V):=dN [] (Hd W)
theorem Bu {W:Wx} {v:Int}:(bg (Ay W) (i9 v)).isSome=decide (v∈dt W):=by
 rw[o_,cV,pe,decide_eq_true_eq,fx];simp
abbrev nz3:List Str:=["hall","places","forms","values","found","pair","turning"]
theorem pA (T:Txt w K mg base) (L:FnL K mg "value_swaps" bX ["hall"]) (Fy:Fn P w K mg base "places_of_values" 1 ["hall"] (El)) (Fr : @G0 P w K mg base) (FI:Fn P w K mg base "hangs_on_size" 1 ["wish"] (Ag)) (FL : @GP P w K mg base) (FZ:Fn P w K mg base "values_in" 2 ["wish"] (xp)) (FB : @GB P w K mg base) (FC : @EN P w K mg base) (FW : @Ho P w K mg base) (Fg : @EJ P w K mg base):Fn P w K mg base "value_swaps" 9 ["hall"] (DV):=by
  ctx_has z og <;> obtain⟨p,c,t,cs,us,Ws,ws,ns,rfl,hA,k⟩:=h
  . rfl
  refine⟨_,(af (aJ (dv (aF (qR rfl) T.b_any (aa (aW (N:=["wish"]) (nt:=1) (js:=[]) (aE nz3 (am bX).names) (bR K (ak ao (pvM 0) ae)) (az 0) aL aU (ah FI (aa (pvM 0) ac))) ac))) (ag (aC (ba ac))) aA)
    (af (aB 1 (ah Fy (aa (pvM 0) ac)))
    (af (aB 2 (ah Fr (aa (ak ao (pvM 0) ae) ac)))
    (af (bW 3 (N:=["wish"]) (nt:=1) (js:=[]) (aE nz3 (am bX).names) (bR K (ak ao (pvM 0) ae)) (az 0) aL aU (aG (xx rfl) T.b_dict (aa (aW (N:=["value"]) (nt:=1) (js:=[]) (aE ["wish"] (Go (am bX).kind (am bX).names _)) (qV K (cg FL FZ (aa (pvM 0) ac))) (az 0) aL aU (aI (aa (pvM 0) (aa ga ac)))) ac)))
    (af (aB 4 (ba ac))
    (af (bc (qV K (ah FB (aa (aF (qm rfl) T.b_sorted (aa (pvM 1) ac)) ac))) (az 5) (ag (aJ (ay (tG (iw hr)) (dY hu (pvM 1) (ak ao (pvM 5) ae)) (dY hu (pvM 1) (ak ao (pvM 5) ae))) (af (aB 6 (aI (aa cj (aa (ah FC (aa (ak ao (pvM 5) ae) (aa (ak ao (pvM 5) ae) ac))) ac))))
    (ag (aJ (dv (ah Fg (aa (pvM 6) (aa (ah FW (aa (pvM 5) (aa (ak ao (pvM 0) ae) (aa (pvM 3) ac)))) (aa (pvM 2) ac))))) (ag (bu (cA l5 l7 bo (pvM 4) (aa (pvM 5) ac)))) aA))) aA)))
    (ag (aC (pvM 4))))))))),?_⟩
  have hH:=hA.hh;have tb:=hA.tb;have b0:=hH.wa.ln;have e1:=hH.hp;have e2:=hH.wa.ht;ctx_has v e1 e2
  intro D0 bf;refine bL aT (λi xs H'=>xs=((Ws.take i).map jj).map V.bl/\aj H H'/\H' D0*>xs) ⟨rfl,aj.upd0 bf,ab⟩ (λi xs H' b4=>by obtain⟨_,s,_⟩:=b4;exact(.of (s _ _ e2))) ?_ ?_
  . rintro i x xs H1 hi U ⟨rfl,s1,aH⟩
    obtain⟨wv,W,rfl,aQ,bb,hm⟩:=(hH.wa.same s1).at U;ctx_has v
    refine⟨wv,W,rfl,bb,aH,?_,?_,s1.putN bf,ab⟩
    . rw[a_,a_,pk]
      exact au ()
    . rw[i8,aQ]
      simp
  rintro xs H1 ⟨rfl,s1,aH⟩
  rw[hH.wa.len,k9] at aH;refine⟨D0,rfl,_,aH,?_⟩
  by_cases hsz:(Ws.map jj).any id=true
  . rw[if_pos hsz]
    exact⟨∅,λr hr=>k r _ (s1.free hr) (s1.upd_new hr) λms hv=>by rw[Df hv hsz];exact⟨[],ab,rfl,λx U=>by cases U⟩⟩
  rw[if_neg hsz];have bV : ∀W∈Ws,jj W=false:=λW hW=>by
    cases e:jj W with
    | false=>rfl
    | true=>exact absurd (Ke.mpr ⟨true,e7.mpr ⟨W,hW,e⟩,rfl⟩) hsz
  refine⟨p,c,t,cs,us,Ws,ws,ns,rfl,hA.same s1,λpl ks H2 P2=>?_⟩
  have aO:=s1.trans P2.sm;have bD:=hH.same aO;refine⟨_,bD.hp,_,rfl,t,us,Ws,ws,ns,rfl,tb.same aO,bD.wa,λfm o kvs H3 s3 h3 bZ bP cc=>?_⟩
  have bv:=aO.trans s3;have P3:=P2.same s3;have be:=hH.same bv;have e3:=be.wa.ht;refine⟨_,be.hp,_,rfl,t,rfl,_,e3,λD hD=>?_⟩
  refine bL aT (λi xs H'=>∃nl:List (Addr × List (Key × V)),xs=(nl.map λx=>V.ref x.1)/\nl.length=i/\(∀(j:Nat) x W,nl[j]? = some x->Ws[j]? = some W->H' x.1<*x.2/\∀v,(bg x.2 (i9 v)).isSome=decide (v∈dt W))/\aj H3 H'/\H' D*>xs) ⟨[],rfl,rfl,(λj x W U=>by cases U),aj.upd0 hD,ab⟩ (λi xs H' b5=>by obtain⟨_,_,_,_,s,_⟩:=b5;exact(.of (s _ _ e3))) ?_ ?_
  . rintro i x xs H4 hi U ⟨nl,rfl,ad,bd,s4,a9⟩
    obtain⟨wv,W,rfl,aQ,bb,hm⟩:=(be.wa.same s4).at U;have bn:=hH.wa.ok W hm;have cb:=zJ bn;ctx_has v BB
    refine Cw bb bn λpv H5 cm s5 h5=>⟨pv,rfl,_,h5,λE1 b8=>?_⟩
    refine bL bz (λj zs H'=>∃as:List (Addr × Int),zs=(as.map λx=>V.ref x.1)/\as.map (·.2)=(dt W).take j/\(∀x∈as,H' x.1>>[.int x.2,.bl true])/\aj H5 H'/\H' E1*>zs) ⟨[],rfl,rfl,(λx U=>by cases U),aj.upd0 b8,ab⟩ (λj zs H' b9=>by obtain⟨_,_,_,_,s,_⟩:=b9;exact(.of (s _ _ h5))) ?_ ?_
    . rintro j x zs H6 hj U ⟨as,rfl,a3,aS,s6,a7⟩
      obtain⟨u,hu,rfl⟩ : ∃u,(dt W)[j]? = some u/\V.int u=x:=by
        rw[e9] at U;cases e:(dt W)[j]? with
        | none=>rw[e] at U;cases U
        | some u=>rw[e] at U;exact⟨u,rfl,f_ U⟩
      ctx_has v
      refine⟨∅,λq hq=>⟨aj.upd0 hq _ _ a7,?_,as++[(q,u)],by simp,?_,λx U=>?_,(s6.upd_new hq).putN b8,ab⟩⟩
      . have:=congrArg u8 a3
        rw[a_,pk] at this;rw[a_];exact au ()
      . rw[ii,a3,i8,hu]
        rfl
      . have hk:=gv (o:=.lst ((as.map λx=>V.ref x.1)++[V.ref q])) (aj.upd0 (o:=.tup [.int u,.bl true]) hq _ _ a7)
        rcases j6.mp U with z | z
        . exact hk _ _ (aj.upd0 hq _ _ (aS x z))
        . rw[g7.mp z]
          exact hk _ _ ab
    . rintro zs H6 ⟨as,rfl,a3,aS,s6,a7⟩
      rw[a_,k9] at a3;have aq:=s5.trans s6;refine⟨E1,rfl,_,.inr a7,Hd W,⟨as.map λx=>(x.1,i9 x.2,V.bl true),by rw[fx];rfl,by show _=(dt W).map _;rw[<- a3,fx,fx];rfl,λx U=>?_⟩,by rw[a_];exact ot (au ()),λd hd=>?_⟩
      . obtain⟨y,hy,rfl⟩:=e7.mp U
        exact aS y hy
      . have s7:=aj.upd0 (o:=.dK (Ay W)) hd
        have bC:=s7 _ _ (aq _ _ a9);have ck:d≠D:=(ap (aq _ _ a9) hd).symm
        have bh : ∀a kv,upd H6 d (.dK (Ay W)) a<*kv->∀l,upd (upd H6 d (.dK (Ay W))) D (.lst l) a<*kv:=λa kv e l=>by
          rw[ai (bA e bC (by intro z;cases z))];exact e
        refine⟨bC,by rw[a_,ad];exact au (by have:=hH.wa.len;omega),nl++[(d,Ay W)],by simp,by rw[nH,ad];rfl,λj x W' av aY=>?_,(s4.trans (aq.trans s7)).putN hD,ab⟩
        by_cases hj:j < nl.length
        . rw[List.getElem?_append_left hj] at av
          obtain⟨a1,a2⟩:=bd j x W' av aY;exact⟨bh _ _ (s7 _ _ (aq _ _ a1)) _,a2⟩
        . have bH:j=i:=by
            have:=(i7.mp av).1
            rw[nH,ad] at this;simp at this
            omega
          subst bH;rw[List.getElem?_append_right (),ad,Nat.sub_self] at av
          cases f_ av;rw[aQ] at aY;cases aY;exact⟨bh _ _ ab _,λv=>Bu⟩
  rintro xs H4 ⟨nl,rfl,ad,bd,s4,a9⟩
  have P4:=P3.same s4;have an:=bv.trans s4;ctx_has v qX
  have aK : ∀v,v∈ks.map (·.1)↔∃r∈rsH cs,v∈r:=λv=>by
    rw[P4.ky v,show cs.length=(rsH cs).length by rw[a_]]
    exact DD _ v
  have bO:(ks.map (·.1)).length<=20:=le_trans (wg P4.nk (m:=ns) λv hv=>by
    obtain⟨r,hr,aM⟩:=(aK v).mp hv;obtain⟨z,hz,rfl⟩:=e7.mp hr;exact(hA.gr z hz).2.2.2 v aM) hA.nl
  refine⟨∅,λfo a8=>⟨_,(aj.upd0 a8) _ _ P4.hp,ks.map (·.1),by rw[fx,fx];rfl,(),λl ms hl a0 bE=>?_⟩⟩
  have aV:xm cs ms:=⟨(bE.and (a0.nodup_iff.mpr P4.nk)).imp λz=>by have:=z.1;have:=z.2;omega,λv=>a0.mem_iff.trans (aK v)⟩
  have s5:=(aj.upd0 (o:=.lst []) a8).upd_new (o:=.lst (ms.map V.int)) hl;have bi:upd (upd H4 fo (.lst [])) l (.lst (ms.map V.int)) l*>((inK ms).map kV):=by rw[ab];unfold inK;rw[fx];rfl
  have aN:upd (upd H4 fo (.lst [])) l (.lst (ms.map V.int)) fo*>[]:=(aj.upd0 hl) _ _ ab
  generalize upd (upd H4 fo (.lst [])) l (.lst (ms.map V.int))=H5 at s5 bi aN ⊢;have bp:(inK ms).length<=20:=by unfold inK;rw[a_,a0.length_eq];exact bO
  refine⟨l,_,rfl,bi,by rw[a_];exact bp,λpp H6 bT s6 hP=>?_⟩
  obtain⟨as,g1,g2,g3⟩:=hP.keys;obtain⟨bs,bm,aR,ca⟩:=hH.wa.wa;have bY:pp≠fo:=(ap aN bT).symm
  have aq:=s5.trans s6;refine⟨pp,rfl,_,g1,?_⟩
  refine bK bz (λi σ H'=>∃v5 v6:Option V,σ=[-p,-pl,-fm,-D,-fo,v5,v6]/\H' fo*>(((as.take i).filter λx=>ldV cs Ws x.2).map λx=>V.ref x.1)/\H' pp*>(as.map λx=>V.ref x.1)/\(∀x∈as,H' x.1>>[kV x.2.1,kV x.2.2])/\aj H4 H')
    ⟨_,_,rfl,s6 _ _ aN,g1,g3,aq⟩ (λi σ H' bq=>by obtain⟨_,_,_,_,h,_⟩:=bq;exact(.of h)) ?_ ?_
  . rintro i x σ H7 hi U ⟨v5,v6,rfl,ax,aZ,aw,s7⟩
    obtain⟨⟨ya,ka,kb⟩,hy,rfl⟩ : ∃y,as[i]? = some y/\V.ref y.1=x:=by
      rw[e9] at U;cases e:as[i]? with
      | none=>rw[e] at U;cases U
      | some y=>rw[e] at U;exact⟨y,rfl,f_ U⟩
    have bj:=i4 hy;have b1:(ka,kb)∈prK (inK ms):=by rw[<- g2];exact o7 (f:=Prod.snd) bj
    obtain⟨ma,mb⟩:=gG b1;obtain⟨a,b3,ea⟩:=e7.mp ma;obtain⟨b,b2,eb⟩:=e7.mp mb;have ea:ka=i9 a:=ea.symm
    have eb:kb=i9 b:=eb.symm
    subst ea eb;have aD:a≠b:=λz=>pM (xL aV.1) b1 (by rw[z])
    have a4:H7 ya>>[.int a,.int b]:=aw _ bj
    have P7:=P4.same s7;have bS:=P7.hp;obtain⟨⟨a',qa⟩,bw,rfl⟩:=e7.mp (a0.mem_iff.mp b3);obtain⟨⟨b',qb⟩,bt,rfl⟩:=e7.mp (a0.mem_iff.mp b2);have b7 : ∀v∈ms,v∈ns:=λv hv=>by
      obtain⟨r,hr,aM⟩:=(aV.2 v).mp hv;obtain⟨z,hz,rfl⟩:=e7.mp hr;exact(hA.gr z hz).2.2.2 v aM
    have b6 : ∀x∈ks,bg (kvP ks) (i9 x.1)=some (.ref x.2):=λx U=>jK P7.keys (e7.mpr ⟨x,U,rfl⟩)
    have ra:=P7.hl _ bw;have rb:=P7.hl _ bt;have br:kR [] (xc a' b') (dat (xsH cs))↔plV (rsH cs) cs.length a'=plV (rsH cs) cs.length b':=by
      rw[xu hA.nd hA.sl aD,show cs.length=(rsH cs).length by rw[a_],Eu]
      constructor
      . intro h r hr
        obtain⟨z,hz,rfl⟩:=e7.mp hr;exact h _ (xh hz)
      . intro h x U
        obtain⟨y,hy,rfl⟩:=e7.mp U;obtain⟨z,hz,rfl⟩:=e7.mp hy;exact h _ (o7 hz)
    ctx_has v a4 bS
    have bB:ldV cs Ws (i9 a',i9 b')=false->∀H8,aj H7 H8->H8 fo*>(((as.take (i+1)).filter λx=>ldV cs Ws x.2).map λx=>V.ref x.1)/\H8 pp*>(as.map λx=>V.ref x.1)/\(∀x∈as,H8 x.1>>[kV x.2.1,kV x.2.2])/\aj H4 H8:=λh H8 s8=>⟨by rw[rK (t:=λx=>ldV cs Ws x.2) hy h];exact s8 _ _ ax,s8 _ _ aZ,λx U=>s8 _ _ (aw x U),s7.trans s8⟩
    refine⟨_,b6 _ bw,_,b6 _ bt,_,_,.lst (.of ra) (cC.ints _),.lst (.of rb) (cC.ints _),xY _,xY _,le_trans (zH _) ∅,_,rfl,?_⟩
    rw[Dp]
    by_cases hq:plV (rsH cs) cs.length a'=plV (rsH cs) cs.length b'
    . rw[decide_eq_true hq,if_pos rfl]
      intro e2 bU;have s8:=aj.upd0 (o:=.dK []) bU;refine⟨_,s8 _ _ a4,_,rfl,_,s8 _ _ a4,_,rfl,i9 _,i9 _,rfl,λz=>aD (Jz z),λe H8 he s9 h8=>⟨∅,λt2 bJ=>?_⟩⟩
      have aP:=aj.upd0 (o:=.tup [.ref e2,.ref e]) bJ;have T9:ce (upd H8 t2 (.tup [.ref e2,.ref e])) t2 e2 e [] (xc a' b'):=⟨ab,aP _ _ (s9 _ _ ab),aP _ _ h8,lj,jS aD,∅,sA _ _⟩
      have a6:=(s8.trans s9).trans aP;generalize upd H8 t2 (.tup [.ref e2,.ref e])=H9 at a6 T9 ⊢;have a5:=s7.trans a6;have bx:=hH.same (an.trans a5);refine⟨_,bx.hp,_,rfl,ya,t,D,a',b',bs,nl,rfl,a6 _ _ a4,by rw[<- bm];exact bx.wa.ht,a5 _ _ a9,by rw[ad,bm,a_],λi x y U hy=>?_,by rw[<- aR,a_] at b0;exact b0,λtw cn ci aX bM=>?_⟩
      . obtain⟨a1,a2⟩:=bd i x y.2 U (by rw[<- aR,e9,hy];rfl)
        exact⟨a5 _ _ a1,a2⟩
      have Z:=a5.trans aX;have tk:=hA.tokV (b7 _ b3) (b7 _ b2) aD;refine AX ((tb.same an).same Z) (T9.same aX) (hH.wa.same (an.trans Z)) aR (λx U=>bF (ca x U) λa xs e=>Z _ _ (an _ _ e)) bM tk (Z _ _ (s4 _ _ h3)) (bZ.keep λa xs e=>Z _ _ (s4 _ _ e)) bP (Au bV hH.wa.ok tk.ok) λb bN bG hb=>⟨b,rfl,?_⟩
      have bk:ldV cs Ws (i9 a',i9 b')=b:=sY ⟨λz=>⟨br.mpr hq,hb.mp z⟩,λz=>hb.mpr z.2⟩
      have Y:=a6.trans (aX.trans bG);cases b with
      | true =>
        have ar:=Y _ _ ax;rw[if_pos rfl];refine⟨⟨_,ar⟩,_,ar,?_,?_,?_,λx U=>gv ar _ _ (Y _ _ (aw x U)),(s7.trans Y).putN a8⟩
        . rw[a_]
          have bI:=congrArg u8 g2;rw[a_] at bI;have cf:=iS bp;exact au (le_trans (t_ _ _) (le_trans (Jv _ _) ()))
        . rw[ab,lN (t:=λx=>ldV cs Ws x.2) hy bk,ii];rfl
        . rw[ai bY];exact Y _ _ aZ
      | false=>rw[if_neg ∅];exact bB bk bN Y
    . rw[decide_eq_false hq,if_neg ∅]
      exact bB (sY ⟨λz=>(by cases z),λz=>absurd (br.mp z.1) hq⟩) H7 (aj.refl _)
  . rintro σ H7 ⟨v5,v6,rfl,ax,aZ,aw,s7⟩
    ctx_has v
    rw[a_,k9] at ax;exact k fo H7 (an.free a8) (an.trans s7) λls bQ=>by
      rw[bQ.one aV];exact⟨_,ax,by rw[<- g2,filter_map];rfl,λx U=>aw x (u7.mp U).1⟩
def HH:Sp:=λvs H Q _=>∃(d l:Addr),vs=[.ref d]/\aD H d l/\bJ H/\∀p c t cs us Ws ws ns H',HA H' p c t cs us Ws ws ns->Q (.ref p) H'
structure lH (H':Hp) (d l a pa ra:Addr) (ws:List Str) (ns:List Int) (kvs:List (Key × V)):Prop where
 D:aD H' d l
 tb:bJ H'
 ha:H' a*>(ws.map V.str)
 hp:H' pa*>(ns.map V.int)
 hr:H' ra<*kvs
 na:a≠d/\a≠l
 np:pa≠d/\pa≠l
 nr:ra≠d/\ra≠l
 ro:lT H' kvs ws ns
 kl:kvs.length<=40
theorem lH.but {H H2:Hp} {d l a pa ra:Addr} {ws:List Str} {ns:List Int} {kvs:List (Key × V)} (h:lH H d l a pa ra ws ns kvs) (D:aD H2 d l) (B:But d l H H2):lH H2 d l a pa ra ws ns kvs :=
 ⟨D,h.tb.but h.D B,B _ _ h.na.1 h.na.2 h.ha,B _ _ h.np.1 h.np.2 h.hp,B _ _ h.nr.1 h.nr.2 h.hr,h.na,h.np,h.nr,h.ro.keep λb xs e=>B.tup h.D e,h.kl⟩
theorem lH.same {H H2:Hp} {d l a pa ra:Addr} {ws:List Str} {ns:List Int} {kvs:List (Key × V)} (h:lH H d l a pa ra ws ns kvs) (s:aj H H2):lH H2 d l a pa ra ws ns kvs:=h.but (h.D.same s) ((But.refl H).same s)
theorem lH.put {H:Hp} {d l a pa ra r:Addr} {c:Str} {rs:List Int} {ws:List Str} {ns:List Int} {kvs:List (Key × V)} (h:lH H d l a pa ra ws ns kvs) (hc:c∈ws) (hr:H r>>(rs.map V.int)) (Y:dZ ns rs) (hl:kvs.length<=39):lH (upd H ra (.dK (bj kvs (e_ c) (.ref r)))) d l a pa ra ws ns (bj kvs (e_ c) (.ref r)):=by
 have k:=sO (o:=.dK (bj kvs (e_ c) (.ref r))) h.hr;have U : ∀{x:Addr} {ys:List V},H x*>ys->x≠ra:=λe=>bA e h.hr (by intro z;cases z)
 refine⟨h.D.put h.nr.1 h.nr.2,λt Z=>?_,by rw[ai (U h.ha)];exact h.ha,by rw[ai (U h.hp)];exact h.hp,ab,h.na,h.np,h.nr,(h.ro.put hc hr Y).keep k,le_trans (bT _ _ _) ()⟩
 have e:=h.tb t Z;rw[ai (bA e h.hr (by intro z;cases z))]
 exact e
theorem jO (T:Txt w K mg base) (L:FnL K mg "_law_wide_hall" cO ["_law_deal_here"]) (Fa : @Dz0 P w K mg base) (Fs : @Dz2 P w K mg base) (Fv : @Dz3 P w K mg base) (Fb : @Dz5 P w K mg base):Fn P w K mg base "_law_wide_hall" 4 ["_law_deal_here"] (HH):=by
 ctx_has z jU <;> obtain⟨d,l,rfl,D,tb,k⟩:=h
 .rfl
 refine⟨_,(af (aB 1 (ah Fs (aa (pvM 0) (aa (aO bq ae (ah Fa (aa (pvM 0) (aa ae ac)))) ac))))
  (af (aB 2 (ah Fv (aa (pvM 0) ac)))
  (af (aB 3 cj)
  (bO (bc (dg (K:=K) rfl (pvM 1)) (az 4) (ag (fH hu (pvM 3) (pvM 4) (aG aM T.b_tuple (aa (pvM 2) ac)) rfl)))
  (bO (aJ (ay aP (ah Fa (aa (pvM 0) (aa ae ac))) ae) (ag (fH hu (pvM 3) (ak dE (pvM 1) (ah Fa (aa (pvM 0) (aa (aF aZ T.b_len (aa (pvM 1) ac)) ac)))) (aG aM T.b_tuple (aa (bI A1 (pvM 2) cb (bP (aO bq ae (ah Fa (aa (pvM 0) (aa ae ac)))))) ac)) rfl)) aA)
  (af (aB 5 (ba (aa (aI (aa aw (aa (ah Fb (aa (pvM 0) (aa (pvM 1) (aa (aO gx (aF aZ T.b_len (aa (pvM 1) ac)) ae) ac)))) ac))) (aa (aI (aa aw (aa (aI (aa (ak dE (pvM 2) ae) ac)) (aa (ah Fb (aa (pvM 0) (aa (pvM 1) (aa ae ac)))) (aa ae (aa ae ac)))))) ac))))
  (ag (aC (aI (aa (aG aM T.b_tuple (aa (aW (N:=["_law_name","_law_rooms_here"]) (nt:=1) (js:=[3]) (aE ["_law_deal_here","_law_names_here","_law_pool_here","_law_rooms_here","_law_name","_law_wishes"] (am cO).names) (dg (K:=K) rfl (pvM 1)) (az 0) aL aU (aI (aa (pvM 0) (aa (dY hu (pvM 1) (pvM 0)) ac)))) ac)) (aa (aG aM T.b_tuple (aa (bI A1 (pvM 5) cb (bP (aO bq ae (ah Fa (aa (pvM 0) (aa ae ac)))))) ac)) ac))))))))))),?_⟩
 ctx_has v jT
 refine aR D ∅ ∅ λx1 H1 ck cn D1 B1=>?_
 refine⟨_,rfl,d,l,_,rfl,D1,(),(),λa ws H2 fa ok bZ h2 D2 B2=>?_⟩
 have n1:=D1.ne fa;refine⟨d,l,rfl,D2,λpa ns H3 b4 aD aX cm b8 D3 B3=>?_⟩
 have n2:=D2.ne b4;have h3:=B3 a _ n1.1 n1.2 h2;have bm:ws.length<=12/\6<=ws.length:=()
 ctx_has v
 intro ra bg;have bD:=D3.ne bg;have s4:=aj.upd0 (o:=.dK []) bg;have W4:lH (upd H3 ra (.dK [])) d l a pa ra ws ns []:=⟨D3.same s4,((tb.but D B1).but D1 (B2.trans B3)).same s4,s4 _ _ h3,s4 _ _ b8,ab,n1,n2,bD,(λx U=>by cases U),∅⟩
 have bH:dZ ns ns:=⟨(λe=>by rw[e] at aD;cases aD),(),aX,λv hv=>hv⟩
 generalize upd H3 ra (.dK [])=H4 at W4 ⊢;refine⟨λσ H'=>∃kvs v4,σ=[-d,-a,-pa,-ra,v4,none]/\lH H' d l a pa ra ws ns kvs/\(∀c∈ws,(e_ c:Key)∈kvs.map (·.1))/\kvs.length<=12,?_,?_⟩
 .refine⟨_,W4.ha,?_⟩
  refine bK bz (λi σ H'=>∃kvs v4,σ=[-d,-a,-pa,-ra,v4,none]/\lH H' d l a pa ra ws ns kvs/\(∀c∈ws.take i,(e_ c:Key)∈kvs.map (·.1))/\kvs.length<=i) ⟨[],_,rfl,W4,by simp,j5 _⟩ (λi σ H' bt=>by obtain⟨_,_,_,h,_⟩:=bt;exact(.of h.ha)) ?_ ?_
  .rintro i x σ H5 hi U ⟨kvs,v4,rfl,W5,hk5,hl5⟩
   obtain⟨c,Y,rfl⟩ : ∃c,ws[i]? = some c/\V.str c=x:=by
    rw[e9] at U;cases e:ws[i]? with
    | none=>rw[e] at U;cases U
    | some c=>rw[e] at U;exact⟨c,rfl,f_ U⟩
   have g5:=W5.hp;have bQ:=(i7.mp Y).1;ctx_has v g5
   intro l1 hl1;have W6:=W5.same (aj.upd0 (o:=.tup (ns.map V.int)) hl1);refine⟨_,W6.hr,au (),_,W6.put (i4 Y) ab bH (),λc' a5=>?_,le_trans (bT _ _ _) ()⟩
   rw[i8,Y] at a5;rcases j6.mp a5 with z | z
   .exact(el _).mpr (.inr (hk5 c' z))
   .exact(el _).mpr (.inl (by rw[show c'=c by simpa using z]))
  .rintro σ H5 ⟨kvs,v4,rfl,W5,hk5,hl5⟩
   rw[a_,k9] at hk5;rw[a_] at hl5;exact⟨kvs,_,rfl,W5,hk5,()⟩
 rintro σ H5 ⟨kvs,v4,rfl,W5,ax,b9⟩
 ctx_has v jT
 refine⟨λσ H'=>∃kvs,σ=[-d,-a,-pa,-ra,v4,none]/\lH H' d l a pa ra ws ns kvs/\∀c∈ws,(e_ c:Key)∈kvs.map (·.1),?_,?_⟩
 .refine aR W5.D ∅ ∅ λx6 H6 ci ca D6 B6=>⟨rfl,?_⟩
  have W6:=W5.but D6 B6;refine cN (λh=>?_) (λh=>⟨kvs,rfl,W6,ax⟩)
  refine aR W6.D ∅ ∅ λx7 H7 ce cc D7 B7=>⟨_,rfl,_,(W6.but D7 B7).hp,λq1 ai=>⟨_,ab,λq2 be=>?_⟩⟩
  have W7:=W6.but D7 B7;obtain⟨m,hm⟩ : ∃m:Nat,1+x7=(m:Int):=⟨(1+x7).toNat,()⟩
  rw[hm,iN] at be ⊢;have W8:=W7.same ((aj.upd0 (o:=.lst ((ns.take m).map V.int)) ai).upd_new (o:=.tup ((ns.take m).map V.int)) be);have g8:upd (upd H7 q1 (.lst ((ns.take m).map V.int))) q2 (.tup ((ns.take m).map V.int)) q2>>((ns.take m).map V.int):=ab
  generalize upd (upd H7 q1 (.lst ((ns.take m).map V.int))) q2 (.tup ((ns.take m).map V.int))=H8 at W8 g8 ⊢;refine⟨_,W8.ha,aR W8.D (by rw[a_];omega) (by rw[a_];omega) λj H9 j0 j1 D9 B9=>?_⟩
  have W9:=W8.but D9 B9;obtain⟨v2,b6,aS⟩:=iP (xs:=ws.map V.str) j0 j1;obtain⟨c,hc,rfl⟩:=e7.mp aS;refine⟨j,rfl,_,W9.ha,_,b6,e_ c,rfl,_,W9.hr,au (),_,rfl,W9.put (rs:=ns.take m) hc (B9.tup W8.D g8) ⟨λe=>?_,by rw[pk];omega,aX.sublist (JF _ _),λv hv=>v_ hv⟩ (),λc' a5=>(el _).mpr (.inr (ax c' a5))⟩
  have:=congrArg u8 e
  rw[pk,length_nil] at this;omega
 clear W5 ax b9 W4;rintro σ H5 ⟨kvs,rfl,W5,ax⟩
 have g5:=W5.ha;ctx_has v g5
 refine⟨d,l,a,_,ws.map V.str,rfl,W5.D,.inl g5,by rw[a_];omega,by rw[a_];omega,by rw[a_];omega,λs1 cg rest H6 bG bx bM br D6 B6=>⟨∅,λu1 bp=>?_⟩⟩
 obtain⟨c1,z1,rfl,bS⟩:=eZ V.str GE (λ_=>rfl) bx
 rw[a_,a_] at bM;have bN:okC ws c1:=wN bS () ok.nd bm.1
 have t7:=aj.upd0 (o:=.tup [.str (b_ "unlike"),.ref s1]) bp;have W7:=(W5.but D6 B6).same t7;have X7:WX (upd H6 u1 (.tup [.str (b_ "unlike"),.ref s1])) u1 (.pl (.un c1)):=⟨s1,ab,t7 _ _ br⟩
 generalize upd H6 u1 (.tup [.str (b_ "unlike"),.ref s1])=H7 at W7 X7 ⊢;obtain⟨n0,nr,bb⟩ : ∃n0 nr,ns=n0 :: nr:=by
  cases ns with
  | nil=>cases aD
  | cons x l=>exact⟨x,l,rfl⟩
 refine⟨_,W7.hp,_,by rw[bb];exact il _ _,∅,λq1 ai=>?_⟩
 have t8:=aj.upd0 (o:=.tup [.int n0]) ai;have W8:=W7.same t8;have X8:=bF X7 λa xs e=>t8 _ _ e
 have g8:upd H7 q1 (.tup [.int n0]) q1>>[.int n0]:=ab
 generalize upd H7 q1 (.tup [.int n0])=H8 at W8 X8 g8 ⊢;refine⟨d,l,a,5,ws.map V.str,rfl,W8.D,.inl W8.ha,∅,by rw[a_];omega,by rw[a_];omega,λs2 bW bA H9 b5 a8 bi bh D9 B9=>⟨∅,λu2 aT=>⟨∅,λla a0=>?_⟩⟩⟩
 obtain⟨c2,z2,rfl,b3⟩:=eZ V.str GE (λ_=>rfl) a8
 rw[a_] at bi;have bR:okC ws c2:=wN b3 () ok.nd bm.1
 have a9:=aj.upd0 (o:=.tup [.str (b_ "many"),.ref q1,.ref s2,.int 1,.int 3]) aT;have ar:=a9.upd_new (o:=.lst [.ref u1,.ref u2]) a0;have ao:=(W8.but D9 B9).same ar;have bd:=bF X8 λa xs e=>ar _ _ (B9.tup W8.D e)
 have bn:WX (upd (upd H9 u2 (.tup [.str (b_ "many"),.ref q1,.ref s2,.int 1,.int 3])) la (.lst [.ref u1,.ref u2])) u2 (.pl (.mn [n0] c2 1 3)):=⟨q1,s2,(aj.upd0 a0) _ _ ab,ar _ _ (B9.tup W8.D g8),ar _ _ bh⟩
 have bu:=(D9.same a9).ne a0;have a7:upd (upd H9 u2 (.tup [.str (b_ "many"),.ref q1,.ref s2,.int 1,.int 3])) la (.lst [.ref u1,.ref u2]) la*>([(u1,Wx.pl (.un c1)),(u2,Wx.pl (.mn [n0] c2 1 3))].map λx=>V.ref x.1):=ab
 generalize upd (upd H9 u2 (.tup [.str (b_ "many"),.ref q1,.ref s2,.int 1,.int 3])) la (.lst [.ref u1,.ref u2])=bo at ao bd bn a7 ⊢;clear W8 W7 W5 X8 X7 g8 ar a9 t8 t7 a0 aT ai bp bh br bG b5 D9 B9 D6 B6 bx a8 g5;refine⟨_,ao.ha,λDl bj=>?_⟩
 refine bL bz (λi xs H'=>∃cs:List (Addr × Str × Addr × List Int),xs=(cs.map λx=>V.ref x.1)/\cs.map (·.2.1)=ws.take i/\(∀x∈cs,H' x.1>>[.str x.2.1,.ref x.2.2.1]/\H' x.2.2.1>>(x.2.2.2.map V.int)/\dZ ns x.2.2.2)/\aj bo H'/\H' Dl*>xs) ⟨[],rfl,rfl,(λx U=>by cases U),aj.upd0 bj,ab⟩ (λi xs H' bv=>by obtain⟨_,_,_,_,s,_⟩:=bv;exact(.of (s _ _ ao.ha))) ?_ ?_
 .rintro i x xs H15 hi U ⟨cs,rfl,Z,an,s15,ap⟩
  obtain⟨c,Y,rfl⟩ : ∃c,ws[i]? = some c/\V.str c=x:=by
   rw[e9] at U;cases e:ws[i]? with
   | none=>rw[e] at U;cases U
   | some c=>rw[e] at U;exact⟨c,rfl,f_ U⟩
  have bX:cs.length<=i:=by
   have:=congrArg u8 Z
   rw[a_,pk] at this;omega
  have bQ:i < ws.length:=(i7.mp Y).1
  obtain⟨rb,rr,b1,bC,b2⟩:=sZ ao.ro ax (i4 Y);have aV:=s15 _ _ ao.hr;have bf:=s15 _ _ bC;ctx_has v aV b1
  refine⟨∅,λq hq=>?_⟩
  have hk:=cz (o:=.lst ((cs.map λx=>V.ref x.1)++[V.ref q])) (aj.upd0 (o:=.tup [.str c,.ref rb]) hq _ _ ap)
  have kk : ∀a xs,H15 a>>xs->upd (upd H15 q (.tup [.str c,.ref rb])) Dl (.lst ((cs.map λx=>V.ref x.1)++[V.ref q])) a>>xs:=λa xs e=>hk _ _ (aj.upd0 hq _ _ e)
  refine⟨aj.upd0 hq _ _ ap,by rw[a_];exact au (),cs++[(q,c,rb,rr)],by simp,by rw[ii,Z,i8,Y];rfl,λx U=>?_,(s15.upd_new hq).putN bj,ab⟩
  rcases j6.mp U with z | z
  .obtain⟨a1,a2,a3⟩:=an x z
   exact⟨kk _ _ a1,kk _ _ a2,a3⟩
  .rw[g7.mp z]
   exact⟨hk _ _ ab,kk _ _ bf,b2⟩
 rintro xs b7 ⟨cs,rfl,Z,an,aN,bJ⟩
 rw[a_,k9] at Z;have bV:cs.length=ws.length:=by rw[<- Z,a_]
 refine⟨Dl,rfl,_,bJ,λpc bB=>?_⟩
 have a4:=aj.upd0 (o:=.tup (cs.map λx=>V.ref x.1)) bB
 have ad:=ao.same (aN.trans a4);refine aR ad.D ∅ ∅ λaY aH bU bY co av=>?_
 have aq : ∀a xs,bo a>>xs->aH a>>xs:=λa xs e=>av.tup ad.D (a4 _ _ (aN _ _ e))
 have b0:=av _ _ bu.1 bu.2 (a4 _ _ (aN _ _ a7));obtain⟨m,hm⟩ : ∃m:Nat,1+aY=(m:Int):=⟨(1+aY).toNat,()⟩
 obtain⟨bs,aK⟩ : ∃bs,bs=[(u1,Wx.pl (.un c1)),(u2,Wx.pl (.mn [n0] c2 1 3))]:=⟨_,rfl⟩;have bw : ∀x∈bs,WX aH x.1 x.2/\okX ws ns x.2:=λx U=>by
  rw[aK] at U;rcases i6.mp U with rfl | U
  .exact⟨bF bd aq,bN⟩
  .rw[g7.mp U]
   exact⟨bF bn aq,bR,by simp,λv hv=>by rw[g7.mp hv,bb];exact j_,by simp⟩
 have cf:bs.length=2:=by rw[aK];rfl
 rw[<- aK] at b0;refine⟨_,rfl,_,b0,λq1 ai=>⟨_,ab,λtw bk=>⟨∅,λpp aQ=>?_⟩⟩⟩
 rw[hm,iN] at bk aQ ⊢;have bE:=(aj.upd0 (o:=.lst ((bs.take m).map λx=>V.ref x.1)) ai).upd_new (o:=.tup ((bs.take m).map λx=>V.ref x.1)) bk
 have a6:=bE.upd_new (o:=.tup [.ref pc,.ref tw]) aQ;have ap : ∀b ys,b7 b>>ys->upd (upd (upd aH q1 (.lst ((bs.take m).map λx=>V.ref x.1))) tw (.tup ((bs.take m).map λx=>V.ref x.1))) pp (.tup [.ref pc,.ref tw]) b>>ys:=λb ys e=>a6 _ _ (av.tup ad.D (a4 _ _ e))
 refine k pp pc tw cs _ ((bs.take m).map (·.2)) ws ns _ ⟨⟨ab,a6 _ _ (av.tup ad.D ab),λx U=>⟨ap _ _ (an x U).1,ap _ _ (an x U).2.1⟩,by rw[Z];exact ok.nd,(),λx U=>le_trans (an x U).2.2.2.1 ∅,(aj.upd0 aQ) _ _ ab,⟨_,rfl,rfl,λx U=>bF (bw x (v_ U)).1 λb ys e=>a6 _ _ e⟩,λW hW=>?_,ok.nm,?_⟩,(ad.tb.but ad.D av).same a6,(),(),λx U=>(an x U).2.2,λx U=>?_⟩
 .obtain⟨y,hy,rfl⟩:=e7.mp hW
  exact(bw y (v_ hy)).2
 .rw[a_,pk];omega
 .rw[<- Z];exact o7 (f:=λx:Addr × Str × Addr × List Int=>x.2.1) U
theorem Hz (h1:H p>>[.ref c,.ref t]) (h2:H c>>[]) (U:H t>>[]):ij H p c t [] [] [] [] [] :=
 ⟨h1,h2,λx z=>(by cases z),by simp,∅,λx z=>(by cases z),U,⟨[],rfl,rfl,λx z=>(by cases z)⟩,λx z=>(by cases z),λx z=>(by cases z),∅⟩
def xZ (K:ge):Sp:=λvs H Q _=>∃(a:Addr) (ns:List Int),vs=[.ref a]/\SqL K H a (ns.map V.int)/\ns.length<=63/\lY tabs H/\∀H',lY tabs H'->Q (.bl true) H'
structure xf (cs:List (Addr × Str × Addr × List Int)) (i:Nat) (vs:List Int):Prop where
 nd:vs.Nodup
 iff : ∀v,v∈vs↔∃r∈rsH (cs.take i),v∈r
theorem xf.len {vs:List Int} (h:xf cs i vs) (gr : ∀x∈cs,dZ ns x.2.2.2) (nl:ns.length<=20):vs.length<=20:=le_trans (wg h.nd (m:=ns) λv Y=>by
 obtain⟨r,Z,U⟩:=(h.iff v).mp Y;obtain⟨z,hz,rfl⟩:=e7.mp Z;exact(gr z (v_ hz)).2.2.2 v U) nl
theorem xf.more {vs:List Int} {y:Addr × Str × Addr × List Int} (h:xf cs i vs) (Z:cs[i]? = some y) (hn:y.2.2.2.Nodup):xf cs (i+1) (vs++y.2.2.2.filter λv=>decide (v∉vs)):=by
 refine⟨x_.mpr ⟨h.nd,hn.sublist List.filter_sublist,λa U b Y e=>?_⟩,λv=>?_⟩
 .have:=(u7.mp Y).2
  rw[<- e] at this;exact absurd U (by simpa using this)
 .rw[i8,Z,j6,h.iff v]
  simp only[rsH,Option.toList,ii,i_,KF,j6,g7,u7,decide_eq_true_eq]
  constructor
  .rintro(⟨r,hr,hv⟩ | ⟨hv,_⟩)
   .exact⟨r,.inl hr,hv⟩
   .exact⟨_,.inr rfl,hv⟩
  .rintro⟨r,hr | rfl,hv⟩
   .exact .inl ⟨r,hr,hv⟩
   .by_cases z:v∈vs
    .exact .inl ((h.iff v).mp z)
    .exact .inr ⟨hv,z⟩
theorem jP {q:Addr} {Q:VK} {E:XK} (U:PrK H p ks) (z:PrK H q ks) (kk : ∀x∈ks,KOk x.1/\KOk x.2) (k:Q (.bl true) H):Ao [.ref p,.ref q] H Q E:=⟨p,q,ks,ks,rfl,U,z,kk,kk,by rw[decide_eq_true rfl];exact k⟩
theorem PrK.ne {r:Addr} (h:PrK H p ks) (z:H r=none):p≠r:=by
 obtain⟨as,h1,_⟩:=h;exact ap h1 z
theorem PrK.put {r:Addr} (h:PrK H p ks) (U:H r*>ys) (ne:p≠r):PrK (upd H r o) p ks:=by
 obtain⟨as,h1,h2,z⟩:=h;exact⟨as,by rw[ai ne];exact h1,h2,λx Y=>gv U _ _ (z x Y)⟩
theorem HA.put {r:Addr} {us:List V} {Ws:List Wx} (h:HA H p c t cs us Ws ws ns) (U:H r*>ys):HA (upd H r o) p c t cs us Ws ws ns :=
 ⟨h.hh.keep (cz U),λt Y=>by
  have e:=h.tb t Y;rw[ai (bA e U (by intro z;cases z))]
  exact e,h.cl,h.nl,h.gr,h.cw⟩
theorem ha0 {z U Y:Addr} (tb:bJ H) (h1:H z=none) (h2:upd H z (.tup []) U=none) (Z:upd (upd H z (.tup [])) U (.tup []) Y=none):HA (upd (upd (upd H z (.tup [])) U (.tup [])) Y (.tup [.ref z,.ref U])) Y z U [] [] [] [] []/\aj H (upd (upd (upd H z (.tup [])) U (.tup [])) Y (.tup [.ref z,.ref U])):=by
 have s:=((aj.upd0 (o:=.tup []) h1).upd_new (o:=.tup []) h2).upd_new (o:=.tup [.ref z,.ref U]) Z;exact⟨⟨Hz ab (((aj.upd0 h2).upd_new Z) _ _ ab) ((aj.upd0 Z) _ _ ab),tb.same s,∅,∅,λx hx=>(by cases hx),λx hx=>(by cases hx)⟩,s⟩
theorem ne0 {r q:Addr} {Q:VK} (Y:PrK H r []) (U:H q=none) (k:Q (.bl false) (upd H q (.lst []))):CW K (.ref r) (.ref q) (upd H q (.lst [])) Q :=
 BK (Y.same (aj.upd0 U)) ⟨[],ab,rfl,λx z=>(by cases z)⟩ (λx z=>(by cases z)) (λx z=>(by cases z)) k
theorem uF {pc:Addr} {f:Key × Key->Bool} {Q:VK} (hP:PrK H0 pc ks) (hl:ks.length<=400)
  (hs : ∀(y:Addr × Key × Key) H' (Q':Bool->Hp->Prop),y.2∈ks->H' y.1>>[kV y.2.1,kV y.2.2]->aj H0 H'->(∀U,aj H' U->Q' (f y.2) U)->tc [some (.ref y.1),v1] H' Q')
  (hd : ∀D H',H0 D=none->aj H0 H'->PrK H' D (ks.filter f)->Q (.ref D) H') (D:Addr) (hD:H0 D=none):kB (Itl K pc) [none,v1] (fh 0) tc (fe 0) Q H0 D:=by
 obtain⟨as,h1,rfl,h3⟩:=hP;rw[a_] at hl;refine bL bz (λi ys H'=>ys=(((as.take i).filter λx=>f x.2).map λx=>V.ref x.1)/\aj H0 H'/\H' D*>ys) ⟨rfl,aj.upd0 hD,ab⟩ (λi ys H' Z=>by obtain⟨_,s,_⟩:=Z;exact(.of (s _ _ h1))) ?_ ?_
 .rintro i x ys H' hi z ⟨rfl,s,hD'⟩
  obtain⟨y,hy,rfl⟩ : ∃y,as[i]? = some y/\V.ref y.1=x:=by
   rw[e9] at z;cases e:as[i]? with
   | none=>rw[e] at z;cases z
   | some y=>rw[e] at z;exact⟨y,rfl,f_ z⟩
  have Y:=i4 hy;refine hs y H' _ (o7 (f:=Prod.snd) Y) (s _ _ (h3 y Y)) s λU s'=>?_
  cases e:f y.2 with
  | true =>
   rw[if_pos rfl];refine⟨s' _ _ hD',?_,?_,(s.trans s').putN hD,ab⟩
   .rw[a_]
    exact au (le_trans (t_ _ _) (le_trans (Jv _ _) ()))
   .rw[lN (t:=λx=>f x.2) hy e,ii];rfl
  | false =>
   rw[if_neg ∅]
   exact⟨by rw[rK (t:=λx=>f x.2) hy e],s.trans s',s' _ _ hD'⟩
 .rintro ys H' ⟨rfl,s,hD'⟩
  rw[a_,k9] at hD';exact hd D H' hD s ⟨_,hD',by rw[filter_map];rfl,λx z=>s _ _ (h3 x (u7.mp z).1)⟩
section
variable {us:List V} {Ws:List Wx} {Q:VK} {E:XK}
theorem IR (A:HA H p c t cs us Ws ws ns) {x y:Str} (U:ce H tn na va (xc x y) []) (Z:x∈ws) (hy:y∈ws) (z:x≠y) (k : ∀H',aj H H'->Q (.bl (ldC cs Ws (e_ x,e_ y))) H'):GJ [.ref p,.ref tn] H Q E :=
 ⟨p,c,t,tn,na,va,_,_,cs,us,Ws,ws,ws,ns,rfl,A.tb,A.hh,U,A.tokC Z hy z,λb H' s Y=>by have:=k H' s;rw[wI Y] at this;exact this⟩
theorem I0 (A:HA H p c t cs us Ws ws ns) {x y:Int} (U:ce H tn na va [] (xc x y)) (Z:x∈ns) (hy:y∈ns) (z:x≠y) (k : ∀H',aj H H'->Q (.bl (ldV cs Ws (i9 x,i9 y))) H'):GJ [.ref p,.ref tn] H Q E :=
 ⟨p,c,t,tn,na,va,_,_,cs,us,Ws,ws,ws,ns,rfl,A.tb,A.hh,U,A.tokV Z hy z,λb H' s Y=>by have:=k H' s;rw[sY Y] at this;exact this⟩
end
abbrev nz4:List Str:=["_law_script","_law_deal_here","_law_hall","_law_values","_law_name","_law_room","_law_cells","_law_some_here","_law_found","_law_other"]
theorem EM (T:Txt w K mg base) (L:Fun K "law" "law" jo f fd) (cq : @Dz1 P w K mg base) (Fa : @Dz0 P w K mg base) (FH : @HC P w K mg base) (FD:Fn P w K mg base "_law_wide_hall" 4 ["_law_deal_here"] (HH)) (FM:Fn P w K mg base "_law_pairs" 1 ["_law_things"] (Aj)) (Fw : @HM P w K mg base) (FR:Fn P w K mg base "_law_swap" 1 ["_law_pair"] (DG)) (Fz:Fn P w K mg base "cell_swaps" 9 ["hall"] (Ed)) (Fu:Fn P w K mg base "value_swaps" 9 ["hall"] (DV)) (Fq:Fn P w K mg base "_law_listed" 1 ["_law_found","_law_due"] (Ao)):gU P w K mg base CX0 30 f fd ["_law_script"] (xZ K):=by
 have nd:=BG.nd;refine L.ok BG (λvs H Q E h=>?_) (λcdv A outer s H vs Q E hr h=>?_) <;> obtain⟨a,c8,rfl,hS,bD,b2,k⟩:=h
 .rfl
 have hu:=vH hr;refine⟨_,(af (aB 1 (ah cq (aa (pvM 0) (aa ae ac))))
  (af (aB 2 (ak dE (ah FH (aa (pvM 1) (aa ae ac))) ae))
  (bO (aJ (ay aP (ah Fa (aa (pvM 1) (aa ae ac))) ae) (ag (aB 2 (ah FD (aa (pvM 1) ac)))) aA)
  (af (aB 3 (ba ac))
  (bO (bc (bR K (ak ao (pvM 2) ae)) (cH (n:=2) rfl (aV (az 4) (aV (az 5) cG))) (ag (aB 3 (aO sP (pvM 3) (aW (N:=["_law_value","_law_values"]) (nt:=1) (js:=[3]) (aE nz4 (am jo).names) (jz (K:=K) rfl (pvM 5)) (az 0) aL (fG (ay zx (pvM 0) (pvM 1))) (pvM 0))))))
  (af (aB 6 (ah FM (aa (aW (N:=["_law_name","_law_room"]) (nt:=2) (js:=[]) (aE nz4 (am jo).names) (bR K (ak ao (pvM 2) ae)) (cH (n:=2) rfl (aV (az 0) (aV (az 1) cG))) dj aU (pvM 0)) ac)))
  (af (bW 6 (N:=["_law_pair","_law_hall"]) (nt:=1) (js:=[2]) (aE nz4 (am jo).names) (dg (K:=K) rfl (pvM 6)) (az 0) aL (fG (dv (ah Fw (aa (pvM 1) (aa (aI (aa (ah FR (aa (pvM 0) ac)) (aa cj ac))) ac))))) (pvM 0))
  (af (bW 7 (N:=["_law_pair","_law_hall"]) (nt:=1) (js:=[2]) (aE nz4 (am jo).names) (qV K (ah FM (aa (aF me T.b_sorted (aa (pvM 3) ac)) ac))) (az 0) aL (fG (dv (ah Fw (aa (pvM 1) (aa (aI (aa cj (aa (ah FR (aa (pvM 0) ac)) ac))) ac))))) (pvM 0))
  (af (aB 8 (ah Fz (aa (pvM 2) ac)))
  (af (aB 9 (ah Fu (aa (pvM 2) ac)))
  (af (aJ (PW.pt (kM (lB (dv (ah Fq (aa (pvM 8) (aa (pvM 6) ac))))) (gY (lB (dv (ah Fq (aa (pvM 9) (aa (pvM 7) ac)))))))) (ag (aC ga)) aA)
  (af (bu (cA l5 l7 bo (pvM 8) (aa gO ac)))
  (af (bu (cA l5 l7 bo (pvM 9) (aa gO ac)))
  (af (aJ (PW.pt (kM (ay (jr (iw hr)) (ah Fz (aa (aI (aa (aI ac) (aa (aI ac) ac))) ac)) (ba ac)) (gY (ay (jr (iw hr)) (ah Fu (aa (aI (aa (aI ac) (aa (aI ac) ac))) ac)) (ba ac))))) (ag (aC ga)) aA)
  (ag (aC (EX (ah Fq (aa (ah Fz (aa (pvM 2) ac)) (aa (pvM 6) ac))) (BU (ah Fq (aa (ah Fu (aa (pvM 2) ac)) (aa (pvM 7) ac))))))))))))))))))))),?_⟩
 refine ax λR Y=>?_
 ctx_has v
 refine⟨a,c8,1,rfl,hS,bD,∅,∅,λd l H1 hd hl D1 b9=>?_⟩
 have bm:=(show bJ H from b2).same b9
 subst Y;refine ax λR Y=>?_
 ctx_has v
 refine⟨d,l,_,rfl,D1,∅,∅,bm,λr p c t tn na va pa cs us Ws ws ns mS mI H2 b3 hH T0 c3 c5 cD cn cf cE bZ a9 an b0 ck ok D2 B2=>?_⟩
 have A2:HA H2 p c t cs us Ws ws ns:=⟨hH,bm.but D1 B2,by have:=an.length_eq;rw[a_] at this;omega,(),b0,λx U=>an.mem_iff.mp (o7 (f:=λx:Addr × Str × Addr × List Int=>x.2.1) U)⟩
 clear hS b9 B2 D1 bm b2 hd hl hH T0 c3 c5 cD cn cf cE bZ a9 an b0 ck ok;ctx_has v b3
 subst Y;refine oA (λσ H'=>∃p c t cs us Ws ws ns,σ=[-a,-d,-p,none,none,none,none,none,none,none]/\HA H' p c t cs us Ws ws ns) ?_ ?_
 .ctx_has v
  refine aR D2 ∅ ∅ λx3 H3 cK cV D3 B3=>?_
  ctx_has v
  have A3:HA H3 p c t cs us Ws ws ns:=⟨A2.hh.keep λb xs e=>B3.tup D2 e,A2.tb.but D2 B3,A2.cl,A2.nl,A2.gr,A2.cw⟩
  refine cN (λh=>⟨d,l,rfl,D3,A3.tb,λp c t cs us Ws ws ns H4 A4=>⟨p,rfl,c,t,cs,us,Ws,ws,ns,A4⟩⟩) (λh=>⟨c,t,cs,us,Ws,ws,ns,A3⟩)
 clear A2 D2 b3;rintro σ H4 ⟨p,c,t,cs,us,Ws,ws,ns,rfl,A4⟩
 refine ax λR Y=>?_
 ctx_has v
 refine⟨∅,λv0 bI=>?_⟩
 have A5:=A4.same (aj.upd0 (o:=.lst []) bI);have h5:upd H4 v0 (.lst []) v0*>(([]:List Int).map V.int):=ab
 generalize upd H4 v0 (.lst [])=H5 at A5 h5 ⊢;clear A4 bI;subst Y;refine oA (λσ H'=>∃v4 v5 vl vs,σ=[-a,-d,-p,-vl,v4,v5,none,none,none,none]/\HA H' p c t cs us Ws ws ns/\H' vl*>(vs.map V.int)/\xf cs cs.length vs) ?_ ?_
 .have e1:=A5.hh.hp
  ctx_has v e1
  refine⟨_,A5.hh.hc,?_⟩
  refine bK aT (λi σ H'=>∃v4 v5 vl vs,σ=[-a,-d,-p,-vl,v4,v5,none,none,none,none]/\aj H5 H'/\H' vl*>(vs.map V.int)/\xf cs i vs) ⟨_,_,v0,[],rfl,aj.refl _,h5,by simp,λv=>by simp⟩ (λi σ H' bF=>by obtain⟨_,_,_,_,_,s,_⟩:=bF;exact(.of (s _ _ A5.hh.hc))) ?_ ?_
  .rintro i x σ H6 hi U ⟨v4,v5,vl,vs,rfl,s6,h6,V6⟩
   obtain⟨y,hy,rfl⟩ : ∃y,cs[i]? = some y/\V.ref y.1=x:=by
    rw[e9] at U;cases e:cs[i]? with
    | none=>rw[e] at U;cases U
    | some nm=>rw[e] at U;exact⟨nm,rfl,f_ U⟩
   have a8:=i4 hy;have g3:=s6 _ _ (A5.hh.ca y a8).1;have g4:=s6 _ _ (A5.hh.ca y a8).2;have cP:=(A5.gr y a8).2.1;have bh:=V6.len A5.gr A5.nl;ctx_has v g3 g4
   intro D hD;refine bL aT (λj ys H'=>ys=((y.2.2.2.take j).filter λv=>decide (v∉vs)).map V.int/\aj H6 H'/\H' D*>ys) ⟨rfl,aj.upd0 hD,ab⟩ (λj ys H' bC=>by obtain⟨_,s,_⟩:=bC;exact(.of (s _ _ g4))) ?_ ?_
   .rintro j x ys H7 hj U ⟨rfl,s7,h7D⟩
    obtain⟨u,hu,rfl⟩ : ∃u,y.2.2.2[j]? = some u/\V.int u=x:=by
     rw[e9] at U;cases e:y.2.2.2[j]? with
     | none=>rw[e] at U;cases U
     | some u=>rw[e] at U;exact⟨u,rfl,f_ U⟩
    have h7:=s7 _ _ h6;ctx_has v h7
    refine⟨rfl,zI _,?_⟩
    rw[AC]
    by_cases aq:u∈vs
    .rw[decide_eq_true aq,if_neg ∅]
     exact⟨by rw[rK (t:=λv=>decide (v∉vs)) hu (by simpa using aq)],s7,h7D⟩
    .rw[decide_eq_false aq,if_pos rfl]
     refine⟨h7D,?_,by rw[lN (t:=λv=>decide (v∉vs)) hu (by simpa using aq),ii];rfl,s7.putN hD,ab⟩
     rw[a_];exact au (le_trans (t_ _ _) (le_trans (Jv _ _) ()))
   .rintro ys H7 ⟨rfl,s7,h7D⟩
    rw[a_,k9] at h7D;have cR:(y.2.2.2.filter λv=>decide (v∉vs)).length<=y.2.2.2.length:=t_ _ _
    exact⟨D,rfl,_,s7 _ _ h6,_,h7D,ot (au (by rw[a_,a_];omega)),λq hq=>⟨(s6.trans s7).upd_new hq,_,by rw[ab,<- ii],V6.more hy ((A5.gr y a8).2.2.1.imp λz=>by omega)⟩⟩
  .rintro σ H6 ⟨v4,v5,vl,vs,rfl,s6,h6,V6⟩
   rw[a_] at V6;exact⟨_,_,_,rfl,A5.same s6,_,h6,V6⟩
 clear A5 h5;rintro σ H5 ⟨v4,v5,vl,vs,rfl,A5,h5,V5⟩
 refine ax λR Y=>?_
 have e1:=A5.hh.hp;ctx_has v e1
 have cr:=A5.cl;refine⟨_,A5.hh.hc,λD hD=>?_⟩
 refine bL aT (λi xs H'=>xs=((cs.take i).map (·.2.1)).map V.str/\aj H5 H'/\H' D*>xs) ⟨rfl,aj.upd0 hD,ab⟩ (λi xs H' bP=>by obtain⟨_,s,_⟩:=bP;exact(.of (s _ _ A5.hh.hc))) ?_ ?_
 .rintro i x xs H6 hi U ⟨rfl,s6,h6⟩
  obtain⟨y,hy,rfl⟩ : ∃y,cs[i]? = some y/\V.ref y.1=x:=by
   rw[e9] at U;cases e:cs[i]? with
   | none=>rw[e] at U;cases U
   | some nm=>rw[e] at U;exact⟨nm,rfl,f_ U⟩
  have g3:=s6 _ _ (A5.hh.ca y (i4 hy)).1;ctx_has v g3 h6
  refine⟨by simp;exact au (),?_,s6.putN hD,ab⟩
  rw[i8,hy];simp
 rintro xs H6 ⟨rfl,s6,h6⟩
 rw[a_,k9,show(cs.map (·.2.1)).map V.str=(nmK cs).map kV by unfold nmK;rw[fx,fx];rfl] at h6
 have br:(nmK cs).length<=20:=by unfold nmK;rw[a_];exact cr
 refine⟨D,_,rfl,h6,by rw[a_];exact br,λpc H7 cg s7 hP=>?_⟩
 have P7:=hP.keys;have A7:=A5.same (s6.trans s7);have h7:=s7 _ _ (s6 _ _ h5);clear hP h6 s6 s7 cg hD e1 A5 h5;subst Y;refine ax λR Y=>?_
 obtain⟨as,g1,g2,g3⟩:=id P7;ctx_has v g1
 refine uF P7 (iS br) (f:=ldC cs Ws) (λy H8 Q' hy h8 s8 kQ=>?_) (λc1 H8 cB s8 P8=>?_)
 .obtain⟨ya,ka,kb⟩:=y
  obtain⟨ma,mb⟩:=gG hy;obtain⟨za,a1,ea⟩:=e7.mp ma;obtain⟨zb,aw,eb⟩:=e7.mp mb;have ea:ka=e_ za.2.1:=ea.symm
  have eb:kb=e_ zb.2.1:=eb.symm
  subst ea eb;have ar:za.2.1≠zb.2.1:=λz=>pM A7.nk hy (by rw[z])
  ctx_has v
  refine⟨ya,_,_,rfl,h8,λz=>ar (I_ z),λe1 H9 bX s9 h9 e2 aQ=>⟨∅,λt2 aD=>?_⟩⟩
  have a0:=(aj.upd0 (o:=.dK []) aQ).upd_new (o:=.tup [.ref e1,.ref e2]) aD;have cI:ce (upd (upd H9 e2 (.dK [])) t2 (.tup [.ref e1,.ref e2])) t2 e1 e2 (xc za.2.1 zb.2.1) []:=⟨ab,a0 _ _ h9,(aj.upd0 aD) _ _ ab,jS ar,lj,sA _ _,∅⟩
  have bb:=s9.trans a0;exact IR (A7.same (s8.trans bb)) cI (A7.cw za a1) (A7.cw zb aw) ar λbi ap=>⟨_,rfl,kQ bi (bb.trans ap)⟩
 have A8:=A7.same s8;have h8:=s8 _ _ h7;clear g1 g2 g3 as P7 A7 h7 s8 cB;subst Y;refine ax λR Y=>?_
 ctx_has v h8
 have bh:=V5.len A8.gr A8.nl;refine⟨_,rfl,(),λq ms hq aZ a9=>?_⟩
 have aH:xm cs ms:=⟨(a9.and (aZ.nodup_iff.mpr V5.nd)).imp λz=>by have:=z.1;have:=z.2;omega,λv=>aZ.mem_iff.trans (by rw[V5.iff v,k9])⟩
 have s9:=aj.upd0 (o:=.lst (ms.map V.int)) hq;have h9:upd H8 q (.lst (ms.map V.int)) q*>((inK ms).map kV):=by rw[ab];unfold inK;rw[fx];rfl
 generalize upd H8 q (.lst (ms.map V.int))=H9 at s9 h9 ⊢;have bj:(inK ms).length<=20:=by unfold inK;rw[a_,aZ.length_eq];exact bh
 have aq : ∀v∈ms,v∈ns:=λv hv=>by
  obtain⟨r,hr,bS⟩:=(aH.2 v).mp hv;obtain⟨z,hz,rfl⟩:=e7.mp hr;exact(A8.gr z hz).2.2.2 v bS
 refine⟨q,_,rfl,h9,by rw[a_];exact bj,λpv cU cu a0 hP=>?_⟩
 have bt:=hP.keys;have bf:=A8.same (s9.trans a0);have bH:=P8.same (s9.trans a0);obtain⟨as,g1,g2,g3⟩:=id bt;refine⟨pv,rfl,_,g1,uF bt (iS bj) (f:=ldV cs Ws) (λy bi Q' hy cv ap kQ=>?_) (λc2 bi cm ap aM=>?_)⟩
 .obtain⟨ya,ka,kb⟩:=y
  obtain⟨ma,mb⟩:=gG hy;obtain⟨za,a1,ea⟩:=e7.mp ma;obtain⟨zb,aw,eb⟩:=e7.mp mb;have ea:ka=i9 za:=ea.symm
  have eb:kb=i9 zb:=eb.symm
  subst ea eb;have ar:za≠zb:=λz=>pM (xL aH.1) hy (by rw[z])
  ctx_has v
  refine λe2 aQ=>⟨ya,_,_,rfl,(aj.upd0 aQ) _ _ cv,λz=>ar (Jz z),λe1 bG bX Z bY=>⟨∅,λt2 aD=>?_⟩⟩
  have ad:=aj.upd0 (o:=.tup [.ref e2,.ref e1]) aD;have cz:ce (upd bG t2 (.tup [.ref e2,.ref e1])) t2 e2 e1 [] (xc za zb):=⟨ab,ad _ _ (Z _ _ ab),ad _ _ bY,lj,jS ar,∅,sA _ _⟩
  have a7:=((aj.upd0 (o:=.dK []) aQ).trans Z).trans ad;exact I0 (bf.same (ap.trans a7)) cz (aq za a1) (aq zb aw) ar λbd bV=>⟨_,rfl,kQ bd (a7.trans bV)⟩
 have aY:=bf.same ap;have aS:=bH.same ap;clear g1 g2 g3 as bt bf bH ap cm hP cu a0 h9 s9 hq A8 P8 h8 aZ a9 bh V5;subst Y;refine ax λR Y=>?_
 ctx_has v
 refine⟨p,c,t,cs,us,Ws,ws,ns,rfl,aY,λr1 bG bn Z bs=>?_⟩
 subst Y;refine ax λR Y=>?_
 ctx_has v
 refine⟨p,c,t,cs,us,Ws,ws,ns,rfl,aY.same Z,λr2 b7 aX ad aK=>?_⟩
 have bM:=aK ms aH;have a6:=aY.same (Z.trans ad);have bg:=aS.same (Z.trans ad);have bz:=aM.same (Z.trans ad);have aK:=bs.same ad;have bQ:=aS.ne bn;have cC:=aM.ne bn;have c4:=(aS.same Z).ne aX;have bT:=(aM.same Z).ne aX;have c9:=bs.ne aX;have kC : ∀x∈(prK (nmK cs)).filter (ldC cs Ws),KOk x.1/\KOk x.2:=λx U=>by
  obtain⟨ma,mb⟩:=gG (u7.mp U).1;obtain⟨za,a1,ea⟩:=e7.mp ma;obtain⟨zb,aw,eb⟩:=e7.mp mb;rw[<- ea,<- eb];exact⟨a6.hh.wa.nm _ (a6.cw za a1),a6.hh.wa.nm _ (a6.cw zb aw)⟩
 have kD : ∀x∈(prK (inK ms)).filter (ldV cs Ws),KOk x.1/\KOk x.2:=λx U=>by
  obtain⟨ma,mb⟩:=gG (u7.mp U).1;obtain⟨za,a1,ea⟩:=e7.mp ma;obtain⟨zb,aw,eb⟩:=e7.mp mb;rw[<- ea,<- eb];exact⟨ow,ow⟩
 have lC:((prK (nmK cs)).filter (ldC cs Ws)).length<=400:=le_trans (t_ _ _) (iS br)
 have lD:((prK (inK ms)).filter (ldV cs Ws)).length<=400:=le_trans (t_ _ _) (iS bj)
 clear Z ad bn aX bs aY aS aM;subst Y;refine ax λR Y=>?_
 ctx_has v
 refine jP aK bg kC ⟨true,rfl,?_⟩
 rw[if_neg ∅]
 refine jP bM bz kD ⟨true,rfl,?_⟩
 rw[if_neg ∅]
 subst Y;refine ax λR Y=>?_
 obtain⟨av,h1,h2,h3⟩:=aK;obtain⟨a2,h4,h5,h6⟩:=bM;have l1:av.length<=400:=by rw[<- h2,a_] at lC;exact lC
 have l2:a2.length<=400:=by rw[<- h5,a_] at lD;exact lD
 ctx_has v h1
 refine⟨by rw[a_];exact au (),?_⟩
 have bv:=a6.put (o:=.lst ((av.map λx=>V.ref x.1)++[V.non])) h1
 have bq:=bg.put (o:=.lst ((av.map λx=>V.ref x.1)++[V.non])) h1 bQ
 have bw:=bz.put (o:=.lst ((av.map λx=>V.ref x.1)++[V.non])) h1 cC
 have a3:upd b7 r1 (.lst ((av.map λx=>V.ref x.1)++[V.non])) r2*>(a2.map λx=>V.ref x.1):=by rw[ai c9.symm];exact h4
 generalize upd b7 r1 (.lst ((av.map λx=>V.ref x.1)++[V.non]))=bd at bv bq bw a3 ⊢
 clear a6 bg bz h1 h4 h3 h6;subst Y;refine ax λR Y=>?_
 ctx_has v a3
 refine⟨by rw[a_];exact au (),?_⟩
 have a4:=bv.put (o:=.lst ((a2.map λx=>V.ref x.1)++[V.non])) a3
 have bN:=bq.put (o:=.lst ((a2.map λx=>V.ref x.1)++[V.non])) a3 c4
 have b6:=bw.put (o:=.lst ((a2.map λx=>V.ref x.1)++[V.non])) a3 bT
 generalize upd bd r2 (.lst ((a2.map λx=>V.ref x.1)++[V.non]))=cF at a4 bN b6 ⊢
 clear bv bq bw a3;subst Y;refine ax λR Y=>?_
 ctx_has v
 refine⟨∅,λu1 cx=>⟨∅,λu2 bU=>⟨∅,λu3 ci=>?_⟩⟩⟩
 obtain⟨be,bk⟩:=ha0 a4.tb cx bU ci;generalize upd (upd (upd cF u1 (.tup [])) u2 (.tup [])) u3 (.tup [.ref u1,.ref u2])=cL at be bk ⊢;refine⟨u3,u1,u2,[],[],[],[],[],rfl,be,λr3 co cX bB bE=>⟨∅,λq1 b1=>ne0 bE b1 ⟨false,rfl,?_⟩⟩⟩
 rw[if_neg ∅]
 have aG:=(bk.trans bB).upd_new (o:=.lst []) b1;generalize upd co q1 (.lst [])=c7 at aG ⊢;refine⟨∅,λu4 cb=>⟨∅,λu5 c6=>⟨∅,λu6 cp=>?_⟩⟩⟩
 obtain⟨bp,bx⟩:=ha0 (a4.tb.same aG) cb c6 cp;generalize upd (upd (upd c7 u4 (.tup [])) u5 (.tup [])) u6 (.tup [.ref u4,.ref u5])=cT at bp bx ⊢;refine⟨u6,u4,u5,[],[],[],[],[],rfl,bp,λr4 c0 cW b5 bA=>⟨∅,λq2 b4=>ne0 (bA [] ⟨.nil,λv=>by simp⟩) b4 ⟨false,rfl,?_⟩⟩⟩
 rw[if_neg ∅]
 have a5:=(aG.trans (bx.trans b5)).upd_new (o:=.lst []) b4;generalize upd c0 q2 (.lst [])=cM at a5 ⊢;clear aG bx b5 bk bB bE bA be bp;subst Y;ctx_has v
 refine⟨p,c,t,cs,us,Ws,ws,ns,rfl,a4.same a5,λr5 cO cS aN cy=>jP cy (bN.same (a5.trans aN)) kC ?_⟩
 ctx_has v
 refine⟨p,c,t,cs,us,Ws,ws,ns,rfl,a4.same (a5.trans aN),λr6 cJ cQ b8 cc=>jP (cc ms aH) (b6.same ((a5.trans aN).trans b8)) kD ?_⟩
 exact k cJ (a4.tb.same ((a5.trans aN).trans b8))
open L2.Irr
theorem ft6
  (F0:Fn P w K mg base "turned_unlike" 3 ["turning","wish"] (bN "unlike")) (m0:mg "turned_unlike" = some (.ref f0)) (Y:nsIn K a "unlike" = some (-f0)) (F1:Fn P w K mg base "turned_many" 3 ["turning","wish"] (bN "many")) (m1:mg "turned_many" = some (.ref f1)) (n1:nsIn K a "many" = some (-f1)) (F2:Fn P w K mg base "turned_sum" 3 ["turning","wish"] (bN "sum")) (m2:mg "turned_sum" = some (.ref f2)) (n2:nsIn K a "sum" = some (-f2)) (F3:Fn P w K mg base "turned_table" 3 ["turning","wish"] (bN "table")) (m3:mg "turned_table" = some (.ref f3)) (n3:nsIn K a "table" = some (-f3)) (F4:Fn P w K mg base "turned_way" 3 ["turning","wish"] (bN "way")) (m4:mg "turned_way" = some (.ref f4)) (U:nsIn K a "way" = some (-f4)) (Z:Fn P w K mg base "turned_behind" 3 ["turning","wish"] (bN "behind")) (m5:mg "turned_behind" = some (.ref f5)) (n5:nsIn K a "behind" = some (-f5)) :
  ∀y∈jI,FnT P w K mg base a y 4 ["turning","wish"] (bN y):=by
 intro y z;simp only[jI,i6,p_,or_false] at z;rcases z with rfl | rfl | rfl | rfl | rfl | rfl
 .exact dQ F0 m0 Y ∅ λ_ _ _ _ h=>h
 .exact dQ F1 m1 n1 ∅ λ_ _ _ _ h=>h
 .exact dQ F2 m2 n2 ∅ λ_ _ _ _ h=>h
 .exact dQ F3 m3 n3 ∅ λ_ _ _ _ h=>h
 .exact dQ F4 m4 U ∅ λ_ _ _ _ h=>h
 .exact dQ Z m5 n5 ∅ λ_ _ _ _ h=>h
theorem lV (h:x ≠ "same") : ∀vs H Q E,hZ x vs H Q E->bN x vs H Q E:=λvs H Q E q=>by
 unfold hZ at q
 rwa [if_neg h] at q
theorem ft7 {U:Addr}
  (F0:Fn P w K mg base "turned_unlike" 3 ["turning","wish"] (bN "unlike")) (m0:mg "turned_unlike" = some (.ref f0)) (Z:nsIn K a "unlike" = some (-f0)) (F1:Fn P w K mg base "turned_many" 3 ["turning","wish"] (bN "many")) (m1:mg "turned_many" = some (.ref f1)) (n1:nsIn K a "many" = some (-f1)) (F2:Fn P w K mg base "turned_sum" 3 ["turning","wish"] (bN "sum")) (m2:mg "turned_sum" = some (.ref f2)) (n2:nsIn K a "sum" = some (-f2)) (F3:Fn P w K mg base "turned_table" 3 ["turning","wish"] (bN "table")) (m3:mg "turned_table" = some (.ref f3)) (n3:nsIn K a "table" = some (-f3)) (F4:Fn P w K mg base "turned_way" 3 ["turning","wish"] (bN "way")) (m4:mg "turned_way" = some (.ref f4)) (Y:nsIn K a "way" = some (-f4)) (F5:Fn P w K mg base "turned_behind" 3 ["turning","wish"] (bN "behind")) (m5:mg "turned_behind" = some (.ref f5)) (n5:nsIn K a "behind" = some (-f5))
  (F6:Fn P w K mg base "turned_same" 6 ["turning","wish"] gV) (m6:mg "turned_same" = some (.ref U)) (n6:nsIn K a "same" = some (-U)) :
  ∀y∈tR,FnT P w K mg base a y 6 ["turning","wish"] (hZ y):=by
 intro y z;simp only[tR,jI,i6,p_,or_false] at z;rcases z with rfl | rfl | rfl | rfl | rfl | rfl | rfl
 .exact dQ F6 m6 n6 ∅ λvs H Q E q=>by
   unfold hZ at q
   rwa [if_pos rfl] at q
 .exact dQ F0 m0 Z ∅ (lV (show ¬ (b_ "unlike" = b_ "same") by decide+kernel))
 .exact dQ F1 m1 n1 ∅ (lV (show ¬ (b_ "many" = b_ "same") by decide+kernel))
 .exact dQ F2 m2 n2 ∅ (lV (show ¬ (b_ "sum" = b_ "same") by decide+kernel))
 .exact dQ F3 m3 n3 ∅ (lV (show ¬ (b_ "table" = b_ "same") by decide+kernel))
 .exact dQ F4 m4 Y ∅ (lV (show ¬ (b_ "way" = b_ "same") by decide+kernel))
 .exact dQ F5 m5 n5 ∅ (lV (show ¬ (b_ "behind" = b_ "same") by decide+kernel))
abbrev AT (K:ge) (x:Str) (f:Addr):Prop:=nsIn K o8 x=some (some (m8 f))
abbrev LK (K:ge) (f:Addr) (x:Str) (st:Stmt) (oc:Value) (od:Option Addr) (sl:Array (Option Value)) (kV U pm:Value) (z:Option Addr) (cd ct:Value):Prop:=K.lookup f=some ⟨oc,od,.func (fnOf x x (cZ st) (cq st) (am st) .none kV U pm z cd ct),sl⟩
abbrev CK (K:ge) (cd:Value) (x:Str):Prop:=codeIn K cd x=true
abbrev KK (K:ge) (f:Addr):Prop:=keepIn K (m8 f)=true
abbrev NB (K:ge) (x:Str):Prop:=nsIn K o8 x=some none
theorem BI {us:List α} (h:us.length=1) : ∃u0,us=[u0]:=by
 match us,h with
 | [u0],_=>exact⟨u0,rfl⟩
theorem Ig {us:List α} (h:us.length=2) : ∃u0 z,us=[u0,z]:=by
 match us,h with
 | [u0,z],_=>exact⟨u0,z,rfl⟩
theorem HJ {us:List α} (h:us.length=3) : ∃u0 U z,us=[u0,U,z]:=by
 match us,h with
 | [u0,U,z],_=>exact⟨u0,U,z,rfl⟩
theorem HY {us:List α} (h:us.length=4) : ∃u0 Y U z,us=[u0,Y,U,z]:=by
 match us,h with
 | [u0,Y,U,z],_=>exact⟨u0,Y,U,z,rfl⟩
theorem Hl {us:List α} (h:us.length=5) : ∃u0 Z U z Y,us=[u0,Z,U,z,Y]:=by
 match us,h with
 | [u0,Z,U,z,Y],_=>exact⟨u0,Z,U,z,Y,rfl⟩
local macro_rules | `(tactic| ctx_has b1) => `(tactic| exact λ_ _ _ _ _ _ us hl => by obtain ⟨u0, ee⟩ := BI hl; subst ee; rfl)
local macro_rules | `(tactic| ctx_has b2) => `(tactic| exact λ_ _ _ _ _ _ us hl => by obtain ⟨u0, u1, ee⟩ := Ig hl; subst ee; rfl)
local macro_rules | `(tactic| ctx_has b3) => `(tactic| exact λ_ _ _ _ _ _ us hl => by obtain ⟨u0, u1, u2, ee⟩ := HJ hl; subst ee; rfl)
local macro_rules | `(tactic| ctx_has b4) => `(tactic| exact λ_ _ _ _ _ _ us hl => by obtain ⟨u0, u1, u2, u3, ee⟩ := HY hl; subst ee; rfl)
local macro_rules | `(tactic| ctx_has b5) => `(tactic| exact λ_ _ _ _ _ _ us hl => by obtain ⟨u0, u1, u2, u3, u4, ee⟩ := Hl hl; subst ee; rfl)
local macro_rules | `(tactic| ctx_has bb) => `(tactic| first | ctx_has b1 | ctx_has b2 | ctx_has b3 | ctx_has b4 | ctx_has b5)
def DF (K:ge) (x:Str) (st:Stmt) (f:Addr):Prop:=∃(oc:Value) (od z:Option Addr) (sl:Array (Option Value)) (kV U pm cd ct:Value),AT K x f/\LK K f x st oc od sl kV U pm z cd ct/\CK K cd x/\KK K f
theorem dfI {z:Option Addr} {sl:Array (Option Value)} {kV U:Value} (a:nsIn K o8 x=some (some (m8 f))) (l:K.lookup f=some ⟨oc,od,.func (fnOf x x (cZ st) (cq st) (am st) .none kV U pm z cd ct),sl⟩) (c:codeIn K cd x=true) (k:keepIn K (m8 f)=true):DF K x st f:=⟨_,_,_,_,_,_,_,_,_,a,l,c,k⟩
theorem dfM (X:K.In h) (G:h.Ns o8 mg) (d:DF K x st f):mg x=some (.ref f):=by
 obtain⟨_,_,_,_,_,_,_,_,_,a,_⟩:=d;exact mg_of X G a
theorem dfL (X:K.In h) (G:h.Ns o8 mg) (d:DF K x st f) (U : ∀(kV doc pm:Value) (z:Option Addr) (cdv ct:Value) (us:List Value),us.length=ps.length->bindArgs (fnOf x x (cZ st) (cq st) (am st) .none kV doc pm z cdv ct) ⟨us,[]⟩=pure (ps.zip us):=by ctx_has bb):FnL K mg x st ps:=by
 obtain⟨_,_,_,_,_,_,_,_,_,a,l,c,k⟩:=d;exact Gf X G a l c k U
theorem EY {l:PySem.W.OpenLaw} (X:K.In h) (G:h.Ns o8 mg) (bF:mg "law" = some (.ref fa))
  {z:Addr} {ag:Array DictEntry} {ai:Nat}
  {a2 aA a9:Addr} {bk bc bf bd ap bj aN aW aC aI ao aT aO av au ax ar ay:Value} {aM aD bo bm aZ aw:Option Addr} {bb bg bi:Array (Option Value)}
  {f0 f1 f2 f3 f4 f5 f6 f7 f8 f9 cy bP b9 dt aU aX be aG aF aY cc ba c7 bB cg ck cL bC bW dk cY b0 cB bD bI c8 dl bV b1 cX bJ br ce bs ci cv cb bS cz cp cJ cT cR:Addr}
  (d0:DF K "_law_draw" ic f0)
  (d1:DF K "_law_deal" fD f1)
  (d2:DF K "_law_names" eN f2)
  (d3:DF K "_law_pool" iJ f3)
  (d4:DF K "_law_rooms" eP f4)
  (d5:DF K "_law_some" iA f5)
  (d6:DF K "_law_bounds" fX f6)
  (d7:DF K "_law_sum" fi f7)
  (d8:DF K "_law_rows" fz f8)
  (d9:DF K "_law_way" gK f9)
  (bG:DF K "_law_wish" eB cy)
  (cj:DF K "led" Bs bP)
  (cS:DF K "all_led" iZ b9)
  (ca:DF K "keeps_values" dF dt)
  (a6:DF K "turned_unlike" eE aU)
  (a4:DF K "turned_many" fP aX)
  (a5:DF K "turned_sum" eJ be)
  (a8:DF K "turned_table" dG aG)
  (a7:DF K "turned_way" eS aF)
  (a1:DF K "turned_behind" eG aY)
  (b4:DF K "turned_wish" cW cc)
  (aR:DF K "turned_same" fN ba)
  (bA:DF K "_law_leads" gN c7)
  (bE:DF K "_law_moved" eV bB)
  (bZ:DF K "_law_led_wish" bv cg)
  (c9:DF K "in_order" jG ck)
  (cK:DF K "_law_insert" fS cL)
  (dq:DF K "_law_by_key" dU bC)
  (cF:DF K "_law_rising" fI bW)
  (bz:AT K "plain_table" a2) (b2:LK K a2 "plain_table" bY bk aM bb bc bf bd aD ap bj) (c1:CK K ap "plain_table") (cr:KK K a2)
  (a0:ap = .ref 112) (aB:Kg K 112 110=true)
  (c6:AT K "plain_form" aA) (c3:LK K aA "plain_form" du aN bo bg aW aC aI bm ao aT) (bT:CK K ao "plain_form") (bU:KK K aA)
  (az:ao = .ref 119) (a3:Kg K 119 115=true)
  (cU:DF K "_law_plain" cu dk)
  (co:DF K "_law_mixed_up" bw cY)
  (dp:DF K "plain_forms" fO b0)
  (b7:DF K "leads_wishes_among" cI cB)
  (di:DF K "first_rooms" fQ bD)
  (dj:DF K "_law_leads_on" db bI)
  (dc:DF K "_law_round" gB c8)
  (df:DF K "_law_even_rooms" dA dl)
  (b5:DF K "_law_even_wishes" dh bV)
  (cC:DF K "_law_even_hall" cQ b1)
  (bt:DF K "exchange" jy cX)
  (bR:DF K "_law_swap" io bJ)
  (dm:DF K "pairs_of" gy br)
  (cN:DF K "_law_pairs" gz ce)
  (bK:DF K "plain_cells_of" cP bs)
  (c0:DF K "cells_of" jD ci)
  (c2:DF K "hangs_on_size" eD cv)
  (cV:DF K "values_in" dn cb)
  (cw:DF K "touched_by" cx bS)
  (b6:DF K "_law_listed" fU cz)
  (bu:DF K "cell_swaps" eK cp)
  (b8:DF K "places_of_values" de cJ)
  (bN:DF K "value_swaps" bX cT)
  (cf:DF K "_law_wide_hall" cO cR)
  (cM:AT K "law" a9) (bL:LK K a9 "law" jo aO aZ bi av au ax aw ar ay) (bx:CK K ar "law") (bQ:KK K a9)
  (z0:NB K "len")
  (z1:NB K "max")
  (z2:NB K "min")
  (z3:NB K "sum")
  (z4:NB K "list")
  (z5:NB K "reversed")
  (z6:NB K "range")
  (z7:NB K "isinstance")
  (z8:NB K "all")
  (z9:NB K "any")
  (b3:NB K "dict")
  (c4:NB K "tuple")
  (dr:NB K "set")
  (cE:NB K "int")
  (bM:NB K "sorted")
  (cD:NB K "bool")
  (c5:NB K "enumerate")
  (af:nsIn K o8 "TURNERS" = some (-z))
  (ak:K.lookup z=some ⟨.type "dict",none,.dict ag ai,#[]⟩)
  (ah:PySem.W.KeysLit w.params ag.toList)
  (U:nsIn K z "unlike" = some (-aU))
  (aa:nsIn K z "many" = some (-aX))
  (ad:nsIn K z "sum" = some (-be))
  (Z:nsIn K z "table" = some (-aG))
  (ac:nsIn K z "way" = some (-aF))
  (Y:nsIn K z "behind" = some (-aY))
  (ae:nsIn K z "same" = some (-ba)) :
  ∃fd:FuncData,(∀(s:Shared) (v:Value),BindsTo s fd ⟨[v],[]⟩ [("_law_script",v)])/\∀base:Heap,K.In base->base.Ns o8 mg->jm mg base->gU l.prog w K mg base CX0 30 fa fd ["_law_script"] (xZ K):=by
 have e:=bF.symm.trans (mg_of X G cM);cases e;refine⟨fnOf "law" "law" (cZ jo) (cq jo) (am jo) .none av au ax aw ar ay,λs v=>.of_eq rfl,λbase KB _ bO=>?_⟩
 have an:=A9 (mg_of X G af);subst an;have T:Txt w K mg base:=⟨y2 X G z0,y2 X G z1,y2 X G z2,y2 X G z3,y2 X G z4,y2 X G z5,y2 X G z6,y2 X G z7,y2 X G z8,y2 X G z9,y2 X G b3,y2 X G c4,y2 X G dr,y2 X G cE,y2 X G bM,y2 X G cD,y2 X G c5,bO,mg_of X G af,⟨_,_,ak,ah⟩⟩
 have aq:FnL K mg "_law_wish" eB ["_law_deal_here","_law_names_here","_law_rooms_here","_law_pool_here","_law_sorts"]:=dfL X G bG
 have aH:FnL K mg "turned_wish" cW ["turning","wish"]:=dfL X G b4
 have aE:FnL K mg "_law_led_wish" bv ["_law_turning","_law_wish_here"]:=dfL X G bZ
 have da:vf K mg "plain_table" bY ["wish"] 110:=yk X G bz b2 c1 cr a0 aB λ_ _ _ _ _ _ us hl=>by obtain⟨u0,ee⟩:=BI hl;subst ee;rfl
 have aP:vf K mg "plain_form" du ["wish"] 115:=yk X G c6 c3 bT bU az a3 λ_ _ _ _ _ _ us hl=>by obtain⟨u0,ee⟩:=BI hl;subst ee;rfl
 have bn:FnL K mg "_law_plain" cu ["_law_wish_here"]:=dfL X G cU
 have bh:FnL K mg "_law_mixed_up" bw ["_law_deal_here","_law_wish_here"]:=dfL X G co
 have bp:FnL K mg "values_in" dn ["wish"]:=dfL X G cV
 have aS:FnL K mg "touched_by" cx ["pair","wishes","names_in"]:=dfL X G cw
 have Fa:=tS (P:=l.prog) (w:=w) (base:=base) T (dfL X G d0);have cA:=tO (P:=l.prog) (w:=w) (base:=base) T (dfL X G d1);have Fs:=qv (P:=l.prog) (w:=w) (base:=base) T (dfL X G d2) Fa;have Fv:=tV (P:=l.prog) (w:=w) (base:=base) T (dfL X G d3) Fa;have cH:=qc (P:=l.prog) (w:=w) (base:=base) T (dfL X G d4) Fa;have Fb:=sg (P:=l.prog) (w:=w) (base:=base) T (dfL X G d5) Fa;have FS:=oW (P:=l.prog) (w:=w) (base:=base) T (dfL X G d6) Fa;have FO:=uy (P:=l.prog) (w:=w) (base:=base) T (dfL X G d7) Fa FS;have FE:=rY (P:=l.prog) (w:=w) (base:=base) T (dfL X G d8) Fa;have FP:=vK (P:=l.prog) (w:=w) (base:=base) T (dfL X G d9) Fa;have bH:Fn l.prog w K mg base "_law_wish" 15 ["_law_deal_here","_law_names_here","_law_rooms_here","_law_pool_here","_law_sorts"] (iK false):=(gM (n:=0) (h:=false) T aq Fa Fb FO FE FP (by unfold kJ;rw[if_neg i5];exact vC aq)).mono ∅
 have cG:Fn l.prog w K mg base "_law_wish" 15 ["_law_deal_here","_law_names_here","_law_rooms_here","_law_pool_here","_law_sorts"] (iK true):=(gM (n:=4) (h:=true) T aq Fa Fb FO FE FP (by unfold kJ;rw[if_pos rfl];exact gM (n:=0) (h:=false) T aq Fa Fb FO FE FP (by unfold kJ;rw[if_neg i5];exact vC aq))).mono ∅
 have FQ:=Gj (P:=l.prog) (w:=w) (base:=base) T (dfL X G cj);have Fd:=wu (P:=l.prog) (w:=w) (base:=base) T (dfL X G cS) FQ;have Fo:=mK (P:=l.prog) (w:=w) (base:=base) T (dfL X G ca);have aL:=lO (P:=l.prog) (w:=w) (base:=base) T (dfL X G a6) Fd;have bq:=oO (P:=l.prog) (w:=w) (base:=base) T (dfL X G a4) Fd;have aK:=qj (P:=l.prog) (w:=w) (base:=base) T (dfL X G a5) Fo FQ;have aV:=mz (P:=l.prog) (w:=w) (base:=base) T (dfL X G a8) Fd;have aQ:=qz (P:=l.prog) (w:=w) (base:=base) T (dfL X G a7) Fd FQ;have aJ:=lb (P:=l.prog) (w:=w) (base:=base) T (dfL X G a1) Fo Fd;have cm:Fn l.prog w K mg base "turned_wish" 5 ["turning","wish"] (jW):=mF (ft6 aL (dfM X G a6) U bq (dfM X G a4) aa aK (dfM X G a5) ad aV (dfM X G a8) Z aQ (dfM X G a7) ac aJ (dfM X G a1) Y) T aH
 have dd:=no (P:=l.prog) (w:=w) (base:=base) T (dfL X G aR) cm FQ Fd;have dg:Fn l.prog w K mg base "turned_wish" 7 ["turning","wish"] (sB):=mB (ft7 aL (dfM X G a6) U bq (dfM X G a4) aa aK (dfM X G a5) ad aV (dfM X G a8) Z aQ (dfM X G a7) ac aJ (dfM X G a1) Y dd (dfM X G aR) ae) T aH
 have FN:=qF (P:=l.prog) (w:=w) (base:=base) T (dfL X G bA) Fb;have Fc:=qE (P:=l.prog) (w:=w) (base:=base) T (dfL X G bE);have Fi:=kL (P:=l.prog) (w:=w) (base:=base) T aE Fc;have Fk:=kF (P:=l.prog) (w:=w) (base:=base) T aE Fi Fc;have Ff:=ua (P:=l.prog) (w:=w) (base:=base) T (dfL X G c9);have FU:=nK (P:=l.prog) (w:=w) (base:=base) T (dfL X G cK);have Fl:=oX (P:=l.prog) (w:=w) (base:=base) T (dfL X G dq) FU;have Fe:=nQ (P:=l.prog) (w:=w) (base:=base) T (dfL X G cF) Fl;have FT:=oP (P:=l.prog) (w:=w) (base:=base) T da Ff;have Fm:=pJ (P:=l.prog) (w:=w) (base:=base) T aP Ff FT;have Fp:=oC (P:=l.prog) (w:=w) (base:=base) T aP Fm Ff;have Fh:=nT (P:=l.prog) (w:=w) (base:=base) T bn Fe Fl;have Fj:=pR (P:=l.prog) (w:=w) (base:=base) T bn Fh Fe;have Ft:=kr (P:=l.prog) (w:=w) (base:=base) T bh Fb;have FG:=kq (P:=l.prog) (w:=w) (base:=base) T bh Ft Fb;have Fr:=mX (P:=l.prog) (w:=w) (base:=base) T (dfL X G dp) Fm Fp;have Fg:=gP (P:=l.prog) (w:=w) (base:=base) T (dfL X G b7) dg Fm Fp;have FX:=oz (P:=l.prog) (w:=w) (base:=base) T (dfL X G di);have Fw:=lm (P:=l.prog) (w:=w) (base:=base) T (dfL X G dj) Fc Fh Fj Fi Fk;have FK:=qA (P:=l.prog) (w:=w) (base:=base) T (dfL X G dc);have FA:=jJ (P:=l.prog) (w:=w) (base:=base) T (dfL X G df) cH FK Fc;have Fx:=jb (P:=l.prog) (w:=w) (base:=base) T (dfL X G b5) Fa cG Fh Fj Fi Fk Ft FG;have FH:=jL (P:=l.prog) (w:=w) (base:=base) T (dfL X G cC) Fa Fs Fv FN Fb FA Fx bH;have FC:=vB (P:=l.prog) (w:=w) (base:=base) T (dfL X G bt);have FR:=sI (P:=l.prog) (w:=w) (base:=base) T (dfL X G bR);have FB:=uh (P:=l.prog) (w:=w) (base:=base) T (dfL X G dm);have FM:=qw (P:=l.prog) (w:=w) (base:=base) T (dfL X G cN);have FF:=kK (P:=l.prog) (w:=w) (base:=base) T (dfL X G bK);have cn:=ur (P:=l.prog) (w:=w) (base:=base) T (dfL X G c0) FF;have FI:=lA (P:=l.prog) (w:=w) (base:=base) T (dfL X G c2);have FL:=qH (P:=l.prog) (w:=w) (base:=base) T bp;have FZ:=qo (P:=l.prog) (w:=w) (base:=base) T bp FL;have FY:=px (P:=l.prog) (w:=w) (base:=base) T aS;have FW:=pQ (P:=l.prog) (w:=w) (base:=base) T aS;have Fq:=ph (P:=l.prog) (w:=w) (base:=base) T (dfL X G b6);have Fz:=qK (P:=l.prog) (w:=w) (base:=base) T (dfL X G bu) FX Fr cn FB FC FY Fg;have Fy:=jh (P:=l.prog) (w:=w) (base:=base) T (dfL X G b8);have Fu:=pA (P:=l.prog) (w:=w) (base:=base) T (dfL X G bN) Fy Fr FI FL FZ FB FC FW Fg;have FD:=jO (P:=l.prog) (w:=w) (base:=base) T (dfL X G cf) Fa Fs Fv Fb;exact EM T (oF bL bx bQ) cA Fa FH FD FM Fw FR Fz Fu Fq
theorem Io {l:PySem.W.OpenLaw} {d:DefRec} {K:Params->ge} (hn:l.most=some 63) (Y:d.params.defaults=[])
  (hY : ∀(w:World) (h:Heap),YP w h->(K w.params).In h) (U : ∀(w:World) (h:Heap),YP w h->∀t∈tabs,h.get? t.2.1=some (tabObj #[]))
  (hC : ∀w:World,∀t∈tabs,Kg (K w.params) t.1 t.2.1=true) (Z : ∀w:World,∀t∈tabs,(K w.params).lookup t.2.1=none)
  (F : ∀(w:World) (mg:Str->Option Value) (fa:Addr) (h:Heap),(K w.params).In h->h.Ns o8 mg->mg d.name=some (.ref fa) ->
   ∃fd:FuncData,(∀(s:Shared) (u:Value),BindsTo s fd ⟨[u],[]⟩ [("_law_script",u)])/\∀base:Heap,(K w.params).In base->base.Ns o8 mg->jm mg base->gU l.prog w (K w.params) mg base CX0 30 fa fd ["_law_script"] (xZ (K w.params))) :
  PySem.W.WalkO q loose XP YP l.row.toRowW d [] (λf vs=>PySem.call f vs) :=
 L2.Bm (n:=63) (k:=30) (x := "_law_script") (tabs:=tabs) (sp:=λw=>xZ (K w.params)) hn ∅ Y ⟨rfl,∅,∅⟩ hY U hC Z ∅ F (λ_ _ a ns hl U hS=>⟨a,ns,rfl,hS,hl,U,λ_ z=>⟨rfl,z⟩⟩)
end Lw
variable {B W:Lw.Wx} {Ws:List Lw.Wx}
open PySem PySem.W PyProof.Rows
local macro_rules | `(tactic| ctx_has kj $ids*) => `(tactic| ($[case $ids:ident => (change _ = _; k_is)];*))
local macro_rules | `(tactic| ctx_has kk) => `(tactic| (refine' Lw.dfI ?a ?l ?c ?k; (case a => k_is); (case l => k_is); (case c => k_is); (case k => k_is)))
local macro_rules | `(tactic| ctx_has kd $ids*) => `(tactic| ($[case $ids:ident => ctx_has kk];*))
local macro_rules | `(tactic| o_head $H) => do
  let hw:=Lean.mkIdent `hw
  let hc:=Lean.mkIdent `hc
  `(tactic| (refine holds_open (q:=Lw.fF) (hY:=Hook.of $H) (hYk:=Hook.keeps $H) (YP:=Hook.says $H) (XP:=XL Lw.fF List.nil) (Xt:=Lw.hX)
                Lw.hl (λs e=>xl_of s (Bool.and_eq_true_iff.mp e).1) XL.keeps (by rfl) (by rfl) (by rfl)
                (λs e=>recFacts_of (Bool.and_eq_true_iff.mp e).2) (by rfl) (by assumption) (by decide+kernel)
                ⟨rfl,rfl,rfl,rfl,rfl,by decide+kernel⟩ ?$hw ?$hc))
set_option maxHeartbeats 0 in
theorem PySem.Challenge.cw_seekhall_k54_swaps_holds : PySem.Challenge.rw_seekhall_k54_swaps.Holds := by
  w_on;refine PySem.W.holds_law Lw.wsd (λsaid=>?_);o_head (kmHook Lw.DQ.heap_1 Lw.hAs Lw.hAe [110,115]);(case hw=>w_witness2)
  k_fill
  refine Lw.Io (l:=PySem.Challenge.rw_seekhall_k54_swaps) rfl rfl (λw h Y=>PySem.W.km_in_of Y) ?hT ?hC ?hKt ?F
  (case hT=>(intro w h Y t ht;have z:=PySem.W.km_tabs_of Y;simp only[Lw.tabs,i6,p_,or_false] at ht;rcases ht with rfl | rfl <;> exact z _ ∅))
  (case hC=>(intro w t ht;simp only[Lw.tabs,i6,p_,or_false] at ht;rcases ht with rfl | rfl <;> kernel_rfl))
  (case hKt=>(intro w t ht;simp only[Lw.tabs,i6,p_,or_false] at ht;rcases ht with rfl | rfl <;> kernel_rfl))
  case F =>
    intro w mg fa h KX G hmg
    refine' Lw.EY KX G hmg ?d0 ?d1 ?d2 ?d3 ?d4 ?d5 ?d6 ?d7 ?d8 ?d9 ?d10 ?d11 ?d12 ?d13 ?d14 ?d15 ?d16 ?d17 ?d18 ?d19 ?d20 ?d21 ?d22 ?d23 ?d24 ?d25 ?d26 ?d27 ?d28 ?a29 ?l29 ?c29 ?k29 ?hcd29 ?htb29 ?a30 ?l30 ?c30 ?k30 ?hcd30 ?htb30 ?d31 ?d32 ?d33 ?d34 ?d35 ?d36 ?d37 ?d38 ?d39 ?d40 ?d41 ?d42 ?d43 ?d44 ?d45 ?d46 ?d47 ?d48 ?d49 ?d50 ?d51 ?d52 ?d53 ?d54 ?a55 ?l55 ?c55 ?k55 ?z0 ?z1 ?z2 ?z3 ?z4 ?z5 ?z6 ?z7 ?z8 ?z9 ?z10 ?z11 ?z12 ?z13 ?z14 ?z15 ?z16 ?aC_TURNERS ?tl_TURNERS ?tk_TURNERS ?tx_TURNERS_unlike ?tx_TURNERS_many ?tx_TURNERS_sum ?tx_TURNERS_table ?tx_TURNERS_way ?tx_TURNERS_behind ?tx_TURNERS_same
    ctx_has kd d0 d1 d2 d3 d4 d5 d6 d7 d8 d9 d10 d11 d12 d13 d14 d15 d16 d17 d18 d19 d20 d21 d22 d23 d24 d25 d26 d27 d28
    ctx_has kj a29 l29 c29 k29
    (case hcd29=>rfl)
    (case htb29=>kernel_rfl)
    ctx_has kj a30 l30 c30 k30
    (case hcd30=>rfl)
    (case htb30=>kernel_rfl)
    ctx_has kd d31 d32 d33 d34 d35 d36 d37 d38 d39 d40 d41 d42 d43 d44 d45 d46 d47 d48 d49 d50 d51 d52 d53 d54
    ctx_has kj a55 l55 c55 k55 z0 z1 z2 z3 z4 z5 z6 z7 z8 z9 z10 z11 z12 z13 z14 z15 z16 aC_TURNERS tl_TURNERS
    (case tk_TURNERS=>k_keys)
    ctx_has kj tx_TURNERS_unlike tx_TURNERS_many tx_TURNERS_sum tx_TURNERS_table tx_TURNERS_way tx_TURNERS_behind tx_TURNERS_same
