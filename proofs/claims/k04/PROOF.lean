import PyProof.Rows.All
import KE.KIntText
import KE.KIsAll
import KE.RegKIsAll
import KE.KItem
import KE.KRevIter
import OpenK.KLine
import Wide.Once
import Wide.Tac
import Open.Line
import Wide.Line
import KE.KPathFold
import PyProof.Rows.RegCtxHas
import PyProof.Walk
import KE.KEqDict
import KE.KDictOf
import KE.KNestM
import KE.KNest
import PyProof.ExcClass2
import PyProof.ExcInit
import PyProof.RulesTry
import PyProof.RulesAs
import PyProof.InstStoreFacts
import PyProof.ExcArgsOwn
import PyProof.ExcAttrAll.ValueError
import PyProof.ExcBaseAll.ValueError
import KE.KTryMore
import Lean
import PySem.Challenge.RW_seekhall_k04_sound_halls
set_option Elab.async false
set_option linter.all false
set_option compiler.extract_closed false
set_option maxRecDepth 100000
set_option maxHeartbeats 4000000
namespace Ob
variable {C p q r s t u v w x y z k l m : Prop} {A B D E F G H I J : Sort _}
theorem e1 {P : A → Prop} (h : ∃ a, P a) (f : ∀ a, P a → C) : C := h.elim f
theorem e2 {P : A → B → Prop} (h : ∃ a b, P a b) (f : ∀ a b, P a b → C) : C := h.elim fun a h => e1 h (f a)
theorem e3 {P : A → B → D → Prop} (h : ∃ a b d, P a b d) (f : ∀ a b d, P a b d → C) : C := h.elim fun a h => e2 h (f a)
theorem e4 {P : A → B → D → E → Prop} (h : ∃ a b d e, P a b d e) (f : ∀ a b d e, P a b d e → C) : C := h.elim fun a h => e3 h (f a)
theorem e5 {P : A → B → D → E → F → Prop} (h : ∃ a b d e f, P a b d e f) (f : ∀ a b d e f, P a b d e f → C) : C := h.elim fun a h => e4 h (f a)
theorem e6 {P : A → B → D → E → F → G → Prop} (h : ∃ a b d e f g, P a b d e f g) (f : ∀ a b d e f g, P a b d e f g → C) : C := h.elim fun a h => e5 h (f a)
theorem e7 {P : A → B → D → E → F → G → H → Prop} (h : ∃ a b d e f g h, P a b d e f g h) (f : ∀ a b d e f g h, P a b d e f g h → C) : C := h.elim fun a h => e6 h (f a)
theorem e8 {P : A → B → D → E → F → G → H → I → Prop} (h : ∃ a b d e f g h i, P a b d e f g h i) (f : ∀ a b d e f g h i, P a b d e f g h i → C) : C := h.elim fun a h => e7 h (f a)
theorem e9 {P : A → B → D → E → F → G → H → I → J → Prop} (h : ∃ a b d e f g h i j, P a b d e f g h i j) (f : ∀ a b d e f g h i j, P a b d e f g h i j → C) : C := h.elim fun a h => e8 h (f a)
theorem i2 {P : A → B → Prop} (a : A) (b : B) (o : P a b) : ∃ a b, P a b := ⟨a, b, o⟩
theorem i3 {P : A → B → D → Prop} (a : A) (b : B) (d : D) (o : P a b d) : ∃ a b d, P a b d := ⟨a, b, d, o⟩
theorem i4 {P : A → B → D → E → Prop} (a : A) (b : B) (d : D) (e : E) (o : P a b d e) : ∃ a b d e, P a b d e := ⟨a, b, d, e, o⟩
theorem i5 {P : A → B → D → E → F → Prop} (a : A) (b : B) (d : D) (e : E) (f : F) (o : P a b d e f) : ∃ a b d e f, P a b d e f := ⟨a, b, d, e, f, o⟩
theorem i6 {P : A → B → D → E → F → G → Prop} (a : A) (b : B) (d : D) (e : E) (f : F) (g : G) (o : P a b d e f g) : ∃ a b d e f g, P a b d e f g := ⟨a, b, d, e, f, g, o⟩
theorem i7 {P : A → B → D → E → F → G → H → Prop} (a : A) (b : B) (d : D) (e : E) (f : F) (g : G) (h : H) (o : P a b d e f g h) : ∃ a b d e f g h, P a b d e f g h := ⟨a, b, d, e, f, g, h, o⟩
theorem i8 {P : A → B → D → E → F → G → H → I → Prop} (a : A) (b : B) (d : D) (e : E) (f : F) (g : G) (h : H) (i : I) (o : P a b d e f g h i) : ∃ a b d e f g h i, P a b d e f g h i := ⟨a, b, d, e, f, g, h, i, o⟩
theorem i9 {P : A → B → D → E → F → G → H → I → J → Prop} (a : A) (b : B) (d : D) (e : E) (f : F) (g : G) (h : H) (i : I) (j : J) (o : P a b d e f g h i j) : ∃ a b d e f g h i j, P a b d e f g h i j := ⟨a, b, d, e, f, g, h, i, j, o⟩
theorem c2 (h : p ∧ q) (f : p → q → C) : C := f h.1 h.2
theorem c3 (h : p ∧ q ∧ r) (f : p → q → r → C) : C := c2 h.2 (f h.1)
theorem c4 (h : p ∧ q ∧ r ∧ s) (f : p → q → r → s → C) : C := c3 h.2 (f h.1)
theorem c5 (h : p ∧ q ∧ r ∧ s ∧ t) (f : p → q → r → s → t → C) : C := c4 h.2 (f h.1)
theorem c6 (h : p ∧ q ∧ r ∧ s ∧ t ∧ u) (f : p → q → r → s → t → u → C) : C := c5 h.2 (f h.1)
theorem c7 (h : p ∧ q ∧ r ∧ s ∧ t ∧ u ∧ v) (f : p → q → r → s → t → u → v → C) : C := c6 h.2 (f h.1)
theorem c8 (h : p ∧ q ∧ r ∧ s ∧ t ∧ u ∧ v ∧ w) (f : p → q → r → s → t → u → v → w → C) : C := c7 h.2 (f h.1)
theorem c9 (h : p ∧ q ∧ r ∧ s ∧ t ∧ u ∧ v ∧ w ∧ x) (f : p → q → r → s → t → u → v → w → x → C) : C := c8 h.2 (f h.1)
theorem c10 (h : p ∧ q ∧ r ∧ s ∧ t ∧ u ∧ v ∧ w ∧ x ∧ y) (f : p → q → r → s → t → u → v → w → x → y → C) : C := c9 h.2 (f h.1)
theorem c11 (h : p ∧ q ∧ r ∧ s ∧ t ∧ u ∧ v ∧ w ∧ x ∧ y ∧ z) (f : p → q → r → s → t → u → v → w → x → y → z → C) : C := c10 h.2 (f h.1)
theorem c12 (h : p ∧ q ∧ r ∧ s ∧ t ∧ u ∧ v ∧ w ∧ x ∧ y ∧ z ∧ k) (f : p → q → r → s → t → u → v → w → x → y → z → k → C) : C := c11 h.2 (f h.1)
theorem c13 (h : p ∧ q ∧ r ∧ s ∧ t ∧ u ∧ v ∧ w ∧ x ∧ y ∧ z ∧ k ∧ l) (f : p → q → r → s → t → u → v → w → x → y → z → k → l → C) : C := c12 h.2 (f h.1)
theorem c14 (h : p ∧ q ∧ r ∧ s ∧ t ∧ u ∧ v ∧ w ∧ x ∧ y ∧ z ∧ k ∧ l ∧ m) (f : p → q → r → s → t → u → v → w → x → y → z → k → l → m → C) : C := c13 h.2 (f h.1)
end Ob
open Lean Lean.Parser.Tactic in
local macro_rules
 | `(tactic| obtain $p:rcasesPatMed := $e:term) => do
  let pl : TSyntax ``rcasesPatLo := ⟨mkNode ``rcasesPatLo #[p, mkNullNode]⟩
  let plain ← `(tactic| rcases $e:term with $pl)
  let q := p.raw[0][0]
  let ps := q[1].getSepArgs
  let n := ps.size
  if p.raw[0].getNumArgs != 1 || q.getKind != ``rcasesPat.tuple || n < 2 || n > 20 then return plain
  let mut nm : Array Ident := #[]
  let mut fs : Array (TSyntax `tactic) := #[]
  let cl (b : Term) : MacroM Term := if e.raw.isIdent then `(clear% $(⟨e.raw⟩); $b) else pure b
  for x in ps do
    let v := x[0][0][0]
    if x[1].getNumArgs == 0 && x[0][0].getNumArgs == 1 && v.getKind == ``rcasesPat.one && v[0].getId != `rfl then nm := nm.push ⟨v[0]⟩
    else
      let y := mkIdent (.mkSimple s!"hX{nm.size}")
      nm := nm.push y
      fs := fs.push (← `(tactic| all_goals rcases $y:ident with $(⟨x⟩)))
  let mut alts : Array (TSyntax `tactic) := #[]
  for d in [0:n] do
    let m := n - 1 - d
    let k := n - m
    if m ≤ 9 && k ≤ 14 then
      let f := mkIdent (.mkStr `Ob s!"e{m}")
      let g := mkIdent (.mkStr `Ob s!"c{k}")
      let xs := nm.extract 0 m
      let ys := nm.extract m n
      let b ← cl (← if m == 0 then `(fun $ys* => ?_) else if k == 1 then `(fun $xs* $(ys[0]!) => ?_) else `(fun $xs* hW => $g hW (clear% hW; fun $ys* => ?_)))
      alts := alts.push (← if m == 0 then `(tactic| refine $g $e $b) else `(tactic| refine $f $e $b))
  `(tactic| first | (refine Classical.byContradiction fun hN => ?_; (first $[| $alts:tactic]*); ($[$fs:tactic];*); all_goals (refine hN ?_; clear hN)) | $plain:tactic)
 | `(tactic| rintro $[$rs:rintroPat]*) => do
  let mut ts : Array (TSyntax `tactic) := #[]
  for r in rs do
    let v := r.raw[0]
    if v.getKind == ``rcasesPat.one && v[0].getId != `rfl then ts := ts.push (← `(tactic| intro $(⟨v[0]⟩):ident))
    else if v.getKind == ``rcasesPat.tuple then
      let p : TSyntax ``rcasesPatMed := ⟨mkNode ``rcasesPatMed #[mkNullNode #[v]]⟩
      ts := ts.push (← `(tactic| (intro hY; obtain $p := hY)))
    else Macro.throwUnsupported
  `(tactic| ($[$ts:tactic];*))
 | `(tactic| refine $t:term) => do
  let xs : Array Term := t.raw[1].getSepArgs.map (⟨·⟩)
  let n := xs.size
  if t.raw.getKind != `Lean.Parser.Term.anonymousCtor || n < 3 then Macro.throwUnsupported
  let mut alts : Array (TSyntax `tactic) := #[]
  for d in [1:n] do
    let m := n - d
    if 2 ≤ m && m ≤ 9 then
      let r := xs.extract m n
      let r : Term ← if r.size == 1 then pure r[0]! else `(⟨$r,*⟩)
      let f := mkIdent (.mkStr `Ob s!"i{m}")
      alts := alts.push (← `(tactic| refine $f $(xs.extract 0 m)* $r))
  `(tactic| first $[| $alts:tactic]* | refine ($t))
local macro_rules | `(tactic| omega) => `(tactic| first | with_reducible assumption | decide +kernel | lia | omega +splitDisjunctions)
open Array renaming getD_eq_getD_getElem?->IA,getElem?_eq_getElem->IN,getElem?_eq_none->Jn,getElem?_eq_some_iff->v8,getElem?_toList->s_,length_toList->pz,mem_toList_iff->Jt
open Bool renaming and_eq_true->fx,and_true->IL,eq_iff_iff->t5,false_and->p_,false_eq_true->j_,false_ne_true->i6,true_and->o7
open Classical renaming propDecidable->I0
open False renaming elim->m_
open ForInStep renaming yield->Jh
open Int renaming emod_lt_of_pos->Iz,emod_nonneg->Jj
open List renaming all_cons->IR,all_eq_true->l9,any_eq_true->IP,append_nil->HY,filterMap_cons->E_,getD_eq_getElem?_getD->zc,getElem?_drop->HX,getElem?_eq_getElem->j6,getElem?_eq_some_iff->i7,getElem?_map->q_,getElem?_set_ne->Ia,getElem?_set_self->Iu,getElem?_take_of_lt->IV,getElem?_toArray->Jy,getElem_of_mem->IX,length->w9,length_append->HD,length_cons->l_,length_drop->Jk,length_map->f_,length_take->m8,lookup->JJ,lookup_cons->HE,map_append->m7,map_cons->k9,map_map->Ij,map_nil->JI,mem_append->t0,mem_append_left->IB,mem_append_right->n9,mem_cons->i4,mem_cons_of_mem->la,mem_cons_self->m9,mem_map->v9,mem_map_of_mem->HF,mem_of_getElem?->j7,mem_of_mem_take->G3,mem_range->x5,mem_singleton->k_,nodup_append->Iv,nodup_cons->D_,not_mem_nil->md,pairwise_cons->Io,pairwise_map->Js,size_toArray->k8,take_add_one->w5,take_append_drop->Iq,take_length->A_,take_of_length_le->x6,take_sublist->IS
open Nat renaming le_add_right->Iw,le_of_eq->Jl,le_of_lt->pj,le_refl->h_,le_succ->F_,le_trans->n_,lt_irrefl->w4,lt_of_lt_of_le->j8,lt_succ_self->IU,min_eq_left->Jm,ne_of_gt->IE,ne_of_lt->kf,zero_le->HG
open Ne renaming symm->t6
open Option renaming getD_some->Jc,isSome_iff_exists->Ik,map_eq_some_iff->JM
open Option.some renaming inj->j9
open PyProof.Rows renaming callWith_type1->o6,slot_tuple_getitem->nH
open PySem renaming DictEntry->JQ,IsTupleKey->x_,ItemsOf->JT,NameKind->IG,OsState->Ju,PyData->JU,SetTable->HC,Spec->w_,Str->JP,Value->Is,Within->Jv,assignEach->JE,backTo->HR,behindInMarks->IF,binaryOp->HQ,bootBuiltins->G_,builtinLookup_eq_fast->Jx,codeAmong->Jd,codeAny->ID,codeAny_builtin->HK,codeAny_mono->Ib,compEnvC->E1,compareOp->p8,getItem->Jw,importedModules->JN,mainGlobals->i_,mem_of_lookup->HL,notedBy->Gt,plainId_quiet->JG,rawInt->HU,sizeLine->g_,sizeLine_eq->IQ,sliceBounds->JK,starEach->i9,sysModules->HZ,treeTable->JB,tupleKeyHash->t4,typeLookup->JF,wpAny_Call_Name_kw->r_,wpAny_bind->a_,wpAny_call->Jg,wpAny_callSpecial?_slot->C_,wpAny_call_entry->x4,wpAny_execs_cons->JD,wpAny_execs_nil->Je,wpAny_field->o9,wpAny_getItem_str_slice->IY,wpAny_holding->m6,wpAny_ite_false->mx,wpAny_ite_split->If,wpAny_ite_true->JA,wpAny_loadPart_at->Im,wpAny_mono->t7,wpAny_newObj_type->ra,wpAny_passesOwn->IC,wpAny_pure->b_,wpAny_pyIter_list->IM,wpAny_pyIter_tuple->B_,wpAny_seqItems->z_,wpAny_setField_rec->Iy,wpAny_setState_of->Jr,wpAny_specialOf->HJ,wpAny_truthy_bool->x8,wpAny_typeOf->Ic
open PySem.Around renaming under_plainId->Ig
open PySem.Builtin.List renaming listExtendWith->w6
open PySem.Builtin.Range renaming rangeSize->HI
open PySem.Builtin.Slice renaming sliceAdjust->G5,sliceApplied->IH,slicePlaces->wh
open PySem.Builtin.SmallTypes renaming nextOf->o_,ownedTupleIsFree->HH
open PySem.Builtin.Str renaming occurrences->IZ
open PySem.Builtin.Tuple renaming tupleExact->p9
open PySem.Calls renaming spliced_cons->Jf,spliced_nil->Jp
open PySem.F renaming slot_NoneType_hash->IK,slot_bool_hash->Jo,slot_list_append->t9,slot_list_insert->Ih,slot_tuple_iterator_next->IJ,slot_zip_next->JO,type_list_append->t_,type_list_insert->Ii
open PySem.Heap renaming IsTuple->JV,SameBut->H_,get?_push_of_some->c_,get?_push_size->ge,get?_update_self->HW,lt_size->fy,size_push->G2
open PySem.Heap.SameBut renaming update->JL
open PySem.NameKind renaming free->u_
open PySem.Obj renaming mapSeq->Ie
open PySem.PyData renaming eqv->Ji,eqvAll->JH
open PySem.SetTable renaming below->mu,bits->y_,grown->Jz,layClean->JX,runEnd->o8,toList_insertAt->IW,turns->Ir
open PySem.SetTable.below renaming go->Jq
open PySem.SetTable.layClean renaming free->HN
open PySem.SetTable.probe renaming go->Il
open PySem.Str renaming ofString->d_
open PySem.Txt renaming slice->Ip,slice_le->Ix
open PySem.Value renaming builtin->Ja,int->JC,none->v_,ref->i8,type->HP
open PySem.W renaming Frag->e_,InstAt->HV,Looks->JW,boot_heap->JR,findIn->Jb,keepIn->IT,kia_one->I_,kitOne->HM,mg_none_of->u5
open Sum renaming inl->JS,inr->h9
open True renaming intro->g9
variable {A:PySem.Around} {B base h h':PySem.Heap} {C D I O S a b d dx f fa it p:PySem.Addr} {E EE Q XE xe:Is->PySem.Shared->Prop} {G:Array PySem.GenState->Array PySem.GenState->Prop} {K:e_} {M:PySem.Model} {N cells loose names ns ps sn ws:List JP} {P prog:PySem.Program} {P1 P2:Int->Prop} {R:PySem.Result->PySem.Shared->Prop} {T:String} {XP:(JP->Option Is)->PySem.Heap->Prop} {YP:PySem.World->PySem.Heap->Prop} {ab expr hdct led q:Bool} {acc items vs:Array Is} {apos cpos p2 pos pos' pos2:PySem.Pos} {body rest:List PySem.Stmt} {c ep i j k m n n' nt t' tk:Nat} {cc:List (JP × PySem.Addr × List Int)} {cd cdv ct doc f0 f1 fl oc pm tb u v vk vl vu:Is} {ch fp:List PySem.Addr} {cl clos:List (JP × PySem.Addr)} {col:Option Bool} {d':PySem.Drawn} {dd od:Option PySem.Addr} {ds its its' us:List Is} {e e1 e2 elt iter tg value:PySem.Expr} {env:PySem.Env} {es ifs values:List PySem.Expr} {fd fdH:PySem.FuncData} {hi lo:Int} {hs:Array Int} {js:List Nat} {k0 k1 k2 k3 k5:Option Is} {keys:List (Option PySem.Expr)} {kw:List (JP × Is)} {mA mb mg:JP->Option Is} {ms zs:List Int} {name nm qual x z:JP} {op':PySem.CmpOp} {os:PySem.OsState} {osl sl sl2:Array (Option Is)} {outer:List PySem.Env} {ow:Array (Option Nat)} {ox:PySem.Obj} {params:PySem.Arguments} {pins pins' pl:List (PySem.Addr × PySem.Obj)} {s s' s0 s1 s₁:PySem.Shared} {sc scope:PySem.Scope} {st:PySem.Stmt} {sts:List (Int × Int × Int)} {w:PySem.World} {α β κ:Type}
open List (all_append all_map all_nil any_cons any_map append_assoc drop_zero find?_cons find?_some foldl_cons forIn_cons getD_cons_succ getD_cons_zero length_nil length_set map_drop map_take mem_filter mem_filterMap nodup_range of_mem_zip perm_middle range range' range_succ take_take zipWith)
open PySem.W (any_some boot_o_0 boot_o_1 boot_o_10 boot_o_2 boot_o_4 boot_o_5 boot_o_6 boot_o_7 boot_o_8 boot_o_9 callWith_K check_slot clsIn codeHdIn codeHd_of_K codeIn envX exmOne findObj fnMade fnOf fnX handedIn handedOut_of hasDictIn hideAll hideAll_get hideAll_none hideAll_size instObj isFn kitx_dict kitx_list lookIn looks_clsIn looks_findIn looks_mroIn methodObj mg_of mroIn notCls nsIn of_hideAll plainGet set_plain specialIn tabObj takesIn typeIn)
open Nat (lt_trans mod_lt not_lt_zero sub_zero zero_add)
open Option (getD_none isSome_map isSome_some map_some)
open Array (ext' replicate)
local macro_rules | `(()) => `(by omega)
local macro_rules | `(∅) => `(by decide)
local macro_rules | `(-$x:ident) => `(some (.ref $x))
local macro_rules | `($a >> $b) => `($a = some ($(Lean.mkIdent `L2.HO.tup) $b))
local macro_rules | `($a *> $b) => `($a = some ($(Lean.mkIdent `L2.HO.lst) $b))
local macro_rules | `($a <* $b) => `($a = some ($(Lean.mkIdent `L2.HO.dK) $b))
namespace Lw
open PySem PySem.W PySem.Calls PyProof.Rows
def top (i:Nat):Stmt:=PySem.Challenge.pw_seekhall_k04_sound_halls.main.body.getD i (.Pass ⟨0,0,0,0⟩)
noncomputable def gC:Program:={ PySem.Challenge.pw_seekhall_k04_sound_halls with main:={ PySem.Challenge.pw_seekhall_k04_sound_halls.main with body:=[1,2,3,4,5,7,8,9,10,11,12,13,14,15,16,17,18,19,20,21,22,23,24,25,26,27,28,29,30,31,32,33,34,35,36,37,38,39,40,41,42,43,44,45,46,47,48,50,51,52,53,54,55,56,57,59,60,61,62,63,64,65,66,67,68,69,70,71,72,73,74,75].map top } }
section
local macro_rules | `(tactic| o_head $H) => `(tactic| (have z := $H; assumption))
set_option maxHeartbeats 0 in
theorem Cm (h:PySem.Challenge.rw_seekhall_k04_sound_halls.row.Holds):PySem.Challenge.rw_seekhall_k04_sound_halls.row.Holds:=by
 k_head
end
def hAs:List Addr:=[2,3,15,22,23,24,25,28,35,37,38,40,41,42,43,44,47,54,56,57,59,60,61,62,63,66,73,75,76,78,79,80,81,82,85,92,94,95,97,98,99,100,101,104,105,107,108,110,111,112,114,115,117,118,119,121,122,124,125,126,128,129,131,132,133,136,137,138,141,142,143,145,146,148,149,150,152,153,155,156,157,159,160,162,163,164,166,167,169,170,171,173,174,176,177,178,180,181,183,184,185,187,188,190,191,192,194,195,197,198,199,202,203,204,206,207,209,210,211,213,214,216,217,218,220,221,223,224,225,227,228,230,231,232,235,236,237,239,240,242,243,244,246,247,249,250,251,253,254,256,257,258,259,261,262,264,265,266,268,269,271,272,273,275,276,278,279,280,282,283,285,286,287,290,291,292,294,295,297,298,299,302,303,304,306,307,309,310,311,313,314,316,317,318,320,321,323,324,325,328,329,330,332,333,335,336,337,339,340,342,343,344,347,348,349,351,352,354,355,356,359,360,361,363,364,366,367,368,370,371,373,374,375,377,378,380,381,382,384,385,387,388,389,392,393,394,396,397,399,400,401,403,404,406,407,408,411,412,413,416,417,418,420,421,423,424,425,427,428,430,431,432,434,435,437,438,439,442,443,444,446,447,449,450]
theorem hAe : ∀P,hAs=(Cm.heap_1 P).map (·.1):=λ_=>by kernel_rfl
noncomputable abbrev hK:Hook:=kmHook Cm.heap_1 hAs hAe [212]
noncomputable def hX (s:Shared):Bool:=xlAt gC List.nil s && recOk (RowW.records PySem.Challenge.rw_seekhall_k04_sound_halls.row.toRowW) s
theorem Gn {A B C D G:Type} {x y:A × B × C × D} {u v:G} (h1:x.1=y.1) (h2:(x.2.1,x.2.2.1)=(y.2.1,y.2.2.1)) (F:x.2.2.2=y.2.2.2) (L:u=v):(x,u)=(y,v):=by
 obtain⟨a,b,c,d⟩:=x;obtain⟨U,Z,c',d'⟩:=y;cases h1;cases h2;cases F;cases L;rfl
def rn (i j:Nat):Stmt:=match top i with | .ClassDef _ _ _ b _ _ _ _ _ _ _=>b.getD j (.Pass ⟨0,0,0,0⟩) | s=>s
def aL (a:String) (n:Nat):Value:=.str (d_ a) n
def Ce (ty:Value) (x:String) (s:Stmt) (g:Addr) (F c:Value):Obj:=match s with
 | .FunctionDef n a b _ _ _ sc _ _ _=>⟨ty,none,.func ⟨n,d_ x,a,.stmts b,sc,g,[],.none,.none,.none,F,none,c,.none,0⟩,#[]⟩
 | _=>default
def Bl (x:String) (s:Stmt):Obj:=Ce .none x s 0 .none .none
def BM (x:String) (s:Stmt) (F:Value) (c:Addr):Obj:=Ce (.type "function") x s 3 F (.ref c)
def vh (l:List Value):Obj:=⟨.type "tuple",none,.seq l.toArray 0,#[]⟩
def eE (t:Value) (l:List Value) (a:Array (Option Value)):Obj:=⟨t,none,.fields l.toArray,a⟩
def bC (i:Nat):Obj:=match top i with
 | .FunctionDef n a b _ _ _ sc _ _ _=>⟨.none,none,.func ⟨n,n,a,.stmts b,sc,0,[],.none,.none,.none,.none,none,.none,.none,0⟩,#[]⟩
 | _=>default
def bD (i:Nat) (F:Value) (c:Addr):Obj:=match top i with
 | .FunctionDef n a b _ _ _ sc _ _ _=>⟨.type "function",none,.func ⟨n,n,a,.stmts b,sc,3,[],.none,.none,.none,F,none,.ref c,.none,0⟩,#[]⟩
 | _=>default
def aY (P:Params) (k:String) (n:Nat) (v:Value):JQ:=⟨PyData.keyHash P (d_ k),aL k n,v⟩
def aD (P:Params) (k:String) (n:Nat) (a:Addr):JQ:=aY P k n (.ref a)
def bw:Obj:=eE .none [] #[]
def aJ:Obj:=vh []
def nX (n:Nat):Value:=.int n 0
def Ep (l:List (Nat × Nat)):Obj:=eE .none (l.flatMap λx=>[nX x.1,nX 0,.ref x.2]) #[]
def C4 (x q:String) (t l n f a:Nat) (b:Bool) (r:List Value) (u:Nat):Obj:=eE (.type "code") ([aL x t,aL q (t+1),aL "/claim/cut.py" (t+2),nX l,nX n,nX 0,nX 0,nX f,.ref a,.bool b,nX 181,.ref (a+1),.none]++r++[nX u,nX l,aL "/claim/cut.py" (u+1)]) #[]
def yA (x q:String) (t l n a u:Nat):Obj:=C4 x q t l n 3 a true [.ref (a+2),.ref (a+3),.ref (a+4)] u
def kx (x q:String) (t l n a:Nat):Obj:=C4 x q t l n 3 a true [.none,.none,.ref (a+2)] (t+3)
def tT (x:String) (t l a:Nat):Obj:=C4 x x t l 0 0 a false [.none,.none,.none] (t+3)
def bZ (x:String) (t l n a u:Nat):Obj:=yA x x t l n a u
def Gy:Nat->List String->List Value
 | _,[]=>[]
 | n,x :: r=>aL x n :: Gy (n+1) r
def bK (n:Nat) (l:List String):Obj:=vh (Gy n l)
def BI:Bool->List Obj->List Obj
 | _,[]=>[]
 | true,x :: r=>x :: BI false r
 | false,_ :: r=>BI true r
def yS:Nat->List Obj->BT
 | 0,_=>.nil
 | _+1,[]=>.nil
 | n+1,x :: r=>.node x (yS n (BI true r)) (yS n (BI false r))
def ke (t:Value) (l:List JQ) (n:Nat) (a:Array (Option Value)):Obj:=⟨t,none,.dict l.toArray n,a⟩
noncomputable def zI (P:Params):BT:=yS 5 [(boot_o_0 P),(boot_o_1 P),(boot_o_2 P),(PySem.W.boot_o_3 P),(boot_o_4 P),(boot_o_5 P),(boot_o_6 P),(boot_o_7 P),(boot_o_8 P),(boot_o_9 P),(boot_o_10 P),aJ,bw,(tT "<module>" 182 1 11),⟨(.type "frame"),none,.plain,#[some (.ref 13),some (.ref 3),some (.ref 3),none,some (aL "__main__" 164),none,some (.ref 0)]⟩]
noncomputable def Gh (P:Params):List Obj:=[(boot_o_0 P),(boot_o_1 P),(boot_o_2 P)]
noncomputable def Go (P:Params):List Obj:=[(boot_o_4 P),(boot_o_5 P),(boot_o_6 P),(boot_o_7 P),(boot_o_8 P),(boot_o_9 P),(boot_o_10 P),aJ]
noncomputable def EV (P:Params):List Obj:=[(tT "<module>" 182 1 11),⟨(.type "frame"),none,.plain,#[some (.ref 13),some (.ref 3),some (.ref 3),none,some (aL "__main__" 164),none,some (.ref 0)]⟩,(vh [(.type "ValueError")]),(eE (.type "builtin_function_or_method") [(.builtin "type.__prepare__"),(.type "type")] #[]),(ke (.type "dict") [aY P "__module__" 196 (aL "seekhall.errors" 187),aY P "__qualname__" 198 (aL "HallError" 197),aY P "__firstlineno__" 200 (.int 2 199),aD P "__static_attributes__" 201 22] 4 #[]),aJ,bw,(tT "HallError" 191 2 18),⟨(.type "frame"),none,.plain,#[some (.ref 20),some (.ref 3),some (.ref 17),none,some (aL "seekhall.errors" 187),none,some (.ref 0)]⟩,aJ,(ke (.type "dict") [aY P "__module__" 196 (aL "seekhall.errors" 187),aY P "__firstlineno__" 200 (.int 2 199),aD P "__static_attributes__" 201 22,aD P "__weakref__" 203 25,aY P "__doc__" 204 .none] 3 #[]),⟨(.type "type"),none,.cls ⟨d_ "HallError",[(.type "ValueError")],[(.ref 24),(.type "ValueError"),(.type "Exception"),(.type "BaseException"),(.type "object")],23,d_ "HallError",.true,[],[(.ref 44),(.ref 63),(.ref 82),(.ref 101)],.false,none,.false⟩,#[some (.ref 15),none,some (aL "HallError" 189),some (aL "HallError" 197),some (.builtin "ValueError.__new__"),some (.bool .true)]⟩,(eE (.type "getset_descriptor") [(aL "__weakref__" 202),(.ref 24),(.builtin "ExceptionGroup.__weakref__"),.none] #[]),(eE (.type "super") [(.ref 24),(.ref 24),(.ref 24)] #[]),(eE (.type "builtin_function_or_method") [(.builtin "object.__init_subclass__"),(.ref 24)] #[]),(vh [(.ref 24)]),(eE (.type "builtin_function_or_method") [(.builtin "type.__prepare__"),(.type "type")] #[]),(ke (.type "dict") [aY P "__module__" 214 (aL "seekhall.errors" 187),aY P "__qualname__" 216 (aL "NoHall" 215),aY P "__firstlineno__" 218 (.int 4 217),aD P "__init__" 227 41,aD P "__static_attributes__" 230 42] 5 #[]),aJ,(eE .none [(.int 6 0),(.int 4 0),(.ref 40)] #[]),(tT "NoHall" 209 4 31),⟨(.type "frame"),none,.plain,#[some (.ref 33),some (.ref 3),some (.ref 30),none,some (aL "seekhall.errors" 187),none,some (.ref 0)]⟩,aJ,bw,(bK 222 ["self","word","at"]),aJ,(Bl "NoHall.__init__" (rn 2 0)),(yA "__init__" "NoHall.__init__" 219 6 3 35 225),(BM "NoHall.__init__" (rn 2 0) (aL "seekhall.errors" 187) 40),(bK 228 ["at","word"]),(ke (.type "dict") [aY P "__module__" 214 (aL "seekhall.errors" 187),aY P "__firstlineno__" 218 (.int 4 217),aD P "__init__" 227 41,aD P "__static_attributes__" 230 42,aY P "__doc__" 231 .none] 2 #[]),⟨(.type "type"),none,.cls ⟨d_ "NoHall",[(.ref 24)],[(.ref 44),(.ref 24),(.type "ValueError"),(.type "Exception"),(.type "BaseException"),(.type "object")],43,d_ "NoHall",.true,[],[],.false,none,.false⟩,#[some (.ref 28),none,some (aL "NoHall" 207),some (aL "NoHall" 215),some (.builtin "ValueError.__new__"),some (.bool .true)]⟩,(eE (.type "super") [(.ref 44),(.ref 44),(.ref 44)] #[]),(eE (.type "builtin_function_or_method") [(.builtin "object.__init_subclass__"),(.ref 44)] #[]),(vh [(.ref 24)]),(eE (.type "builtin_function_or_method") [(.builtin "type.__prepare__"),(.type "type")] #[]),(ke (.type "dict") [aY P "__module__" 241 (aL "seekhall.errors" 187),aY P "__qualname__" 243 (aL "NoText" 242),aY P "__firstlineno__" 245 (.int 9 244),aD P "__init__" 253 60,aD P "__static_attributes__" 255 61] 5 #[]),aJ,(eE .none [(.int 11 0),(.int 4 0),(.ref 59)] #[]),(tT "NoText" 236 9 50),⟨(.type "frame"),none,.plain,#[some (.ref 52),some (.ref 3),some (.ref 49),none,some (aL "seekhall.errors" 187),none,some (.ref 0)]⟩,aJ,bw,(bK 249 ["self","line"]),aJ,(Bl "NoText.__init__" (rn 3 0)),(yA "__init__" "NoText.__init__" 246 11 2 54 251),(BM "NoText.__init__" (rn 3 0) (aL "seekhall.errors" 187) 59),(bK 254 ["line"]),(ke (.type "dict") [aY P "__module__" 241 (aL "seekhall.errors" 187),aY P "__firstlineno__" 245 (.int 9 244),aD P "__init__" 253 60,aD P "__static_attributes__" 255 61,aY P "__doc__" 256 .none] 2 #[]),⟨(.type "type"),none,.cls ⟨d_ "NoText",[(.ref 24)],[(.ref 63),(.ref 24),(.type "ValueError"),(.type "Exception"),(.type "BaseException"),(.type "object")],62,d_ "NoText",.true,[],[],.false,none,.false⟩,#[some (.ref 47),none,some (aL "NoText" 234),some (aL "NoText" 242),some (.builtin "ValueError.__new__"),some (.bool .true)]⟩,(eE (.type "super") [(.ref 63),(.ref 63),(.ref 63)] #[]),(eE (.type "builtin_function_or_method") [(.builtin "object.__init_subclass__"),(.ref 63)] #[]),(vh [(.ref 24)]),(eE (.type "builtin_function_or_method") [(.builtin "type.__prepare__"),(.type "type")] #[]),(ke (.type "dict") [aY P "__module__" 266 (aL "seekhall.errors" 187),aY P "__qualname__" 268 (aL "NoPaper" 267),aY P "__firstlineno__" 270 (.int 13 269),aD P "__init__" 278 79,aD P "__static_attributes__" 280 80] 5 #[]),aJ,(eE .none [(.int 15 0),(.int 4 0),(.ref 78)] #[]),(tT "NoPaper" 261 13 69),⟨(.type "frame"),none,.plain,#[some (.ref 71),some (.ref 3),some (.ref 68),none,some (aL "seekhall.errors" 187),none,some (.ref 0)]⟩,aJ,bw,(bK 274 ["self","at"]),aJ,(Bl "NoPaper.__init__" (rn 4 0)),(yA "__init__" "NoPaper.__init__" 271 15 2 73 276),(BM "NoPaper.__init__" (rn 4 0) (aL "seekhall.errors" 187) 78),(bK 279 ["at"]),(ke (.type "dict") [aY P "__module__" 266 (aL "seekhall.errors" 187),aY P "__firstlineno__" 270 (.int 13 269),aD P "__init__" 278 79,aD P "__static_attributes__" 280 80,aY P "__doc__" 281 .none] 2 #[]),⟨(.type "type"),none,.cls ⟨d_ "NoPaper",[(.ref 24)],[(.ref 82),(.ref 24),(.type "ValueError"),(.type "Exception"),(.type "BaseException"),(.type "object")],81,d_ "NoPaper",.true,[],[],.false,none,.false⟩,#[some (.ref 66),none,some (aL "NoPaper" 259),some (aL "NoPaper" 267),some (.builtin "ValueError.__new__"),some (.bool .true)]⟩,(eE (.type "super") [(.ref 82),(.ref 82),(.ref 82)] #[]),(eE (.type "builtin_function_or_method") [(.builtin "object.__init_subclass__"),(.ref 82)] #[]),(vh [(.ref 24)]),(eE (.type "builtin_function_or_method") [(.builtin "type.__prepare__"),(.type "type")] #[]),(ke (.type "dict") [aY P "__module__" 291 (aL "seekhall.errors" 187),aY P "__qualname__" 293 (aL "NoRow" 292),aY P "__firstlineno__" 295 (.int 17 294),aD P "__init__" 303 98,aD P "__static_attributes__" 305 99] 5 #[]),aJ,(eE .none [(.int 19 0),(.int 4 0),(.ref 97)] #[]),(tT "NoRow" 286 17 88),⟨(.type "frame"),none,.plain,#[some (.ref 90),some (.ref 3),some (.ref 87),none,some (aL "seekhall.errors" 187),none,some (.ref 0)]⟩,aJ,bw,(bK 299 ["self","text"]),aJ,(Bl "NoRow.__init__" (rn 5 0)),(yA "__init__" "NoRow.__init__" 296 19 2 92 301),(BM "NoRow.__init__" (rn 5 0) (aL "seekhall.errors" 187) 97),(bK 304 ["text"]),(ke (.type "dict") [aY P "__module__" 291 (aL "seekhall.errors" 187),aY P "__firstlineno__" 295 (.int 17 294),aD P "__init__" 303 98,aD P "__static_attributes__" 305 99,aY P "__doc__" 306 .none] 2 #[]),⟨(.type "type"),none,.cls ⟨d_ "NoRow",[(.ref 24)],[(.ref 101),(.ref 24),(.type "ValueError"),(.type "Exception"),(.type "BaseException"),(.type "object")],100,d_ "NoRow",.true,[],[],.false,none,.false⟩,#[some (.ref 85),none,some (aL "NoRow" 284),some (aL "NoRow" 292),some (.builtin "ValueError.__new__"),some (.bool .true)]⟩,(eE (.type "super") [(.ref 101),(.ref 101),(.ref 101)] #[]),(eE (.type "builtin_function_or_method") [(.builtin "object.__init_subclass__"),(.ref 101)] #[]),(bK 311 ["in","from","to","end"]),aJ,bw,(bK 341 ["thing"]),aJ,(bC 19),(bZ "is_number" 338 34 1 105 342),(bD 19 (aL "seekhall.forms" 309) 110),aJ,bw,(bK 348 ["thing","least","greatest"]),aJ,(bC 20),(bZ "is_whole" 345 36 3 112 351),(bD 20 (aL "seekhall.forms" 309) 117),aJ,bw,(bK 357 ["thing"]),aJ,(bC 21),(bZ "is_value" 354 38 1 119 358),(bD 21 (aL "seekhall.forms" 309) 124),aJ,bw,(bK 364 ["thing"]),aJ,(bC 22),(bZ "is_state" 361 40 1 126 365),(bD 22 (aL "seekhall.forms" 309) 131),aJ,bw,(bC 23),(kx "is_name" "is_name" 368 42 1 133),(bD 23 (aL "seekhall.forms" 309) 136),aJ,bw,(bC 24),(kx "is_tuple_of" "is_tuple_of" 374 46 4 138),(bD 24 (aL "seekhall.forms" 309) 141),aJ,bw,(bK 383 ["things"]),aJ,(bC 25),(bZ "are_unlike" 380 48 1 143 384),(bD 25 (aL "seekhall.forms" 309) 148),aJ,bw,(bK 390 ["thing"]),aJ,(bC 26),(bZ "are_names" 387 50 1 150 391),(bD 26 (aL "seekhall.forms" 309) 155),aJ,bw,(bK 397 ["thing"]),aJ,(bC 27),(bZ "are_values" 394 52 1 157 398),(bD 27 (aL "seekhall.forms" 309) 162),aJ,bw,(bK 404 ["wish"]),aJ,(bC 28),(bZ "is_unlike" 401 54 1 164 405),(bD 28 (aL "seekhall.forms" 309) 169),aJ,bw,(bK 411 ["thing"]),aJ,(bC 29),(bZ "is_many_bound" 408 56 1 171 412),(bD 29 (aL "seekhall.forms" 309) 176),aJ,bw,(bK 418 ["wish"]),aJ,(bC 30),(bZ "is_many" 415 58 1 178 419),(bD 30 (aL "seekhall.forms" 309) 183),aJ,bw,(bK 425 ["thing"]),aJ,(bC 31),(bZ "is_term" 422 60 1 185 426),(bD 31 (aL "seekhall.forms" 309) 190),aJ,bw,(bK 432 ["thing"]),aJ,(bC 32),(bZ "is_sum_bound" 429 62 1 192 433),(bD 32 (aL "seekhall.forms" 309) 197),aJ,bw,(bC 33),(kx "are_terms" "are_terms" 436 64 1 199),(bD 33 (aL "seekhall.forms" 309) 202),aJ,bw,(bK 445 ["wish"]),aJ,(bC 34),(bZ "is_sum" 442 66 1 204 446),(bD 34 (aL "seekhall.forms" 309) 209),aJ,bw,(bK 452 ["thing","length","is_row"]),(bK 455 ["length"]),(bC 35),(bZ "are_rows" 449 68 2 211 456),(bD 35 (aL "seekhall.forms" 309) 216),aJ,bw,(bK 462 ["wish"]),aJ,(bC 36),(bZ "is_table" 459 73 1 218 463),(bD 36 (aL "seekhall.forms" 309) 223),aJ,bw,(bK 469 ["thing"]),aJ,(bC 37),(bZ "is_step" 466 75 1 225 470),(bD 37 (aL "seekhall.forms" 309) 230),aJ,bw,(bC 38),(kx "are_steps" "are_steps" 473 77 1 232),(bD 38 (aL "seekhall.forms" 309) 235),aJ,bw,(bK 482 ["thing"]),aJ,(bC 39),(bZ "are_ends" 479 79 1 237 483),(bD 39 (aL "seekhall.forms" 309) 242),aJ,bw,(bK 489 ["wish"]),aJ,(bC 40),(bZ "is_way" 486 81 1 244 490),(bD 40 (aL "seekhall.forms" 309) 249),aJ,bw,(bK 496 ["wish"]),aJ,(bC 41),(bZ "is_behind" 493 83 1 251 497),(bD 41 (aL "seekhall.forms" 309) 256),(ke (.type "dict") [aD P "unlike" 500 170,aD P "many" 501 184,aD P "sum" 502 210,aD P "table" 503 224,aD P "way" 504 250,aD P "behind" 505 257] 6 #[]),aJ,bw,(bK 516 ["thing"]),aJ,(bC 43),(bZ "sort_of" 513 86 1 259 517),(bD 43 (aL "seekhall.forms" 309) 264),aJ,bw,(bK 523 ["thing","sort"]),aJ,(bC 44),(bZ "is_plain_wish" 520 90 1 266 525),(bD 44 (aL "seekhall.forms" 309) 271)]
noncomputable def GC (P:Params):List Obj:=[aJ,bw,(bK 531 ["wish"]),aJ,(bC 45),(bZ "is_same" 528 93 1 273 532),(bD 45 (aL "seekhall.forms" 309) 278),aJ,bw,(bK 538 ["thing"]),aJ,(bC 46),(bZ "is_wish" 535 95 1 280 539),(bD 46 (aL "seekhall.forms" 309) 285),aJ,bw,(bC 47),(kx "plain_cells_of" "plain_cells_of" 542 99 1 287),(bD 47 (aL "seekhall.forms" 309) 290),aJ,bw,(bK 551 ["wish","own","inner"]),aJ,(bC 48),(bZ "cells_of" 548 105 1 292 554),(bD 48 (aL "seekhall.forms" 309) 297),aJ,bw,(bC 51),(kx "is_rising" "is_rising" 561 114 1 299),(bD 51 (aL "seekhall.halls" 557) 302),aJ,bw,(bK 570 ["thing"]),aJ,(bC 52),(bZ "is_room" 567 116 1 304 571),(bD 52 (aL "seekhall.halls" 557) 309),aJ,bw,(bK 577 ["thing"]),aJ,(bC 53),(bZ "is_cell" 574 118 1 311 578),(bD 53 (aL "seekhall.halls" 557) 316),aJ,bw,(bK 584 ["cells","names","number","cell"]),aJ,(bC 54),(bZ "check_cells" 581 120 1 318 588),(bD 54 (aL "seekhall.halls" 557) 323),aJ,bw,(bC 55),(kx "check_wishes" "check_wishes" 591 126 2 325),(bD 55 (aL "seekhall.halls" 557) 328),aJ,bw,(bK 600 ["hall"]),aJ,(bC 56),(bZ "check_hall" 597 130 1 330 601),(bD 56 (aL "seekhall.halls" 557) 335),aJ,bw,(bK 607 ["hall","rooms","cell"]),aJ,(bC 57),(bZ "first_rooms" 604 133 1 337 610),(bD 57 (aL "seekhall.halls" 557) 342),aJ,bw,(bC 59),(kx "_law_deal" "_law_deal" 615 139 2 344),(bD 59 (aL "law_seekhall_k04_sound_halls" 613) 347),aJ,bw,(bK 624 ["_law_deal_here","_law_many_here","_law_number_here","_law_one","_law_other"]),aJ,(bC 60),(bZ "_law_draw" 621 145 2 349 629),(bD 60 (aL "law_seekhall_k04_sound_halls" 613) 354),aJ,bw,(bC 61),(kx "_law_names" "_law_names" 632 156 2 356),(bD 61 (aL "law_seekhall_k04_sound_halls" 613) 359),aJ,bw,(bK 641 ["_law_deal_here","_law_most","_law_way"]),aJ,(bC 62),(bZ "_law_number" 638 168 2 361 644),(bD 62 (aL "law_seekhall_k04_sound_halls" 613) 366),aJ,bw,(bK 650 ["_law_deal_here","_law_many_here","_law_low","_law_found","_law_k"]),aJ,(bC 63),(bZ "_law_numbers" 647 175 2 368 655),(bD 63 (aL "law_seekhall_k04_sound_halls" 613) 373),aJ,bw,(bK 661 ["_law_deal_here","_law_most"]),aJ,(bC 64),(bZ "_law_many" 658 182 2 375 663),(bD 64 (aL "law_seekhall_k04_sound_halls" 613) 380),aJ,bw,(bK 669 ["_law_deal_here","_law_some","_law_terms","_law_name","_law_a","_law_bounds"]),aJ,(bC 65),(bZ "_law_big_sum" 666 184 2 382 675),(bD 65 (aL "law_seekhall_k04_sound_halls" 613) 387),aJ,bw,(bC 66),(kx "_law_big_rows" "_law_big_rows" 678 191 3 389),(bD 66 (aL "law_seekhall_k04_sound_halls" 613) 392),aJ,bw,(bK 687 ["_law_deal_here","_law_some","_law_states","_law_values","_law_steps","_law_k","_law_ends"]),aJ,(bC 67),(bZ "_law_big_way" 684 200 2 394 694),(bD 67 (aL "law_seekhall_k04_sound_halls" 613) 399),aJ,bw,(bK 700 ["_law_deal_here","_law_names_here","_law_sort","_law_some","_law_low","_law_inner"]),aJ,(bC 68),(bZ "_law_big_wish" 697 210 3 401 706),(bD 68 (aL "law_seekhall_k04_sound_halls" 613) 406),aJ,bw,(bC 69),(kx "_law_cells" "_law_cells" 709 227 2 408),(bD 69 (aL "law_seekhall_k04_sound_halls" 613) 411),aJ,bw,(bC 70),(kx "_law_wishes" "_law_wishes" 715 240 2 413),(bD 70 (aL "law_seekhall_k04_sound_halls" 613) 416),aJ,bw,(bK 724 ["_law_deal_here","_law_cell","_law_name","_law_room","_law_bad"]),aJ,(bC 71),(bZ "_law_bad_cell" 721 252 2 418 729),(bD 71 (aL "law_seekhall_k04_sound_halls" 613) 423),aJ,bw,(bK 735 ["_law_deal_here","_law_wishes_here","_law_stray","_law_some","_law_wish"]),aJ,(bC 72),(bZ "_law_bad_wish" 732 263 3 425 740),(bD 72 (aL "law_seekhall_k04_sound_halls" 613) 430),aJ,bw,(bK 746 ["_law_hall","_law_caught","_law_told_here","e","_law_others"]),aJ,(bC 73),(bZ "_law_told" 743 271 1 432 751),(bD 73 (aL "law_seekhall_k04_sound_halls" 613) 437),aJ,bw,(bC 74),(kx "_law_full" "_law_full" 754 285 1 439),(bD 74 (aL "law_seekhall_k04_sound_halls" 613) 442),aJ,bw,(bK 763 ["_law_script","_law_deal_here","_law_names_here","_law_cells_here","_law_wishes_here","_law_hall","_law_rooms","_law_stray","_law_due","_law_bad","_law_place","_law_other","_law_first"]),aJ,(bC 75),(bZ "law" 760 292 1 444 776),(bD 75 (aL "law_seekhall_k04_sound_halls" 613) 449)]
noncomputable def GU (P:Params):List Obj:=Gh P++(ke (.type "dict") [aY P "__name__" 165 (aL "seekhall.forms" 309),aY P "__doc__" 166 .none,aY P "__package__" 167 .none,aY P "__loader__" 168 (.builtin "__main__.__loader__#opaque"),aY P "__spec__" 169 .none,aD P "__annotations__" 170 6,aD P "__builtins__" 171 4,aY P "__file__" 173 (aL "/claim/cut.py" 172),aY P "__cached__" 174 .none,aD P "HallError" 206 24,aD P "NoHall" 233 44,aD P "NoText" 258 63,aD P "NoPaper" 283 82,aD P "NoRow" 308 101,aD P "MARKS" 315 104,aY P "LONGEST_NAME" 317 (.int 8 316),aY P "MOST_CELLS" 319 (.int 12 318),aY P "MOST_TERMS" 321 (.int 6 320),aY P "MOST_VALUES" 323 (.int 60 322),aY P "MOST_ROWS" 325 (.int 60 324),aY P "MOST_STEPS" 327 (.int 60 326),aY P "GREATEST_VALUE" 329 (.int 1000000 328),aY P "GREATEST_STATE" 331 (.int 20 330),aY P "GREATEST_MANY" 333 (.int 1000000000 332),aY P "GREATEST_GAP" 335 (.int 1000000000 334),aY P "GREATEST_BOUND" 337 (.int 10000000000000 336),aD P "is_number" 344 111,aD P "is_whole" 353 118,aD P "is_value" 360 125,aD P "is_state" 367 132,aD P "is_name" 373 137,aD P "is_tuple_of" 379 142,aD P "are_unlike" 386 149,aD P "are_names" 393 156,aD P "are_values" 400 163,aD P "is_unlike" 407 170,aD P "is_many_bound" 414 177,aD P "is_many" 421 184,aD P "is_term" 428 191,aD P "is_sum_bound" 435 198,aD P "are_terms" 441 203,aD P "is_sum" 448 210,aD P "are_rows" 458 217,aD P "is_table" 465 224,aD P "is_step" 472 231,aD P "are_steps" 478 236,aD P "are_ends" 485 243,aD P "is_way" 492 250,aD P "is_behind" 499 257,aD P "PLAIN_FORMS" 512 258,aD P "sort_of" 519 265,aD P "is_plain_wish" 527 272] 52 #[]) ::(Go P++(Ep [(2,20),(4,33),(9,52),(13,71),(17,90),(34,110),(36,117),(38,124),(40,131),(42,136),(46,141),(48,148),(50,155),(52,162),(54,169),(56,176),(58,183),(60,190),(62,197),(64,202),(66,209),(68,216),(73,223),(75,230),(77,235),(79,242),(81,249),(83,256),(86,264),(90,271)]) :: EV P)
noncomputable def Ex (P:Params):List Obj:=Gh P++(ke (.type "dict") [aY P "__name__" 165 (aL "law_seekhall_k04_sound_halls" 613),aY P "__doc__" 166 .none,aY P "__package__" 167 .none,aY P "__loader__" 168 (.builtin "__main__.__loader__#opaque"),aY P "__spec__" 169 .none,aD P "__annotations__" 170 6,aD P "__builtins__" 171 4,aY P "__file__" 173 (aL "/claim/cut.py" 172),aY P "__cached__" 174 .none,aD P "HallError" 206 24,aD P "NoHall" 233 44,aD P "NoText" 258 63,aD P "NoPaper" 283 82,aD P "NoRow" 308 101,aD P "MARKS" 315 104,aY P "LONGEST_NAME" 317 (.int 8 316),aY P "MOST_CELLS" 319 (.int 12 318),aY P "MOST_TERMS" 321 (.int 6 320),aY P "MOST_VALUES" 323 (.int 60 322),aY P "MOST_ROWS" 325 (.int 60 324),aY P "MOST_STEPS" 327 (.int 60 326),aY P "GREATEST_VALUE" 329 (.int 1000000 328),aY P "GREATEST_STATE" 331 (.int 20 330),aY P "GREATEST_MANY" 333 (.int 1000000000 332),aY P "GREATEST_GAP" 335 (.int 1000000000 334),aY P "GREATEST_BOUND" 337 (.int 10000000000000 336),aD P "is_number" 344 111,aD P "is_whole" 353 118,aD P "is_value" 360 125,aD P "is_state" 367 132,aD P "is_name" 373 137,aD P "is_tuple_of" 379 142,aD P "are_unlike" 386 149,aD P "are_names" 393 156,aD P "are_values" 400 163,aD P "is_unlike" 407 170,aD P "is_many_bound" 414 177,aD P "is_many" 421 184,aD P "is_term" 428 191,aD P "is_sum_bound" 435 198,aD P "are_terms" 441 203,aD P "is_sum" 448 210,aD P "are_rows" 458 217,aD P "is_table" 465 224,aD P "is_step" 472 231,aD P "are_steps" 478 236,aD P "are_ends" 485 243,aD P "is_way" 492 250,aD P "is_behind" 499 257,aD P "PLAIN_FORMS" 512 258,aD P "sort_of" 519 265,aD P "is_plain_wish" 527 272,aD P "is_same" 534 279,aD P "is_wish" 541 286,aD P "plain_cells_of" 547 291,aD P "cells_of" 556 298,aY P "MOST_IN_ROOM" 560 (.int 10 559),aD P "is_rising" 566 303,aD P "is_room" 573 310,aD P "is_cell" 580 317,aD P "check_cells" 590 324,aD P "check_wishes" 596 329,aD P "check_hall" 603 336,aD P "first_rooms" 612 343,aD P "_law_deal" 620 348,aD P "_law_draw" 631 355,aD P "_law_names" 637 360,aD P "_law_number" 646 367,aD P "_law_numbers" 657 374,aD P "_law_many" 665 381,aD P "_law_big_sum" 677 388,aD P "_law_big_rows" 683 393,aD P "_law_big_way" 696 400,aD P "_law_big_wish" 708 407,aD P "_law_cells" 714 412,aD P "_law_wishes" 720 417,aD P "_law_bad_cell" 731 424,aD P "_law_bad_wish" 742 431,aD P "_law_told" 753 438,aD P "_law_full" 759 443,aD P "law" 778 450] 81 #[]) ::(Go P++(Ep [(2,20),(4,33),(9,52),(13,71),(17,90),(34,110),(36,117),(38,124),(40,131),(42,136),(46,141),(48,148),(50,155),(52,162),(54,169),(56,176),(58,183),(60,190),(62,197),(64,202),(66,209),(68,216),(73,223),(75,230),(77,235),(79,242),(81,249),(83,256),(86,264),(90,271),(93,278),(95,285),(99,290),(105,297),(114,302),(116,309),(118,316),(120,323),(126,328),(130,335),(133,342),(139,347),(145,354),(156,359),(168,366),(175,373),(182,380),(184,387),(191,392),(200,399),(210,406),(227,411),(240,416),(252,423),(263,430),(271,437),(285,442),(292,449)]) ::(EV P++GC P))
noncomputable def DY (P:Params):BT:=yS 12 (GU P)
noncomputable def GA (P:Params):BT:=yS 12 (Ex P)
def oK:Env:={ scope:=PySem.Challenge.pw_seekhall_k04_sound_halls.main.scope,locals:=mainNs,globals:=mainNs,cells:=[],code:=.ref 13,frame:=some 14 }
def uH:List Stmt:=behindTheImports PySem.Challenge.pw_seekhall_k04_sound_halls
abbrev lN:Code:=.body uH oK
def zW:Life:=⟨[],[],[],0,[],[],false,#[],[],0,false,false,false,0,[2000,10,10],false,0,true,[],[],0,false⟩
abbrev zzB:List Frame:=[topFrame ⟨0,0,0,0⟩]
noncomputable abbrev zzS (T:Params->BT) (n k:Nat) (w:World) (os:Ju):SharedT:=⟨T w.params,n,zW,#[],⟨0,0,0,0⟩,k,os⟩
theorem EZ (w:World) (os:Ju):topGo JB PySem.Challenge.pw_seekhall_k04_sound_halls w 11 (some (.ref 6)) 12 ⟨JR w.params,#[],boot_drawn,boot_toks,os⟩ (topStub PySem.Challenge.pw_seekhall_k04_sound_halls)=some ((zzS zI 15 187 w os).abs,⟨denote JB lN,lN,⟨0,0,0,0⟩,zzB⟩):=by kernel_rfl
theorem EM (w:World) (os:Ju):segRun JB PySem.Challenge.pw_seekhall_k04_sound_halls w 11 (some (.ref 6)) 1 1 (zzS zI 15 187 w os).abs (blockOf uH oK lN ⟨0,0,0,0⟩ zzB)=some (.next,(zzS zI 15 187 w os).abs,lN,⟨0,0,0,0⟩):=by kernel_rfl
def Gd (b:Bool):Prop:=∀(F:World) (os:Ju),let w:=F.withFollow "special-get-raises" b;segRunT JB PySem.Challenge.pw_seekhall_k04_sound_halls w 11 (some (.ref 6)) 1 2125 (zzS zI 15 187 w os) (piecesOf (uH.take 45) oK lN ⟨0,0,0,0⟩ zzB)=some (.next,zzS DY 273 528 w os,lN,⟨90,0,92,59⟩)
theorem Er:Gd false:=by intro w os w;kernel_rfl
theorem Gq:Gd true:=by intro w os w;kernel_rfl
theorem GG (w:World) (os:Ju):segRunT JB PySem.Challenge.pw_seekhall_k04_sound_halls w 11 (some (.ref 6)) 1 871 (zzS DY 273 528 w os) (piecesOf (uH.drop 45) oK lN ⟨90,0,92,59⟩ zzB)=some (.next,zzS GA 451 779 w os,lN,⟨292,0,327,45⟩):=by kernel_rfl
noncomputable def lK (P:Params):Heap:=⟨⟨Ex P⟩,zW⟩
theorem EW (w:World) (os:Ju):topRun JB PySem.Challenge.pw_seekhall_k04_sound_halls w 11 (some (.ref 6)) 2 (zzS GA 451 779 w os).abs ⟨doneF .next,lN,⟨292,0,327,45⟩,zzB⟩=some ⟨lK w.params,#[],⟨0,0,0,0⟩,779,os⟩:=by kernel_rfl
theorem EQ (w:World) (os:Ju):topRun JB PySem.Challenge.pw_seekhall_k04_sound_halls w 11 (some (.ref 6)) (12+(1+(2125+(871+2)))) ⟨JR w.params,#[],boot_drawn,boot_toks,os⟩ (topStub PySem.Challenge.pw_seekhall_k04_sound_halls)=some ⟨lK w.params,#[],⟨0,0,0,0⟩,779,os⟩ :=
 go_top (EZ w os) (piece_block (EM w os) (show topRun JB PySem.Challenge.pw_seekhall_k04_sound_halls w 11 (some (.ref 6)) _ _ (restOf (uH.take 45++(uH.drop 45++[])) oK lN ⟨0,0,0,0⟩ zzB)=_ from
  piece_app (segRun_of (byRow2 "special-get-raises" (P:=λw=>segRunT JB PySem.Challenge.pw_seekhall_k04_sound_halls w 11 (some (.ref 6)) 1 2125 (zzS zI 15 187 w os) (piecesOf (uH.take 45) oK lN ⟨0,0,0,0⟩ zzB)=some (.next,zzS DY 273 528 w os,lN,⟨90,0,92,59⟩)) (λw=>Er w os) (λw=>Gq w os) w)) (piece_app (segRun_of (GG w os)) (EW w os))))
theorem Gz (w:World) (os:Ju):(staticsOk (JN PySem.Challenge.pw_seekhall_k04_sound_halls.main.body) (JR w.params) (lK w.params) && namesBound PySem.Challenge.pw_seekhall_k04_sound_halls (lK w.params) && gensDone ⟨lK w.params,#[],⟨0,0,0,0⟩,779,os⟩ && laidKept (JR w.params) (lK w.params))=true:=by kernel_rfl
theorem EJ (w:World) (os:Ju):(openSeen gC [d_ "PLAIN_FORMS"] (JN PySem.Challenge.pw_seekhall_k04_sound_halls.main.body) hX true ⟨lK w.params,#[],⟨0,0,0,0⟩,779,os⟩).1=(openGood gC [d_ "PLAIN_FORMS"]).1:=by kernel_rfl
theorem ER (w:World) (os:Ju):((openSeen gC [d_ "PLAIN_FORMS"] (JN PySem.Challenge.pw_seekhall_k04_sound_halls.main.body) hX true ⟨lK w.params,#[],⟨0,0,0,0⟩,779,os⟩).2.1,(openSeen gC [d_ "PLAIN_FORMS"] (JN PySem.Challenge.pw_seekhall_k04_sound_halls.main.body) hX true ⟨lK w.params,#[],⟨0,0,0,0⟩,779,os⟩).2.2.1)=((openGood gC [d_ "PLAIN_FORMS"]).2.1,(openGood gC [d_ "PLAIN_FORMS"]).2.2.1):=by kernel_rfl
theorem Gp (w:World) (os:Ju):(openSeen gC [d_ "PLAIN_FORMS"] (JN PySem.Challenge.pw_seekhall_k04_sound_halls.main.body) hX true ⟨lK w.params,#[],⟨0,0,0,0⟩,779,os⟩).2.2.2=(openGood gC [d_ "PLAIN_FORMS"]).2.2.2:=by kernel_rfl
theorem EA (w:World) (os:Ju):Hook.obs hK ⟨lK w.params,#[],⟨0,0,0,0⟩,779,os⟩=Hook.val hK w:=by kernel_rfl
theorem Hk:opening PySem.Challenge.pw_seekhall_k04_sound_halls=plainProg PySem.Challenge.pw_seekhall_k04_sound_halls.main.scope.names:=by kernel_rfl
theorem Hv (s:Shared):fenceModules? PySem.Challenge.pw_seekhall_k04_sound_halls s=some s:=by kernel_rfl
theorem GP (w:World):((JR w.params).isNs i_ && (#[]:Array GenState).size == 0,(JR w.params).objs.size,(JR w.params).nsMap i_ "__annotations__")=(true,11,some (.ref 6)):=by kernel_rfl
theorem hl:LeftO PySem.Challenge.pw_seekhall_k04_sound_halls gC [d_ "PLAIN_FORMS"] hX (Hook.obs hK) (Hook.val hK) 15200 :=
 LeftO.of_pieces (H₀:=JR) (H₁:=lK) (boot_open Hk rfl Hv) GP EQ (by decide+kernel) (λw=>funext λos=>looks_pair (Gz w os) (Gn (EJ w os) (ER w os) (Gp w os) (EA w os)))
theorem wsd:PySem.W.OpenLaw.wellSaid PySem.Challenge.rw_seekhall_k04_sound_halls=true:=by kernel_rfl
end Lw
namespace L2
open PySem PySem.Spec PyProof.Rows
abbrev Key:=Sum Int Str
def hZ:Key->Value->Bool
 | .inl k,v=>Value.isInt k v
 | .inr x,v=>Value.isStrOf x v
def EO (w:World):Key->Int
 | .inl k=>hashInt k
 | .inr x=>hashStr w x
theorem bE : ∀{k:Key} {v:Value},hZ k v=true->(∃i t,k=JS i/\v=JC i t)\/(∃x t,k=h9 x/\v=Value.str x t)
 | .inl i,v,h=>by
  obtain⟨t,e⟩:=Value.isInt_shape (k:=i) (v:=v) h;exact .inl ⟨i,t,rfl,e⟩
 | .inr x,v,h=>by
  obtain⟨t,e⟩:=Value.isStrOf_shape (x:=x) (v:=v) h;exact .inr ⟨x,t,rfl,e⟩
theorem xx (i:Int) (t:Tok):hZ (.inl i) (.int i t)=true:=by simp[hZ,Value.isInt]
theorem iG (x:Str) (t:Tok):hZ (.inr x) (.str x t)=true:=by simp[hZ,Value.isStrOf]
theorem DG (a b:Int):decide ((JS a:Key)=JS b)=(a == b):=by
 by_cases e:a=b
 .subst e;simp
 .have h : ¬ (JS a:Key)=JS b:=λq=>e (Sum.inl.inj q)
  rw[decide_eq_false h];exact(beq_eq_false_iff_ne.mpr e).symm
theorem Eb (a b:Str):decide ((h9 a:Key)=h9 b)=decide (a=b):=by
 by_cases e:a=b
 .subst e;simp
 .have h : ¬ (h9 a:Key)=h9 b:=λq=>e (Sum.inr.inj q)
  rw[decide_eq_false h,decide_eq_false e]
theorem Ei (a:Int) (b:Str):decide ((JS a:Key)=h9 b)=false:=decide_eq_false (λq=>nomatch q)
theorem CZ (a:Str) (b:Int):decide ((h9 a:Key)=JS b)=false:=decide_eq_false (λq=>nomatch q)
def aR (prog:Program) (w:World):PySem.KeyKind prog w Key where
 is:=hZ
 hash:=EO w
 inj := λv a b U L=>by
  rcases bE U with⟨i,t,rfl,rfl⟩ | ⟨x,t,rfl,rfl⟩
  .rcases bE L with⟨j,u,rfl,e⟩ | ⟨y,u,rfl,e⟩
   .injection e with e1 _;rw[e1]
   .exact nomatch e
  .rcases bE L with⟨j,u,rfl,e⟩ | ⟨y,u,rfl,e⟩
   .exact nomatch e
   .injection e with e1 _;rw[e1]
 byValue:=λk v h=>by
  rcases bE h with⟨i,t,rfl,rfl⟩ | ⟨x,t,rfl,rfl⟩ <;> rfl
 pyHash:=λF h=>by
  rcases bE F with⟨i,t,rfl,rfl⟩ | ⟨x,t,rfl,rfl⟩
  .exact wpAny_pyHash_int h
  .exact wpAny_pyHash_str h
 eqBool:=λhu F h=>by
  rcases bE hu with⟨i,t,rfl,rfl⟩ | ⟨x,t,rfl,rfl⟩
  .rcases bE F with⟨j,u,rfl,rfl⟩ | ⟨y,u,rfl,rfl⟩
   .rw[DG] at h;exact wpAny_eqBool_int h
   .rw[Ei] at h;exact SeqAt.EqAt.int_str i t y u _ _ _ _ h
  .rcases bE F with⟨j,u,rfl,rfl⟩ | ⟨y,u,rfl,rfl⟩
   .rw[CZ] at h;exact SeqAt.EqAt.str_int x t j u _ _ _ _ h
   .rw[Eb] at h;exact wpAny_eqBool_str h
 «strs» := λk x t v h=>by
  rcases bE h with⟨i,u,rfl,e⟩ | ⟨y,u,rfl,e⟩
  .exact nomatch e
  .injection e with e1 _
   subst e1
   cases v <;> rfl
theorem vg (prog:Program) (w:World) (k:Key) (v:Value):(aR prog w).is k v=hZ k v:=rfl
theorem sQ (prog:Program) (w:World) (i:Int) (t:Tok):(aR prog w).is (.inl i) (.int i t)=true:=xx i t
theorem re (prog:Program) (w:World) (x:Str) (t:Tok):(aR prog w).is (.inr x) (.str x t)=true:=iG x t
inductive V where
 | non | bl (b:Bool) | int (i:Int) | str (x:Str) | byt (b:Array UInt8) | flt (b:UInt64) | ref (a:Addr) | ty (n:String)
 deriving DecidableEq
def aT:V->Value->Prop
 | .non,u=>u=v_
 | .bl b,u=>u=Value.bool b
 | .int i,u=>∃t,u=JC i t
 | .str x,u=>∃t,u=Value.str x t
 | .byt b,u=>∃t,u=Value.bytes b t
 | .flt b,u=>∃t,u=Value.float b t
 | .ref a,u=>u=i8 a
 | .ty n,u=>u=HP n
abbrev aO:List V->List Value->Prop:=Paired aT
theorem aO.length {xs:List V} {us:List Value} (r:aO xs us):xs.length=us.length:=Paired.length r
theorem aO.get : ∀{xs:List V} {us:List Value} {i:Nat} {x:V},aO xs us->xs[i]? = some x->∃u,us[i]? = some u/\aT x u
 | _,_,_,_,.nil,e=>by simp at e
 | _,_,0,_,.cons r _,e=>by simp at e;subst e;exact⟨_,rfl,r⟩
 | _,_,i+1,x,.cons _ t,e=>by
  obtain⟨u,h1,h2⟩:=aO.get (i:=i) (x:=x) t (by simpa using e)
  exact⟨u,by simpa using h1,h2⟩
theorem aO.set {x:V} {u:Value} (r:aT x u) : ∀{xs:List V} {us:List Value} (i:Nat),aO xs us->aO (xs.set i x) (us.set i u)
 | _,_,_,.nil=>.nil
 | _,_,0,.cons _ t=>.cons r t
 | _,_,i+1,.cons q t=>.cons q (aO.set r i t)
theorem aO.append : ∀{xs ys:List V} {us ws:List Value},aO xs us->aO ys ws->aO (xs++ys) (us++ws)
 | _,_,_,_,.nil,s=>s
 | _,_,_,_,.cons r t,s=>.cons r (aO.append t s)
theorem aO.take : ∀{xs:List V} {us:List Value} (n:Nat),aO xs us->aO (xs.take n) (us.take n)
 | _,_,0,_=>.nil
 | _,_,_+1,.nil=>.nil
 | _,_,n+1,.cons r t=>.cons r (aO.take n t)
theorem aO.drop : ∀{xs:List V} {us:List Value} (n:Nat),aO xs us->aO (xs.drop n) (us.drop n)
 | _,_,0,r=>r
 | _,_,_+1,.nil=>.nil
 | _,_,n+1,.cons _ t=>aO.drop n t
def gG:Option V->Option Value->Prop
 | some v,some u=>aT v u
 | none,none=>True
 | _,_=>False
def KV {κ:Type}:List (κ × V)->List (κ × Value)->Prop:=Paired λ(p:κ × V) (q:κ × Value)=>p.1=q.1/\aT p.2 q.2
def kV:Key->V
 | .inl i=>.int i
 | .inr x=>.str x
inductive HO where
 | lst (xs:List V)
 | tup (xs:List V)
 | dK (kvs:List (Key × V)) | dT (kvs:List (List Key × V))
 | set (S:Int->Bool) (n:Nat)
 | ins (C dx:Addr) (fs:List (Str × V))
 | own (x:Addr)
 | xd (fs:List (Str × V))
 | met (f x:Addr)
 | rng (lo hi:Int)
 | frz (o:Obj) (u:HO)
 | tbl (ps:Array Value)
 | tab (q:Str)
 | ext (φ:Heap->Prop)
abbrev Hp:=Addr->Option HO
def upd (H:Hp) (a:Addr) (o:HO):Hp:=λb=>if b=a then some o else H b
theorem ae {H:Hp} {o:HO}:upd H a o a=some o:=by unfold upd;rw[if_pos rfl]
theorem ah {H:Hp} {o:HO} (h:b≠a):upd H a o b=H b:=by unfold upd;rw[if_neg h]
theorem eV {H:Hp} {o u:HO} (h:H a=some o) (h':H b=some u) (d:o≠u):a≠b:=by
 intro e;subst e;rw[h] at h';exact d (j9 h')
theorem aj {H:Hp} {o:HO} (h:H a=some o) (h':H b=none):a≠b:=by
 intro e;subst e;rw[h] at h';cases h'
section
variable (P:Program) (w:World)
def su (o:Obj) (q:Str):Prop:=∃vs t,o.data = .fields vs/\vs[1]? = some (.str q t)
def aX (H:Hp) (h:Heap) (a:Addr):HO->Prop
 | .lst xs=>xs.length<=g_/\∃(its:List Value) (n:Nat),aO xs its/\h.get? a=some { cls:=.type "list",data:=.seq its.toArray n }
 | .tup xs=>xs.length<=g_/\∃its:List Value,aO xs its/\IsTup h a its.toArray
 | .dK kvs=>kvs.length<=g_/\(a == HZ)=false/\∃vs,KV kvs vs/\h.DictOf (aR P w) a vs
 | .dT kvs=>kvs.length<=g_/\(a == HZ)=false/\∃xs:List (List Key × Addr × Value),
   Paired (λ(p:List Key × V) (q:List Key × Addr × Value)=>p.1=q.1/\H q.2.1>>(p.1.map kV)/\aT p.2 q.2.2) kvs xs /\
   ∃o es ep,h.get? a=some o/\o.ExactDict/\o.data = .dict es ep/\es.toList=xs.map (entryOfKey (tupleKind (aR P w)))/\(xs.map (·.1)).Nodup
 | .set S n=>h.SetOf (intKind P w) a S n
 | .ins C dx fs=>H dx=some (.own a)/\fs.length<=1000/\dx≠a/\h.get? a=some (instObj C dx) /\
   ∃mA,h.Ns1 dx mA/\(∀f,gG (fs.lookup f) (mA f))/\Jv mA (fs.map (·.1))
 | .own _=>∃o,h.get? a=some o
 | .xd fs=>∃mA,h.Ns1 a mA/\∀f,gG (fs.lookup f) (mA f)
 | .rng lo hi=>∃t u v,h.get? a=some { cls:=.type "range",data:=.fields #[.int lo t,.int hi u,.int 1 v] }
 | .frz o u=>h.get? a=some o/\aX H h a u
 | .tbl ps=>h.get? a=some { cls:=.none,data:=.fields ps }
 | .tab q=>∃ps:Array Value,h.get? a=some { cls:=.none,data:=.fields ps }/\TriplesOk ps.toList/\∀pos L,Jd pos ps.toList=some L->∃c oc,L=i8 c/\c≠a/\H c=some (.frz oc (.own a))/\su oc q
 | .met f x=>h.get? a=some (methodObj (.ref f) (.ref x))
 | .ext F=>F h/\(∃o,h.get? a=some o)/\∀h1 h2:Heap,F h1->(∀o,h1.get? a=some o->h2.get? a=some o)->F h2
def HOk (H:Hp) (h:Heap):Prop:=∀a o,H a=some o->aX P w H h a o
end
section
variable {H H':Hp} {o:HO}
theorem aX.lt (x:aX P w H h a o):a < h.objs.size:=by
 cases o with
 | lst xs=>obtain⟨_,_,_,_,e⟩:=x;exact fy e
 | tup xs=>obtain⟨_,_,_,p⟩:=x;exact p.lt
 | dK kvs=>obtain⟨_,_,_,_,o,_,_,e,_⟩:=x;exact fy e
 | dT kvs=>obtain⟨_,_,_,_,o,_,_,e,_⟩:=x;exact fy e
 | set S n=>obtain⟨o,_,_,_,e,_⟩:=x;exact fy e
 | ins C dx fs=>obtain⟨_,_,_,e,_⟩:=x;exact fy e
 | own y=>obtain⟨_,e⟩:=x;exact fy e
 | xd fs=>obtain⟨_,⟨_,_,_,e,_⟩,_⟩:=x;exact fy e
 | rng lo hi=>obtain⟨_,_,_,e⟩:=x;exact fy e
 | frz ob u=>obtain⟨e,_⟩:=x;exact fy e
 | tbl ps=>exact fy (show h.get? a=some _ from x)
 | tab q=>obtain⟨_,e,_⟩:=x;exact fy e
 | met f y=>exact fy (show h.get? a=some _ from x)
 | ext F=>obtain⟨_,⟨_,e⟩,_⟩:=x;exact fy e
theorem Paired.mapP {α β:Type} {F G:α->β->Prop} : ∀{U:List α} {L:List β},Paired F U L->(∀a b,F a b->G a b)->Paired G U L
 | _,_,.nil,_=>.nil
 | _,_,.cons r t,f=>.cons (f _ _ r) (Paired.mapP t f)
theorem aX.stay (x:aX P w H h a o) (k : ∀b u,(b=a\/H b=some (.own a))->h.get? b=some u->h'.get? b=some u)
  (ho : ∀b,H b=some (.own a)->H' b=some (.own a)) (U : ∀b xs,H b>>xs->H' b>>xs) (hz : ∀b o y,H b=some (.frz o (.own y))->H' b=some (.frz o (.own y)):=by exact λ_ _ _ q=>q):aX P w H' h' a o:=by
 induction o with
 | lst xs=>obtain⟨z,its,n,r,e⟩:=x;exact⟨z,its,n,r,k _ _ (.inl rfl) e⟩
 | tup xs=>obtain⟨z,its,r,ob,e,c⟩:=x;exact⟨z,its,r,ob,k _ _ (.inl rfl) e,c⟩
 | dK kvs=>obtain⟨z,y,vs,r,ob,es,ep,e,c⟩:=x;exact⟨z,y,vs,r,ob,es,ep,k _ _ (.inl rfl) e,c⟩
 | dT kvs =>
  obtain⟨z,y,xs,r,ob,es,ep,e,c⟩:=x;exact⟨z,y,xs,Paired.mapP r λp q z=>⟨z.1,U _ _ z.2.1,z.2.2⟩,ob,es,ep,k _ _ (.inl rfl) e,c⟩
 | set S n=>obtain⟨ob,es,ep,t,e,c⟩:=x;exact⟨ob,es,ep,t,k _ _ (.inl rfl) e,c⟩
 | ins C dx fs =>
  obtain⟨d,z,ne,e,mA,⟨od,es,ep,e2,c⟩,r⟩:=x;exact⟨ho _ d,z,ne,k _ _ (.inl rfl) e,mA,⟨od,es,ep,k _ _ (.inr d) e2,c⟩,r⟩
 | own y=>obtain⟨ob,e⟩:=x;exact⟨ob,k _ _ (.inl rfl) e⟩
 | xd fs=>obtain⟨mA,⟨od,es,ep,e,c⟩,r⟩:=x;exact⟨mA,⟨od,es,ep,k _ _ (.inl rfl) e,c⟩,r⟩
 | rng lo hi=>obtain⟨t,u,v,e⟩:=x;exact⟨t,u,v,k _ _ (.inl rfl) e⟩
 | frz ob u Z=>obtain⟨e,q⟩:=x;exact⟨k _ _ (.inl rfl) e,Z q⟩
 | tbl ps =>
  have e:h.get? a=some { cls:=.none,data:=.fields ps }:=x
  show h'.get? a=some { cls:=.none,data:=.fields ps }
  exact k a _ (.inl rfl) e
 | tab q =>
  obtain⟨ps,e,t,L⟩:=x;refine⟨ps,k _ _ (.inl rfl) e,t,λpos cv z=>?_⟩
  obtain⟨c,oc,ec,ne,hw,F⟩:=L pos cv z;exact⟨c,oc,ec,ne,hz _ _ _ hw,F⟩
 | met f y =>
  have e:h.get? a=some (methodObj (.ref f) (.ref y)):=x
  show h'.get? a=some (methodObj (.ref f) (.ref y))
  exact k a _ (.inl rfl) e
 | ext φ=>obtain⟨p,⟨o,e⟩,st⟩:=x;exact⟨st _ _ p λo q=>k _ _ (.inl rfl) q,⟨o,k _ _ (.inl rfl) e⟩,st⟩
theorem HOk.lt (x:HOk P w H h) (e:H a=some o):a < h.objs.size:=(x a o e).lt
theorem HOk.fresh (x:HOk P w H h) (e:h.objs.size<=a):H a=none:=by
 cases q:H a with
 | none=>rfl
 | some u=>exact absurd (j8 (x.lt q) e) (w4 _)
theorem HOk.kept (x:HOk P w H h) (k : ∀b u,h.get? b=some u->h'.get? b=some u):HOk P w H h':=λa o e =>
 (x a o e).stay (λb u _ q=>k b u q) (λ_ q=>q) λ_ _ q=>q
theorem HOk.laid (x:HOk P w H h) (k : ∀b u,h.get? b=some u->h'.get? b=some u) (hp:h.objs.size<=a) (new:aX P w (upd H a o) h' a o):HOk P w (upd H a o) h':=λb u e=>by
 have F:=x.fresh hp
 by_cases L:b=a
 .subst L;rw[ae] at e;cases e;exact new
 .rw[ah L] at e
  exact(x b u e).stay (λc v _ q=>k c v q) (λc q=>by rw[ah (aj q F)];exact q) (λc xs q=>by rw[ah (aj q F)];exact q) λc _ _ q=>by rw[ah (aj q F)];exact q
end
def Rd (H:Hp) (a:Addr) (u:HO):Prop:=H a=some u\/∃o,H a=some (.frz o u)
theorem Rd.ok {H:Hp} {u:HO} (r:Rd H a u) (x:HOk P w H h):aX P w H h a u:=by
 rcases r with r | ⟨o,r⟩
 .exact x a u r
 .obtain⟨_,q⟩:=x a _ r
  exact q
def Mut:Option HO->Prop
 | some (.lst _)=>True
 | some (.dK _)=>True
 | some (.dT _)=>True
 | some (.set _ _)=>True
 | some (.ins _ _ _)=>True
 | some (.ext _)=>True
 | some (.tab _)=>True
 | _=>False
section
variable {H:Hp} {x e:Addr} {o':HO}
theorem HOk.write (ok:HOk P w H h) (U:Mut (H x)) (he:e=x\/H e=some (.own x)) (k : ∀b u,b≠e->h.get? b=some u->h'.get? b=some u) (aa : ∃u,h'.get? e=some u)
  (new:aX P w (upd H x o') h' x o'):HOk P w (upd H x o') h':=λb u q=>by
 have L : ∀c y,H c=some (.own y)->c≠x:=λc y r z=>by subst z;rw[r] at U;exact U
 have Z : ∀c xs,H c>>xs->c≠x:=λc xs r z=>by subst z;rw[r] at U;exact U
 by_cases hb:b=x
 .subst hb;rw[ae] at q;cases q;exact new
 .rw[ah hb] at q
  by_cases F:b=e
  .have q':H b=some (.own x):=by
    rcases he with z | z
    .exact absurd (F.trans z) hb
    .rw[F];exact z
   rw[q] at q';cases q';obtain⟨v,hv⟩:=aa;exact⟨v,by rw[F];exact hv⟩
  .refine(ok b u q).stay (λc v hc r=>k c v ?_ r) (λc r=>by rw[ah (L c b r)];exact r) (λc xs r=>by rw[ah (Z c xs r)];exact r) λc _ _ r=>by rw[ah (λz=>by subst z;rw[r] at U;exact U)];exact r
   rcases hc with rfl | hc
   .exact F
   .rintro rfl
    rcases he with z | z
    .exact L c b hc z
    .rw[hc] at z;cases z;exact hb rfl
end
structure Un (fs ex:List Addr) (H H':Hp) (h h':Heap):Prop where
 keep : ∀b o,h.get? b=some o->H b=none->b∉fs->b∉ex->h'.get? b=some o
 slot : ∀b o,h.get? b=some o->H b=none->b∈fs->b∉ex->∃sl,h'.get? b=some { o with slots:=sl }
 free : ∀b o,h.get? b=some o->H b=none->b∉ex->H' b=none
 there : ∀b o,h.get? b=some o->b∉ex->∃o',h'.get? b=some o'
 tups : ∀b xs,H b>>xs->H' b>>xs
 frzs : ∀b o u,H b=some (.frz o u)->H' b=some (.frz o u)
 tbls : ∀b ps,H b=some (.tbl ps)->∃more,H' b=some (.tbl (ps++more))
section
variable {fs fs' ex ex':List Addr} {H H1 H2:Hp} {h1 h2:Heap} {x e:Addr} {o:HO}
theorem Un.any (u:Un fs ex H H1 h h1) {b:Addr} {ob:Obj} (q:h.get? b=some ob) (n:H b=none) (L:b∉ex) : ∃sl,h1.get? b=some { ob with slots:=sl }:=by
 by_cases F:b∈fs
 .exact u.slot b ob q n F L
 .exact⟨ob.slots,u.keep b ob q n F L⟩
theorem Un.kept (k : ∀b u,h.get? b=some u->h'.get? b=some u):Un fs ex H H h h' :=
 ⟨λb ob q _ _ _=>k b ob q,λb ob q _ _ _=>⟨ob.slots,k b ob q⟩,λ_ _ _ n _=>n,λb ob q _=>⟨ob,k b ob q⟩,λ_ _ q=>q,λ_ _ _ q=>q,λ_ ps q=>⟨#[],by rw[q];simp⟩⟩
theorem Un.refl:Un fs ex H H h h:=Un.kept λ_ _ q=>q
theorem Un.laid (k : ∀b u,h.get? b=some u->h'.get? b=some u) (hp:h.objs.size<=a) (F:H a=none):Un fs ex H (upd H a o) h h' where
 keep:=λb u q _ _ _=>k b u q
 slot:=λb u q _ _ _=>⟨u.slots,k b u q⟩
 free:=λb u q n _=>by rw[ah (kf (j8 (fy q) hp))];exact n
 there:=λb u q _=>⟨u,k b u q⟩
 tups:=λb xs q=>by rw[ah (aj q F)];exact q
 frzs:=λb u xs q=>by rw[ah (aj q F)];exact q
 tbls:=λb ps q=>⟨#[],by rw[ah (aj q F),q];simp⟩
theorem Un.write (L:Mut (H x)) (he:e=x\/H e=some (.own x)) (k : ∀b u,b≠e->h.get? b=some u->h'.get? b=some u) (U : ∃u,h'.get? e=some u):Un fs ex H (upd H x o) h h':=by
 have hx : ∀b,H b=none->b≠x:=λb n z=>by subst z;rw[n] at L;exact L
 have hb : ∀b,H b=none->b≠e:=λb n z=>by
  subst z;rcases he with r | r
  .exact hx b n r
  .rw[n] at r;cases r
 have Z : ∀b u,H b=some u->¬ Mut (some u)->b≠x:=λb u q nm z=>by subst z;rw[q] at L;exact nm L
 refine⟨λb u q n _ _=>k b u (hb b n) q,λb u q n _ _=>⟨u.slots,k b u (hb b n) q⟩,λb u q n _=>by rw[ah (hx b n)];exact n,λb u q _=>?_,
  λb xs q=>by rw[ah (Z b _ q λz=>z)];exact q,λb u xs q=>by rw[ah (Z b _ q λz=>z)];exact q,λb ps q=>⟨#[],by rw[ah (Z b _ q λz=>z),q];simp⟩⟩
 by_cases F:b=e
 .subst F;exact U
 .exact⟨u,k b u F q⟩
end
def trk (h:Heap) (H:Hp):List Addr:=(range h.objs.size).filter λa=>(H a).isSome
def og (h:Heap) (H:Hp):Heap:=hideAll h (trk h H)
theorem wN (h:Heap) (H:Hp):(og h H).objs.size=h.objs.size:=hideAll_size _ _
theorem zp {H:Hp} {o:Obj} (e:h.get? b=some o) (n:H b=none):(og h H).get? b=some o :=
 hideAll_get _ e λF=>by
  have q:(H b).isSome=true:=(mem_filter.mp F).2
  rw[n] at q;simp at q
theorem A1 {H:Hp} {o:Obj} (e:(og h H).get? b=some o):h.get? b=some o/\H b=none:=by
 have F:h.get? b=some o:=of_hideAll (trk h H) e
 refine⟨F,?_⟩
 cases q:H b with
 | none=>rfl
 | some x =>
  have L:b∈trk h H:=mem_filter.mpr ⟨x5.mpr (fy F),by simp[q]⟩
  have z:(og h H).get? b=none:=hideAll_none (trk h H) L
  rw[z] at e;cases e
structure Mod (K:e_) (mg:Str->Option Value) (base:Heap):Prop where
 kin:K.In base
 glob:base.Ns i_ mg
 blt : ∃mb,base.Ns builtinsNs mb/\∀x:Str,x ≠ "__name__" -> mb x=G_ x
 nolimit:base.NoLimit
structure Cx where
 prog:Program
 w:World
 K:e_
 mg:Str->Option Value
 base:Heap
 A:Around
 N:List Str
 s₀:Shared
 H₀:Hp
 env:Env
 outer:List Env
 stack:List Env
 ex:List Addr
 fn:Str->Bool
 calm:Bool
 pn:List (Addr × Obj)
 xe:Value->Shared->Prop
def frs (l:List Env):List Addr:=l.filterMap (·.frame)
abbrev Cx.fs (X:Cx):List Addr:=frs X.outer
def Vis (sc:Scope) (x:Str):Prop:=sc.names.lookup x=some .local\/sc.names.lookup x=some .cell\/sc.names.lookup x=some .free
def Loc (sc:Scope) (x:Str):Prop:=sc.names.lookup x=some .local\/sc.names.lookup x=some .cell
def Hf (env:Env) (h:Heap) (m:Str->Option Value) (x:Str) (u:Value):Prop :=
 (env.kindOf x=some .local/\m x=some u)\/((env.kindOf x=some .cell\/env.kindOf x=some .free)/\∃c,env.cells.lookup x=some c/\h.IsCell c (some u))
structure Cx.Ok (X:Cx):Prop where
 mod:Mod X.K X.mg X.base
 kind:X.env.scope.kind = .function
 glob:X.env.globals=i_
 blt:X.env.builtins=builtinsNs
 above:X.s₀.heap.objs.size<=X.env.locals
 inj : ∀x y c,X.env.cells.lookup x=some c->X.env.cells.lookup y=some c->x=y
 has : ∀x,(X.env.kindOf x=some .cell\/X.env.kindOf x=some .free)->∃c,X.env.cells.lookup x=some c
 cab : ∀x c,X.fn x=true->X.env.cells.lookup x=some c->X.s₀.heap.objs.size<=c
 hd:X.calm=true->X.A.handled=none
 frames:X.A.frames=some X.stack
 stk:X.stack=X.outer\/(X.stack=X.env :: X.outer/\X.env.frame=some X.env.locals)
 exf : ∀b∈X.ex,b≠X.env.locals/\∀x c,X.env.cells.lookup x=some c->c≠b
 bs : ∀b o,X.base.get? b=some o->X.s₀.heap.get? b=some o/\X.H₀ b=none
 bsz:X.base.objs.size<=X.s₀.heap.objs.size
 noex : ∀b o,X.base.get? b=some o->b∉X.ex
 exfs : ∀b∈X.ex,b∉X.fs
 funs:X.s₀.heap.FunFrames X.base X.outer
 frf : ∀b∈X.fs,X.H₀ b=none
structure Inv (X:Cx) (pins:List (Addr × Obj)) (σ:List (Option V)) (H:Hp) (s:Shared):Prop where
 ok:X.Ok
 os:s.os=X.s₀.os
 bare:AllBare s.gens
 base:Un X.fs X.ex X.H₀ H X.s₀.heap s.heap
 loc : ∃m,s.heap.Ns X.env.locals m/\∀(i:Nat) (x:Str) (v:V),X.N[i]? = some x->σ[i]? = some (some v)->Vis X.env.scope x->∃u,aT v u/\Hf X.env s.heap m x u
 cell : ∀x c,X.env.cells.lookup x=some c->∃v,s.heap.IsCell c v
 free:H X.env.locals=none
 freeC : ∀x c,X.env.cells.lookup x=some c->H c=none
 pin : ∀p∈X.pn++pins,s.heap.get? p.1=some p.2/\H p.1=none/\p.1≠X.env.locals/\p.1∉X.fs/\∀v,p.2.data≠.cell v
 hok:HOk X.prog X.w H s.heap
 len:σ.length=X.N.length
section
variable {X:Cx} {σ:List (Option V)} {H H':Hp}
theorem Cx.Ok.nofr (ok:X.Ok) {b:Addr} {o:Obj} (e:X.base.get? b=some o):b∉X.fs:=λF=>by
 have:=(ok.funs.mem F).1
 rw[e] at this;cases this
theorem Inv.bs (I:Inv X pins σ H s) : ∀b o,X.base.get? b=some o->s.heap.get? b=some o/\H b=none:=λb o e =>
 ⟨I.base.keep b o (I.ok.bs b o e).1 (I.ok.bs b o e).2 (I.ok.nofr e) (I.ok.noex b o e),I.base.free b o (I.ok.bs b o e).1 (I.ok.bs b o e).2 (I.ok.noex b o e)⟩
theorem Inv.bk (I:Inv X pins σ H s) : ∀b o,X.base.get? b=some o->s.heap.get? b=some o:=λb o e=>(I.bs b o e).1
theorem Inv.mod (I:Inv X pins σ H s):Mod X.K X.mg X.base:=I.ok.mod
theorem Inv.kIn (I:Inv X pins σ H s):X.K.In s.heap:=I.ok.mod.kin.keeps I.bk
theorem Inv.lt (I:Inv X pins σ H s):X.env.locals < s.heap.objs.size:=let ⟨_,hn,_⟩:=I.loc;hn.lt
theorem Inv.sz (I:Inv X pins σ H s):X.s₀.heap.objs.size<=s.heap.objs.size:=n_ I.ok.above (pj I.lt)
theorem Inv.nofs (I:Inv X pins σ H s) {a:Addr} (h:s.heap.objs.size<=a):a∉X.fs:=λF=>by
 obtain⟨_,o,L,_⟩:=I.ok.funs.mem F;exact absurd (j8 (fy L) (n_ I.sz h)) (w4 _)
theorem Inv.cne (I:Inv X pins σ H s) : ∀x c,X.env.cells.lookup x=some c->c≠X.env.locals:=λx c e z=>by
 obtain⟨v,o,U,Z⟩:=I.cell x c e;obtain⟨m,⟨o',es,ep,F,L,_⟩,_⟩:=I.loc;rw[z,F] at U;cases U;rw[L] at Z;cases Z
theorem Inv.funs (I:Inv X pins σ H s):s.heap.FunFrames X.base X.outer:=by
 have all : ∀(l:List Env),(∀b∈frs l,b∈X.fs)->X.s₀.heap.FunFrames X.base l->s.heap.FunFrames X.base l:=by
  intro l
  induction l with
  | nil=>intro _ _;trivial
  | cons env r ih =>
   intro hs hl;obtain⟨hk,⟨L,o,U,hn,ho,hd⟩,hr⟩:=hl;have F:L∈X.fs:=hs L (by unfold frs;rw[E_,U];exact m9)
   obtain⟨sl,e⟩:=I.base.slot L o ho (I.ok.frf L F) F λz=>I.ok.exfs L z F
   exact⟨hk,⟨L,_,U,hn,e,hd⟩,ih (λb Z=>hs b (by unfold frs;rw[E_,U];exact la _ Z)) hr⟩
 exact all X.outer (λ_ Z=>Z) I.ok.funs
theorem Inv.stack (I:Inv X pins σ H s):s.heap.FunFrames X.base X.stack:=by
 rcases I.ok.stk with e | ⟨e,hf⟩
 .rw[e];exact I.funs
 .rw[e]
  obtain⟨m,F,_⟩:=I.loc;refine .cons (by rw[I.ok.kind];decide) hf F ?_ I.funs
  exact Heap.get?_none_of_le (n_ I.ok.bsz I.ok.above)
theorem Inv.stkSub (I:Inv X pins σ H s) : ∀b∈frs X.stack,b∈X.env.locals :: X.fs:=λb F=>by
 rcases I.ok.stk with e | ⟨e,hf⟩
 .rw[e] at F;exact la _ F
 .rw[e] at F
  unfold frs at F;rw[E_,hf] at F;exact F
theorem Inv.stkFree (I:Inv X pins σ H s) : ∀b∈frs X.stack,H b=none:=λb F=>by
 rcases i4.mp (I.stkSub b F) with e | F
 .rw[e];exact I.free
 .obtain⟨_,o,ho,_⟩:=I.ok.funs.mem F
  exact I.base.free b o ho (I.ok.frf b F) λz=>I.ok.exfs b z F
theorem Inv.step {g':Array GenState} (I:Inv X pins σ H s)
  (U : ∀b∈ch,(b∈X.ex\/X.s₀.heap.objs.size<=b)/\b≠X.env.locals/\(∀x c,X.env.cells.lookup x=some c->c≠b)/\∀p∈X.pn++pins,p.1≠b)
  (keep : ∀b o,b≠X.env.locals->b∉X.fs->b∉ch->s.heap.get? b=some o->H b=none->h'.get? b=some o)
  (slot : ∀b o,b≠X.env.locals->b∈X.fs->b∉ch->s.heap.get? b=some o->H b=none->∃sl,h'.get? b=some { o with slots:=sl }) (free : ∀b o,b∉ch->s.heap.get? b=some o->H b=none->H' b=none)
  (there : ∀b o,b∉ch->s.heap.get? b=some o->∃o',h'.get? b=some o')
  (tups : ∀b xs,H b>>xs->H' b>>xs) (frzs : ∀b o u,H b=some (.frz o u)->H' b=some (.frz o u)) (tbls : ∀b ps,H b=some (.tbl ps)->∃more,H' b=some (.tbl (ps++more)))
  (ns : ∀m,s.heap.Ns X.env.locals m->h'.Ns X.env.locals m) (af:HOk X.prog X.w H' h') (hg:AllBare g') :
  Inv X pins σ H' { s with heap:=h',gens:=g',drawn:=d',toks:=t' }:=by
 have ac : ∀b o,X.s₀.heap.get? b=some o->b≠X.env.locals:=λb o e=>kf (j8 (fy e) I.ok.above)
 have aa : ∀b o,X.s₀.heap.get? b=some o->b∉X.ex->b∉ch:=λb o e F hb=>by
  rcases (U b hb).1 with z | z
  .exact F z
  .exact absurd (j8 (fy e) z) (w4 _)
 have L : ∀x c,X.env.cells.lookup x=some c->∀v,s.heap.IsCell c v->h'.IsCell c v:=λx c e v ⟨o,ho,hd⟩=>by
  have Z:c∉ch:=λz=>(U c z).2.2.1 x c e rfl
  by_cases hc:c∈X.fs
  .obtain⟨sl,q⟩:=slot c o (I.cne x c e) hc Z ho (I.freeC x c e)
   exact⟨_,q,hd⟩
  .exact⟨o,keep c o (I.cne x c e) hc Z ho (I.freeC x c e),hd⟩
 refine⟨I.ok,I.os,hg,⟨λb o e n hb F=>?_,λb o e n hb F=>?_,λb o e n F=>?_,λb o e F=>?_,λb xs e=>tups b xs (I.base.tups b xs e),λb o xs e=>frzs b o xs (I.base.frzs b o xs e),λb ps e=>?_⟩,?_,λx c e=>?_,?_,λx c e=>?_,λp hp=>?_,af,I.len⟩
 .exact keep b o (ac b o e) hb (aa b o e F) (I.base.keep b o e n hb F) (I.base.free b o e n F)
 .obtain⟨sl,e1⟩:=I.base.slot b o e n hb F
  obtain⟨ad,e2⟩:=slot b _ (ac b o e) hb (aa b o e F) e1 (I.base.free b o e n F);exact⟨ad,e2⟩
 .obtain⟨o',e1⟩:=I.base.there b o e F
  exact free b o' (aa b o e F) e1 (I.base.free b o e n F)
 .obtain⟨o',e1⟩:=I.base.there b o e F
  exact there b o' (aa b o e F) e1
 .obtain⟨m1,e1⟩:=I.base.tbls b ps e
  obtain⟨m2,e2⟩:=tbls b _ e1;exact⟨m1++m2,by rw[e2,Array.append_assoc]⟩
 .obtain⟨m,hn,hl⟩:=I.loc
  refine⟨m,ns m hn,λi x v e1 e2 e3=>?_⟩
  obtain⟨u,r,l⟩:=hl i x v e1 e2 e3;refine⟨u,r,?_⟩
  rcases l with l | ⟨k,c,e,z⟩
  .exact .inl l
  .exact .inr ⟨k,c,e,L x c e _ z⟩
 .obtain⟨v,z⟩:=I.cell x c e
  exact⟨v,L x c e v z⟩
 .obtain⟨m,⟨o,_,_,ho,_⟩,_⟩:=I.loc
  exact free _ o (λz=>(U _ z).2.1 rfl) ho I.free
 .obtain⟨v,o,ho,hd⟩:=I.cell x c e
  exact free c o (λz=>(U c z).2.2.1 x c e rfl) ho (I.freeC x c e)
 .obtain⟨e,n,ne,nf,d⟩:=I.pin p hp
  have Z:p.1∉ch:=λz=>(U p.1 z).2.2.2 p hp rfl
  exact⟨keep p.1 p.2 ne nf Z e n,free p.1 p.2 Z e n,ne,nf,d⟩
theorem Inv.un (I:Inv X pins σ H s) (u:Un X.fs [] H H' s.heap h') (Z:HOk X.prog X.w H' h'):Inv X pins σ H' { s with heap:=h',toks:=t' }:=by
 obtain⟨m,⟨o,es,ep,ho,r⟩,_⟩:=id I.loc;obtain⟨sl,hL⟩:=u.any ho I.free (by simp)
 exact I.step (g':=s.gens) (d':=s.drawn) (ch:=[]) (λ_ z=>nomatch z) (λb o _ hb _ e n=>u.keep b o e n hb (by simp)) (λb o _ hb _ e n=>u.slot b o e n hb (by simp)) (λb o _ e n=>u.free b o e n (by simp)) (λb o _ e=>u.there b o e (by simp)) u.tups u.frzs u.tbls (λm' hm=>by
  obtain⟨o',L,U,F,r'⟩:=hm;rw[ho] at F;cases F;exact⟨_,L,U,hL,r'⟩) Z I.bare
theorem Inv.call {g':Array GenState} (I:Inv X pins σ H s) (u:Un (frs X.stack) ch H H' s.heap h') (ad:HOk X.prog X.w H' h') (hg:AllBare g')
  (L : ∀b∈ch,(b∈X.ex\/X.s₀.heap.objs.size<=b)/\b≠X.env.locals/\(∀x c,X.env.cells.lookup x=some c->c≠b)/\∀p∈X.pn++pins,p.1≠b) :
  Inv X pins σ H' { s with heap:=h',gens:=g',drawn:=d',toks:=t' }:=by
 obtain⟨m,⟨o,es,ep,ho,r⟩,_⟩:=id I.loc;obtain⟨sl,Z⟩:=u.any ho I.free λz=>(L _ z).2.1 rfl
 exact I.step (ch:=ch) L (λb o Z hb F e n=>u.keep b o e n (λz=>(i4.mp (I.stkSub b z)).elim Z hb) F) (λb o _ _ F e n=>u.any e n F) (λb o F e n=>u.free b o e n F) (λb o F e=>u.there b o e F) u.tups u.frzs u.tbls (λm' hm=>by
  obtain⟨o',aa,ac,U,r'⟩:=hm;rw[ho] at U;cases U;exact⟨_,aa,ac,Z,r'⟩) ad hg
theorem Inv.turned (I:Inv X pins σ H s) (k : ∀b o,b≠it->s.heap.get? b=some o->h'.get? b=some o) (hn:H it=none) (U:it≠X.env.locals)
  (h1:it∈X.ex\/X.s₀.heap.objs.size<=it) (h2 : ∀x c,X.env.cells.lookup x=some c->c≠it) (h3 : ∀p∈X.pn++pins,p.1≠it):Inv X pins σ H { s with heap:=h',toks:=t' }:=by
 have L : ∀b u,H b=some u->b≠it:=λb u e z=>by rw[z,hn] at e;cases e
 refine I.step (g':=s.gens) (d':=s.drawn) (ch:=[it]) (λb Z=>?_) (λb o _ _ F e _=>k b o (λz=>F (by simp[z])) e) (λb o _ _ F e _=>⟨o.slots,k b o (λz=>F (by simp[z])) e⟩) (λ_ _ _ _ n=>n)
  (λb o F e=>⟨o,k b o (λz=>F (by simp[z])) e⟩) (λ_ _ e=>e) (λ_ _ _ e=>e) (λb ps e=>⟨#[],by rw[e];simp⟩) (λm hm=>?_) (λb u e=>?_) I.bare
 .have e:b=it:=by simpa using Z
  subst e;exact⟨h1,U,h2,h3⟩
 .obtain⟨o,es,ep,ho,r⟩:=hm
  exact⟨o,es,ep,k _ o (t6 U) ho,r⟩
 .refine(I.hok b u e).stay (λc v F q=>k c v ?_ q) (λ_ q=>q) λ_ _ q=>q
  rcases F with z | z
  .rw[z];exact L b u e
  .exact L c _ z
theorem Inv.tok (I:Inv X pins σ H s) (t:Nat):Inv X pins σ H { s with toks:=t }:=I.un (h':=s.heap) (t':=t) Un.refl I.hok
theorem Inv.kept {t':Nat} (I:Inv X pins σ H s) (k : ∀b u,s.heap.get? b=some u->h'.get? b=some u):Inv X pins σ H { s with heap:=h',toks:=t' }:=I.un (Un.kept k) (I.hok.kept k)
theorem Inv.laid {a:Addr} {o:HO} {t':Nat} (I:Inv X pins σ H s) (k : ∀b u,s.heap.get? b=some u->h'.get? b=some u) (hp:s.heap.objs.size<=a) (new:aX X.prog X.w (upd H a o) h' a o) :
  Inv X pins σ (upd H a o) { s with heap:=h',toks:=t' }:=I.un (Un.laid k hp (I.hok.fresh hp)) (I.hok.laid k hp new)
theorem Inv.write {x e:Addr} {o:HO} {t':Nat} (I:Inv X pins σ H s) (L:Mut (H x)) (U:e=x\/H e=some (.own x)) (k : ∀b u,b≠e->s.heap.get? b=some u->h'.get? b=some u) (F : ∃u,h'.get? e=some u)
  (new:aX X.prog X.w (upd H x o) h' x o):Inv X pins σ (upd H x o) { s with heap:=h',toks:=t' }:=I.un (Un.write L U k F) (I.hok.write L U k F new)
theorem Inv.weak {σ':List (Option V)} (I:Inv X pins σ H s) (hl:σ'.length=σ.length) (w : ∀(i:Nat) v,σ'[i]? = some (some v)->σ[i]? = some (some v)):Inv X pins σ' H s :=
 ⟨I.ok,I.os,I.bare,I.base,let ⟨m,hn,hl'⟩:=I.loc;⟨m,hn,λi x v e1 e2 F=>hl' i x v e1 (w i v e2) F⟩,I.cell,I.free,I.freeC,I.pin,I.hok,hl.trans I.len⟩
theorem Inv.pins_of (I:Inv X pins σ H s) (h : ∀p∈pins',s.heap.get? p.1=some p.2/\H p.1=none/\p.1≠X.env.locals/\p.1∉X.fs/\∀v,p.2.data≠.cell v):Inv X pins' σ H s :=
 ⟨I.ok,I.os,I.bare,I.base,I.loc,I.cell,I.free,I.freeC,λp hp=>(t0.mp hp).elim (λz=>I.pin p (IB _ z)) (h p),I.hok,I.len⟩
theorem mR (F:N.Nodup) {i j:Nat} {x:Str} (a:N[i]? = some x) (b:N[j]? = some x):i=j:=by
 obtain⟨h1,e1⟩:=i7.mp a;obtain⟨h2,e2⟩:=i7.mp b;exact(List.getElem_inj F).mp (e1.trans e2.symm)
theorem kb {v:V} {Q:Unit->Shared->Prop} (I:Inv X pins σ H s) (hN:X.N.Nodup) (hi:X.N[i]? = some x) (U:Loc X.env.scope x) (r:aT v u)
  (h : ∀s',Inv X pins (σ.set i (some v)) H s'->(∃a,H_ a s.heap s'.heap/\(a=X.env.locals\/X.env.cells.lookup x=some a))->Q Unit.unit s') (hf:X.fn x=true\/X.env.scope.names.lookup x=some .local:=by first | exact .inl rfl | exact .inr rfl | assumption):wpAny M A (storeName X.env x u) Q E s:=by
 obtain⟨m,hn,hl⟩:=id I.loc;have af:(X.env.scope.kind == .class || (X.env.scope.kind == .module && X.env.locals != X.env.globals))=false:=by rw[I.ok.kind];rfl
 have aa:i < σ.length:=by rw[I.len];exact(i7.mp hi).1
 have cne:=I.cne;have F : ∀{a:Addr} {h':Heap},(∃o,s.heap.get? a=some o/\H a=none)->H_ a s.heap h'->HOk X.prog X.w H h':=λ{a h'} ha hs b ob e=>by
  obtain⟨_,_,Z⟩:=ha;refine(I.hok b ob e).stay (λc w' L q=>(hs.2 c ?_).trans q) (λ_ q=>q) λ_ _ q=>q
  rintro rfl
  rcases L with rfl | L
  .rw[Z] at e;cases e
  .rw[Z] at L;cases L
 rcases U with hk | hk
 .refine wpAny_storeName_local hk hn (λh' ah hs=>?_) af
  obtain⟨oL,_,_,ai,_⟩:=id hn;refine h _ ⟨I.ok,I.os,I.bare,⟨λb o e n hb U=>?_,λb o e n hb U=>?_,I.base.free,λb o e U=>?_,I.base.tups,I.base.frzs,I.base.tbls⟩,⟨_,ah,λj y v' e1 e2 e3=>?_⟩,λy c e=>?_,I.free,I.freeC,λp hp=>?_,F ⟨oL,ai,I.free⟩ hs,by simpa using I.len⟩ ⟨_,hs,.inl rfl⟩
  .exact(hs.2 b (kf (j8 (fy e) I.ok.above))).trans (I.base.keep b o e n hb U)
  .obtain⟨sl,e1⟩:=I.base.slot b o e n hb U
   exact⟨sl,(hs.2 b (kf (j8 (fy e) I.ok.above))).trans e1⟩
  .obtain⟨o',e1⟩:=I.base.there b o e U
   exact⟨o',(hs.2 b (kf (j8 (fy e) I.ok.above))).trans e1⟩
  .by_cases hj:j=i
   .subst hj
    rw[hi] at e1;cases e1;rw[Iu aa] at e2;cases e2;exact⟨u,r,.inl ⟨hk,by simp⟩⟩
   .rw[Ia (t6 hj)] at e2
    obtain⟨u',r',q⟩:=hl j y v' e1 e2 e3;refine⟨u',r',?_⟩
    rcases q with⟨k,e⟩ | ⟨k,c,e,z⟩
    .refine .inl ⟨k,?_⟩
     have:y≠x:=λe=>hj (mR hN e1 (e ▸ hi))
     simp[this,e]
    .exact .inr ⟨k,c,e,z.sameBut hs (cne y c e)⟩
  .obtain⟨w',z⟩:=I.cell y c e
   exact⟨w',z.sameBut hs (cne y c e)⟩
  .obtain⟨e,n,ne,nf,d⟩:=I.pin p hp
   exact⟨(hs.2 p.1 ne).trans e,n,ne,nf,d⟩
 .have hfn:X.fn x=true:=by
   rcases hf with z | z
   .exact z
   .rw[z] at hk;cases hk
  obtain⟨c,L⟩:=I.ok.has x (.inl hk);obtain⟨w',z⟩:=I.cell x c L;refine wpAny_storeName_cell I.ok.kind hk L z (λh' ad hs=>?_)
  obtain⟨oc,ac,ag⟩:=id z;refine h { s with heap:=h' } ⟨I.ok,I.os,I.bare,⟨λb o e n hb U=>?_,λb o e n hb U=>?_,I.base.free,λb o e U=>?_,I.base.tups,I.base.frzs,I.base.tbls⟩,⟨m,hn.sameBut hs (t6 (cne x c L)),λj y v' e1 e2 e3=>?_⟩,λy c' e=>?_,I.free,I.freeC,λp hp=>?_,F ⟨oc,ac,I.freeC x c L⟩ hs,by simpa using I.len⟩ ⟨c,hs,.inr L⟩
  .exact(hs.2 b (kf (j8 (fy e) (I.ok.cab x c hfn L)))).trans (I.base.keep b o e n hb U)
  .obtain⟨sl,e1⟩:=I.base.slot b o e n hb U
   exact⟨sl,(hs.2 b (kf (j8 (fy e) (I.ok.cab x c hfn L)))).trans e1⟩
  .obtain⟨o',e1⟩:=I.base.there b o e U
   exact⟨o',(hs.2 b (kf (j8 (fy e) (I.ok.cab x c hfn L)))).trans e1⟩
  .by_cases hj:j=i
   .subst hj
    rw[hi] at e1;cases e1;rw[Iu aa] at e2;cases e2;exact⟨u,r,.inr ⟨.inl hk,c,L,ad⟩⟩
   .rw[Ia (t6 hj)] at e2
    obtain⟨u',r',q⟩:=hl j y v' e1 e2 e3;refine⟨u',r',?_⟩
    rcases q with q | ⟨k,c',e,z'⟩
    .exact .inl q
    .refine .inr ⟨k,c',e,z'.sameBut hs ?_⟩
     rintro rfl
     exact hj (mR hN e1 (I.ok.inj _ _ _ e L ▸ hi))
  .by_cases hcc:c'=c
   .subst hcc;exact⟨_,ad⟩
   .obtain⟨w2,z2⟩:=I.cell y c' e
    exact⟨w2,z2.sameBut hs hcc⟩
  .obtain⟨e,n,ne,nf,d⟩:=I.pin p hp
   refine⟨(hs.2 p.1 ?_).trans e,n,ne,nf,d⟩
   intro q;rw[q,ac] at e;have q':oc=p.2:=j9 e
   exact d w' (by rw[<- q'];exact ag)
theorem il {v:V} {Q:Unit->Shared->Prop} (I:Inv X pins σ H s) (L:X.N.Nodup) (hi:X.N[i]? = some x) (Z:Loc X.env.scope x) (r:aT v u)
  (h : ∀s',Inv X pins (σ.set i (some v)) H s'->Q Unit.unit s') (F:X.fn x=true\/X.env.scope.names.lookup x=some .local:=by first | exact .inl rfl | exact .inr rfl | assumption):wpAny M A (storeName X.env x u) Q E s :=
 kb I L hi Z r (λs' U _=>h s' U) F
theorem Inv.call' (I:Inv X pins σ H s) (U:s'.os=s.os) (u:Un (frs X.stack) ch H H' s.heap s'.heap) (F:HOk X.prog X.w H' s'.heap) (Z:AllBare s'.gens)
  (L : ∀b∈ch,(b∈X.ex\/X.s₀.heap.objs.size<=b)/\b≠X.env.locals/\(∀x c,X.env.cells.lookup x=some c->c≠b)/\∀p∈X.pn++pins,p.1≠b):Inv X pins σ H' s':=by
 obtain⟨h',g',d',t',o'⟩:=s';have e:o'=s.os:=U
 subst e;exact I.call (g':=g') (t':=t') (d':=d') u F Z L
end
abbrev XK:=Value->Option Addr->Hp->Prop
abbrev St:=List (Option V)
abbrev VK:=V->Hp->Prop
abbrev TE:=St->Hp->VK->Prop
abbrev TT:=St->Hp->(Bool->Hp->Prop)->Prop
abbrev TA:=St->Hp->(List V->Hp->Prop)->Prop
structure iN where
 nx:St->Hp->Prop
 rt:VK
 bk:St->Hp->Prop:=λ_ _=>False
 ct:St->Hp->Prop:=λ_ _=>False
abbrev TS:=iN->St->Hp->Prop
def EP (X:Cx) (pins:List (Addr × Obj)) (σ:St) (Q:VK) (u:Value) (s':Shared):Prop:=∃v H',Inv X pins σ H' s'/\aT v u/\Q v H'
def TP (X:Cx) (pins:List (Addr × Obj)) (σ:St) (Q:Bool->Hp->Prop) (b:Bool) (s':Shared):Prop:=∃H',Inv X pins σ H' s'/\Q b H'
def AP (X:Cx) (pins:List (Addr × Obj)) (σ:St) (Q:List V->Hp->Prop) (us:List Value) (s':Shared):Prop:=∃vs H',Inv X pins σ H' s'/\aO vs us/\Q vs H'
def SP (X:Cx) (pins:List (Addr × Obj)) (D:iN) (f:Flow) (s':Shared):Prop :=
 match f with
 | .next=>∃ σ' H',Inv X pins σ' H' s'/\D.nx σ' H'
 | .brk=>∃ σ' H',Inv X pins σ' H' s'/\D.bk σ' H'
 | .cont=>∃ σ' H',Inv X pins σ' H' s'/\D.ct σ' H'
 | .ret u=>∃v σ' H',Inv X pins σ' H' s'/\aT v u/\D.rt v H'
namespace Irr
set_option allowUnsafeReducibility true in
@[scoped irreducible] def _root_.L2.PE (X:Cx) (e:Expr) (t:TE):Prop :=
 ∀(pins:List (Addr × Obj)) (s:Shared) (σ:St) (H:Hp) (Q:VK),Inv X pins σ H s->t σ H Q->wpAny (model X.prog X.w) X.A (eval e X.env) (EP X pins σ Q) X.xe s
end Irr
namespace Irr
set_option allowUnsafeReducibility true in
@[scoped irreducible] def _root_.L2.PT (X:Cx) (e:Expr) (t:TT):Prop :=
 ∀(pins:List (Addr × Obj)) (s:Shared) (σ:St) (H:Hp) (Q:Bool->Hp->Prop),Inv X pins σ H s->t σ H Q->wpAny (model X.prog X.w) X.A (isTrue e X.env (eval e X.env)) (TP X pins σ Q) X.xe s
end Irr
namespace Irr
set_option allowUnsafeReducibility true in
@[scoped irreducible] def _root_.L2.PW (X:Cx) (e:Expr) (t:TT):Prop :=
 ∀(F:Sem Value) (pins:List (Addr × Obj)) (s:Shared) (σ:St) (H:Hp) (Q:Bool->Hp->Prop),Inv X pins σ H s->t σ H Q->wpAny (model X.prog X.w) X.A (isTrue e X.env F) (TP X pins σ Q) X.xe s
end Irr
theorem PW.pt {X:Cx} {t:TT} (h:PW X e t):PT X e t:=h _
namespace Irr
set_option allowUnsafeReducibility true in
@[scoped irreducible] def _root_.L2.PA (X:Cx) (es:List Expr) (t:TA):Prop :=
 ∀(pos:Pos) (pins:List (Addr × Obj)) (s:Shared) (σ:St) (H:Hp) (Q:List V->Hp->Prop),Inv X pins σ H s->t σ H Q->wpAny (model X.prog X.w) X.A (spliced (HR pos (i9 es X.env))) (AP X pins σ Q) X.xe s
end Irr
namespace Irr
set_option allowUnsafeReducibility true in
@[scoped irreducible] def _root_.L2.PS (X:Cx) (st:Stmt) (t:TS):Prop :=
 ∀(pins:List (Addr × Obj)) (s:Shared) (σ:St) (H:Hp) (D:iN),Inv X pins σ H s->t D σ H->wpAny (model X.prog X.w) X.A (exec st X.env) (SP X pins D) X.xe s
end Irr
namespace Irr
set_option allowUnsafeReducibility true in
@[scoped irreducible] def _root_.L2.PSs (X:Cx) (st:List Stmt) (t:TS):Prop :=
 ∀(pins:List (Addr × Obj)) (s:Shared) (σ:St) (H:Hp) (D:iN),Inv X pins σ H s->t D σ H->wpAny (model X.prog X.w) X.A (execs st X.env) (SP X pins D) X.xe s
end Irr
theorem thn {t:Sem α} {Q F:α->Shared->Prop} (h:wpAny M A t Q E s) (L : ∀a s,Q a s->F a s):wpAny M A t F E s:=t7 h L λ_ _ x=>x
section
variable {X:Cx}
def BF (i:Nat):TE:=λσ H Q=>∃v,σ[i]? = some (some v)/\Q v H
def tC (v:V):TE:=λ_ H Q=>Q v H
theorem zS (hN:X.N[i]? = some x) (hv:Vis X.env.scope x) (U:(x ==("__debug__" : Str))=false:=by decide) (Z:(x ==("__classdict__" : Str))=false:=by decide):PE X (.Name x pos) (BF i):=by
 intro pins s σ H Q I h;obtain⟨v,e,h⟩:=h;obtain⟨m,hn,hl⟩:=I.loc;obtain⟨u,r,l⟩:=hl i x v hN e hv;have F:EP X pins σ Q u s:=⟨v,H,I,r,h⟩
 rcases l with⟨L,hm⟩ | ⟨L,c,hc,hcell⟩
 .exact wpAny_Name (wpAny_loadName_local I.ok.kind L hn hm F) U
 .rcases L with L | L
  .exact wpAny_Name (wpAny_loadName_cell I.ok.kind L hc hcell F) U
  .exact wpAny_Name (wpAny_loadName_free I.ok.kind L hc hcell F Z) U
theorem af {i j pos}:PE X (.Constant (.int i) j pos) (tC (.int i)):=λ_ _ _ H _ I h=>wpAny_Constant_int ⟨.int i,H,I.tok _,⟨_,rfl⟩,h⟩
theorem nA {b j pos}:PE X (.Constant (.bool b) j pos) (tC (.bl b)):=λ_ _ _ H _ I h=>Constant_bool ⟨.bl b,H,I,rfl,h⟩
theorem fB {j pos}:PE X (.Constant .none j pos) (tC .non):=λ_ _ _ H _ I h=>Constant_none ⟨.non,H,I,rfl,h⟩
theorem aq {x j pos}:PE X (.Constant (.str x) j pos) (tC (.str x)):=λ_ _ _ H _ I h=>Calls.Constant_str ⟨.str x,H,I.tok _,⟨_,rfl⟩,h⟩
def Gl (X:Cx) (x:Str):Prop:=X.env.kindOf x=some .globalImplicit
theorem iA {σ:St} {H:Hp} (I:Inv X pins σ H s) (L:Gl X x) (U:X.mg x=some u) (h:Q u s)
  (F:(x ==("__debug__" : Str))=false:=by decide):wpAny (model X.prog X.w) X.A (eval (.Name x pos) X.env) Q E s :=
 Calls.Name_function_global I.ok.kind L (Calls.loadGlobal_global (by rw[I.ok.glob];exact I.mod.glob.keeps I.bk) U h) F
theorem dF {σ:St} {H:Hp} (I:Inv X pins σ H s) (Z:Gl X x) (F:X.mg x=none) (U:G_ x=some u) (h:Q u s)
  (hn:x ≠ "__name__" := by decide) (L:(x ==("__debug__" : Str))=false:=by decide):wpAny (model X.prog X.w) X.A (eval (.Name x pos) X.env) Q E s:=by
 obtain⟨mb,h1,h2⟩:=I.mod.blt;exact Calls.Name_function_global I.ok.kind Z (Calls.loadGlobal_builtin (by rw[I.ok.glob];exact I.mod.glob.keeps I.bk) F (by rw[I.ok.blt];exact h1.keeps I.bk) ((h2 x hn).trans U) h) L
theorem cq {v:V} (L:Gl X x) (U:X.mg x=some u) (r:aT v u) (F:(x ==("__debug__" : Str))=false:=by decide):PE X (.Name x pos) (tC v) :=
 λ_ _ _ H _ I h=>iA I L U ⟨v,H,I,r,h⟩ F
theorem BL {v:V} (U:Gl X x) (hm:X.mg x=none) (L:G_ x=some u) (r:aT v u) (Z:x ≠ "__name__" := by decide) (F:(x ==("__debug__" : Str))=false:=by decide):PE X (.Name x pos) (tC v) :=
 λ_ _ _ H _ I h=>dF I U hm L ⟨v,H,I,r,h⟩ Z F
variable {a b:Expr} {ta tb:TE}
def PC (X:Cx) (L:CmpOp) (a b:Expr) (t:TE):Prop :=
 ∀ (pins:List (Addr × Obj)) (s:Shared) (σ:St) (H:Hp) (Q:VK),Inv X pins σ H s->t σ H Q ->
  wpAny (model X.prog X.w) X.A (eval a X.env) (λv s₁=>wpAny (model X.prog X.w) X.A (eval b X.env) (λu F=>wpAny (model X.prog X.w) X.A (p8 L v u) (EP X pins σ Q) X.xe F) X.xe s₁) X.xe s
theorem sL (b:Expr) {F:CmpOp} (h:F≠.In) (h2:F≠.NotIn):IF F b=false:=by
 have e1:(F == CmpOp.In)=false:=by cases F <;> first | rfl | exact absurd rfl h
 have e2:(F == CmpOp.NotIn)=false:=by cases F <;> first | rfl | exact absurd rfl h2
 cases b <;> simp[IF,e1,e2]
def Dw (ta:TE):TE:=λσ H Q=>ta σ H λx H1=>Q (.bl (decide (x = .non))) H1
theorem aT.none_iff {x:V} (r:aT x v):(v == v_)=decide (x = .non):=by
 cases x with
 | non=>cases r;rfl
 | bl _=>cases r;rfl
 | int _=>obtain⟨t,rfl⟩:=r;rfl
 | str _=>obtain⟨t,rfl⟩:=r;rfl
 | byt _=>obtain⟨t,rfl⟩:=r;rfl
 | flt _=>obtain⟨t,rfl⟩:=r;rfl
 | ref _=>cases r;rfl
 | ty _=>cases r;rfl
theorem vo {j pos'} (Z:PE X a ta):PC X .Is a (.Constant .none j pos') (Dw ta):=by
 intro pins s σ H Q I h;refine thn (Z pins s σ H _ I h) λv s1 F=>?_
 obtain⟨x,H1,L,U,q1⟩:=F;exact Constant_none (is_none_gen ⟨.bl _,H1,L,by rw[U.none_iff];rfl,q1⟩)
def tB (t:TE):TT:=λσ H Q=>t σ H λx H1=>∃c,x = .bl c/\Q c H1
theorem tN {F:CmpOp} {t:TE} (h:PC X F a b t) (h1:IF F b=false:=by first | exact sL _ ∅ ∅ | rfl):PE X (.Compare a [F] [b] pos) t:=λpins s σ H Q I L=>wpAny_Compare1 (h pins s σ H Q I L) h1
theorem qK {L:CmpOp} {t:TE} (h:PC X L a b t) (h1:IF L b=false:=by first | exact sL _ ∅ ∅ | rfl):PT X (.Compare a [L] [b] pos) (tB t):=by
 intro pins s σ H Q I hw;refine wpAny_isTrue_Compare1 (thn (h pins s σ H _ I hw) λv s1 h1=>thn h1 λu s2 h2=>thn h2 λc s3 F=>?_) h1
 obtain⟨x,H1,Z,r1,U⟩:=F;obtain⟨d,rfl,q⟩:=U;cases r1;exact x8 ⟨H1,Z,q⟩
theorem gq {t:TE} (h:PE X e t) (he : ∀F,isTrue e X.env F=(do let v <- F;standAt e.pos;holding [v] (truthy v)):=by intro _;rfl):PT X e (tB t):=by
 intro pins s σ H Q I hw;refine isTrue_plain (thn (h pins s σ H _ I hw) λv s1 L=>?_) (he _)
 obtain⟨x,H1,Z,r1,U⟩:=L;obtain⟨d,rfl,q⟩:=U;cases r1;exact x8 ⟨H1,Z,q⟩
variable {tA tB':TT} {rest:List Expr}
def Da (t u:TT):TT:=λσ H Q=>t σ H λc H1=>if c=true then u σ H1 Q else Q false H1
def tOr (t u:TT):TT:=λσ H Q=>t σ H λc H1=>if c=true then Q true H1 else u σ H1 Q
def Dh (t:TT):TT:=λσ H Q=>t σ H λc H1=>Q (!c) H1
theorem iF (F:PT X a tA):PW X (.BoolOp .And [a] pos) tA:=by
 intro L pins s σ H Q I h;refine isTrue_and (thn (F pins s σ H Q I h) λc s1 e=>?_)
 cases c with
 | true=>exact isTrue_and_nil e
 | false=>exact e
theorem iS (F:PT X a tA):PW X (.BoolOp .Or [a] pos) tA:=by
 intro L pins s σ H Q I h;refine isTrue_or (thn (F pins s σ H Q I h) λc s1 e=>?_)
 cases c with
 | false=>exact isTrue_or_nil e
 | true=>exact e
theorem gV (ha:PT X a tA) (hb:PW X (.BoolOp .And (b :: rest) pos) tB'):PW X (.BoolOp .And (a :: b :: rest) pos) (Da tA tB'):=by
 intro Z pins s σ H Q I h;refine isTrue_and (thn (ha pins s σ H _ I h) λc s1 F=>?_)
 obtain⟨H1,L,U⟩:=F;cases c with
 | true=>exact hb Z pins s1 σ H1 Q L U
 | false=>exact⟨H1,L,U⟩
theorem lh (ha:PT X a tA) (hb:PW X (.BoolOp .Or (b :: rest) pos) tB'):PW X (.BoolOp .Or (a :: b :: rest) pos) (tOr tA tB'):=by
 intro Z pins s σ H Q I h;refine isTrue_or (thn (ha pins s σ H _ I h) λc s1 F=>?_)
 obtain⟨H1,L,U⟩:=F;cases c with
 | true=>exact⟨H1,L,U⟩
 | false=>exact hb Z pins s1 σ H1 Q L U
theorem jg (F:PT X a tA):PT X (.UnaryOp .Not a pos) (Dh tA):=by
 intro pins s σ H Q I h;exact isTrue_not (F pins s σ H (λc H1=>Q (!c) H1) I h)
def yt (ta tb:TE):TE:=λσ H Q=>ta σ H λx H1=>∃c,x = .bl c/\if c=true then tb σ H1 Q else Q (.bl false) H1
def DS (ta tb:TE):TE:=λσ H Q=>ta σ H λx H1=>∃c,x = .bl c/\if c=true then Q (.bl true) H1 else tb σ H1 Q
def yG (ta:TE):TE:=λσ H Q=>ta σ H λx H1=>∃c,x = .bl c/\Q (.bl (!c)) H1
theorem bT {op} {t:TE} (h:PE X a t):PE X (.BoolOp op [a] pos) t:=λpins s σ H Q I F=>BoolOp_one (h pins s σ H Q I F)
theorem aN (Z:PE X a ta) (hb:PE X (.BoolOp .And (b :: rest) pos) tb):PE X (.BoolOp .And (a :: b :: rest) pos) (yt ta tb):=by
 intro pins s σ H Q I h;refine BoolOp_and (thn (Z pins s σ H _ I h) λv s1 F=>?_)
 obtain⟨x,H1,U,r1,L⟩:=F;obtain⟨c,rfl,L⟩:=L;cases r1;refine x8 ?_
 cases c with
 | true=>exact hb pins s1 σ H1 Q U L
 | false=>exact⟨.bl false,H1,U,rfl,L⟩
theorem E8 (Z:PE X a ta) (hb:PE X (.BoolOp .Or (b :: rest) pos) tb):PE X (.BoolOp .Or (a :: b :: rest) pos) (DS ta tb):=by
 intro pins s σ H Q I h;refine BoolOp_or (thn (Z pins s σ H _ I h) λv s1 F=>?_)
 obtain⟨x,H1,U,r1,L⟩:=F;obtain⟨c,rfl,L⟩:=L;cases r1;refine x8 ?_
 cases c with
 | false=>exact hb pins s1 σ H1 Q U L
 | true=>exact⟨.bl true,H1,U,rfl,L⟩
theorem CC (ha:PE X a ta):PE X (.UnaryOp .Not a pos) (yG ta):=by
 intro pins s σ H Q I h;refine UnaryOp_ (thn (ha pins s σ H _ I h) λv s1 F=>?_)
 obtain⟨x,H1,U,Z,L⟩:=F;obtain⟨c,rfl,L⟩:=L;cases Z;exact not_of (x8 ⟨.bl (!c),H1,U,rfl,L⟩)
end
def SqL (K:e_) (H:Hp) (a:Addr) (xs:List V):Prop :=
 Rd H a (.lst xs) \/
  ∃(o:Obj) (its:Array Value) (n:Nat),K.lookup a=some o/\o.cls = .type "list" /\ o.dict=none/\o.data = .seq its n/\its.size<=g_/\aO xs its.toList
def SqT (K:e_) (H:Hp) (a:Addr) (xs:List V):Prop :=
 Rd H a (.tup xs) \/
  ∃(o:Obj) (its:Array Value) (n:Nat),K.lookup a=some o/\o.cls = .type "tuple" /\ o.data = .seq its n/\its.size<=g_/\aO xs its.toList
def GK:Value->Option V
 | .none=>some .non
 | .bool b=>some (.bl b)
 | .int i _=>some (.int i)
 | .str x _=>some (.str x)
 | .bytes b _=>some (.byt b)
 | .float b _=>some (.flt b)
 | .ref a=>some (.ref a)
 | .type n=>some (.ty n)
 | _=>none
theorem aT.abs {x:V} (r:aT x u):GK u=some x:=by
 cases x with
 | non=>cases r;rfl
 | bl _=>cases r;rfl
 | int _=>obtain⟨t,rfl⟩:=r;rfl
 | str _=>obtain⟨t,rfl⟩:=r;rfl
 | byt _=>obtain⟨t,rfl⟩:=r;rfl
 | flt _=>obtain⟨t,rfl⟩:=r;rfl
 | ref _=>cases r;rfl
 | ty _=>cases r;rfl
theorem aT.inj {x y:V} {u:Value} (r:aT x u) (q:aT y u):x=y:=j9 (r.abs.symm.trans q.abs)
theorem aO.inj : ∀{xs ys:List V} {us:List Value},aO xs us->aO ys us->xs=ys
 | _,_,_,.nil,.nil=>rfl
 | _,_,_,.cons r t,.cons r' t'=>by rw[r.inj r',aO.inj t t']
section
variable {X:Cx} {σ:St} {H:Hp} {xs ys:List V}
theorem SqL.of (h:H a*>xs):SqL K H a xs:=.inl (.inl h)
theorem SqT.of (h:H a>>xs):SqT K H a xs:=.inl (.inl h)
theorem Inv.list (I:Inv X pins σ H s) (h:SqL X.K H a xs) : ∃its:List Value,aO xs its/\PlainL s.heap a its.toArray/\xs.length<=g_:=by
 rcases h with h | ⟨o,its,n,hk,hc,hd,hs,hz,r⟩
 .obtain⟨z,its,n,r,e⟩:=h.ok I.hok
  exact⟨its,r,⟨_,n,e,rfl,rfl,rfl⟩,z⟩
 .refine⟨its.toList,r,⟨o,n,I.kIn a o hk,hc,hd,by simpa using hs⟩,?_⟩
  have e:=r.length;simp only[pz] at e;omega
theorem Inv.tuple (I:Inv X pins σ H s) (h:SqT X.K H a xs) : ∃its:List Value,aO xs its/\IsTup s.heap a its.toArray/\xs.length<=g_:=by
 rcases h with h | ⟨o,its,n,hk,hc,hs,hz,r⟩
 .obtain⟨z,its,r,p⟩:=h.ok I.hok
  exact⟨its,r,p,z⟩
 .refine⟨its.toList,r,⟨o,I.kIn a o hk,hc,n,by simpa using hs⟩,?_⟩
  have e:=r.length;simp only[pz] at e;omega
theorem Inv.list_inj (I:Inv X pins σ H s) (h:SqL X.K H a xs) (h':SqL X.K H a ys):xs=ys:=by
 obtain⟨its,r,⟨o,n,e,_,_,d⟩,_⟩:=I.list h;obtain⟨its',r',⟨o',n',F,_,_,d'⟩,_⟩:=I.list h';rw[e] at F;cases F;rw[d] at d'
 injection d' with d1 _
 have:its=its':=by simpa using congrArg Array.toList d1
 subst this;exact r.inj r'
theorem Inv.tuple_inj (I:Inv X pins σ H s) (h:SqT X.K H a xs) (h':SqT X.K H a ys):xs=ys:=by
 obtain⟨its,r,⟨o,e,_,n,d⟩,_⟩:=I.tuple h;obtain⟨its',r',⟨o',F,_,n',d'⟩,_⟩:=I.tuple h';rw[e] at F;cases F;rw[d] at d'
 injection d' with d1 _
 have:its=its':=by simpa using congrArg Array.toList d1
 subst this;exact r.inj r'
end
abbrev Cx.wish (X:Cx) (E:Value->Shared->Prop):Cx:={ X with xe:=E }
abbrev Cx.nox (X:Cx):Cx:=X.wish λ_ _=>False
theorem Cx.Ok.wish {X:Cx} (ok:X.Ok) (E:Value->Shared->Prop):(X.wish E).Ok :=
 ⟨ok.mod,ok.kind,ok.glob,ok.blt,ok.above,ok.inj,ok.has,ok.cab,ok.hd,ok.frames,ok.stk,ok.exf,ok.bs,ok.bsz,ok.noex,ok.exfs,ok.funs,ok.frf⟩
theorem Cx.Ok.unwish {X:Cx} (ok:(X.wish E).Ok):X.Ok :=
 ⟨ok.mod,ok.kind,ok.glob,ok.blt,ok.above,ok.inj,ok.has,ok.cab,ok.hd,ok.frames,ok.stk,ok.exf,ok.bs,ok.bsz,ok.noex,ok.exfs,ok.funs,ok.frf⟩
section
variable {X:Cx} {σ:St} {H:Hp}
theorem Inv.wish (I:Inv X pins σ H s) (E:Value->Shared->Prop):Inv (X.wish E) pins σ H s:=⟨I.ok.wish E,I.os,I.bare,I.base,I.loc,I.cell,I.free,I.freeC,I.pin,I.hok,I.len⟩
theorem Inv.unwish (I:Inv (X.wish E) pins σ H s):Inv X pins σ H s:=⟨I.ok.unwish,I.os,I.bare,I.base,I.loc,I.cell,I.free,I.freeC,I.pin,I.hok,I.len⟩
theorem SP.unwish {D:iN} {f:Flow} {s':Shared} (h:SP (X.wish E) pins D f s'):SP X pins D f s':=by
 cases f with
 | next=>obtain⟨σ',H',I,q⟩:=h;exact⟨σ',H',I.unwish,q⟩
 | brk=>obtain⟨σ',H',I,q⟩:=h;exact⟨σ',H',I.unwish,q⟩
 | cont=>obtain⟨σ',H',I,q⟩:=h;exact⟨σ',H',I.unwish,q⟩
 | ret u=>obtain⟨v,σ',H',I,r,q⟩:=h;exact⟨v,σ',H',I.unwish,r,q⟩
theorem PSs.nox {st:List Stmt} {t:TS} (h:PSs X.nox st t):PSs X st t:=λpins s σ H D I F =>
 t7 (h pins s σ H D (I.wish _) F) (λ_ _ q=>q.unwish) λ_ _ z=>m_ z
end
section
variable {X:Cx} {t u:TS} {te:TE}
def xY:TS:=λD σ H=>D.nx σ H
def oB (t u:TS):TS:=λD σ H=>t { D with nx:=u D } σ H
theorem aK:PSs X [] xY:=λ_ _ σ H _ I h=>Je ⟨σ,H,I,h⟩
theorem ai (h1:PS X st t) (h2:PSs X rest u):PSs X (st :: rest) (oB t u):=by
 intro pins s σ H D I h;refine JD (thn (h1 pins s σ H { D with nx:=u D } I h) λf s1 q=>?_)
 cases f with
 | next =>
  obtain⟨σ',H',F,q⟩:=q;exact h2 pins s1 σ' H' D F q
 | ret v=>exact q
 | brk=>exact q
 | cont=>exact q
theorem ao (h1:PS X st t):PSs X [st] t:=by
 intro pins s σ H D I h;refine JD (thn (h1 pins s σ H D I h) λf s1 q=>?_)
 cases f with
 | next=>exact Je q
 | ret v=>exact q
 | brk=>exact q
 | cont=>exact q
theorem Inv.quiet {σ:St} {H:Hp} (I:Inv X pins σ H s):interactive X.env=false:=by simp[interactive,I.ok.kind]
def sU (te:TE):TS:=λD σ H=>te σ H λ_ H1=>D.nx σ H1
theorem bY (U:PE X e te) (hs:swapsWith e none pos.line X.env=pure false:=by rfl):PS X (.Expr e pos) (sU te):=by
 intro pins s σ H D I h;exact wpAny_Expr_any (thn (U pins s σ H _ I h) λv s1 F=>by obtain⟨x,H1,L,r1,Z⟩:=F;exact(⟨σ,H1,L,Z⟩)) I.quiet hs
def DO (te:TE):TS:=λD σ H=>te σ H D.rt
theorem aA (Z:PE X e te):PS X (.Return (some e) pos) (DO te):=by
 intro pins s σ H D I h;exact wpAny_Return_some (thn (Z pins s σ H _ I h) λv s1 F=>by obtain⟨x,H1,L,U,q1⟩:=F;exact(⟨x,σ,H1,L,U,q1⟩))
def Bf (c:TT) (t u:TS):TS:=λD σ H=>c σ H λb H1=>if b=true then t D σ H1 else u D σ H1
theorem bi {c:Expr} {a b:List Stmt} {tc:TT} (Z:PT X c tc) (ha:PSs X a t) (hb:PSs X b u):PS X (.If c a b pos) (Bf tc t u):=by
 intro pins s σ H D I h;refine wpAny_If (thn (Z pins s σ H _ I h) λd s1 F=>?_)
 obtain⟨H1,U,L⟩:=F;cases d with
 | true=>exact ha pins s1 σ H1 D U L
 | false=>exact hb pins s1 σ H1 D U L
def va:TS:=λ_ _ _=>False
theorem yQ:PS X st va:=λ_ _ _ _ _ _ h=>h.elim
end
abbrev TG:=V->St->Hp->(St->Hp->Prop)->Prop
abbrev TGs:=List V->St->Hp->(St->Hp->Prop)->Prop
def PG (X:Cx) (F:Expr) (t:TG):Prop :=
 ∀ (pins:List (Addr × Obj)) (s:Shared) (σ:St) (H:Hp) (v:V) (u:Value) (Q:St->Hp->Prop),Inv X pins σ H s->aT v u->t v σ H Q ->
  wpAny (model X.prog X.w) X.A (assign F X.env u) (λ_ s'=>∃ σ' H',Inv X pins σ' H' s'/\Q σ' H') X.xe s
def PGs (X:Cx) (ts:List Expr) (t:TGs):Prop :=
 ∀ (pins:List (Addr × Obj)) (s:Shared) (σ:St) (H:Hp) (vs:List V) (us:List Value) (Q:St->Hp->Prop),Inv X pins σ H s->aO vs us->t vs σ H Q ->
  wpAny (model X.prog X.w) X.A (assignInOrder ((JE ts X.env).map (·.2)) us) (λ_ s'=>∃ σ' H',Inv X pins σ' H' s'/\Q σ' H') X.xe s
abbrev AD:=V->V->V->Hp->(Hp->Prop)->Prop
def C7 (X:Cx) (t:AD):Prop :=
 ∀ (pins:List (Addr × Obj)) (s:Shared) (σ:St) (H:Hp) (o i v:V) (L F u:Value) (Q:Hp->Prop),Inv X pins σ H s->aT o L->aT i F->aT v u->t o i v H Q ->
  wpAny (model X.prog X.w) X.A (setItem L F u) (λ_ s'=>∃H',Inv X pins σ H' s'/\Q H') X.xe s
section
variable {X:Cx}
def cH (i:Nat):TG:=λv σ H Q=>Q (σ.set i (some v)) H
theorem aP (i:Nat) {x:Str} (L:X.N.Nodup:=by first | assumption | exact of_decide_eq_true (by kernel_rfl)) (hi:X.N[i]? = some x:=by exact rfl) (Z:Loc X.env.scope x:=by first | exact Or.inl rfl | exact Or.inr rfl) (F:X.fn x=true\/X.env.scope.names.lookup x=some .local:=by first | exact .inl rfl | exact .inr rfl | assumption):PG X (.Name x pos) (cH i):=by
 intro pins s σ H v u Q I r h;exact wpAny_assign_Name (il I L hi Z r (λs' U=>⟨_,H,U,h⟩) F)
def Ag:TGs:=λvs σ H Q=>vs=[]/\Q σ H
def mJ (t:TG) (u:TGs):TGs:=λvs σ H Q=>∃v r,vs=v :: r/\t v σ H λσ' H'=>u r σ' H' Q
theorem ml:PGs X [] Ag:=by
 intro pins s σ H vs us Q I r h;obtain⟨e,h⟩:=h;subst e;cases r;exact assignInOrder_nil ⟨σ,H,I,h⟩
theorem dB {t:TG} {u:TGs} (h1:PG X e t) (h2:PGs X es u)
  (hs:(JE (e :: es) X.env).map (·.2)=assign e X.env ::(JE es X.env).map (·.2):=by rfl):PGs X (e :: es) (mJ t u):=by
 intro pins s σ H vs us Q I r h;obtain⟨v,vr,e1,h⟩:=h;subst e1;cases r with
 | cons r U =>
  rw[hs];refine assignInOrder_cons (thn (h1 pins s σ H _ _ _ I r h) λ_ s1 F=>?_)
  obtain⟨L,H1,I1,Z⟩:=F;exact h2 pins s1 L H1 _ _ Q I1 U Z
def Hd (K:e_) (n:Nat) (t:TGs):TG:=λv σ H Q=>∃a xs,v = .ref a/\SqT K H a xs/\xs.length=n/\t xs σ H Q
theorem Do {t:TGs} (hc:X.calm=true) (h:PGs X es t)
  (hn:(JE es X.env).length=n:=by rfl) (F:(JE es X.env).findIdx? (·.1)=none:=by rfl):PG X (.Tuple es k pos) (Hd X.K n t):=by
 intro pins s σ H v u Q I r L;obtain⟨a,xs,e1,Z,hl,L⟩:=L;subst e1;cases r;obtain⟨its,U,ht,hz⟩:=I.tuple Z;refine assign_Tuple_tuple (I.ok.hd hc) ht (by simp[hn,<- hl,U.length]) F λh' hx=>?_
 have I1:Inv X pins σ H { s with heap:=h' }:=I.kept (t':=s.toks) λb o e=>hx b o (kf (fy e)) e
 exact h pins _ σ H xs _ Q I1 (by simpa using U) L
def BZ (to L:TE) (t:AD):TG:=λv σ H Q=>to σ H λo H1=>L σ H1 λi H2=>t o i v H2 λF=>Q σ F
theorem nO {o i:Expr} {to ti:TE} {t:AD} (ho:PE X o to) (hi:PE X i ti) (hs:C7 X t)
  (ha : ∀v,assign (.Subscript o i pos) X.env v=(do
   let Z <- holding [v] (eval o X.env)
   let iv <- holding [v,Z] (eval i X.env)
   standAt pos
   holding [v,Z,iv] (setItem Z iv v)
   release [v,Z,iv] []):=by intro _;rfl):PG X (.Subscript o i pos) (BZ to ti t):=by
 intro pins s σ H v u Q I r h;rw[ha];refine a_ (m6 (thn (ho pins s σ H _ I h) λZ s1 F=>?_))
 obtain⟨x,H1,I1,r1,q1⟩:=F;refine a_ (m6 (thn (hi pins s1 σ H1 _ I1 q1) λiv s2 U=>?_))
 obtain⟨y,H2,I2,r2,q2⟩:=U;refine a_ (wpAny_standAt (a_ (m6 (thn (hs pins s2 σ H2 x y v Z iv u _ I2 r1 r2 r q2) λ_ s3 L=>?_))))
 obtain⟨H3,I3,q3⟩:=L;exact wpAny_release ⟨σ,H3,I3,q3⟩
def lE (te:TE) (g:TG):TS:=λD σ H=>te σ H λx H1=>g x σ H1 D.nx
theorem kh {te:TE} {g:TG} (he:PE X e te) (Z:PG X tg g) (hs:swapsWithSole [tg] e pos.line X.env=pure false:=by rfl) (hw:swappedStores [tg] e X.env=pure none:=by rfl)
  (h1:(JE [tg] X.env).map (·.2)=[assign tg X.env]:=by rfl):PS X (.Assign [tg] e pos) (lE te g):=by
 intro pins s σ H D I h;refine wpAny_Assign_stores (thn (he pins s σ H _ I h) λv s1 F=>?_) hs hw
 obtain⟨x,H1,U,r1,L⟩:=F;rw[h1];exact thn (Z pins s1 σ H1 x v _ U r1 L) λ_ s2 q=>q
theorem ay (i:Nat) {x:Str} {e:Expr} {te:TE} {pos':Pos} (he:PE X e te) (hN:X.N.Nodup:=by assumption) (hi:X.N[i]? = some x:=by exact rfl) (hx:Loc X.env.scope x:=by first | exact Or.inl rfl | exact Or.inr rfl) (hs:swapsWith e (some (.Name x pos')) pos.line X.env=pure false:=by rfl) (Z:X.fn x=true\/X.env.scope.names.lookup x=some .local:=by first | exact .inl rfl | exact .inr rfl | assumption) :
  PS X (.Assign [.Name x pos'] e pos) (lE te (cH i)):=by
 intro pins s σ H D I h;refine wpAny_Assign_Name (thn (he pins s σ H _ I h) λv s1 F=>?_) hs
 obtain⟨y,H1,U,r1,L⟩:=F;exact il U hN hi hx r1 (λs2 I2=>⟨_,H1,I2,L⟩) Z
end
section
variable {X:Cx}
def uC (c:TT) (tb:TS):TS:=λD σ H=>∃W:Nat->St->Hp->Prop,(∃m,W m σ H)/\∀m σ H,W m σ H ->
 c σ H λb H1=>if b=true then ∃N:St->Hp->Prop,(∀ σ' H',N σ' H'->∃F,F < m/\W F σ' H')/\tb { D with nx:=N,ct:=N,bk:=D.nx } σ H1 else D.nx σ H1
theorem ny {c:Expr} {tc:TT} {tb:TS} (hp:PassesOwn (model X.prog X.w) X.A X.env X.xe) (hc:PT X c tc) (hb:PSs X body tb):PS X (.While c body [] pos) (uC tc tb):=by
 intro pins s σ H D I h;obtain⟨W,⟨m0,w0⟩,Z⟩:=h;refine wpAny_While (codeAny_whileLoop (λn s'=>∃ σ' H',Inv X pins σ' H' s'/\W n σ' H') ?_ m0 ⟨σ,H,I,w0⟩)
 rintro n s1 ⟨L,H1,I1,w1⟩
 refine IC hp (thn (hc pins s1 L H1 _ I1 (Z n L H1 w1)) λb s2 U=>?_)
 obtain⟨H2,I2,q2⟩:=U;cases b with
 | true =>
  obtain⟨N,hN,q2⟩:=q2;rw[if_pos rfl];refine IC hp (thn (hb pins s2 L H2 _ I2 q2) λf s3 q3=>?_)
  cases f with
  | next =>
   obtain⟨F,H3,I3,n3⟩:=q3;obtain⟨m',hm,w3⟩:=hN F H3 n3;exact⟨m',hm,F,H3,I3,w3⟩
  | cont =>
   obtain⟨F,H3,I3,n3⟩:=q3;obtain⟨m',hm,w3⟩:=hN F H3 n3;exact⟨m',hm,F,H3,I3,w3⟩
  | brk=>exact q3
  | ret v=>exact q3
 | false =>
  rw[if_neg i6];exact Je ⟨L,H2,I2,q2⟩
end
structure It where
 go:Nat->Hp->Prop
 yld:Nat->Hp->V->Hp->Prop
 stop:Nat->Hp->Prop
def nD (X:Cx) (pins:List (Addr × Obj)) (H:Hp) (b:Addr):Prop :=
 H b=none/\b≠X.env.locals/\b∉X.fs/\(b∈X.ex\/X.s₀.heap.objs.size<=b)/\(∀x c,X.env.cells.lookup x=some c->c≠b)/\∀p∈X.pn++pins,p.1≠b
theorem Inv.fpOk {X:Cx} {σ:St} {H H':Hp} (I:Inv X pins σ H s) (F:s.heap.objs.size<=b) (L:H' b=none):nD X pins H' b:=by
 refine⟨L,IE (j8 I.lt F),I.nofs F,.inr (n_ I.sz F),λx c e z=>?_,λp hp z=>?_⟩
 .obtain⟨v,q⟩:=I.cell x c e
  exact absurd (j8 q.lt (by rw[z];exact F)) (w4 _)
 .exact absurd (j8 (fy (I.pin p hp).1) (by rw[z];exact F)) (w4 _)
structure tf (P:Program) (w:World) (K:e_) (tg:Expr) (J:It) (fp:List Addr) (it:Addr) (tn:Nat->Heap->Prop):Prop where
 mem:it∈fp
 obj : ∀i h,tn i h->∀b∈fp,∃o,h.get? b=some o/\∀v,o.data≠.cell v
 keep : ∀i h h',tn i h->(∀b∈fp,∀o,h.get? b=some o->h'.get? b=some o)->tn i h'
 item : ∀(X:Cx),X.prog=P->X.w=w->X.K=K->X.calm=true->∀(i:Nat) (pins:List (Addr × Obj)) (s:Shared) (σ:St) (H:Hp) (E:Value->Shared->Prop),Inv X pins σ H s->(∀b∈fp,nD X pins H b)->tn i s.heap->J.go i H ->
  wpAny (model P w) X.A (pyNext (.ref it)) (λr s1=>∃u,r=some u /\
   wpAny (model P w) X.A (letOwnedTupleGo tg (.ref it) u) (λ_ s2=>∃x H',Inv X pins σ H' s2/\aT x u/\J.yld i H x H'/\tn (i+1) s2.heap/\∀b∈fp,H' b=none) E s1) E s
 done : ∀(X:Cx),X.prog=P->X.w=w->X.K=K->X.calm=true->∀(i:Nat) (pins:List (Addr × Obj)) (s:Shared) (σ:St) (H:Hp) (E:Value->Shared->Prop),Inv X pins σ H s->(∀b∈fp,nD X pins H b)->tn i s.heap->J.stop i H ->
  wpAny (model P w) X.A (pyNext (.ref it)) (λr s1=>r=none/\Inv X pins σ H s1) E s
 self : ∀(A:Around) (i:Nat) (s:Shared) (Q:Value->Shared->Prop) (E:Value->Shared->Prop),tn i s.heap->Q (.ref it) s->wpAny (model P w) A (pyIter (.ref it)) Q E s
abbrev TI:=St->Hp->(It->Hp->Prop)->Prop
def PIE (X:Cx) (pins:List (Addr × Obj)) (σ:St) (tg:Expr) (R:It->Hp->Prop) (F:Value) (U:Shared):Prop :=
 ∃(it:Addr) (fp:List Addr) (L:Nat->Heap->Prop) (J:It) (H':Hp),F = .ref it/\Inv X pins σ H' U/\tf X.prog X.w X.K tg J fp it L/\L 0 U.heap/\(∀b∈fp,nD X pins H' b)/\R J H'
def PI (X:Cx) (tg iter:Expr) (wi:TI):Prop :=
 ∀ (pins:List (Addr × Obj)) (s:Shared) (σ:St) (H:Hp) (R:It->Hp->Prop),Inv X pins σ H s->wi σ H R ->
  wpAny (model X.prog X.w) X.A (eval iter X.env) (λv s1=>wpAny (model X.prog X.w) X.A (pyIter v) (PIE X pins σ tg R) X.xe s1) X.xe s
theorem rE {o:Obj} {n:String} {Q:Unit->Shared->Prop} (U:s.heap.get? it=some o) (hc:o.cls = .type n) (L:o.data = .fields vs)
    (Z:["enumerate","zip","dict_itemiterator","dict_reverseitemiterator","odict_iterator","itertools.zip_longest","itertools.pairwise"].contains n=false) (F:Q Unit.unit s):wpAny M A (letOwnedTupleGo tg (.ref it) u) Q E s:=by
  unfold letOwnedTupleGo;cases tg <;> first
    | exact b_ F
    | (cases u <;> first
        | exact b_ F
        | (refine a_ (wpAny_load U ?_)
           rw[hc,L]
           show wpAny M A (if (["enumerate","zip","dict_itemiterator","dict_reverseitemiterator","odict_iterator","itertools.zip_longest","itertools.pairwise"].contains n && vs[0]? == some (HU _))=true then _ else _) Q E s
           rw[if_neg (by intro h;rw[Z,p_] at h;cases h)]
           exact b_ F))
def Itl (K:e_) (a:Addr):It :=
 ⟨λi H=>∃xs x,SqL K H a xs/\xs[i]? = some x,λi H x H'=>H'=H/\∀xs,SqL K H a xs->xs[i]? = some x,λi H=>∃xs,SqL K H a xs/\xs.length<=i⟩
def Itt (K:e_) (a:Addr):It :=
 ⟨λi H=>∃xs x,SqT K H a xs/\xs[i]? = some x,λi H x H'=>H'=H/\∀xs,SqT K H a xs->xs[i]? = some x,λi H=>∃xs,SqT K H a xs/\xs.length<=i⟩
def Itr (lo:Int) (n:Nat):It:=⟨λi _=>i < n,λi H x H'=>H'=H/\x = .int (lo+i),λi _=>n<=i⟩
theorem wF (a it:Addr):tf P w K tg (Itl K a) [it] it (λi h=>h.IsListIter it a i) where
 mem:=by simp
 obj:=λi h st b F=>by
  have e:b=it:=by simpa using F
  subst e;obtain⟨o,e,c,d⟩:=st;exact⟨o,e,λv z=>by rw[d] at z;cases z⟩
 keep:=λi h h' st k=>st.at λo e=>k it (by simp) o e
 item:=by
  intro X hP hw hK hc i pins s σ H E I Z st hg;subst hP hw hK;obtain⟨xs,x,U,hx⟩:=hg;obtain⟨its,rv,p,hz⟩:=I.list U;obtain⟨u,hu,ru⟩:=rv.get hx;obtain⟨f0,f1,f2,f3,f4,f5⟩:=Z it (by simp)
  refine wpAny_pyNext_list_item st p.isList (x:=u) (by simpa using hu) λh' L sb=>?_
  have I1:Inv X pins σ H { s with heap:=h' }:=I.turned (t':=s.toks) (λb o F e=>(sb.2 b F).trans e) f0 f1 f3 f4 f5
  obtain⟨o,e,c,d⟩:=id L;exact⟨u,rfl,rE (s:={ s with heap:=h' }) e c d ∅ ⟨x,H,I1,ru,⟨rfl,λys hy=>by rw[I.list_inj hy U];exact hx⟩,L,λb F=>(Z b F).1⟩⟩
 done:=by
  intro X hP hw hK hc i pins s σ H E I Z st hg;subst hP hw hK;obtain⟨xs,U,hx⟩:=hg;obtain⟨its,rv,p,hz⟩:=I.list U;obtain⟨f0,f1,f2,f3,f4,f5⟩:=Z it (by simp)
  have hl:=rv.length;exact wpAny_pyNext_list_end (I.ok.hd hc) st p.isList (by simp;omega) λh' eb=>⟨rfl,I.turned (t':=s.toks) (λb o F e=>eb b o F e) f0 f1 f3 f4 f5⟩
 self:=λ_ _ _ _ _ st h=>wpAny_pyIter_listiter st h
theorem tK (a it:Addr):tf P w K tg (Itt K a) [it] it (λi h=>h.IsTupleIter it a i) where
 mem:=by simp
 obj:=λi h st b F=>by
  have e:b=it:=by simpa using F
  subst e;obtain⟨o,e,c,d⟩:=st;exact⟨o,e,λv z=>by rw[d] at z;cases z⟩
 keep:=λi h h' st k=>st.at λo e=>k it (by simp) o e
 item:=by
  intro X hP hw hK hc i pins s σ H E I Z st hg;subst hP hw hK;obtain⟨xs,x,U,hx⟩:=hg;obtain⟨its,rv,p,hz⟩:=I.tuple U;obtain⟨u,hu,ru⟩:=rv.get hx;obtain⟨f0,f1,f2,f3,f4,f5⟩:=Z it (by simp)
  refine wpAny_pyNext_tuple_item st (show s.heap.IsTuple a its.toArray from p) (x:=u) (by simpa using hu) λh' L sb=>?_
  have I1:Inv X pins σ H { s with heap:=h' }:=I.turned (t':=s.toks) (λb o F e=>(sb.2 b F).trans e) f0 f1 f3 f4 f5
  obtain⟨o,e,c,d⟩:=id L;exact⟨u,rfl,rE (s:={ s with heap:=h' }) e c d ∅ ⟨x,H,I1,ru,⟨rfl,λys hy=>by rw[I.tuple_inj hy U];exact hx⟩,L,λb F=>(Z b F).1⟩⟩
 done:=by
  intro X hP hw hK hc i pins s σ H E I Z st hg;subst hP hw hK;obtain⟨xs,U,hx⟩:=hg;obtain⟨its,rv,p,hz⟩:=I.tuple U;obtain⟨f0,f1,f2,f3,f4,f5⟩:=Z it (by simp)
  have hl:=rv.length;exact wpAny_pyNext_tuple_end (I.ok.hd hc) st (show s.heap.IsTuple a its.toArray from p) (by simp;omega) λh' eb=>⟨rfl,I.turned (t':=s.toks) (λb o F e=>eb b o F e) f0 f1 f3 f4 f5⟩
 self:=λ_ _ _ _ _ st h=>wpAny_pyIter_tupleiter st h
theorem ua (it:Addr) (lo:Int) (n:Nat):tf P w K tg (Itr lo n) [it] it (λi h=>IsRangeIter h it (lo+(i:Nat) * 1) ((n:Int) - (i:Nat)) 1) where
 mem:=by simp
 obj := λi h st b F=>by
  have e:b=it:=by simpa using F
  subst e;exact⟨_,st,λv z=>by
   have z':Data.fields _=Data.cell v:=z
   cases z'⟩
 keep:=λi h h' st k=>k it (by simp) _ st
 item:=by
  intro X hP hw hK hc i pins s σ H E I U st hg;subst hP hw hK;obtain⟨f0,f1,f2,f3,f4,Z⟩:=U it (by simp)
  have W:=Walks.range (prog:=X.prog) (w:=X.w) (I.ok.hd hc) it lo 1 n;refine W.item i s _ _ hg st λv h' tk hv L kk=>?_
  obtain⟨t,rfl⟩:=hv;have I1:Inv X pins σ H { s with heap:=h',toks:=tk }:=I.turned (λb o F e=>kk b o (by simpa using F) e) f0 f1 f3 f4 Z
  refine⟨_,rfl,rE (s:={ s with heap:=h',toks:=tk }) (n := "range_iterator") L rfl rfl ∅ ⟨.int (lo+i),H,I1,⟨t,?_⟩,⟨rfl,rfl⟩,L,λb F=>(U b F).1⟩⟩
  rw[Int.mul_one]
 done:=by
  intro X hP hw hK hc i pins s σ H E I U st hg;subst hP hw hK;obtain⟨f0,f1,f2,f3,f4,Z⟩:=U it (by simp)
  exact wpAny_pyNext_range_end (I.ok.hd hc) st (by have:n<=i:=hg;omega) λh' eb=>⟨rfl,I.turned (t':=s.toks) (λb o F e=>eb b o F e) f0 f1 f3 f4 Z⟩
 self:=λ_ _ _ _ _ st h=>wpAny_pyIter_rangeiter st h
section
variable {X:Cx}
theorem yu {σ:St} {H:Hp} {R:It->Hp->Prop} {t u v:Tok} (I:Inv X pins σ H s) (h1 : -(2 ^ 62)<=lo) (h2:lo < 2 ^ 62) (Z : -(2 ^ 62)<=hi) (U:hi < 2 ^ 62)
  (q:R (Itr lo (hi - lo).toNat) H):wpAny (model X.prog X.w) X.A (pyIter (.ref s.heap.objs.size)) (PIE X pins σ tg R) E { s with heap:=s.heap.push { cls:=.type "range",data:=.fields #[.int lo t,.int hi u,.int 1 v] },toks:=tk }:=by
 refine wpAny_pyIter_range (IsRange.new ..) (small_one h1 h2 Z U) ?_
 have F:Inv X pins σ H { s with heap:=s.heap.push { cls:=.type "range",data:=.fields #[.int lo t,.int hi u,.int 1 v] },toks:=tk }:=I.kept λb o e=>c_ _ e
 refine⟨(s.heap.push { cls:=.type "range",data:=.fields #[.int lo t,.int hi u,.int 1 v] }).objs.size,[(s.heap.push { cls:=.type "range",data:=.fields #[.int lo t,.int hi u,.int 1 v] }).objs.size],_,_,H,rfl,
  F.kept (t':=tk) λb o e=>c_ _ e,ua _ lo (hi - lo).toNat,?_,λb L=>?_,q⟩
 .have e1:lo+((0:Nat):Int) * 1=lo:=by simp
  have e2:(((hi - lo).toNat:Nat):Int) - ((0:Nat):Int)=HI lo hi 1:=by rw[rangeSize_one];split <;> omega
  show IsRangeIter _ _ (lo+((0:Nat):Int) * 1) ((((hi - lo).toNat:Nat):Int) - ((0:Nat):Int)) 1
  rw[e1,e2];exact ge _ rfl
 .have e:b=(s.heap.push { cls:=.type "range",data:=.fields #[.int lo t,.int hi u,.int 1 v] }).objs.size:=by simpa using L
  subst e;exact F.fpOk (h_ _) (F.hok.fresh (h_ _))
def An (ta:TA):TI:=λσ H R=>ta σ H λvs H1=>∃j:Int,vs=[.int j]/\-(2 ^ 62)<=j/\j < 2 ^ 62/\R (Itr 0 j.toNat) H1
theorem ck {a:Expr} {ta:TA} {p:Pos} (hg:Gl X "range") (hm:X.mg "range" = none) (ha:PA X [a] ta) (hs:i9 [a] X.env=[(false,eval a X.env)]:=by rfl):PI X tg (.Call (.Name "range" p) [a] [] pos) (An ta):=by
 intro pins s σ H R I h;refine Call_ (dF I hg hm boot_range (o6 (thn (ha pos pins s σ H _ I h) λus s1 F=>?_) hs rfl))
 obtain⟨vs,H1,I1,r1,L⟩:=F;obtain⟨j,e,L,Z,q⟩:=L;subst e;cases r1 with
 | cons r U =>
  cases U;obtain⟨t,rfl⟩:=r;exact call_range_1 (yu I1 () () L Z (by simpa using q))
def E6 (wi:TI) (g:TG) (tb:TS):TS:=λD σ H=>wi σ H λJ H1=>∃W:Nat->Nat->St->Hp->Prop,(∃m,W 0 m σ H1)/\∀i m σ H,W i m σ H ->
 (J.stop i H/\D.nx σ H)\/(J.go i H/\∃N:St->Hp->Prop,(∀ σ' H',N σ' H'->∃L,L < m/\W (i+1) L σ' H')/\∀x H',J.yld i H x H'->g x σ H' λF H2=>tb { D with nx:=N,ct:=N,bk:=D.nx } F H2)
def kl (fp:List Addr) (h:Heap):List (Addr × Obj):=fp.filterMap λb=>(h.get? b).map λo=>(b,o)
theorem db {o:Obj} (F:b∈fp) (e:h.get? b=some o):(b,o)∈kl fp h:=mem_filterMap.mpr ⟨b,F,by rw[e];rfl⟩
theorem xu {p:Addr × Obj} (hp:p∈kl fp h):p.1∈fp/\h.get? p.1=some p.2:=by
 obtain⟨b,L,e⟩:=mem_filterMap.mp hp;cases q:h.get? b with
 | none=>rw[q] at e;cases e
 | some o =>
  rw[q] at e;have F:(b,o)=p:=j9 e
  subst F;exact⟨L,q⟩
theorem Inv.pinned {σ:St} {H:Hp} (I:Inv X pins σ H s) (Z : ∀b∈fp,nD X pins H b) (ho : ∀b∈fp,∃o,s.heap.get? b=some o/\∀v,o.data≠.cell v):Inv X (pins++kl fp s.heap) σ H s :=
 I.pins_of λp hp=>(t0.mp hp).elim (λz=>I.pin p (n9 _ z)) λz=>by
  obtain⟨L,e⟩:=xu z;obtain⟨f0,f1,U,_⟩:=Z p.1 L;obtain⟨o,F,d⟩:=ho p.1 L;rw[e] at F;cases F;exact⟨e,f0,f1,U,d⟩
theorem Inv.unpinned {σ:St} {H:Hp} (I:Inv X (pins++pl) σ H s):Inv X pins σ H s:=I.pins_of λp hp=>I.pin p (n9 _ (IB _ hp))
theorem da {wi:TI} {g:TG} {tb:TS} (hi:PI X tg iter wi) (hg:PG X tg g) (Z:PSs X body tb) (hp:PassesOwn (model X.prog X.w) X.A X.env X.xe:=by exact PassesOwn.never) (hc:X.calm=true:=by exact rfl)
  (hs : ∀x,foldedSetIterable iter X.env x=pure x:=by intro _;rfl):PS X (.For tg iter body [] pos) (E6 wi g tb):=by
 intro pins s σ H D I h;refine wpAny_For (thn (hi pins s σ H _ I h) λv s1 h1=>thn h1 λau s2 h2=>?_) hs
 obtain⟨it,fp,tn,J,H2,e,I2,T,as,f2,W,⟨m0,w0⟩,an⟩:=h2;subst e;have L : ∀{H':Hp},(∀b∈fp,H' b=none)->∀b∈fp,nD X pins H' b:=λhn b Z=>⟨hn b Z,(f2 b Z).2⟩
 refine codeAny_forLoop_any (λn s'=>∃i σ' H',Inv X pins σ' H' s'/\tn i s'.heap/\(∀b∈fp,H' b=none)/\W i n σ' H') ?_ m0 ⟨0,σ,H2,I2,as,λb Z=>(f2 b Z).1,w0⟩
 rintro n s3 ⟨i,ac,H3,I3,am,aj,w3⟩
 rcases an i n ac H3 w3 with⟨ao,qn⟩ | ⟨go,N,hN,step⟩
 .refine IC hp (thn (T.done X rfl rfl rfl hc i pins s3 ac H3 X.xe I3 (L aj) am ao) λr s4 ad=>?_)
  obtain⟨hr,I4⟩:=ad;subst hr;exact Je ⟨ac,H3,I4,qn⟩
 .refine IC hp (thn (T.item X rfl rfl rfl hc i pins s3 ac H3 X.xe I3 (L aj) am go) λr s4 ag=>?_)
  obtain⟨u,hr,h4⟩:=ag;subst hr;refine IC hp (thn h4 λ_ s5 af=>?_)
  obtain⟨x,H5,I5,r5,y5,ai,aq⟩:=af;have ar:=I5.pinned (L aq) (T.obj _ _ ai);refine IC hp (thn (hg _ s5 ac H5 x u _ ar r5 (step x H5 y5)) λ_ s6 ah=>?_)
  obtain⟨ap,H6,I6,q6⟩:=ah;refine IC hp (thn (Z _ s6 ap H6 _ I6 q6) λf s7 q7=>?_)
  have aa : ∀{F:St} {H7:Hp},Inv X (pins++kl fp s5.heap) F H7 s7->N F H7->∃m,m < n/\∃i σ' H',Inv X pins σ' H' s7/\tn i s7.heap/\(∀b∈fp,H' b=none)/\W i m σ' H':=λ{F H7} U n7=>by
   obtain⟨m',hm,w7⟩:=hN F H7 n7;refine⟨m',hm,i+1,F,H7,U.unpinned,T.keep _ _ _ ai λb Z o e=>(U.pin (b,o) (n9 _ (n9 _ (db Z e)))).1,λb Z=>?_,w7⟩
   obtain⟨o,e,d⟩:=T.obj _ _ ai b Z;exact(U.pin (b,o) (n9 _ (n9 _ (db Z e)))).2.1
  cases f with
  | next=>obtain⟨F,H7,U,n7⟩:=q7;exact aa U n7
  | cont=>obtain⟨F,H7,U,n7⟩:=q7;exact aa U n7
  | brk=>obtain⟨F,H7,U,q7⟩:=q7;exact⟨F,H7,U.unpinned,q7⟩
  | ret v=>obtain⟨x7,F,H7,U,r7,q7⟩:=q7;exact⟨x7,F,H7,U.unpinned,r7,q7⟩
end
abbrev R2:=V->V->Hp->VK->Prop
def OpR (X:Cx) (f:Value->Value->Sem Value) (r:R2):Prop :=
 ∀ (pins:List (Addr × Obj)) (s:Shared) (σ:St) (H:Hp) (x y:V) (v u:Value) (Q:VK),Inv X pins σ H s->aT x v->aT y u->r x y H Q ->
  wpAny (model X.prog X.w) X.A (f v u) (EP X pins σ Q) X.xe s
def UnR (X:Cx) (f:Value->Sem Value) (r:V->Hp->VK->Prop):Prop :=
 ∀ (pins:List (Addr × Obj)) (s:Shared) (σ:St) (H:Hp) (x:V) (v:Value) (Q:VK),Inv X pins σ H s->aT x v->r x H Q ->
  wpAny (model X.prog X.w) X.A (f v) (EP X pins σ Q) X.xe s
def bP (X:Cx) (f:Value) (r:List V->Hp->VK->Prop):Prop :=
 ∀ (pins:List (Addr × Obj)) (s:Shared) (σ:St) (H:Hp) (xs:List V) (us:List Value) (Q:VK),Inv X pins σ H s->aO xs us->r xs H Q ->
  wpAny (model X.prog X.w) X.A (call f us) (EP X pins σ Q) X.xe s
def tOp (r:R2) (ta tb:TE):TE:=λσ H Q=>ta σ H λx H1=>tb σ H1 λy H2=>r x y H2 Q
def tUn (r:V->Hp->VK->Prop) (ta:TE):TE:=λσ H Q=>ta σ H λx H1=>r x H1 Q
def rI (C:Int->Int->Prop) (g:Int->Int->V):R2:=λx y H Q=>∃i j,x = .int i/\y = .int j/\C i j/\Q (g i j) H
def rI0 (g:Int->Int->V):R2:=λx y H Q=>∃i j,x = .int i/\y = .int j/\Q (g i j) H
def rU (g:Int->V):V->Hp->VK->Prop:=λx H Q=>∃i,x = .int i/\Q (g i) H
section
variable {X:Cx} {a b c:Expr} {ta tb tc:TE}
theorem CV (ha:PE X a ta) (hb:PE X b tb) {pins:List (Addr × Obj)} {s:Shared} {σ:St} {H:Hp} {R:V->V->Hp->Prop} (I:Inv X pins σ H s)
  (h:ta σ H λx H1=>tb σ H1 λy H2=>R x y H2) {Q:Value->Shared->Prop} {f:Value->Value->Sem Value}
  (hf : ∀v u Z x y H2,Inv X pins σ H2 Z->aT x v->aT y u->R x y H2->wpAny (model X.prog X.w) X.A (f v u) Q X.xe Z) :
  wpAny (model X.prog X.w) X.A (eval a X.env) (λv s₁=>wpAny (model X.prog X.w) X.A (eval b X.env) (λu U=>wpAny (model X.prog X.w) X.A (f v u) Q X.xe U) X.xe s₁) X.xe s:=by
 refine thn (ha pins s σ H _ I h) λv s1 L=>?_
 obtain⟨x,H1,I1,r1,q1⟩:=L;refine thn (hb pins s1 σ H1 _ I1 q1) λu Z F=>?_
 obtain⟨y,H2,I2,r2,q2⟩:=F;exact hf v u Z x y H2 I2 r1 r2 q2
theorem ax {F:Operator} {r:R2} (ho:OpR X (HQ F) r) (L:PE X a ta) (hb:PE X b tb):PE X (.BinOp a F b pos) (tOp r ta tb):=by
 intro pins s σ H Q I h;exact wpAny_BinOp (CV L hb I h λv u Z x y H2 I2 U ry q=>ho pins Z σ H2 x y v u Q I2 U ry q)
theorem dz {L:UnaryOp} {r:V->Hp->VK->Prop} (ho:UnR X (unaryOp L) r) (U:PE X a ta):PE X (.UnaryOp L a pos) (tUn r ta):=by
 intro pins s σ H Q I h;exact UnaryOp_ (thn (U pins s σ H _ I h) λv s1 F=>by obtain⟨x,H1,I1,r1,Z⟩:=F;exact(ho pins s1 σ H1 x v Q I1 r1 Z))
theorem opI {f:Value->Value->Sem Value} {C:Int->Int->Prop} {g:Int->Int->Int}
  (F : ∀(i j:Int) (t u:Tok) (s:Shared) (Q:Value->Shared->Prop) (E:Value->Shared->Prop),C i j->Q (.int (g i j) s.toks) { s with toks:=s.toks+1 }->wpAny (model X.prog X.w) X.A (f (.int i t) (.int j u)) Q E s) :
  OpR X f (rI C λi j=>.int (g i j)):=by
 intro pins s σ H x y v u Q I U Z h;obtain⟨i,j,rfl,rfl,L,q⟩:=h;obtain⟨t,rfl⟩:=U;obtain⟨t',rfl⟩:=Z;exact F i j t t' s _ _ L ⟨.int (g i j),H,I.tok _,⟨_,rfl⟩,q⟩
theorem Eo {f:Value->Value->Sem Value} {g:Int->Int->Int}
  (F : ∀(i j:Int) (t u:Tok) (s:Shared) (Q:Value->Shared->Prop) (E:Value->Shared->Prop),Q (.int (g i j) s.toks) { s with toks:=s.toks+1 }->wpAny (model X.prog X.w) X.A (f (.int i t) (.int j u)) Q E s) :
  OpR X f (rI0 λi j=>.int (g i j)):=by
 intro pins s σ H x y v u Q I L U h;obtain⟨i,j,rfl,rfl,q⟩:=h;obtain⟨t,rfl⟩:=L;obtain⟨t',rfl⟩:=U;exact F i j t t' s _ _ ⟨.int (g i j),H,I.tok _,⟨_,rfl⟩,q⟩
theorem A4 {f:Value->Value->Sem Value} {g:Int->Int->Bool}
  (F : ∀(i j:Int) (t u:Tok) (s:Shared) (Q:Value->Shared->Prop) (E:Value->Shared->Prop),Q (.bool (g i j)) s->wpAny (model X.prog X.w) X.A (f (.int i t) (.int j u)) Q E s) :
  OpR X f (rI0 λi j=>.bl (g i j)):=by
 intro pins s σ H x y v u Q I L U h;obtain⟨i,j,rfl,rfl,q⟩:=h;obtain⟨t,rfl⟩:=L;obtain⟨t',rfl⟩:=U;exact F i j t t' s _ _ ⟨.bl (g i j),H,I,rfl,q⟩
def Gm (i j:Int):Prop:=0<=j/\j<=1000000/\i.natAbs < 2 ^ 64
def zY (i j:Int):Prop:=(-(2 ^ 64) < i/\i < 2 ^ 64)\/(-(2 ^ 64) < j/\j < 2 ^ 64)
theorem zY.ok {i j:Int} (h:zY i j):IntMulOk i j:=by
 rcases h with⟨h1,h2⟩ | ⟨h1,h2⟩
 .exact .of_left (intBits_le_64 h1 h2)
 .exact .of_right (intBits_le_64 h1 h2)
theorem aW:OpR X (HQ .Add) (rI0 λi j=>.int (i+j)):=Eo λ_ _ _ _ _ _ _ q=>add_int q
theorem fW:OpR X (HQ .Sub) (rI0 λi j=>.int (i - j)):=Eo λ_ _ _ _ _ _ _ q=>sub_int q
theorem gv:OpR X (HQ .Mult) (rI zY λi j=>.int (i * j)):=opI λ_ _ _ _ _ _ _ F q=>mul_int q F.ok
theorem cM:OpR X (HQ .Mod) (rI (λ_ j=>0 < j) λi j=>.int (i % j)):=opI λi j _ _ _ _ _ F q=>by
 have h1:(0:Int) < j:=F
 exact mod_int' () (by rw[Int.fmod_eq_emod_of_nonneg i ()];exact q)
theorem dE:OpR X (HQ .Pow) (rI Gm λi j=>.int (i ^ j.toNat)):=opI λ_ _ _ _ _ _ _ F q=>pow_int_small F.1 F.2.1 F.2.2 q
theorem unI {f:Value->Sem Value} {g:Int->Int}
  (F : ∀(i:Int) (t:Tok) (s:Shared) (Q:Value->Shared->Prop) (E:Value->Shared->Prop),Q (.int (g i) s.toks) { s with toks:=s.toks+1 }->wpAny (model X.prog X.w) X.A (f (.int i t)) Q E s) :
  UnR X f (rU λi=>.int (g i)):=by
 intro pins s σ H x v Q I L h;obtain⟨i,rfl,q⟩:=h;obtain⟨t,rfl⟩:=L;exact F i t s _ _ ⟨.int (g i),H,I.tok _,⟨_,rfl⟩,q⟩
theorem cy:UnR X (unaryOp .USub) (rU λi=>.int (Neg.neg i)):=unI λ_ _ _ _ _ q=>neg_int q
end
def qL:V->V->Bool
 | .non,.non=>true | .non,.int _=>true | .int _,.non=>true | .non,.bl _=>true | .bl _,.non=>true | .non,.str _=>true | .str _,.non=>true
 | .int _,.int _=>true | .bl _,.bl _=>true | .str _,.str _=>true | .byt _,.byt _=>true
 | .int _,.str _=>true | .str _,.int _=>true | .bl _,.str _=>true | .str _,.bl _=>true
 | _,_=>false
def rEq:R2:=λx y H Q=>qL x y=true/\Q (.bl (decide (x=y))) H
def rNe:R2:=λx y H Q=>qL x y=true/\Q (.bl (!decide (x=y))) H
theorem vW {i j:Int}:decide (V.int i=V.int j)=(i == j):=by
 rw[t5];simp
theorem zM {i j:Bool}:decide (V.bl i=V.bl j)=(i == j):=by
 rw[t5];simp
theorem wx {i j:Str}:decide (V.str i=V.str j)=(i == j):=by
 rw[t5];simp
theorem vS {i j:Array UInt8}:decide (V.byt i=V.byt j)=(i.toList == j.toList):=by
 rw[t5];cases i;cases j;simp
section
variable {X:Cx} {a b c:Expr} {ta tb tc:TE}
theorem bj {σ:St} {H:Hp} {Q:VK} {k F:Bool} (I:Inv X pins σ H s) (q:Q (.bl k) H) (e:k=F):EP X pins σ Q (.bool F) s:=by
 subst e;exact⟨.bl k,H,I,rfl,q⟩
theorem bA:OpR X (p8 .Eq) rEq:=by
 intro pins s σ H x y v u Q I L F h;obtain⟨hs,q⟩:=h;cases x with
 | non =>
  cases L;cases y with
  | non=>cases F;exact PySem.EqNone.eq_none_none (bj I q (by simp))
  | bl j=>cases F;exact PySem.EqNone.eq_none_bool (bj I q (by simp))
  | int j=>obtain⟨t',rfl⟩:=F;exact PySem.EqNone.eq_none_int (bj I q (by simp))
  | str j=>obtain⟨t',rfl⟩:=F;exact PySem.EqNone.eq_none_str (bj I q (by simp))
  | _=>exact absurd (show false=true from hs) i6
 | bl i =>
  cases L;cases y with
  | non=>cases F;exact PySem.EqNone.eq_bool_none (bj I q (by simp))
  | bl j=>cases F;exact eq_bool (bj I q zM)
  | str j=>obtain⟨t',rfl⟩:=F;exact PySem.EqMixed.eq_bool_str (bj I q (by simp))
  | _=>exact absurd (show false=true from hs) i6
 | int i =>
  obtain⟨t,rfl⟩:=L;cases y with
  | non=>cases F;exact PySem.EqNone.eq_int_none (bj I q (by simp))
  | int j=>obtain⟨t',rfl⟩:=F;exact eq_int (bj I q vW)
  | str j=>obtain⟨t',rfl⟩:=F;exact PySem.EqMixed.eq_int_str (bj I q (by simp))
  | _=>exact absurd (show false=true from hs) i6
 | str i =>
  obtain⟨t,rfl⟩:=L;cases y with
  | non=>cases F;exact PySem.EqNone.eq_str_none (bj I q (by simp))
  | bl j=>cases F;exact PySem.EqMixed.eq_str_bool (bj I q (by simp))
  | int j=>obtain⟨t',rfl⟩:=F;exact PySem.EqMixed.eq_str_int (bj I q (by simp))
  | str j=>obtain⟨t',rfl⟩:=F;exact eq_str (bj I q wx)
  | _=>exact absurd (show false=true from hs) i6
 | byt i =>
  obtain⟨t,rfl⟩:=L;cases y with
  | byt j=>obtain⟨t',rfl⟩:=F;exact PySem.W.eq_bytes (bj I q vS)
  | _=>exact absurd (show false=true from hs) i6
 | _=>cases y <;> exact absurd (show false=true from hs) i6
theorem Ck:OpR X (p8 .NotEq) rNe:=by
 intro pins s σ H x y v u Q I L F h;obtain⟨hs,q⟩:=h;cases x with
 | non =>
  cases L;cases y with
  | non=>cases F;exact PySem.EqNone.ne_none_none (bj I q (by simp))
  | bl j=>cases F;exact PySem.EqNone.ne_none_bool (bj I q (by simp))
  | int j=>obtain⟨t',rfl⟩:=F;exact PySem.EqNone.ne_none_int (bj I q (by simp))
  | str j=>obtain⟨t',rfl⟩:=F;exact PySem.EqNone.ne_none_str (bj I q (by simp))
  | _=>exact absurd (show false=true from hs) i6
 | bl i =>
  cases L;cases y with
  | non=>cases F;exact PySem.EqNone.ne_bool_none (bj I q (by simp))
  | bl j=>cases F;exact ne_bool (bj I q (congrArg not zM))
  | str j=>obtain⟨t',rfl⟩:=F;exact PySem.EqMixed.ne_bool_str (bj I q (by simp))
  | _=>exact absurd (show false=true from hs) i6
 | int i =>
  obtain⟨t,rfl⟩:=L;cases y with
  | non=>cases F;exact PySem.EqNone.ne_int_none (bj I q (by simp))
  | int j=>obtain⟨t',rfl⟩:=F;exact ne_int (bj I q (congrArg not vW))
  | str j=>obtain⟨t',rfl⟩:=F;exact PySem.EqMixed.ne_int_str (bj I q (by simp))
  | _=>exact absurd (show false=true from hs) i6
 | str i =>
  obtain⟨t,rfl⟩:=L;cases y with
  | non=>cases F;exact PySem.EqNone.ne_str_none (bj I q (by simp))
  | bl j=>cases F;exact PySem.EqMixed.ne_str_bool (bj I q (by simp))
  | int j=>obtain⟨t',rfl⟩:=F;exact PySem.EqMixed.ne_str_int (bj I q (by simp))
  | str j=>obtain⟨t',rfl⟩:=F;exact ne_str (bj I q (congrArg not wx))
  | _=>exact absurd (show false=true from hs) i6
 | byt i =>
  obtain⟨t,rfl⟩:=L;cases y with
  | byt j=>obtain⟨t',rfl⟩:=F;exact PySem.W.ne_bytes (bj I q (congrArg not vS))
  | _=>exact absurd (show false=true from hs) i6
 | _=>cases y <;> exact absurd (show false=true from hs) i6
theorem Ch:OpR X (p8 .Lt) (rI0 λi j=>.bl (decide (i < j))):=A4 λ_ _ _ _ _ _ _ q=>lt_int q
theorem pI:OpR X (p8 .LtE) (rI0 λi j=>.bl (decide (i<=j))):=A4 λ_ _ _ _ _ _ _ q=>le_int q
theorem gD:OpR X (p8 .Gt) (rI0 λi j=>.bl (decide (j < i))):=A4 λ_ _ _ _ _ _ _ q=>gt_int q
theorem Et:OpR X (p8 .GtE) (rI0 λi j=>.bl (decide (j<=i))):=A4 λ_ _ _ _ _ _ _ q=>ge_int q
theorem nomark (b:Expr) {F:CmpOp} (h:F≠.In:=by decide) (h2:F≠.NotIn:=by decide):IF F b=false:=by
 have e1:(F == CmpOp.In)=false:=by cases F <;> first | rfl | exact absurd rfl h
 have e2:(F == CmpOp.NotIn)=false:=by cases F <;> first | rfl | exact absurd rfl h2
 cases b <;> simp[IF,e1,e2]
theorem bH {F:CmpOp} {r:R2} (ho:OpR X (p8 F) r) (L:PE X a ta) (hb:PE X b tb) (hm:IF F b=false:=by first | exact nomark _ | with_unfolding_all rfl):PE X (.Compare a [F] [b] pos) (tOp r ta tb):=by
 intro pins s σ H Q I h;exact wpAny_Compare1 (CV L hb I h λv u Z x y H2 I2 U ry q=>ho pins Z σ H2 x y v u Q I2 U ry q) hm
def mP (t:TE):TT:=λσ H Q=>t σ H λx H'=>∃k,x = .bl k/\Q k H'
theorem aE {F:CmpOp} {r:R2} (ho:OpR X (p8 F) r) (L:PE X a ta) (Z:PE X b tb) (hm:IF F b=false:=by first | exact nomark _ | with_unfolding_all rfl):PT X (.Compare a [F] [b] pos) (mP (tOp r ta tb)):=by
 intro pins s σ H Q I h;refine wpAny_isTrue_Compare1 (thn (L pins s σ H _ I h) λv s1 ⟨x,H1,I1,r1,q1⟩=>thn (Z pins s1 σ H1 _ I1 q1) λu U ⟨y,H2,I2,r2,q2⟩ =>
  thn (ho pins U σ H2 x y v u _ I2 r1 r2 q2) λc s3 ⟨z,H3,I3,r3,k,e,q3⟩=>?_) hm
 subst e;cases r3;exact x8 ⟨H3,I3,q3⟩
def qM (r r':R2) (ta tb tc:TE):TE:=λσ H Q=>ta σ H λx H1=>tb σ H1 λy H2=>r x y H2 λz F=>∃k,z = .bl k /\
 (if k=true then tc σ F λU L=>r' y U L Q else Q (.bl false) F)
theorem mU {F:CmpOp} {r r':R2} (ho:OpR X (p8 F) r) (L:OpR X (p8 op') r') (ha:PE X a ta) (hb:PE X b tb) (hc:PE X c tc)
  (hm:lastMarks [F,op'] [b,c]=false:=by with_unfolding_all rfl):PE X (.Compare a [F,op'] [b,c] pos) (qM r r' ta tb tc):=by
 intro pins s σ H Q I h;refine Compare_chain (thn (ha pins s σ H _ I h) λv s1 ⟨x,H1,I1,r1,q1⟩=>chain_link (thn (hb pins s1 σ H1 _ I1 q1) λu s2 ⟨y,H2,I2,r2,q2⟩ =>
  thn (ho pins s2 σ H2 x y v u _ I2 r1 r2 q2) λd s3 ⟨z,H3,I3,r3,k,e,q3⟩=>?_)) hm
 subst e;cases r3;refine x8 ?_
 cases k with
 | false=>exact ite_ff ⟨.bl false,H3,I3,rfl,q3⟩
 | true=>exact ite_tt (chain_last (thn (hc pins s3 σ H3 _ I3 q3) λw' s4 U=>by obtain⟨z',H4,I4,Z,q4⟩:=U;exact(L pins s4 σ H4 y z' u w' Q I4 r2 Z q4)))
theorem At {L:CmpOp} {r r':R2} (ho:OpR X (p8 L) r) (U:OpR X (p8 op') r') (ha:PE X a ta) (hb:PE X b tb) (hc:PE X c tc)
  (hm:lastMarks [L,op'] [b,c]=false:=by with_unfolding_all rfl):PT X (.Compare a [L,op'] [b,c] pos) (mP (qM r r' ta tb tc)):=by
 intro pins s σ H Q I h;refine isTrue_chain (thn (ha pins s σ H _ I h) λv s1 ⟨x,H1,I1,r1,q1⟩=>test_link (thn (hb pins s1 σ H1 _ I1 q1) λu s2 ⟨y,H2,I2,r2,q2⟩ =>
  thn (ho pins s2 σ H2 x y v u _ I2 r1 r2 q2) λd s3 ⟨z,H3,I3,r3,k,e,q3⟩=>?_)) hm
 subst e;cases r3;refine x8 ?_
 cases k with
 | false =>
  obtain⟨k',e',q'⟩:=q3;cases e';exact ite_ff ⟨H3,I3,q'⟩
 | true =>
  refine ite_tt (test_last (thn (hc pins s3 σ H3 _ I3 q3) λw' s4 ⟨z',H4,I4,r4,q4⟩=>thn (U pins s4 σ H4 y z' u w' _ I4 r2 r4 q4) λd' s5 F=>?_))
  obtain⟨z2,H5,Z,r5,k2,e2,q5⟩:=F;subst e2;cases r5;exact x8 ⟨H5,Z,q5⟩
theorem iO:(g_:Nat) < 2 ^ 63:=by rw[IQ];decide
theorem vA:OpR X (HQ .Add) (λx y H Q=>∃i j,x = .str i/\y = .str j/\i.length+j.length<=g_/\Q (.str (i++j)) H):=by
 intro pins s σ H x y v u Q I F L h;obtain⟨i,j,rfl,rfl,U,q⟩:=h;obtain⟨t,rfl⟩:=F;obtain⟨t',rfl⟩:=L;exact add_str (λt' tk=>⟨.str (i++j),H,I.tok _,⟨_,rfl⟩,q⟩) U
theorem cU {x:V} (r:aO [x] us) : ∃u,us=[u]/\aT x u:=by
 cases r with
 | cons L F=>cases F;exact⟨_,rfl,L⟩
theorem jz {x y:V} (r:aO [x,y] us) : ∃u F,us=[u,F]/\aT x u/\aT y F:=by
 cases r with
 | cons Z L =>
  cases L with
  | cons U r4=>cases r4;exact⟨_,_,rfl,Z,U⟩
theorem jJ:bP X (.builtin "abs") (λxs H Q=>∃i,xs=[.int i]/\Q (.int (if i < 0 then Neg.neg i else i)) H):=by
 intro pins s σ H xs us Q I r h;obtain⟨i,rfl,q⟩:=h;obtain⟨u,rfl,t,rfl⟩:=cU r;exact call_abs_int λu tk=>⟨.int (if i < 0 then Neg.neg i else i),H,I.tok _,⟨_,rfl⟩,q⟩
theorem wD (L:X.calm=true):bP X (.builtin "max") (λxs H Q=>∃i j,xs=[.int i,.int j]/\Q (.int (if j > i then j else i)) H):=by
 intro pins s σ H xs us Q I r h;obtain⟨i,j,rfl,q⟩:=h;obtain⟨u,U,rfl,⟨t,rfl⟩,⟨t',rfl⟩⟩:=jz r;refine max_two_ints (I.ok.hd L) λh' tk k=>⟨_,H,I.kept k,?_,q⟩
 by_cases F:j > i
 .rw[if_pos F,if_pos F];exact⟨_,rfl⟩
 .rw[if_neg F,if_neg F];exact⟨_,rfl⟩
theorem iy (L:X.calm=true):bP X (.builtin "min") (λxs H Q=>∃i j,xs=[.int i,.int j]/\Q (.int (if j < i then j else i)) H):=by
 intro pins s σ H xs us Q I r h;obtain⟨i,j,rfl,q⟩:=h;obtain⟨u,U,rfl,⟨t,rfl⟩,⟨t',rfl⟩⟩:=jz r;refine min_two_ints (I.ok.hd L) λh' tk k=>⟨_,H,I.kept k,?_,q⟩
 by_cases F:j < i
 .rw[if_pos F,if_pos F];exact⟨_,rfl⟩
 .rw[if_neg F,if_neg F];exact⟨_,rfl⟩
theorem ix:bP X (.type "int") (λxs H Q=>(∃i,xs=[.int i]/\Q (.int i) H)\/∃k,xs=[.bl k]/\Q (.int (if k then 1 else 0)) H):=by
 intro pins s σ H xs us Q I r h;rcases h with⟨i,rfl,q⟩ | ⟨k,rfl,q⟩
 .obtain⟨u,rfl,t,rfl⟩:=cU r
  exact call_int_int ⟨.int i,H,I,⟨_,rfl⟩,q⟩
 .obtain⟨u,rfl,r1⟩:=cU r
  cases r1;exact call_int_bool ⟨.int (if k then 1 else 0),H,I.tok _,⟨_,rfl⟩,q⟩
end
structure CW (h:Heap) (x dx C:Addr) (mA:Str->Option Value):Prop where
 obj:h.get? x=some (instObj C dx)
 ns:h.Ns1 dx mA
 ne:dx≠x
theorem iz (n:h.Ns1 dx mA) : ∃od,h.get? dx=some od/\∀name,lookIn name od=some (mA name):=by
 obtain⟨o,es,ep,ho,U,Z,_,hm⟩:=n;refine⟨o,ho,λname=>?_⟩
 have e:=hm name;unfold nsFind findBy at e;rw[<- Array.find?_toList] at e;unfold lookIn;rw[U];dsimp only
 split
 .rename_i y q
  rw[q] at e;exact congrArg some e
 .rename_i q
  rw[q] at e;have a:es.toList.any (·.refKey)=false:=by
   rw[List.any_eq_false];intro y hy;obtain⟨z,t,F⟩:=Z y (Jt.mp hy);simp[DictEntry.refKey,F]
  have L : ¬ es.toList.any (·.refKey)=true:=by rw[a];exact i6
  rw[if_neg L];exact congrArg some e
theorem CW.look {x:Addr} (I:CW h x dx C mA) : ∃od,HV h x (instObj C dx) C (some od)/\∀name,lookIn name od=some (mA name) :=
 let ⟨od,ho,hl⟩:=iz I.ns
 ⟨od,⟨I.obj,rfl,rfl,ho⟩,hl⟩
def kr (f:Str) (v:V):List (Str × V)->List (Str × V)
 | []=>[(f,v)]
 | (g,x) :: r=>if g=f then(g,v) :: r else(g,x) :: kr f v r
theorem lC (f g:Str) (v:V) : ∀fs:List (Str × V),(kr f v fs).lookup g=if g=f then some v else fs.lookup g
 | []=>by
  show JJ g [(f,v)]=_
  by_cases h:g=f
  .have hb:(g == f)=true:=beq_iff_eq.mpr h
   simp only[JJ,hb,if_pos h]
  .have hb:(g == f)=false:=beq_eq_false_iff_ne.mpr h
   simp only[JJ,hb,if_neg h]
 | (k, x) :: r=>by
  have L:=lC f g v r;rw[show kr f v ((k,x) :: r)=(if k=f then(k,v) :: r else(k,x) :: kr f v r) from rfl]
  by_cases F:k=f
  .rw[if_pos F]
   by_cases h:g=k
   .have hb:(g == k)=true:=beq_iff_eq.mpr h
    simp only[JJ,hb,if_pos (h.trans F)]
   .have hb:(g == k)=false:=beq_eq_false_iff_ne.mpr h
    simp only[JJ,hb,if_neg (λe:g=f=>h (e.trans F.symm))]
  .rw[if_neg F]
   by_cases h:g=k
   .have hb:(g == k)=true:=beq_iff_eq.mpr h
    simp only[JJ,hb,if_neg (λe:g=f=>F (h.symm.trans e))]
   .have hb:(g == k)=false:=beq_eq_false_iff_ne.mpr h
    simp only[JJ,hb];exact L
theorem kW (f:Str) (v:V) : ∀fs:List (Str × V),f∈(kr f v fs).map (·.1)/\∀g,g∈fs.map (·.1)->g∈(kr f v fs).map (·.1)
 | []=>⟨by simp[kr],λg h=>by simp at h⟩
 | (k, x) :: r=>by
  obtain⟨U,L⟩:=kW f v r;rw[show kr f v ((k,x) :: r)=(if k=f then(k,v) :: r else(k,x) :: kr f v r) from rfl]
  by_cases F:k=f
  .rw[if_pos F]
   subst F;exact⟨by simp,λg h=>by simpa using h⟩
  .rw[if_neg F]
   refine⟨?_,λg h=>?_⟩
   .rw[k9]
    exact la _ U
   .rw[k9] at h ⊢
    rcases i4.mp h with e | e
    .exact i4.mpr (.inl e)
    .exact la _ (L g e)
theorem gG.some_of {v:V} {o:Option Value} (r:gG (some v) o) : ∃u,o=some u/\aT v u:=by
 cases o with
 | none=>exact(show False from r).elim
 | some u=>exact⟨u,rfl,r⟩
theorem xw {v:V} (r:aT v u):handedIn u=true:=by
 cases v with
 | non=>cases (show u=v_ from r);rfl
 | bl b=>cases (show u=Value.bool b from r);rfl
 | int i=>obtain⟨t,e⟩:=(show ∃t,u=JC i t from r);cases e;rfl
 | str x=>obtain⟨t,e⟩:=(show ∃t,u=Value.str x t from r);cases e;rfl
 | byt b=>obtain⟨t,e⟩:=(show ∃t,u=Value.bytes b t from r);cases e;rfl
 | flt b=>obtain⟨t,e⟩:=(show ∃t,u=Value.float b t from r);cases e;rfl
 | ref a=>cases (show u=i8 a from r);rfl
 | ty n=>cases (show u=HP n from r);rfl
section
variable {H H':Hp} {fs fs':List (Str × V)}
theorem AF (F:HOk P w H h) (e:H a=some (.ins C dx fs)) : ∃mA,CW h a dx C mA/\(∀f,gG (fs.lookup f) (mA f))/\Jv mA (fs.map (·.1))/\fs.length<=1000/\H dx=some (.own a):=by
 obtain⟨d,z,ne,ob,mA,n,r,q⟩:=(show aX P w H h a (.ins C dx fs) from F a _ e)
 exact⟨mA,⟨ob,n,ne⟩,r,q,z,d⟩
end
structure Cls (K:e_) (C:Addr):Prop where
 pg:plainGet K C Str.empty=true
 hd:hasDictIn K C=true
 po:PySem.W.plainOver K C=true
 sa:Jb K (.ref C) "__setattr__" = some (some (.builtin "object.__setattr__"))
theorem Cls.get (c:Cls K C) (f:Str):plainGet K C f=true:=c.pg
def gL (K:e_) (C:Addr) (f:Str):Prop:=Jb K (.ref C) f=some none
section
variable {X:Cx} {σ:St} {H:Hp} {fs:List (Str × V)} {f:Str} {v:V}
theorem Bg {f:Str} (F:attributeBase e f env (eval e env)=eval e env)
  (h:wpAny (model prog w) A (eval e env) (λo s₁=>wpAny (model prog w) A (getAttr o f true) Q E s₁) E s):wpAny (model prog w) A (eval (.Attribute e f pos) env) Q E s :=
 Attribute_any_ h (by rw[arm_eval_Attribute,F])
end
section
variable {X:Cx} {σ:St} {H:Hp} {c:Value} {b:Bool}
inductive kR (K:e_) (H:Hp):V->Value->Prop where
 | non:kR K H .non (.type "NoneType")
 | bl (x:Bool):kR K H (.bl x) (.type "bool")
 | int (i:Int):kR K H (.int i) (.type "int")
 | str (x:Str):kR K H (.str x) (.type "str")
 | flt (x:UInt64):kR K H (.flt x) (.type "float")
 | lst {a:Addr} {xs:List V} (e:H a*>xs):kR K H (.ref a) (.type "list")
 | frz {a:Addr} {o:Obj} {xs:List V} (e:H a=some (.frz o (.lst xs))):kR K H (.ref a) (.type "list")
 | tup {a:Addr} {xs:List V} (e:H a>>xs):kR K H (.ref a) (.type "tuple")
 | dK {a:Addr} {kvs:List (Key × V)} (e:H a<*kvs):kR K H (.ref a) (.type "dict")
 | dT {a:Addr} {kvs:List (List Key × V)} (e:H a=some (.dT kvs)):kR K H (.ref a) (.type "dict")
 | ins {a C dx:Addr} {fs:List (Str × V)} (e:H a=some (.ins C dx fs)) (cl:Cls K C) (ha:Jb K (.ref C) "__class__" = some (some (.builtin "object.__class__")))
   (hn:specialIn K (.builtin "object.__class__") "__get__" = some (some (.builtin "getset_descriptor.__get__"))) (htk:takesIn K (.builtin "object.__class__")=some true)
   (hm:mroIn K C (.type "object")=some true):kR K H (.ref a) (.ref C)
theorem xF {x:V} {t:Value} (I:Inv X pins σ H s) (F:aT x u) (ty:kR X.K H x t) (e:HM X.K t c=some b) (h : ∀tk,Q (.bool b) { s with toks:=tk }) :
  wpAny (model X.prog X.w) A (call (.builtin "isinstance") [u,c]) Q E s:=by
 cases ty with
 | non=>cases (show u=v_ from F);exact I_ PySem.W.kitx_none I.kIn g9 e (λz=>nomatch z) h
 | bl y=>cases (show u=Value.bool y from F);exact I_ PySem.W.kitx_bool I.kIn g9 e (λz=>nomatch z) h
 | int i=>obtain⟨t,q⟩:=(show ∃t,u=JC i t from F);cases q;exact I_ PySem.W.kitx_int I.kIn g9 e (λz=>nomatch z) h
 | str y=>obtain⟨t,q⟩:=(show ∃t,u=Value.str y t from F);cases q;exact I_ PySem.W.kitx_str I.kIn g9 e (λz=>nomatch z) h
 | flt y=>obtain⟨t,q⟩:=(show ∃t,u=Value.float y t from F);cases q;exact I_ PySem.W.kitx_float I.kIn g9 e (λz=>nomatch z) h
 | @lst a xs ea =>
  cases (show u=i8 a from F)
  obtain⟨_,_,n,_,h1⟩:=(show aX X.prog X.w H s.heap a (.lst xs) from I.hok a _ ea)
  exact I_ kitx_list I.kIn ⟨_,h1,rfl⟩ e (λz=>nomatch z) h
 | @frz a ob xs ea =>
  cases (show u=i8 a from F)
  obtain⟨_,_,_,n,_,h1⟩:=(show aX X.prog X.w H s.heap a (.frz ob (.lst xs)) from I.hok a _ ea)
  exact I_ kitx_list I.kIn ⟨_,h1,rfl⟩ e (λz=>nomatch z) h
 | @tup a xs ea =>
  cases (show u=i8 a from F)
  obtain⟨_,_,_,p⟩:=(show aX X.prog X.w H s.heap a (.tup xs) from I.hok a _ ea)
  obtain⟨o,h1,h2,_⟩:=p;exact I_ PySem.W.kitx_tuple I.kIn ⟨o,h1,h2⟩ e (λz=>nomatch z) h
 | @dK a kvs ea =>
  cases (show u=i8 a from F)
  obtain⟨_,_,vs,_,p⟩:=(show aX X.prog X.w H s.heap a (.dK kvs) from I.hok a _ ea)
  obtain⟨o,es,ep,h1,h2,_⟩:=p;exact I_ kitx_dict I.kIn ⟨o,h1,h2.1⟩ e (λz=>nomatch z) h
 | @dT a kvs ea =>
  cases (show u=i8 a from F)
  obtain⟨_,_,xs,_,o,es,ep,h1,h2,_⟩:=(show aX X.prog X.w H s.heap a (.dT kvs) from I.hok a _ ea)
  exact I_ kitx_dict I.kIn ⟨o,h1,h2.1⟩ e (λz=>nomatch z) h
 | @ins a C dx fs ea cl ha hn htk hm =>
  cases (show u=i8 a from F)
  obtain⟨mA,O,_⟩:=AF I.hok ea;obtain⟨od,J,_⟩:=O.look;exact I_ (PySem.W.kitx_own (cl.get _) cl.hd ha hn htk hm) I.kIn J e (λz=>nomatch z) h
end
structure ce (k:Nat) (A:Around):Prop where
 hd:A.handled=none
 dp:A.depth+3 * k+5 < recursionLimit
 un:A.units+16 * k+200 < cLine
theorem ce.mono (r:ce k A) (h:j<=k):ce j A:=⟨r.hd,by have:=r.dp;omega,by have:=r.un;omega⟩
theorem ce.deeper {k:Nat} {A:Around} (r:ce (k+1) A) (env:Env):ce k (A.deeper env) :=
 ⟨r.hd,by have:=r.dp;show A.depth+1+3 * k+5 < _;omega,by have:=r.un;show A.units+3+16 * k+200 < _;omega⟩
theorem uR:(A.under (.builtin "type.__call__" ⟨.ref C :: us,kw⟩)).depth=A.depth+1:=by
 first | rfl | simp[Around.under,Code.weight,Code.isCreation,Code.isGuard,Code.isCaller,Code.frames,Code.isFrame,guardIds]
theorem uJ:(A.under (.builtin "type.__call__" ⟨.ref C :: us,kw⟩)).units=A.units+1:=by
 first | rfl | simp[Around.under,Code.cUnits,Code.frames,Code.isFrame]
theorem ce.make (r:ce (k+1) A) (C:Addr) (us:List Value) (kw:List (Str × Value)):ce k (A.under (.builtin "type.__call__" ⟨.ref C :: us,kw⟩)) :=
 ⟨r.hd,by have:=r.dp;rw[uR];omega,by have:=r.un;rw[uJ];omega⟩
theorem ce.depth {k:Nat} {A:Around} (r:ce k A):A.depth < recursionLimit:=by have:=r.dp;omega
theorem ce.units {k:Nat} {A:Around} (r:ce k A):A.units+64 < cLine:=by have:=r.un;omega
def dC:TA:=λ_ H Q=>Q [] H
def bF (ta:TE) (F:TA):TA:=λσ H Q=>ta σ H λx H1=>F σ H1 λxs H2=>Q (x :: xs) H2
section
variable {X:Cx} {te:TE} {t:TA}
theorem ac:PA X [] dC:=λ_ _ _ _ H Q I h=>Jp ⟨[],H,I,.nil,h⟩
theorem aa (ha:PE X e te) (hr:PA X es t) (hs:i9 (e :: es) X.env=(false,eval e X.env) :: i9 es X.env:=by rfl):PA X (e :: es) (bF te t):=by
 intro pos pins s σ H Q I h;rw[hs]
 show wpAny _ _ (spliced ((false,eval e X.env) :: HR pos (i9 es X.env))) _ _ s
 refine Jf (thn (ha pins s σ H _ I h) λu s1 F=>?_)
 obtain⟨x,H1,I1,r1,q1⟩:=F;exact thn (hr pos pins s1 σ H1 _ I1 q1) λus s2 L=>by obtain⟨xs,H2,I2,U,Z⟩:=L;exact(⟨x :: xs,H2,I2,.cons r1 U,Z⟩)
def nK (t:TA):TE:=λσ H Q=>t σ H λxs H1=>xs.length<=g_/\∀p,H1 p=none->Q (.ref p) (upd H1 p (.tup xs))
def tE (t:TA):TE:=λσ H Q=>t σ H λxs H1=>xs.length<=g_/\∀p,H1 p=none->Q (.ref p) (upd H1 p (.lst xs))
theorem au {x1} (h:PA X es t):PE X (.Tuple es x1 pos) (nK t):=by
 intro pins s σ H Q I L;refine wpAny_Tuple_spliced (thn (h pos pins s σ H _ I L) λus s1 ⟨xs,H1,I1,r,z,q⟩=>⟨by rw[<- r.length];exact z,?_⟩)
 have F:H1 s1.heap.objs.size=none:=I1.hok.fresh (h_ _)
 refine⟨.ref s1.heap.objs.size,upd H1 s1.heap.objs.size (.tup xs),I1.laid (t':=s1.toks) (λb u e=>c_ _ e) (h_ _) ?_,rfl,q _ F⟩
 exact⟨z,us,r,⟨_,ge _ rfl,rfl,_,rfl⟩⟩
theorem bu (h:PA X es t):PE X (.List es pos) (tE t):=by
 intro pins s σ H Q I L;refine wpAny_List_spliced (thn (h pos pins s σ H _ I L) λus s1 ⟨xs,H1,I1,r,z,q⟩=>⟨by rw[<- r.length];exact z,?_⟩)
 have F:H1 s1.heap.objs.size=none:=I1.hok.fresh (h_ _)
 refine⟨.ref s1.heap.objs.size,upd H1 s1.heap.objs.size (.lst xs),I1.laid (t':=s1.toks) (λb u e=>c_ _ e) (h_ _) ?_,rfl,q _ F⟩
 exact⟨z,us,0,r,ge _ rfl⟩
end
abbrev Sp:=List V->Hp->VK->XK->Prop
abbrev CXT:=List Env->Hp->Shared->XK->Value->Shared->Prop
structure sY (P:Program) (w:World) (K:e_) (mg:Str->Option Value) (base:Heap) (A:Around) (outer:List Env) (s:Shared) (H:Hp):Prop where
 frames:A.frames=some outer
 mod:Mod K mg base
 bs : ∀b o,base.get? b=some o->s.heap.get? b=some o/\H b=none
 bsz:base.objs.size<=s.heap.objs.size
 funs:s.heap.FunFrames base outer
 frf : ∀b∈frs outer,H b=none
 hok:HOk P w H s.heap
 bare:AllBare s.gens
def CE (outer:List Env) (P:Program) (w:World) (H:Hp) (s:Shared) (Q:VK) (u:Value) (s':Shared):Prop :=
 ∃v H',s'.os=s.os/\AllBare s'.gens/\Un (frs outer) [] H H' s.heap s'.heap/\HOk P w H' s'.heap/\aT v u/\Q v H'
def CR (CX:CXT) (outer:List Env) (P:Program) (w:World) (H:Hp) (s:Shared) (Q:VK) (E:XK) (r:Result) (s':Shared):Prop :=
 match r with
 | .ok (.ret u)=>CE outer P w H s Q u s'
 | .ok _=>False
 | .error e=>CX outer H s E e s'
structure dY (P:Program) (w:World) (K:e_) (mg:Str->Option Value) (base:Heap) (CX:CXT) (k:Nat) (f:Addr) (fd:FuncData) (ps:List Str) (sp:Sp):Prop where
 len : ∀vs H Q E,sp vs H Q E->vs.length=ps.length
 run : ∀(A:Around) (outer:List Env) (s:Shared) (H:Hp) (args:Args) (us:List Value) (vs:List V) (Q:VK) (E:XK),ce k A->sY P w K mg base A outer s H->BindsTo s fd args (ps.zip us)->aO vs us->sp vs H Q E ->
  ID (model P w) A (.call (.ref f) args) (CR CX outer P w H s Q E) s
theorem dY.mono {P:Program} {w:World} {K:e_} {mg:Str->Option Value} {base:Heap} {CX:CXT} {j k:Nat} {f:Addr} {fd:FuncData} {ps:List Str} {sp:Sp} (F:dY P w K mg base CX j f fd ps sp) (h:j<=k) :
  dY P w K mg base CX k f fd ps sp:=⟨F.len,λA outer s H args us vs Q E L=>F.run A outer s H args us vs Q E (L.mono h)⟩
theorem dY.imp {CX:CXT} {sp sp':Sp} (F:dY P w K mg base CX k f fd ps sp)
  (h : ∀vs H Q E,sp' vs H Q E->sp vs H Q E):dY P w K mg base CX k f fd ps sp' :=
 ⟨λvs H Q E q=>F.len vs H Q E (h _ _ _ _ q),λA outer s H args us vs Q E L he U Z hs=>F.run A outer s H args us vs Q E L he U Z (h _ _ _ _ hs)⟩
theorem sY.make {H:Hp} (e:sY P w K mg base A outer s H) (C:Addr) (us:List Value) (kw:List (Str × Value)) :
  sY P w K mg base (A.under (.builtin "type.__call__" ⟨.ref C :: us,kw⟩)) outer s H:=⟨by first | exact e.frames | (simpa [Around.under,Code.envs,Code.isFrame,pushEnvs] using e.frames),e.mod,e.bs,e.bsz,e.funs,e.frf,e.hok,e.bare⟩
section
variable {X:Cx} {σ:St} {H:Hp}
theorem Inv.env0 (I:Inv X pins σ H s):sY X.prog X.w X.K X.mg X.base X.A X.stack s H :=
 ⟨I.ok.frames,I.ok.mod,I.bs,n_ I.ok.bsz I.sz,I.stack,I.stkFree,I.hok,I.bare⟩
theorem Inv.after {Q:VK} (I:Inv X pins σ H s) (h:CE X.stack X.prog X.w H s Q u s'):EP X pins σ Q u s':=by
 obtain⟨v,H',os,F,un,L,r,q⟩:=h;obtain⟨Z,g,d,t,U⟩:=s';obtain rfl:U=s.os:=os
 exact⟨v,H',I.call (h':=Z) (g':=g) (d':=d) (t':=t) (ch:=[]) un L F (λb z=>absurd z (by simp)),r,q⟩
end
def oZ (sp:Sp) (dvs:List V) (E:XK) (t:TA):TE:=λσ H Q=>t σ H λvs H1=>sp (vs++dvs) H1 Q E
def dP (K:e_) (fd:FuncData) (ps:List Str) (ds:List Value):Prop :=
 ∀(s:Shared) (us:List Value),K.In s.heap->(us++ds).length=ps.length->BindsTo s fd ⟨us,[]⟩ (ps.zip (us++ds))
theorem dP.all (h : ∀us:List Value,us.length=ps.length->bindArgs fd ⟨us,[]⟩=pure (ps.zip us)):dP K fd ps []:=λs us _ hl=>by
 rw[HY] at hl ⊢;exact .of_eq (h us hl)
def qe (CX:CXT) (X:Cx) (E:XK):Prop:=∀(pins:List (Addr × Obj)) (σ:St) (H:Hp) (s:Shared) (e:Value) (s':Shared),Inv X pins σ H s->CX X.stack H s E e s'->X.xe e s'
section
variable {X:Cx} {CX:CXT} {sp:Sp} {dvs:List V} {E:XK} {m:Str} {p:Pos} {o:Expr} {ta:TE} {t:TA}
theorem uW {σ:St} {H:Hp} {Q:VK} {vs:List V} (F:dY X.prog X.w X.K X.mg X.base CX k f fd ps sp) (hr:ce k X.A) (hb:dP X.K fd ps ds) (Z:aO dvs ds) (hx:qe CX X E)
  (I:Inv X pins σ H s) (r:aO vs us) (h:sp (vs++dvs) H Q E):wpAny (model X.prog X.w) X.A (call (.ref f) us) (EP X pins σ Q) X.xe s:=by
 have U:aO (vs++dvs) (us++ds):=r.append Z
 have hl:(us++ds).length=ps.length:=by rw[<- U.length];exact F.len _ _ _ _ h
 refine Jg (Ib (F.run X.A X.stack s H ⟨us,[]⟩ (us++ds) (vs++dvs) Q E hr I.env0 (hb s us I.kIn hl) U h) λr s' L=>?_)
 cases r with
 | error e=>exact hx pins σ H s e s' I L
 | ok fl =>
  cases fl with
  | ret u=>exact I.after L
  | next=>exact m_ L
  | brk=>exact m_ L
  | cont=>exact m_ L
theorem BQ (F:dY X.prog X.w X.K X.mg X.base CX k f fd ps sp) (hr:ce k X.A) (hg:Gl X x) (hm:X.mg x=-f) (hk:IT X.K (.ref f)=true) (hb:dP X.K fd ps ds) (Z:aO dvs ds) (hx:qe CX X E)
  (ha:PA X (e :: es) t) (L:(x ==("__debug__" : Str))=false:=by decide) (he:i9 (e :: es) X.env=(false,eval e X.env) :: i9 es X.env:=by rfl) (U:(HR pos (i9 es X.env)).any (·.1)=false:=by rfl) :
  PE X (.Call (.Name x p) (e :: es) [] pos) (oZ sp dvs E t):=by
 intro pins s σ H Q I h;refine r_ (iA I hg hm ?_ L)
 refine callWith_K (h₀:=X.base) I.ok.mod.kin hk (thn (ha pos pins s σ H _ I h) λus s1 ⟨vs,H1,I1,r,q⟩=>⟨I1.kIn,?_⟩) he U
 exact uW F hr hb Z hx I1 r q
end
structure az (N P:List Str) (sc:Scope):Prop where
 kind:sc.kind = .function
 co:sc.isCoroutine=false
 gen:sc.isGenerator=false
 nd:N.Nodup
 pre:N.take P.length=P
 par : ∀x∈P,sc.names.lookup x=some .local\/sc.names.lookup x=some .cell
 nofree : ∀y∈sc.names,y.2≠.free
theorem oH {F:Str->Option IG} {x:Str} : ∀{binds:List (Str × Value)} {m:Str->Option Value},(∀v,(x,v)∉binds)->bindL F binds m x=m x
 | [],_,_=>rfl
 | (n,v) :: r,m,h=>by
  unfold bindL;rw[oH λw L=>h w (la _ L)]
  split
  .have:x≠n:=by rintro rfl;exact h v m9
   simp[this]
  .rfl
theorem oR {F:Str->Option IG} {x:Str} : ∀{binds:List (Str × Value)} {m:Str->Option Value},(∀v,(x,v)∉binds)->bindC F binds m x=m x
 | [],_,_=>rfl
 | (n,v) :: r,m,h=>by
  unfold bindC;rw[oR λw L=>h w (la _ L)]
  split
  .rfl
  .have:x≠n:=by rintro rfl;exact h v m9
   simp[this]
theorem oQ {F:Str->Option IG} {x:Str} {v:Value} : ∀{P:List Str} {vs:List Value} {i:Nat} {m:Str->Option Value},P.Nodup->P[i]? = some x->vs[i]? = some v->F x=some .local ->
  bindL F (P.zip vs) m x=some v
 | [],_,_,_,_,h,_,_=>by simp at h
 | _ :: _,[],_,_,_,_,h,_=>by simp at h
 | p :: P,w :: vs,0,m,nd,h1,h2,hk=>by
  simp at h1 h2;subst h1;subst h2
  show bindL F ((p,w) :: P.zip vs) m p=_
  unfold bindL;rw[oH λv L=>(D_.mp nd).1 (of_mem_zip L).1,if_pos hk]
  simp
 | p :: P,w :: vs,i+1,m,nd,h1,h2,hk=>by
  show bindL F ((p,w) :: P.zip vs) m x=_
  unfold bindL;exact oQ (i:=i) (D_.mp nd).2 (by simpa using h1) (by simpa using h2) hk
theorem pe {F:Str->Option IG} {x:Str} {v:Value} : ∀{P:List Str} {vs:List Value} {i:Nat} {m:Str->Option Value},P.Nodup->P[i]? = some x->vs[i]? = some v->F x≠some .local ->
  bindC F (P.zip vs) m x=some v
 | [],_,_,_,_,h,_,_=>by simp at h
 | _ :: _,[],_,_,_,_,h,_=>by simp at h
 | p :: P,w :: vs,0,m,nd,h1,h2,hk=>by
  simp at h1 h2;subst h1;subst h2
  show bindC F ((p,w) :: P.zip vs) m p=_
  unfold bindC;rw[oR λv L=>(D_.mp nd).1 (of_mem_zip L).1,if_neg hk]
  simp
 | p :: P,w :: vs,i+1,m,nd,h1,h2,hk=>by
  show bindC F ((p,w) :: P.zip vs) m x=_
  unfold bindC;exact pe (i:=i) (D_.mp nd).2 (by simpa using h1) (by simpa using h2) hk
def fu (N:List Str) (vs:List V):St:=vs.map some++List.replicate (N.length - vs.length) none
def ci (CX:CXT) (P:Program) (w:World) (K:e_) (mg:Str->Option Value) (base:Heap) (N:List Str) (qual:Str) (scope:Scope) (f:Addr) (cd:Value) (A:Around) (outer:List Env) (s:Shared) (H:Hp) (E:XK):Cx where
 prog:=P
 w:=w
 K:=K
 mg:=mg
 base:=base
 A:=A.deeper (envOfC qual scope s.heap.objs.size f cd)
 N:=N
 s₀:=s
 H₀:=H
 env:=envOfC qual scope s.heap.objs.size f cd
 outer:=outer
 stack:=envOfC qual scope s.heap.objs.size f cd :: outer
 ex:=[]
 calm:=true
 fn:=λ_=>true
 pn:=[]
 xe:=λe s'=>wpAny (model P w) (A.deeper (envOfC qual scope s.heap.objs.size f cd)) (leaving (envOfC qual scope s.heap.objs.size f cd) e) (λ_ F=>CX outer H s E e F) (λL F=>CX outer H s E L F) s'
theorem sT (h:sc.names.lookup x=some .cell) : ∃c,(cellsFrom n sc.names []).lookup x=some c:=by
 have q:=PySem.W.cellsFrom_some sc.names n [] (.inl h);exact Ik.mp q
theorem xo {CX:CXT} {H:Hp} {E:XK} {vs:List V}
  (S:az N ps scope) (hd:A.handled=none) (F:sY P w K mg base A outer s H) (hl:vs.length=ps.length) (r:aO vs us)
  (x:InCallC s s.heap.objs.size (bindL (envOfC qual scope s.heap.objs.size f cd).kindOf (ps.zip us) λ_=>none) (cellsFrom (s.heap.objs.size+1) scope.names []) (bindC (envOfC qual scope s.heap.objs.size f cd).kindOf (ps.zip us) λ_=>none) s1) :
  Inv (ci CX P w K mg base N qual scope f cd A outer s H E) [] (fu N vs) H s1:=by
 have aa:ps.length<=N.length:=by have:=congrArg w9 S.pre;rw[m8] at this;omega
 obtain⟨h1,tk,rfl,hk⟩:=x.done;have L : ∀b:Addr,b∉(ci CX P w K mg base N qual scope f cd A outer s H E).ex:=λb z=>absurd (show b∈([]:List Addr) from z) (by simp)
 refine⟨⟨F.mod,S.kind,rfl,rfl,h_ _,λy z c h1 h2=>?_,λy U=>?_,λy c _ h=>?_,λ_=>hd,Around.frames_deeper F.frames,.inr ⟨rfl,rfl⟩,λb z=>absurd z (L b),F.bs,F.bsz,λb _ _=>L b,λb z=>absurd z (L b),F.funs,F.frf⟩,
  rfl,F.bare,Un.kept hk,⟨_,x.toInCall.ns,λi y v h1 h2 h3=>?_⟩,λy c h=>⟨_,x.cell y c h⟩,F.hok.fresh (h_ _),λy c h=>?_,λp hp=>absurd (show p∈([]:List (Addr × Obj)) from hp) (by simp),F.hok.kept hk,?_⟩
 .exact name_of_addr x.apart (HL h1) (HL h2)
 .have U:scope.names.lookup y=some .cell\/scope.names.lookup y=some .free:=U
  rcases U with U | U
  .exact sT U
  .exact absurd rfl (S.nofree _ (HL U))
 .exact pj (x.above y c (HL h))
 .have hi:i < vs.length:=by
   unfold fu at h2
   by_cases hi:i < vs.length
   .exact hi
   .rw[List.getElem?_append_right (by simpa using hi)] at h2
    rw[List.getElem?_replicate] at h2
    split at h2 <;> cases h2
  have ha:vs[i]? = some v:=by
   unfold fu at h2;rw[List.getElem?_append_left (by simpa using hi),q_] at h2
   cases e:vs[i]? with
   | none=>rw[e] at h2;cases h2
   | some a=>rw[e] at h2;cases h2;rfl
  obtain⟨u,hu,rv⟩:=r.get ha;have hp:ps[i]? = some y:=by
   rw[<- S.pre,IV ()];exact h1
  have Z:ps.Nodup:=by rw[<- S.pre];exact S.nd.sublist (IS _ _)
  refine⟨u,rv,?_⟩
  rcases S.par y (j7 hp) with k | k
  .exact .inl ⟨k,oQ Z hp hu k⟩
  .obtain⟨c,e⟩:=sT (n:=s.heap.objs.size+1) k
   refine .inr ⟨.inl k,c,e,?_⟩
   have q:=x.cell y c e;rw[pe Z hp hu (by show scope.names.lookup y≠_;rw[k];decide)] at q
   exact q
 .exact F.hok.fresh (pj (x.above y c (HL h)))
 .unfold fu
  show _=N.length
  rw[HD,f_,List.length_replicate];omega
theorem zT {CX:CXT} {dV kV:Value} {an:Option Addr}
   {sp:Sp} (lk:K.lookup f=some ⟨oc,od,.func (fnOf name qual params body scope dV kV doc pm an cdv ct),osl⟩) (ad:codeIn K cdv qual=true) (S:az N ps scope)
  (len : ∀vs H Q E,sp vs H Q E->vs.length=ps.length)
  (F : ∀(A:Around) (outer:List Env) (s:Shared) (H:Hp) (vs:List V) (Q:VK) (E:XK),ce k (A.deeper (envOfC qual scope s.heap.objs.size f cdv))->sp vs H Q E ->
   ∃t,PSs (ci CX P w K mg base N qual scope f cdv A outer s H E) body t/\t { nx:=λ_ H'=>Q .non H',rt:=Q } (fu N vs) H) :
  dY P w K mg base CX (k+1) f (fnOf name qual params body scope dV kV doc pm an cdv ct) ps sp:=by
 refine⟨len,λA outer s H args us vs Q E hr Z hb r aa=>?_⟩
 have hl:=len _ _ _ _ aa;have KX:K.In s.heap:=Z.mod.kin.keeps λb o e=>(Z.bs b o e).1
 have ac:s.heap.NoLimit:=Z.mod.nolimit.keeps λb o e=>(Z.bs b o e).1
 have L : ∀y∈ps.zip us,scope.names.lookup y.1=some .local\/(scope.names.lookup y.1=some .cell/\((cellsFrom (s.heap.objs.size+1) scope.names []).lookup y.1).isSome=true):=λ⟨n,v⟩ hy=>by
  rcases S.par n (of_mem_zip hy).1 with q | q
  .exact .inl q
  .exact .inr ⟨q,PySem.W.cellsFrom_some _ _ _ (.inl q)⟩
 refine codeAny_call_function hr.depth (KX _ _ lk) rfl S.co S.gen rfl (PySem.W.codeRec_of KX ad) (hb _ _ _ _ ?_)
 refine wpAny_newFunctionEnv_cells S.kind L λenv he s1 x=>?_
 subst he;refine⟨ac.keeps x.toInCall.keep,codeAny_func ?_⟩
 obtain⟨t,ht,hq⟩:=F A outer s H vs Q E (hr.deeper _) aa;have I:Inv (ci CX P w K mg base N qual scope f cdv A outer s H E) [] (fu N vs) H s1:=xo S hr.hd Z hl r x
 refine t7 (ht [] s1 (fu N vs) H _ I hq) (λfl s' hs=>?_) λe s' hs=>hs
 have U : ∀{σ':St} {H':Hp} {v:V} {u:Value},Inv (ci CX P w K mg base N qual scope f cdv A outer s H E) [] σ' H' s'->aT v u->Q v H'->CE outer P w H s Q u s' :=
  λ{σ' H' v u} J rv q=>⟨v,H',J.os,J.bare,J.base,J.hok,rv,q⟩
 cases fl with
 | ret u =>
  obtain⟨v,σ',H',J,rv,q⟩:=hs;exact U J rv q
 | next =>
  obtain⟨σ',H',J,q⟩:=hs;exact U (v:=V.non) (u:=v_) J rfl q
 | brk =>
  obtain⟨_,_,_,q⟩:=hs;exact m_ q
 | cont =>
  obtain⟨_,_,_,q⟩:=hs;exact m_ q
section
variable {X:Cx} {p:Pos} {t:TA} {id:String} {r:List V->Hp->VK->Prop}
def tCB (r:List V->Hp->VK->Prop) (t:TA):TE:=λσ H Q=>t σ H λvs H1=>r vs H1 Q
theorem ar (Z:bP X (.builtin id) r) (hm:X.mg x=none) (ha:PA X (e :: es) t) (hg:Gl X x:=by exact rfl) (hv:G_ x=some (.builtin id):=by decide+kernel) (hn:x ≠ "__name__" := by decide) (F:(x ==("__debug__" : Str))=false:=by decide)
  (he:i9 (e :: es) X.env=(false,eval e X.env) :: i9 es X.env:=by rfl) (U:(HR pos (i9 es X.env)).any (·.1)=false:=by rfl):PE X (.Call (.Name x p) (e :: es) [] pos) (tCB r t):=by
 intro pins s σ H Q I h;refine r_ (dF I hg hm hv ?_ hn F)
 exact PyProof.Rows.callWith_builtin1 (thn (ha pos pins s σ H _ I h) λus s1 L=>by obtain⟨vs,H1,I1,r1,q1⟩:=L;exact(Z pins s1 σ H1 vs us Q I1 r1 q1)) he U
theorem aM (Z:bP X (.type T) r) (hm:X.mg x=none) (ha:PA X (e :: es) t) (hg:Gl X x:=by exact rfl) (hv:G_ x=some (.type T):=by decide+kernel) (hn:x ≠ "__name__" := by decide) (F:(x ==("__debug__" : Str))=false:=by decide)
  (he:i9 (e :: es) X.env=(false,eval e X.env) :: i9 es X.env:=by rfl) (U:(HR pos (i9 es X.env)).any (·.1)=false:=by rfl):PE X (.Call (.Name x p) (e :: es) [] pos) (tCB r t):=by
 intro pins s σ H Q I h;refine r_ (dF I hg hm hv ?_ hn F)
 exact o6 (thn (ha pos pins s σ H _ I h) λus s1 L=>by obtain⟨vs,H1,I1,r1,q1⟩:=L;exact(Z pins s1 σ H1 vs us Q I1 r1 q1)) he U
end
end L2
variable {CX:L2.CXT} {Dn:L2.iN} {H H' H0 H1 H2:L2.Hp} {J:L2.It} {PP:L2.Hp->L2.XK->Prop} {PX:PySem.Addr->L2.Hp->Prop} {X:L2.Cx} {Y te tl to tv:L2.TE} {dvs xs ys:List L2.V} {fs':List (JP × L2.V)} {ks:List L2.Key} {kvs:List (List L2.Key × L2.V)} {o:L2.HO} {r r':L2.V->Option Int->Option Int->L2.Hp->L2.VK->Prop} {sp sp':L2.Sp} {ta:L2.TA} {tc:L2.TT} {trs:List (L2.TE × L2.TE)} {vb:List (L2.Key × Is)} {wi:L2.TI} {y:L2.V} {σ σ0:L2.St} {σ':List (Option L2.V)}
namespace HT
open PySem PyProof.Rows
theorem cat_tup {t:Addr} {vs ws:List Value} (ht:IsTup s.heap t vs.toArray) (hb:IsTup s.heap b ws.toArray) (hv:vs≠[])
  (h1:ws=[]->Q (.ref t) s) (h2:ws≠[]->Q (.ref s.heap.objs.size) { s with heap:=s.heap.push { cls:=.type "tuple",data:=.seq (vs++ws).toArray } })
  (hsz:vs.length+ws.length<=g_):wpAny (model prog w) A (HQ .Add (.ref t) (.ref b)) Q E s:=by
 obtain⟨⟨cls,dd,data,sl⟩,ho,hc,n,hd⟩:=id ht;obtain⟨⟨ad,aa,ac,sl2⟩,L,U,n2,Z⟩:=id hb;simp only at hc hd U Z;subst hc hd U Z;have e:vs.toArray++ws.toArray=(vs++ws).toArray:=by simp
 by_cases hw:ws=[]
 .exact concat_meets ⟨_,ho,rfl⟩ ⟨_,L,rfl⟩ noFill_tuple_add seq_tuple_add PySem.F.slot_tuple_add PySem.F.entry_tuple_add (PySem.F.args_tuple_add_2 _ _)
   (tuple_addW1 t b vs.toArray ws.toArray n n2 dd aa sl sl2 (by simpa using hv) (by simp[hw])) ⟨ho,L,h1 hw⟩
 .refine concat_meets ⟨_,ho,rfl⟩ ⟨_,L,rfl⟩ noFill_tuple_add seq_tuple_add PySem.F.slot_tuple_add PySem.F.entry_tuple_add (PySem.F.args_tuple_add_2 _ _)
   (tuple_addW2 t b vs.toArray ws.toArray n n2 dd aa sl sl2 (by simpa using hv) (by simpa using hw) (by rw[k8,k8];exact hsz)) ⟨ho,L,?_⟩
  rw[e];exact h2 hw
def sIx (n d:Nat):Option Int->Nat
 | none=>d
 | some v=>if v < 0 then(v+(n:Int)).toNat else min v.toNat n
theorem sIx_none (n d:Nat):sIx n d none=d:=rfl
theorem sIx_nat (n d k:Nat):sIx n d (some (k:Int))=min k n:=by
 show(if (k:Int) < 0 then((k:Int)+(n:Int)).toNat else min (k:Int).toNat n)=min k n
 rw[if_neg (),Int.toNat_natCast]
theorem sIx_le (n d:Nat) (L:d<=n) (o:Option Int):sIx n d o<=n:=by
 cases o with
 | none=>exact L
 | some v =>
  show(if v < 0 then(v+(n:Int)).toNat else min v.toNat n)<=n
  by_cases F:v < 0
  .rw[if_pos F];omega
  .rw[if_neg F];exact Nat.min_le_right _ _
theorem vD (v:Int) (n d:Nat):(if v < 0 then max (v+(n:Int)) 0 else min v (n:Int))=((sIx n d (some v):Nat):Int):=by
 show(if v < 0 then max (v+(n:Int)) 0 else min v (n:Int))=(((if v < 0 then(v+(n:Int)).toNat else min v.toNat n):Nat):Int)
 by_cases F:v < 0
 .simp only[if_pos F];omega
 .simp only[if_neg F];omega
theorem uG (lo hi:Option Int) (n:Nat):G5 lo hi 1 (n:Int)=(((sIx n 0 lo:Nat):Int),((sIx n n hi:Nat):Int)):=by
 have h1 : ¬ ((1:Int) < 0):=()
 unfold G5;simp only[h1,if_false];refine Prod.ext ?_ ?_
 .cases lo with
  | none=>rfl
  | some v=>exact vD v n 0
 .cases hi with
  | none=>rfl
  | some v=>exact vD v n n
theorem tM (i j:Nat):wh (i:Int) (j:Int) 1=j - i:=by
 unfold wh;have h1:(1:Int) > 0:=()
 simp only[h1,if_true,Int.ediv_one]
 split <;> omega
theorem iR {o:Option Int} {Q:Option Int->Shared->Prop} (p:IsPart v o) (h:Q o s):wpAny (model prog w) A (Builtin.Slice.slicePartIndex v) Q E s:=by
 cases p with
 | none=>exact slicePart_none h
 | int i t=>exact slicePart_int h
theorem fU {sl:Addr} {lo hi:Option Int} {Q:Int × Int × Nat->Shared->Prop} (hs:s.heap.IsSliceOf sl vl vu .none) (pl:IsPart vl lo) (U:IsPart vu hi)
  (h:Q (((sIx n 0 lo:Nat):Int),1,sIx n n hi - sIx n 0 lo) s):wpAny (model prog w) A (IH (.ref sl) (pure (n:Int))) Q E s:=by
 obtain⟨os,F,Z,L⟩:=id hs;unfold IH Builtin.Slice.sliceFields;refine a_ (a_ (o9 F L (x:=vl) rfl (a_ (o9 F L (x:=vu) rfl (a_ (o9 F L (x:=.none) rfl (b_ ?_)))))))
 refine a_ (slicePart_none ?_)
 show wpAny _ _ (if ((1:Int) == 0)=true then _ else _) _ _ s
 rw[if_neg ∅]
 refine a_ (iR pl (a_ (iR U (a_ (b_ ?_)))))
 show wpAny _ _ (match G5 lo hi 1 (n:Int) with | (lo,hi)=>pure (lo,(1:Int),wh lo hi 1)) _ _ s
 rw[uG lo hi n]
 show wpAny _ _ (pure (((sIx n 0 lo:Nat):Int),(1:Int),wh ((sIx n 0 lo:Nat):Int) ((sIx n n hi:Nat):Int) 1)) _ _ s
 rw[tM];exact b_ h
theorem tm (xs:Array Value) (i k:Nat):((range k).filterMap λ(m:Nat)=>xs[((i:Int)+(m:Int) * 1).toNat]?).toArray=((xs.toList.drop i).take k).toArray:=by
 have e:(λ(m:Nat)=>xs[((i:Int)+(m:Int) * 1).toNat]?)=λm=>xs[i+m]? := by
  funext m
  have:((i:Int)+(m:Int) * 1).toNat=i+m:=()
  rw[this]
 rw[e];have:=pick_run xs i k
 rw[List.filterMap_map] at this;have e2:((λx=>xs[x]?) ∘ λx=>i+x)=λm=>xs[i+m]? := rfl
 rw[e2] at this;rw[this]
theorem getItem_tuple_cut {t sl:Addr} {lo hi:Option Int} (L:IsTup s.heap t items) (hs:s.heap.IsSliceOf sl vl vu .none) (pl:IsPart vl lo) (pu:IsPart vu hi)
  (hw : ¬ (sIx items.size 0 lo=0/\sIx items.size items.size hi=items.size))
  (h:Q (.ref s.heap.objs.size) { s with heap:=s.heap.push { cls:=.type "tuple",data:=.seq ((items.toList.drop (sIx items.size 0 lo)).take (sIx items.size items.size hi - sIx items.size 0 lo)).toArray } })
  (hsz:items.size<=g_):wpAny (model prog w) A (Jw (.ref t) (.ref sl)) Q E s:=by
 have F:sizeOk (.seq ((items.toList.drop (sIx items.size 0 lo)).take (sIx items.size items.size hi - sIx items.size 0 lo)).toArray):=by
  show((items.toList.drop (sIx items.size 0 lo)).take (sIx items.size items.size hi - sIx items.size 0 lo)).toArray.size<=g_
  rw[k8,m8,Jk,pz];omega
 have hj:sIx items.size items.size hi<=items.size:=sIx_le _ _ (h_ _) hi
 obtain⟨os,U,aa,ad⟩:=id hs;have Z:s.TypeIs (.ref sl) "slice" :=⟨os,U,aa⟩
 unfold Jw
 try with_reducible refine m6 ?_
 first | refine a_ (b_ ?_) | skip
 refine a_ (wpAny_sequenceKey L.typeIs ∅ ?_)
 refine a_ (C_ (name:=d_ "__getitem__") L.typeIs nH
  (x4 nH L.typeIs entry_tuple_getitem ?_ (args_tuple_getitem _ _)))
 show wpAny _ _ (Builtin.Tuple.tupleItemsOf (.ref t) >>= _) _ _ s
 refine a_ (tupleItemsOf_ L ?_)
 refine a_ (Ic Z ?_)
 rw[if_pos ∅]
 refine a_ (fU hs pl pu ?_)
 have ac : ¬ ((((sIx items.size 0 lo:Nat):Int) == 0 && (1:Int) == 1 && (sIx items.size items.size hi - sIx items.size 0 lo) == items.size)=true):=by
  intro q;rw[fx,fx] at q;have q1:((sIx items.size 0 lo:Nat):Int)=0:=eq_of_beq q.1.1
  have q2:sIx items.size items.size hi - sIx items.size 0 lo=items.size:=eq_of_beq q.2
  exact hw ⟨(),()⟩
 show wpAny _ _ (if (((sIx items.size 0 lo:Nat):Int) == 0 && (1:Int) == 1 && (sIx items.size items.size hi - sIx items.size 0 lo) == items.size)=true then _ else _) _ _ s
 rw[if_neg ac,tm]
 first
  | exact a_ (m:=p9 _) (ra (b_ ⟨_,rfl,b_ h⟩) F)
  | exact a_ (m:=p9 _) (ra (a_ (b_ (b_ ⟨_,rfl,b_ h⟩))) F)
  | exact a_ (a_ (m:=p9 _) (ra (b_ (b_ ⟨_,rfl,b_ h⟩)) F))
  | exact a_ (a_ (m:=p9 _) (ra (b_ ⟨_,rfl,b_ h⟩) F))
end HT
namespace L2
open PySem PySem.Spec PyProof.Rows
abbrev TO:=St->Hp->(Option Int->Hp->Prop)->Prop
def PO (X:Cx) (e:Option Expr) (t:TO):Prop :=
 ∀ (pins:List (Addr × Obj)) (s:Shared) (σ:St) (H:Hp) (Q:Option Int->Hp->Prop),Inv X pins σ H s->t σ H Q ->
  wpAny (model X.prog X.w) X.A (evalPart e X.env) (λu s'=>∃o H',Inv X pins σ H' s'/\IsPart u o/\Q o H') X.xe s
def fj:TO:=λ_ H Q=>Q none H
def gI (t:TE):TO:=λσ H Q=>t σ H λx H1=>∃i,x = .int i/\Q (some i) H1
theorem ue {ns:List Int} : ∀{us:List Value},aO (ns.map V.int) us->IntsAre us ns:=by
 induction ns with
 | nil=>intro us r;rw[JI] at r;cases r;exact .nil
 | cons n ns L =>
  intro us r;rw[k9] at r;cases r with
  | cons U F =>
   obtain⟨t,e⟩:=U;subst e;exact .cons n t (L F)
section
variable {lo hi:Option Expr} {tl th:TO}
theorem bv:PO X none fj:=by
 intro pins s σ H Q I h;rw[evalPart_none];exact b_ ⟨none,H,I,.none,h⟩
theorem aV (h:PE X e te):PO X (some e) (gI te):=by
 intro pins s σ H Q I hw;rw[evalPart_some];refine thn (h pins s σ H _ I hw) λu s1 F=>?_
 obtain⟨x,H1,U,Z,L⟩:=F;obtain⟨i,rfl,q⟩:=L;obtain⟨t,rfl⟩:=Z;exact⟨some i,H1,U,.int i t,q⟩
def SlR (X:Cx) (r:V->Option Int->Option Int->Hp->VK->Prop):Prop :=
 ∀ (pins:List (Addr × Obj)) (s:Shared) (σ:St) (H:Hp) (x:V) (v vl vu:Value) (lo hi:Option Int) (sl:Addr) (Q:VK),Inv X pins σ H s->aT x v->s.heap.IsSliceOf sl vl vu .none->IsPart vl lo->IsPart vu hi->r x lo hi H Q ->
  ∃T id,JF (.type T) "__getitem__" = pure (some (.builtin id))/\s.TypeIs v T/\wpAny (model X.prog X.w) X.A (Jw v (.ref sl)) (EP X pins σ Q) X.xe s
def tSl (r:V->Option Int->Option Int->Hp->VK->Prop) (te:TE) (tl th:TO):TE:=λσ H Q=>te σ H λx H1=>tl σ H1 λl H2=>th σ H2 λu F=>r x l u F Q
theorem aQ (hr:SlR X r) (he:PE X e te) (hl:PO X lo tl) (hu:PO X hi th):PE X (.Subscript e (.Slice lo hi none p2) pos) (tSl r te tl th):=by
 intro pins s σ H Q I h;refine Subscript_ (thn (he pins s σ H _ I h) λv s1 U=>?_)
 obtain⟨x,H1,I1,r1,q1⟩:=U;refine wpAny_Slice (thn (hl pins s1 σ H1 _ I1 q1) λvl s2 ⟨l,H2,I2,pl,q2⟩=>thn (hu pins s2 σ H2 _ I2 q2) λvu F L=>?_)
 obtain⟨u,Z,I3,pu,q3⟩:=L;rw[evalPart_none];refine b_ ?_
 have I4:Inv X pins σ Z { F with heap:=F.heap.push { cls:=.type "slice",data:=.fields #[vl,vu,.none] } }:=I3.kept (t':=F.toks) λb ob q=>c_ _ q
 obtain⟨T,id,hT,ht,hg⟩:=hr pins { F with heap:=F.heap.push { cls:=.type "slice",data:=.fields #[vl,vu,.none] } } σ Z x v vl vu l u F.heap.objs.size Q I4 r1 (Heap.IsSliceOf.new ..) pl pu q3
 show wpAny (model X.prog X.w) X.A (subscriptTail e (.Slice lo hi none p2) v (.ref F.heap.objs.size)) (EP X pins σ Q) X.xe { F with heap:=F.heap.push { cls:=.type "slice",data:=.fields #[vl,vu,.none] } }
 exact tail_any (ops:=[.ref F.heap.objs.size,v]) ht hT hg (by with_unfolding_all rfl)
def dJ (xs:List V) (lo hi:Option Int):List V:=(xs.drop (HT.sIx xs.length 0 lo)).take (HT.sIx xs.length xs.length hi - HT.sIx xs.length 0 lo)
theorem lB (xs:List V) (lo hi:Option Int):(dJ xs lo hi).length<=xs.length:=by
 unfold dJ;rw[m8,Jk];omega
def Ho (K:e_):V->Option Int->Option Int->Hp->VK->Prop:=λx lo hi H Q=>∃a xs,x = .ref a/\SqT K H a xs /\
 ¬ (HT.sIx xs.length 0 lo=0/\HT.sIx xs.length xs.length hi=xs.length)/\∀p,H p=none->Q (.ref p) (upd H p (.tup (dJ xs lo hi)))
theorem DE:SlR X (Ho X.K):=by
 intro pins s σ H x v vl vu lo hi sl Q I rx hs pl Z h;obtain⟨a,xs,rfl,hx,hw,q⟩:=h;cases rx;obtain⟨its,r,L,U⟩:=I.tuple hx;have F:its.toArray.size=xs.length:=by rw[k8];exact r.length.symm
 refine⟨"tuple",_,nH.lookup,L.typeIs,?_⟩
 refine HT.getItem_tuple_cut L hs pl Z (by rw[F];exact hw) ?_ (by rw[F];exact U)
 rw[F];refine⟨.ref s.heap.objs.size,_,I.laid (t':=s.toks) (o:=.tup (dJ xs lo hi)) (λb ob q=>c_ _ q) (h_ _) ?_,rfl,q _ (I.hok.fresh (h_ _))⟩
 exact⟨n_ (lB xs lo hi) U,_,(r.drop (HT.sIx xs.length 0 lo)).take (HT.sIx xs.length xs.length hi - HT.sIx xs.length 0 lo),IsTup.new _ _⟩
def En (K:e_):R2:=λx y H Q=>∃a b xs ys,x = .ref a/\y = .ref b/\SqT K H a xs/\SqT K H b ys/\xs≠[]/\xs.length+ys.length<=g_ /\
 (ys=[]->Q (.ref a) H)/\(ys≠[]->∀p,H p=none->Q (.ref p) (upd H p (.tup (xs++ys))))
theorem aO.nil_iff (r:aO xs us):us=[]↔xs=[]:=by
 cases r with
 | nil=>simp
 | cons _ _=>simp
theorem Bc:OpR X (HQ .Add) (En X.K):=by
 intro pins s σ H x y v u Q I rx ry h;obtain⟨a,b,xs,ys,rfl,rfl,ha,hb,hx,Z,q1,q2⟩:=h;cases rx;cases ry;obtain⟨its,L,p1,_⟩:=I.tuple ha;obtain⟨U,F,p2,_⟩:=I.tuple hb;refine HT.cat_tup p1 p2 (λz=>hx (L.nil_iff.mp z)) (λz=>⟨.ref a,H,I,rfl,q1 (F.nil_iff.mp z)⟩) (λz=>?_) (by rw[<- L.length,<- F.length];exact Z)
 refine⟨.ref s.heap.objs.size,_,I.laid (t':=s.toks) (o:=.tup (xs++ys)) (λb ob q=>c_ _ q) (h_ _) ?_,rfl,q2 (λw=>z (F.nil_iff.mpr w)) _ (I.hok.fresh (h_ _))⟩
 exact⟨by rw[HD];exact Z,_,L.append F,IsTup.new _ _⟩
end
def ixN (n:Nat) (i:Int):Option Nat:=if 0<=i then(if i < n then some i.toNat else none) else if -(n:Int)<=i then some (i+n).toNat else none
def atI {α:Type} (xs:List α) (i:Int):Option α:=(ixN xs.length i).bind λj=>xs[j]?
theorem vN {i:Int} (h:ixN n i=some j):seqIndex? i n=some j/\j < n/\-(n:Int)<=i/\i < n:=by
 unfold ixN at h
 by_cases F:0<=i
 .rw[if_pos F] at h
  by_cases h1:i < n
  .rw[if_pos h1] at h
   have e:i.toNat=j:=j9 h
   exact⟨by rw[seqIndex_of F h1,e],(),(),h1⟩
  .rw[if_neg h1] at h;cases h
 .rw[if_neg F] at h
  by_cases h1 : -(n:Int)<=i
  .rw[if_pos h1] at h
   have e:(i+n).toNat=j:=j9 h
   exact⟨by rw[seqIndex_neg () h1,e],(),h1,()⟩
  .rw[if_neg h1] at h;cases h
theorem qh {xs:List α} {i:Int} {v:α} (h:atI xs i=some v) : ∃j,seqIndex? i xs.length=some j/\xs[j]? = some v/\j < xs.length/\-(xs.length:Int)<=i/\i < xs.length:=by
 unfold atI at h;cases e:ixN xs.length i with
 | none=>rw[e] at h;cases h
 | some j =>
  rw[e] at h;obtain⟨h1,h2,L,F⟩:=vN e;exact⟨j,h1,h,h2,L,F⟩
theorem bh {xs:List α} {v:α} (h:xs[j]? = some v):atI xs (j:Int)=some v:=by
 have F:j < xs.length:=(i7.mp h).1
 have e:ixN xs.length (j:Int)=some j:=by
  unfold ixN;rw[if_pos (),if_pos ()];simp
 unfold atI;rw[e];exact h
theorem jL (xs:List α) (v:α):atI (xs++[v]) (-1)=some v:=by
 have hl:(xs++[v]).length=xs.length+1:=by simp
 have e:ixN (xs++[v]).length (-1)=some xs.length:=by
  unfold ixN;rw[hl,if_neg ∅,if_pos ()]
  congr 1
  omega
 unfold atI;rw[e]
 show(xs++[v])[xs.length]? = some v
 simp
def vM (b:Expr):Prop:=∀o i,subscripted b false o i=operate [o,i] (Jw o i)
def IxR (X:Cx) (r:R2):Prop :=
 ∀ (value F:Expr) (pins:List (Addr × Obj)) (s:Shared) (σ:St) (H:Hp) (x y:V) (v u:Value) (Q:VK),Inv X pins σ H s->aT x v->aT y u->r x y H Q ->
  subscripted F false v u=operate [v,u] (Jw v u)->wpAny (model X.prog X.w) X.A (subscriptTail value F v u) (EP X pins σ Q) X.xe s
def MtR (X:Cx) (id:String) (r:V->List V->Hp->VK->Prop):Prop :=
 ∀ (pins:List (Addr × Obj)) (s:Shared) (σ:St) (H:Hp) (x:V) (xs:List V) (v:Value) (us:List Value) (Q:VK),Inv X pins σ H s->aT x v->aO xs us->r x xs H Q ->
  wpAny (model X.prog X.w) X.A (call (.builtin id) (v :: us)) (EP X pins σ Q) X.xe s
section
variable {a b:Expr} {ta tb:TE}
theorem aB {r:R2} (L:IxR X r) (F:PE X a ta) (hb:PE X b tb) (hs:vM b:=by exact λ_ _=>rfl):PE X (.Subscript a b pos) (tOp r ta tb):=by
 intro pins s σ H Q I h;exact Subscript_ (CV F hb I h λv u Z x y H2 I2 U ry q=>L a b pins Z σ H2 x y v u Q I2 U ry q (hs _ _))
def G8 (K:e_):R2:=λx y H Q=>∃p xs i v,x = .ref p/\y = .int i/\SqL K H p xs/\atI xs i=some v/\Q v H
def Hg (K:e_):R2:=λx y H Q=>∃p xs i v,x = .ref p/\y = .int i/\SqT K H p xs/\atI xs i=some v/\Q v H
def Hi:R2:=λx y H Q=>∃z i c,x = .str z/\y = .int i/\z.length<=g_/\atI z.cps.toList i=some c/\Q (.str ⟨#[c]⟩) H
theorem Bm:IxR X (G8 X.K):=by
 intro value L pins s σ H x y v u Q I rx ry h hs;obtain⟨p,xs,i,z,rfl,rfl,hq,he,q⟩:=h;cases rx;obtain⟨t,rfl⟩:=ry;obtain⟨its,r,pl,hz⟩:=I.list hq;obtain⟨j,h1,h2,h3,h4,h5⟩:=qh he;obtain⟨w,Z,U⟩:=r.get h2;have hl:=r.length;have hn:=iO;have F:EP X pins σ Q w s:=⟨z,H,I,U,q⟩
 by_cases h0:0<=i
 .have hj:i.toNat=j:=by
   rw[seqIndex_of h0 h5] at h1;exact j9 h1
  exact item_listR pl.isList h0 () (by rw[hj];simpa using Z) F hs
 .have hj:(i+(its.toArray.size:Int)).toNat=j:=by
   rw[seqIndex_neg () h4] at h1
   rw[k8,<- hl];exact j9 h1
  exact subscriptTail_builtinR (x:=w) pl.isList.typeIs slot_list_getitem.lookup
   (wpAny_getItem_list_neg (Q:=λr s'=>r=w/\EP X pins σ Q r s') pl.isList () (by rw[k8] <;> omega) () (by rw[hj];simpa using Z) ⟨rfl,F⟩) hs
theorem DL:IxR X (Hg X.K):=by
 intro value L pins s σ H x y v u Q I rx ry h hs;obtain⟨p,xs,i,z,rfl,rfl,Z,he,q⟩:=h;cases rx;obtain⟨t,rfl⟩:=ry;obtain⟨its,r,pl,hz⟩:=I.tuple Z;obtain⟨j,h1,h2,h3,h4,h5⟩:=qh he;obtain⟨w,ew,U⟩:=r.get h2;have hl:=r.length;have hn:=iO;have F:EP X pins σ Q w s:=⟨z,H,I,U,q⟩
 exact subscriptTail_builtinR (x:=w) pl.typeIs slot_tuple_getitem.lookup
  (getItem_tuple (j:=j) (Q:=λr s'=>r=w/\EP X pins σ Q r s') pl () () (by rw[k8,<- hl];exact h1) (by simpa using ew) ⟨rfl,F⟩) hs
theorem Dd:IxR X Hi:=by
 intro value F pins s σ H x y v u Q I L U h hs;obtain⟨z,i,c,rfl,rfl,hz,Z,q⟩:=h;obtain⟨t,rfl⟩:=L;obtain⟨t',rfl⟩:=U;obtain⟨j,h1,h2,h3,h4,h5⟩:=qh Z;have hl:z.cps.toList.length=z.length:=by simp[Str.length]
 rw[hl] at h1 h4 h5;have hn:=iO;exact tail_any (typeIs_str s z t) slot_str_getitem.lookup (getItem_str (c:=c) (by
  have e1:decide (i < -(2 ^ 63:Int))=false:=decide_eq_false ()
  have e2:decide (i >= 2 ^ 63)=false:=decide_eq_false ()
  rw[e1,e2,Bool.or_false]) (by rw[h1];simpa using h2) ⟨.str ⟨#[c]⟩,H,I.tok _,⟨_,rfl⟩,q⟩) hs
theorem uh (its:List Value) (n j:Nat) (u:Value):Ie (·.setIfInBounds j u) { cls:=.type "list",data:=.seq its.toArray n }={ cls:=.type "list",data:=.seq (its.set j u).toArray n }:=by
 simp[Ie]
theorem Inv.lst {pins:List (Addr × Obj)} {σ:St} {H:Hp} {s:Shared} {p:Addr} {xs:List V} (I:Inv X pins σ H s) (h:H p*>xs) :
  ∃(its:List Value) (n:Nat),aO xs its/\s.heap.get? p=some { cls:=.type "list",data:=.seq its.toArray n }/\xs.length<=g_:=by
 obtain⟨z,its,n,r,e⟩:=I.hok p _ h;exact⟨its,n,r,e,z⟩
theorem Inv.lstUpd {f:Obj->Obj} (I:Inv X pins σ H s) (h:H p*>xs)
  (U:s.heap.get? p=some { cls:=.type "list",data:=.seq its.toArray n }) (F:f { cls:=.type "list",data:=.seq its.toArray n }={ cls:=.type "list",data:=.seq its'.toArray n' }) (r:aO ys its') (Z:ys.length<=g_) (t:Nat) :
  Inv X pins σ (upd H p (.lst ys)) { s with heap:=s.heap.update p f,toks:=t }:=by
 have e:(s.heap.update p f).get? p=some { cls:=.type "list",data:=.seq its'.toArray n' }:=by
  rw[HW f U (by rw[F] <;> rfl),F]
 refine I.write (x:=p) (e:=p) (by rw[h];trivial) (.inl rfl) (λb u L q=>(Heap.get?_update_other _ _ (t6 L)).trans q) ⟨_,e⟩ ?_
 exact⟨Z,its',n',r,e⟩
def Ez:V->V->V->Hp->(Hp->Prop)->Prop:=λo i v H Q=>∃p xs k j,o = .ref p/\i = .int k/\H p*>xs/\ixN xs.length k=some j/\Q (upd H p (.lst (xs.set j v)))
theorem sH:C7 X Ez:=by
 intro pins s σ H o i v ov iv u Q I ro ri rv h;obtain⟨p,xs,k,j,rfl,rfl,hp,hj,q⟩:=h;cases ro;obtain⟨t,rfl⟩:=ri;obtain⟨its,n,r,F,hz⟩:=I.lst hp;obtain⟨h1,h2,L,h4⟩:=vN hj;have hl:=r.length;have hn:=iO;have U:Inv X pins σ (upd H p (.lst (xs.set j v))) { s with heap:=s.heap.update p (Ie (·.setIfInBounds j u)) } :=
  I.lstUpd hp F (uh its n j u) (r.set rv j) (by rw[length_set];exact hz) s.toks
 by_cases Z:0<=k
 .have hk:k.toNat=j:=by
   rw[seqIndex_of Z h4] at h1;exact j9 h1
  exact PySem.W.ki_setAt F Z () (by rw[k8,<- hl];exact h4) (by rw[hk];exact⟨_,U,q⟩)
 .have hk:(k+(its.toArray.size:Int)).toNat=j:=by
   rw[seqIndex_neg () L] at h1
   rw[k8,<- hl];exact j9 h1
  exact PySem.W.ki_setBack F () (by rw[k8,<- hl];exact L) () (by rw[hk];exact⟨_,U,q⟩)
theorem pY (lo hi:Option Int) (n:Nat):(JK lo hi none n).1=((HT.sIx n 0 lo:Nat):Int)/\(JK lo hi none n).2.1=((HT.sIx n n hi:Nat):Int)/\(JK lo hi none n).2.2=1:=by
 refine⟨?_,?_,rfl⟩
 .cases lo with
  | none=>simp[JK,HT.sIx]
  | some i =>
   simp only[JK,HT.sIx,getD_none,show(1:Int) > 0 by decide,if_true]
   by_cases h:i < 0
   .simp only[h,if_true] <;> omega
   .simp only[h,if_false] <;> omega
 .cases hi with
  | none=>simp[JK,HT.sIx]
  | some i =>
   simp only[JK,HT.sIx,getD_none,show(1:Int) > 0 by decide,if_true]
   by_cases h:i < 0
   .simp only[h,if_true] <;> omega
   .simp only[h,if_false] <;> omega
theorem ou (its:List Value) (lo hi:Option Int):slicePick its.toArray lo hi none=((its.drop (HT.sIx its.length 0 lo)).take (HT.sIx its.length its.length hi - HT.sIx its.length 0 lo)).toArray:=by
 obtain⟨h1,h2,F⟩:=pY lo hi its.toArray.size;unfold slicePick;rw[h1,h2,F];simp only[sliceRange_one,pick_run,k8] <;> rfl
def GT (K:e_):V->Option Int->Option Int->Hp->VK->Prop:=λx lo hi H Q=>∃a xs,x = .ref a/\SqL K H a xs/\∀p,H p=none->Q (.ref p) (upd H p (.lst (dJ xs lo hi)))
theorem vY:SlR X (GT X.K):=by
 intro pins s σ H x v vl vu lo hi sl Q I Z hs pl U h;obtain⟨a,xs,rfl,hx,q⟩:=h;cases Z;obtain⟨its,r,L,hz⟩:=I.list hx;have F:=r.length;refine⟨"list",_,slot_list_getitem.lookup,L.isList.typeIs,?_⟩
 refine wpAny_getItem_list_slice L.isList hs pl U .none (by simp) ?_ (by rw[k8] <;> omega)
 rw[ou,<- F];refine⟨.ref s.heap.objs.size,_,I.laid (t':=s.toks) (o:=.lst (dJ xs lo hi)) (λb ob q=>c_ _ q) (h_ _) ?_,rfl,q _ (I.hok.fresh (h_ _))⟩
 exact⟨n_ (lB xs lo hi) hz,_,0,(r.drop (HT.sIx xs.length 0 lo)).take (HT.sIx xs.length xs.length hi - HT.sIx xs.length 0 lo),ge _ rfl⟩
def eM:V->Bool
 | .non=>true
 | .bl _=>true
 | .int _=>true
 | .str _=>true
 | _=>false
def eqV:V->V->Bool
 | .non,.non=>true
 | .bl a,.bl b=>a == b
 | .bl a,.int b=>(if a then 1 else 0) == b
 | .int a,.bl b=>a ==(if b then 1 else 0)
 | .int a,.int b=>a == b
 | .str a,.str b=>a == b
 | _,_=>false
theorem DZ {x:V} (U:aT y u) (F:aT x v) (Z:eM y=true) (L:eM x=true):SeqAt.EqAt A s u v (eqV y x):=by
 cases y with
 | non =>
  cases U;cases x with
  | non=>cases F;exact SeqAt.EqAt.same _
  | bl b=>cases F;exact SeqAt.EqAt.none_bool b
  | int b=>obtain⟨t,rfl⟩:=F;exact SeqAt.EqAt.none_int b t
  | str b=>obtain⟨t,rfl⟩:=F;exact SeqAt.EqAt.none_str b t
  | _=>exact absurd (show false=true from L) i6
 | bl a =>
  cases U;cases x with
  | non=>cases F;exact SeqAt.EqAt.bool_none a
  | bl b=>cases F;exact SeqAt.EqAt.bool_bool a b
  | int b=>obtain⟨t,rfl⟩:=F;exact SeqAt.EqAt.bool_int a b t
  | str b=>obtain⟨t,rfl⟩:=F;exact SeqAt.EqAt.bool_str a b t
  | _=>exact absurd (show false=true from L) i6
 | int a =>
  obtain⟨t',rfl⟩:=U;cases x with
  | non=>cases F;exact SeqAt.EqAt.int_none a t'
  | bl b=>cases F;exact SeqAt.EqAt.int_bool a t' b
  | int b=>obtain⟨t,rfl⟩:=F;exact SeqAt.EqAt.int_int a t' b t
  | str b=>obtain⟨t,rfl⟩:=F;exact SeqAt.EqAt.int_str a t' b t
  | _=>exact absurd (show false=true from L) i6
 | str a =>
  obtain⟨t',rfl⟩:=U;cases x with
  | non=>cases F;exact SeqAt.EqAt.str_none a t'
  | bl b=>cases F;exact SeqAt.EqAt.str_bool a t' b
  | int b=>obtain⟨t,rfl⟩:=F;exact SeqAt.EqAt.str_int a t' b t
  | str b=>obtain⟨t,rfl⟩:=F;exact SeqAt.EqAt.str_str a t' b t
  | _=>exact absurd (show false=true from L) i6
 | _=>exact absurd (show false=true from Z) i6
def eqU (x:V) (u:Value):Bool:=match u with
 | .none=>eqV .non x
 | .bool b=>eqV (.bl b) x
 | .int i _=>eqV (.int i) x
 | .str z _=>eqV (.str z) x
 | _=>false
theorem yq {x:V} (r:aT y u) (f:eM y=true):eqU x u=eqV y x:=by
 cases y with
 | non=>cases r;rfl
 | bl b=>cases r;rfl
 | int i=>obtain⟨t,rfl⟩:=r;rfl
 | str z=>obtain⟨t,rfl⟩:=r;rfl
 | _=>exact absurd (show false=true from f) i6
theorem jr {x:V} : ∀{xs:List V} {us:List Value},aO xs us->xs.all eM=true->us.any (eqU x)=xs.any λy=>eqV y x
 | _,_,.nil,_=>rfl
 | y :: xs,u :: us,.cons r t,f=>by
  rw[IR,fx] at f;rw[any_cons,any_cons,yq r f.1,jr t f.2]
theorem ic {A:Around} {s:Shared} {x:V} {v:Value} (L:aT x v) (F:eM x=true) : ∀{xs:List V} {us:List Value},aO xs us->xs.all eM=true->∀u∈us,SeqAt.EqAt A s u v (eqU x u)
 | _,_,.nil,_=>λu hu=>by cases hu
 | y :: xs,u :: us,.cons r t,f=>λU hu=>by
  rw[IR,fx] at f;rcases i4.mp hu with rfl | hu
  .rw[yq r f.1];exact DZ r L f.1 F
  .exact ic L F t f.2 U hu
def inV (x:V) (xs:List V):Bool:=xs.any λy=>eqV y x
def rIn (K:e_) (F:Bool):R2:=λx y H Q=>∃p xs,y = .ref p/\(SqL K H p xs\/SqT K H p xs)/\eM x=true/\xs.all eM=true/\Q (.bl (if F then !inV x xs else inV x xs)) H
theorem xD:OpR X (p8 .In) (rIn X.K false):=by
 intro pins s σ H x y v u Q I Z ry h;obtain⟨p,xs,rfl,F,U,fs,q⟩:=h;cases ry;rcases F with F | F
 .obtain⟨its,r,pl,hz⟩:=I.list F
  refine SeqAt.in_listAt (eqU x) pl.isList (λw L=>ic Z U r fs w (by simpa using L)) ⟨.bl _,H,I,rfl,?_⟩
  rw[show its.toArray.any (eqU x)=its.any (eqU x) by simp,jr r fs]
  exact q
 .obtain⟨its,r,pl,hz⟩:=I.tuple F
  refine SeqAt.in_tupleAt (eqU x) pl (λw L=>ic Z U r fs w (by simpa using L)) ⟨.bl _,H,I,rfl,?_⟩
  rw[show its.toArray.any (eqU x)=its.any (eqU x) by simp,jr r fs]
  exact q
theorem gf:OpR X (p8 .NotIn) (rIn X.K true):=by
 intro pins s σ H x y v u Q I Z ry h;obtain⟨p,xs,rfl,F,U,fs,q⟩:=h;cases ry;rcases F with F | F
 .obtain⟨its,r,pl,hz⟩:=I.list F
  refine SeqAt.notIn_listAt (eqU x) pl.isList (λw L=>ic Z U r fs w (by simpa using L)) ⟨.bl _,H,I,rfl,?_⟩
  rw[show its.toArray.any (eqU x)=its.any (eqU x) by simp,jr r fs]
  exact q
 .obtain⟨its,r,pl,hz⟩:=I.tuple F
  refine SeqAt.notIn_tupleAt (eqU x) pl (λw L=>ic Z U r fs w (by simpa using L)) ⟨.bl _,H,I,rfl,?_⟩
  rw[show its.toArray.any (eqU x)=its.any (eqU x) by simp,jr r fs]
  exact q
theorem gy:bP X (.builtin "len") (λxs H Q=>∃p ys,xs=[.ref p]/\(SqL X.K H p ys\/SqT X.K H p ys)/\Q (.int ys.length) H):=by
 intro pins s σ H xs us Q I r h;obtain⟨p,ys,rfl,L,q⟩:=h;obtain⟨u,rfl,U⟩:=cU r;cases U;have Z:=iO;rcases L with L | L
 .obtain⟨its,r',pl,hz⟩:=I.list L
  have F:=r'.length;exact Calls.call_len_list pl.isList (by simp only[k8] <;> omega) ⟨.int ys.length,H,I.tok _,⟨s.toks+1,by rw[k8,F]⟩,q⟩
 .obtain⟨its,r',pl,hz⟩:=I.tuple L
  have F:=r'.length;exact len_tuple pl (by simp only[k8] <;> omega) ⟨.int ys.length,H,I.tok _,⟨s.toks+1,by rw[k8,F]⟩,q⟩
theorem pX:bP X (.builtin "len") (λxs H Q=>∃z,xs=[.str z]/\z.length<=g_/\Q (.int z.length) H):=by
 intro pins s σ H xs us Q I r h;obtain⟨z,rfl,L,q⟩:=h;obtain⟨u,rfl,t,rfl⟩:=cU r;have F:=iO;exact len_str () ⟨.int z.length,H,I.tok _,⟨_,rfl⟩,q⟩
theorem qC:bP X (.type "list") (λxs H Q=>∃p ys,xs=[.ref p]/\(SqL X.K H p ys\/SqT X.K H p ys)/\∀l,H l=none->Q (.ref l) (upd H l (.lst ys))):=by
 intro pins s σ H xs us Q I r h;obtain⟨p,ys,rfl,F,q⟩:=h;obtain⟨u,rfl,rx⟩:=cU r;cases rx;have L : ∀(its:List Value),aO ys its->ys.length<=g_->∀(h':Heap) (c':Nat),(∀b o',s.heap.get? b=some o'->h'.get? b=some o') ->
   h'.get? s.heap.objs.size=some { cls:=.type "list",dict:=none,data:=.seq its.toArray c',slots := #[] }->EP X pins σ Q (.ref s.heap.objs.size) { s with heap:=h' }:=λits r' U h' c' Z e =>
  ⟨.ref s.heap.objs.size,_,I.laid (t':=s.toks) Z (h_ _) (show aX X.prog X.w _ h' _ (.lst ys) from⟨U,its,c',r',e⟩),rfl,q _ (I.hok.fresh (h_ _))⟩
 rcases F with F | F
 .obtain⟨its,r',pl,U⟩:=I.list F
  have aa:=r'.length;obtain⟨o,ho,hc,n,hd⟩:=pl.isList;exact call_list_seq p (.inl rfl) ho hc hd (λh' c' Z e=>L its r' U h' c' Z e) (by simp only[k8] <;> omega)
 .obtain⟨its,r',pl,U⟩:=I.tuple F
  have aa:=r'.length;obtain⟨o,ho,hc,n,hd⟩:=pl;exact call_list_seq p (.inr rfl) ho hc hd (λh' c' Z e=>L its r' U h' c' Z e) (by simp only[k8] <;> omega)
theorem oz:bP X (.type "tuple") (λxs H Q=>∃p ys,xs=[.ref p]/\((SqL X.K H p ys/\∀l,H l=none->Q (.ref l) (upd H l (.tup ys)))\/(SqT X.K H p ys/\Q (.ref p) H))):=by
 intro pins s σ H xs us Q I r h;obtain⟨p,ys,rfl,h⟩:=h;obtain⟨u,rfl,Z⟩:=cU r;cases Z;rcases h with⟨F,q⟩ | ⟨F,q⟩
 .obtain⟨its,r',pl,hz⟩:=I.list F
  have U:=r'.length;refine call_tuple_list pl.isList (λh' kp=>?_) (by simp only[k8] <;> omega)
  have L:Inv X pins σ H { s with heap:=h' }:=I.kept (t':=s.toks) kp
  have I2:Inv X pins σ (upd H h'.objs.size (.tup ys)) { s with heap:=h'.push { cls:=.type "tuple",data:=.seq its.toArray } } :=
   L.laid (t':=s.toks) (λb o e=>c_ _ e) (h_ _) (show aX X.prog X.w _ _ _ (.tup ys) from⟨hz,its,r',IsTup.new _ _⟩)
  exact⟨.ref h'.objs.size,_,I2,rfl,q _ (L.hok.fresh (h_ _))⟩
 .obtain⟨its,r',pl,hz⟩:=I.tuple F
  exact call_tuple_same pl ⟨.ref p,H,I,rfl,q⟩
def tyV (K:e_) (T:String) (x:V) (H:Hp):Prop:=match x with
 | .str _=>T = "str"
 | .int _=>T = "int"
 | .ref p=>(T = "list"/\∃xs,SqL K H p xs)\/(T = "tuple"/\∃o,K.lookup p=some o/\o.cls = .type "tuple" /\ o.dict=none) \/
   (T = "dict" /\((∃kvs,H p<*kvs)\/∃kvs,H p=some (.dT kvs)))\/(T = "set"/\∃S n,H p=some (.set S n))
 | _=>False
theorem uB {x:V} (I:Inv X pins σ H s) (r:aT x v) (ty:tyV X.K T x H) :
  s.TypeIs v T/\∀a,v = .ref a->∃ob,s.heap.get? a=some ob/\ob.dict=none:=by
 cases x with
 | str z =>
  obtain⟨t,rfl⟩:=r;cases (show T = "str" from ty)
  exact⟨typeIs_str s z t,λ_ e=>nomatch e⟩
 | int i =>
  obtain⟨t,rfl⟩:=r;cases (show T = "int" from ty)
  exact⟨typeIs_int s i t,λ_ e=>nomatch e⟩
 | ref p =>
  cases r;rcases ty with⟨rfl,xs,U⟩ | ⟨rfl,o,F,hc,L⟩ | ⟨rfl,F⟩ | ⟨rfl,S,n,F⟩
  .obtain⟨its,_,pl,_⟩:=I.list U
   refine⟨pl.isList.typeIs,λa e=>?_⟩
   cases e;obtain⟨o,n,e,c,L,_⟩:=pl;exact⟨o,e,L⟩
  .refine⟨⟨o,I.kIn p o F,hc⟩,λa e=>?_⟩
   cases e;exact⟨o,I.kIn _ o F,L⟩
  .have z : ∃o,s.heap.get? p=some o/\o.ExactDict:=by
    rcases F with⟨kvs,F⟩ | ⟨kvs,F⟩
    .obtain⟨_,_,_,_,o,_,_,e,ex,_⟩:=I.hok p _ F
     exact⟨o,e,ex⟩
    .obtain⟨_,_,_,_,o,_,_,e,ex,_⟩:=I.hok p _ F
     exact⟨o,e,ex⟩
   obtain⟨o,e,ex⟩:=z;refine⟨⟨o,e,ex.1⟩,λa e2=>?_⟩
   cases e2;exact⟨o,e,ex.2.1⟩
  .obtain⟨o,_,_,_,e,ex,_⟩:=I.hok p _ F
   refine⟨⟨o,e,ex.1⟩,λa e2=>?_⟩
   cases e2;exact⟨o,e,ex.2.1⟩
 | _=>exact m_ ty
variable {o:Expr} {t:TA} {id:String} {r:V->List V->Hp->VK->Prop}
end
def MtM (X:Cx) (id:String) (r:V->List V->Hp->VK->Prop):Prop :=
 ∀ (pins:List (Addr × Obj)) (s:Shared) (σ:St) (H:Hp) (x:V) (xs:List V) (v:Value) (us:List Value) (Q:VK),Inv X pins σ H s->aT x v->aO xs us->r x xs H Q ->
  wpAny (model X.prog X.w) X.A (call (.builtin id) (v :: us)) (EP X pins σ Q) X.xe s
theorem aO.one : ∀{x:V} {us:List Value},aO [x] us->∃u,us=[u]/\aT x u
 | _,_,.cons r .nil=>⟨_,rfl,r⟩
theorem aO.zero : ∀{us:List Value},aO [] us->us=[]
 | _,.nil=>rfl
theorem aO.dropLast {xs:List V} {us:List Value} (h:aO xs us):aO xs.dropLast us.dropLast:=by
 induction h with
 | nil=>exact .nil
 | cons r t F =>
  cases t with
  | nil=>exact .nil
  | cons q t'=>exact .cons r F
theorem aO.reverse {xs:List V} {us:List Value} (h:aO xs us):aO xs.reverse us.reverse:=by
 induction h with
 | nil=>exact .nil
 | cons r t F=>rw[List.reverse_cons,List.reverse_cons];exact aO.append F (.cons r .nil)
theorem uL (l:List α):l.eraseIdx (l.length - 1)=l.dropLast:=by
 induction l with
 | nil=>rfl
 | cons a r F =>
  cases r with
  | nil=>rfl
  | cons b r =>
   have e:(a :: b :: r).length - 1=((b :: r).length - 1)+1:=by
    have h1:(a :: b :: r).length=r.length+2:=rfl
    have h2:(b :: r).length=r.length+1:=rfl
    omega
   rw[e,List.eraseIdx_cons_succ,F]
   all_goals rfl
section
variable {l:Addr} {zs:List V}
theorem Inv.lset {f:Array Value->Array Value} (I:Inv X pins σ H s) (F:H l*>xs)
  (e:s.heap.get? l=some { cls:=.type "list",data:=.seq its.toArray n }) (L:f its.toArray=its'.toArray) (Z:aO ys its') (hz:ys.length<=g_) :
  Inv X pins σ (upd H l (.lst ys)) { s with heap:=s.heap.update l (Ie f),toks:=t' }:=by
 have q:=PySem.IsL.update e f;rw[L] at q;refine I.write (x:=l) (e:=l) (by rw[F];exact trivial) (.inl rfl) (λb' u U hu=>(Heap.get?_update_other s.heap (Ie f) (t6 U)).trans hu) ⟨_,q⟩ ?_
 exact⟨hz,its',_,Z,q⟩
theorem Inv.lnew (I:Inv X pins σ H s) (F:aO ys its) (L:ys.length<=g_) :
  Inv X pins σ (upd H s.heap.objs.size (.lst ys)) { s with heap:=s.heap.push { cls:=.type "list",data:=.seq its.toArray },toks:=t' } :=
 I.laid (λ_ _ q=>c_ _ q) (h_ _) ⟨L,its,0,F,ge _ rfl⟩
theorem Inv.fresh (I:Inv X pins σ H s):H s.heap.objs.size=none:=I.hok.fresh (h_ _)
theorem Inv.lstM (I:Inv X pins σ H s) (F:H l*>xs):xs.length<=g_/\∃(its:List Value) (n:Nat),aO xs its/\xs.length=its.length/\s.heap.get? l=some { cls:=.type "list",data:=.seq its.toArray n }:=by
 obtain⟨z,its,n,r,e⟩:=I.hok l _ F;exact⟨z,its,n,r,r.length,e⟩
end
def Bw:V->List V->Hp->VK->Prop:=λx vs H Q=>∃l xs y,x = .ref l/\vs=[y]/\H l*>xs/\xs.length < g_/\Q .non (upd H l (.lst (xs++[y])))
theorem kP:MtM X "list.append" Bw:=by
 intro pins s σ H x vs v us Q I rx U h;obtain⟨l,xs,y,rfl,rfl,L,hz,q⟩:=h;cases rx;obtain⟨u,rfl,Z⟩:=U.one;obtain⟨z,its,n,r,hl,e⟩:=I.lstM L;refine call_meets F.slot_list_append ⟨_,e,rfl⟩ F.entry_list_append (F.args_list_append_2 _ _) (PySem.list_append l its.toArray n u (by rw[k8];omega)) ⟨e,?_⟩
 refine⟨.non,_,I.lset (its':=its++[u]) L e (by simp) (r.append (.cons Z .nil)) ?_,rfl,q⟩
 rw[HD,List.length_singleton];omega
def GR:V->List V->Hp->VK->Prop:=λx vs H Q=>∃l xs y,x = .ref l/\vs=[]/\H l*>xs/\xs[xs.length - 1]? = some y/\Q y (upd H l (.lst xs.dropLast))
theorem Dv:MtM X "list.pop" GR:=by
 intro pins s σ H x vs v us Q I rx rv h;obtain⟨l,xs,y,rfl,rfl,Z,hy,q⟩:=h;cases rx;have U:=rv.zero;subst U;obtain⟨z,its,n,r,hl,e⟩:=I.lstM Z;obtain⟨u,hu,ru⟩:=r.get hy;have L:its.toArray[its.toArray.size - 1]? = some u:=by
  show its.toArray[its.length - 1]? = some u
  rw[<- s_,<- hl];exact hu
 refine call_meets F.slot_list_pop ⟨_,e,rfl⟩ F.entry_list_pop (F.args_list_pop_1 _) (MeetsSeq.list_pop_last l its.toArray n u L (by rw[k8];omega)) ⟨e,?_⟩
 refine⟨y,_,I.lset (its':=its.dropLast) Z e ?_ r.dropLast ?_,ru,q⟩
 .show its.toArray.eraseIdxIfInBounds (its.toArray.size - 1)=its.dropLast.toArray
  rw[k8,List.eraseIdxIfInBounds_toArray,uL]
 .rw[List.length_dropLast]
  omega
def Hb:R2:=λx y H Q=>∃l b xs zs,x = .ref l/\y = .ref b/\H l*>xs/\H b*>zs/\xs.length+zs.length<=g_/\∀p,H p=none->Q (.ref p) (upd H p (.lst (xs++zs)))
theorem CY:OpR X (HQ .Add) Hb:=by
 intro pins s σ H x y v u Q I Z ry h;obtain⟨l,b,xs,zs,rfl,rfl,hH,hB,hz,q⟩:=h;cases Z;cases ry;obtain⟨z,its,n,r,hl,e⟩:=I.lstM hH;obtain⟨z2,F,n2,L,aa,e2⟩:=I.lstM hB;refine PySem.P.add_list e e2 ?_ (by rw[k8,k8];omega)
 have U:its.toArray++F.toArray=(its++F).toArray:=by simp
 rw[U];exact⟨.ref _,_,I.lnew (t':=s.toks) (r.append L) (by rw[HD];omega),rfl,q _ I.fresh⟩
section
variable [DecidableEq κ]
def cu (kvs:List (κ × V)) (k:κ):Option V:=(kvs.find? λkv=>decide (kv.1=k)).map (·.2)
def cL (kvs:List (κ × V)) (k:κ) (v:V):List (κ × V) :=
 if (kvs.any λkv=>decide (kv.1=k))=true then kvs.map (λkv=>if kv.1=k then(kv.1,v) else kv) else kvs++[(k,v)]
theorem jF {k:κ}:cu ([]:List (κ × V)) k=none:=rfl
theorem dv {p:κ × V} {r:List (κ × V)} {k:κ} (e:p.1=k):cu (p :: r) k=some p.2:=by simp[cu,find?_cons,e]
theorem bL {p:κ × V} {r:List (κ × V)} {k:κ} (e : ¬ p.1=k):cu (p :: r) k=cu r k:=by simp[cu,find?_cons,e]
theorem du (k:κ) : ∀kvs:List (κ × V),(kvs.any λkv=>decide (kv.1=k))=(cu kvs k).isSome
 | []=>rfl
 | p :: r=>by
  rw[any_cons]
  by_cases e:p.1=k
  .simp only[dv e,decide_eq_true e,Bool.true_or,isSome_some]
  .rw[bL e,decide_eq_false e,Bool.false_or];exact du k r
theorem im (kvs:List (κ × V)) (k:κ) (v:V):(cL kvs k v).length<=kvs.length+1:=by
 unfold cL
 split
 .rw[f_];omega
 .rw[HD,l_,length_nil];omega
theorem eS {kvs:List (κ × V)} {k:κ} (v:V) (h:cu kvs k=none):cL kvs k v=kvs++[(k,v)]:=by
 unfold cL;rw[du,h];exact if_neg ∅
theorem gG.isSome_eq {o:Option V} {u:Option Value} (r:gG o u):o.isSome=u.isSome:=by
 cases o with
 | none=>cases u with
  | none=>rfl
  | some _=>exact(show False from r).elim
 | some _=>cases u with
  | none=>exact(show False from r).elim
  | some _=>rfl
theorem KV.val {kvs:List (κ × V)} {vs:List (κ × Value)} (r:KV kvs vs) (k:κ):gG (cu kvs k) (valueAt vs k):=by
 unfold KV at r
 induction r with
 | nil=>exact g9
 | @cons p q ps qs h t ih =>
  obtain⟨h1,h2⟩:=h
  by_cases e:p.1=k
  .have e':q.1=k:=h1.symm.trans e
   have b:valueAt (q :: qs) k=some q.2:=by simp[valueAt,find?_cons,e']
   rw[dv e,b];exact h2
  .have e' : ¬ q.1=k:=λz=>e (h1.trans z)
   have b:valueAt (q :: qs) k=valueAt qs k:=by simp[valueAt,find?_cons,e']
   rw[bL e,b];exact ih
theorem KV.any {kvs:List (κ × V)} {vs:List (κ × Value)} (r:KV kvs vs) (k:κ):(kvs.any λkv=>decide (kv.1=k))=vs.any λkv=>decide (kv.1=k):=by
 unfold KV at r
 induction r with
 | nil=>rfl
 | cons h t F=>rw[any_cons,any_cons,F,h.1]
theorem KV.repl {kvs:List (κ × V)} {vs:List (κ × Value)} (r:KV kvs vs) (k:κ) {y:V} {u:Value} (F:aT y u) :
  KV (kvs.map λkv=>if kv.1=k then(kv.1,y) else kv) (vs.map λkv=>if kv.1=k then(kv.1,u) else kv):=by
 unfold KV at r ⊢
 induction r with
 | nil=>exact .nil
 | @cons p q ps qs h t ih =>
  rw[k9,k9];refine .cons ?_ ih
  obtain⟨h1,h2⟩:=h
  by_cases e:p.1=k
  .rw[if_pos e,if_pos (h1.symm.trans e)];exact⟨h1,F⟩
  .rw[if_neg e,if_neg (λz=>e (h1.trans z))];exact⟨h1,h2⟩
theorem KV.put {kvs:List (κ × V)} {vs:List (κ × Value)} (r:KV kvs vs) (k:κ) {y:V} {u:Value} (F:aT y u):KV (cL kvs k y) (stored vs k u):=by
 unfold cL stored;rw[r.any k]
 by_cases e:(vs.any λkv=>decide (kv.1=k))=true
 .rw[if_pos e,if_pos e];exact r.repl k F
 .rw[if_neg e,if_neg e];exact Paired.snoc r ⟨rfl,F⟩
theorem KV.length {kvs:List (κ × V)} {vs:List (κ × Value)} (r:KV kvs vs):kvs.length=vs.length:=Paired.length r
end
theorem ls {k:Key} (r:aT (kV k) u):(aR P w).is k u=true:=by
 cases k with
 | inl i=>obtain⟨t,e⟩:=(show ∃t,u=JC i t from r);subst e;exact sQ P w i t
 | inr x=>obtain⟨t,e⟩:=(show ∃t,u=Value.str x t from r);subst e;exact re P w x t
theorem pC {P:Program} {w:World} : ∀{ks:List Key} {us:List Value},aO (ks.map kV) us->ItemsAre (aR P w) ks us
 | [],_,r=>by rw[JI] at r;cases r;exact .nil
 | k :: ks,_,r=>by
  rw[k9] at r;cases r with
  | cons h t=>exact .cons (ls h) (pC t)
abbrev KT (H:Hp):List (List Key × V)->List (List Key × Addr × Value)->Prop:=Paired λp q=>p.1=q.1/\H q.2.1>>(p.1.map kV)/\aT p.2 q.2.2
theorem KT.val {xs:List (List Key × Addr × Value)} (r:KT H kvs xs) (k:List Key):gG (cu kvs k) ((atKey xs k).map (·.2)):=by
 induction r with
 | nil=>exact g9
 | @cons p q ps qs h t ih =>
  obtain⟨h1,_,h2⟩:=h
  by_cases e:p.1=k
  .have e':q.1=k:=h1.symm.trans e
   have b:atKey (q :: qs) k=some q.2:=by simp[atKey,find?_cons,e']
   rw[dv e,b];exact h2
  .have e' : ¬ q.1=k:=λz=>e (h1.trans z)
   have b:atKey (q :: qs) k=atKey qs k:=by simp[atKey,find?_cons,e']
   rw[bL e,b];exact ih
theorem KT.repl {xs:List (List Key × Addr × Value)} (r:KT H kvs xs) (k:List Key) {y:V} {u:Value} (L:aT y u) :
  KT H (kvs.map λkv=>if kv.1=k then(kv.1,y) else kv) (xs.map (putAt k u)):=by
 induction r with
 | nil=>exact .nil
 | @cons p q ps qs h t ih =>
  rw[k9,k9];refine .cons ?_ ih
  obtain⟨h1,h2,F⟩:=h;unfold putAt
  by_cases e:p.1=k
  .rw[if_pos e,if_pos (h1.symm.trans e)];exact⟨h1,h2,L⟩
  .rw[if_neg e,if_neg (λz=>e (h1.trans z))];exact⟨h1,h2,F⟩
theorem KT.put {xs:List (List Key × Addr × Value)} (r:KT H kvs xs) (k:List Key) {b:Addr} {y:V} {u:Value} (L:H b>>(k.map kV)) (F:aT y u) :
  KT H (cL kvs k y) (storedH xs k b u):=by
 have e:(kvs.any λkv=>decide (kv.1=k))=(atKey xs k).isSome:=by
  rw[du,(r.val k).isSome_eq,isSome_map]
 unfold cL storedH;rw[e]
 by_cases q:(atKey xs k).isSome=true
 .rw[if_pos q,if_pos q];exact r.repl k F
 .rw[if_neg q,if_neg q];exact Paired.snoc r ⟨rfl,L,F⟩
theorem KT.keeps {xs:List (List Key × Addr × Value)} (r:KT H kvs xs) (F : ∀b ys,H b>>ys->H' b>>ys):KT H' kvs xs :=
 Paired.mapP r λ_ _ z=>⟨z.1,F _ _ z.2.1,z.2.2⟩
theorem Ct {u:HO} (ok:HOk P w H h) (e:Rd H a u):aX P w H h a u:=e.ok ok
theorem pf {kvs:List (Key × V)} (ok:HOk P w H h) (e:Rd H a (.dK kvs)):kvs.length<=g_/\(a == HZ)=false/\∃vs,KV kvs vs/\h.DictOf (aR P w) a vs :=
 show aX P w H h a (.dK kvs) from Ct ok e
theorem vZ {kvs:List (Key × V)} (ok:HOk P w H h) (e:H a<*kvs):kvs.length<=g_/\(a == HZ)=false/\∃vs,KV kvs vs/\h.DictOf (aR P w) a vs:=pf ok (.inl e)
theorem jU (ok:HOk P w H h) (e:H a>>(ks.map kV)):(tupleKind (aR P w)).is h ks a:=by
 obtain⟨_,its,r,o,h1,h2,n,F⟩:=(show aX P w H h a (.tup (ks.map kV)) from ok a _ e)
 exact⟨o,its.toArray,n,h1,h2,F,by simpa using pC r⟩
theorem rg (ok:HOk P w H h) (e:Rd H a (.dT kvs)):kvs.length<=g_/\(a == HZ)=false /\
  ∃xs,KT H kvs xs/\h.DictOfH (tupleKind (aR P w)) a xs:=by
 obtain⟨z,y,xs,r,o,es,ep,h1,h2,L,U,Z⟩:=(show aX P w H h a (.dT kvs) from Ct ok e)
 refine⟨z,y,xs,r,o,es,ep,h1,h2,L,U,λx F=>?_,Z⟩
 have all : ∀{l:List (List Key × V)} {m:List (List Key × Addr × Value)},KT H l m->∀x∈m,(tupleKind (aR P w)).is h x.1 x.2.1:=by
  intro l m q
  induction q with
  | nil=>intro x F;exact nomatch F
  | @cons p q ps qs hq t ih =>
   intro x F;rcases i4.mp F with e | F
   .subst e
    exact jU ok (by rw[<- hq.1];exact hq.2.1)
   .exact ih x F
 exact all r x F
theorem F6 (ok:HOk P w H h) (e:H a=some (.dT kvs)):kvs.length<=g_/\(a == HZ)=false /\
  ∃xs,KT H kvs xs/\h.DictOfH (tupleKind (aR P w)) a xs:=rg ok (.inl e)
def uU (H:Hp) (a:Addr) (y:V) (r:Option V):Prop :=
 (∃kvs k,Rd H a (.dK kvs)/\y=kV k/\r=cu kvs k)\/∃kvs k b,Rd H a (.dT kvs)/\y = .ref b/\H b>>(k.map kV)/\r=cu kvs k
def EC (H:Hp) (a:Addr) (y v:V) (H':Hp):Prop :=
 (∃kvs k,H a<*kvs/\y=kV k/\kvs.length < g_/\H'=upd H a (.dK (cL kvs k v))) \/
 ∃kvs k b,H a=some (.dT kvs)/\y = .ref b/\H b>>(k.map kV)/\kvs.length < g_/\H'=upd H a (.dT (cL kvs k v))
section
variable {v:V} {r:Value} {o:Option V}
theorem Inv.big (I:Inv X pins σ H s):HZ < s.heap.objs.size:=by
 have h:i_ < s.heap.objs.size:=(I.mod.glob.keeps I.bk).lt
 exact lt_trans ∅ h
theorem xG (hu:A.units+1 < cLine) (I:Inv X pins σ H s) (g:uU H a y (some v)) (ry:aT y u) (h : ∀U s',Inv X pins σ H s'->aT v U->Q U s') :
  wpAny (model X.prog X.w) A (Jw (.ref a) u) Q E s:=by
 rcases g with⟨kvs,k,e,Z,l⟩ | ⟨kvs,k,b,e,Z,eb,l⟩
 .subst Z
  obtain⟨z,hd,vs,F,dd⟩:=pf I.hok e;obtain⟨U,hw,L⟩:=gG.some_of (v:=v) (o:=valueAt vs k) (by rw[l];exact F.val k)
  exact wpAny_getItem_of (ls ry) dd.mapOf hw (h U _ (I.tok _) L)
 .subst Z
  cases (show u=i8 b from ry)
  obtain⟨z,hd,xs,F,dd⟩:=rg I.hok e;obtain⟨U,hw,L⟩:=gG.some_of (v:=v) (o:=(atKey xs k).map (·.2)) (by rw[l];exact F.val k)
  obtain⟨p,hp,aa⟩:=JM.mp hw;refine wpAny_getItem_heap (tupleKind_room_in1 hu) (jU I.hok eb) dd hp ?_
  rw[aa];exact h U _ (I.tok _) L
theorem GN (hu:A.units+1 < cLine) (I:Inv X pins σ H s) (g:uU H a y o) (Z:aT y u) (h : ∀s',Inv X pins σ H s'->Q (.bool o.isSome) s') :
  wpAny (model X.prog X.w) A (p8 .In u (.ref a)) Q E s:=by
 rcases g with⟨kvs,k,e,L,l⟩ | ⟨kvs,k,b,e,L,eb,l⟩
 .subst L
  obtain⟨z,U,vs,F,dd⟩:=pf I.hok e;refine wpAny_in_of (ls Z) U dd.mapOf ?_
  rw[<- (F.val k).isSome_eq,<- l];exact h _ (I.tok _)
 .subst L
  cases (show u=i8 b from Z)
  obtain⟨z,U,xs,F,dd⟩:=rg I.hok e;refine wpAny_in_heap (tupleKind_room_in1 hu) (jU I.hok eb) U dd ?_
  have q:=(F.val k).isSome_eq;rw[isSome_map] at q;rw[<- q,<- l];exact h _ (I.tok _)
theorem AL (hu:A.units+1 < cLine) (I:Inv X pins σ H s) (g:uU H a y o) (Z:aT y u) (h : ∀s',Inv X pins σ H s'->Q (.bool (!o.isSome)) s') :
  wpAny (model X.prog X.w) A (p8 .NotIn u (.ref a)) Q E s:=by
 rcases g with⟨kvs,k,e,L,l⟩ | ⟨kvs,k,b,e,L,eb,l⟩
 .subst L
  obtain⟨z,U,vs,F,dd⟩:=pf I.hok e;refine wpAny_notIn_of (ls Z) U dd.mapOf ?_
  rw[<- (F.val k).isSome_eq,<- l];exact h _ (I.tok _)
 .subst L
  cases (show u=i8 b from Z)
  obtain⟨z,U,xs,F,dd⟩:=rg I.hok e;refine wpAny_notIn_heap (tupleKind_room_in1 hu) (jU I.hok eb) U dd ?_
  have q:=(F.val k).isSome_eq;rw[isSome_map] at q;rw[<- q,<- l];exact h _ (I.tok _)
theorem qq {ob:HO} (I:Inv X pins σ H s) (F:Mut (H a)) (hs:H_ a s.heap h') (U : ∃q,h'.get? a=some q) (new:aX X.prog X.w (upd H a ob) h' a ob) :
  Inv X pins σ (upd H a ob) { s with heap:=h',toks:=t' } :=
 I.write (x:=a) (e:=a) F (.inl rfl) (λb q L z=>(hs.2 b L).trans z) U new
theorem ya {kvs:List (Key × V)} {vs:List (Key × Value)} (z:kvs.length<=g_) (L:(a == HZ)=false) (F:KV kvs vs) (dd:h'.DictOf (aR P w) a vs) :
  aX P w H' h' a (.dK kvs):=⟨z,L,vs,F,dd⟩
theorem xA {Q:Unit->Shared->Prop} (hu:A.units+1 < cLine) (I:Inv X pins σ H s) (g:EC H a y v H') (ry:aT y u) (rv:aT v r) (h : ∀s',Inv X pins σ H' s'->Q Unit.unit s') :
  wpAny (model X.prog X.w) A (setItem (.ref a) u r) Q E s:=by
 rcases g with⟨kvs,k,e,Z,l,eH⟩ | ⟨kvs,k,b,e,Z,eb,l,eH⟩
 .subst Z eH
  obtain⟨z,hd,vs,F,dd⟩:=vZ I.hok e;have hz:vs.length<=g_:=by rw[<- F.length];exact z
  have hl:(cL kvs k v).length<=g_:=by have:=im kvs k v;omega
  refine wpAny_setItem_pairs (hsz:=hz) (ls ry) dd λh' L hs=>h _ ?_
  have he : ∃q,h'.get? a=some q:=let ⟨q,_,_,U,_⟩:=L;⟨q,U⟩
  exact qq I (by rw[e];exact g9) hs he (ya hl hd (F.put k rv) L)
 .subst Z eH
  cases (show u=i8 b from ry)
  obtain⟨z,hd,xs,F,dd⟩:=F6 I.hok e;have hz:xs.length<=g_:=by rw[<- Paired.length F];exact z
  have hl:(cL kvs k v).length<=g_:=by have:=im kvs k v;omega
  refine wpAny_setItem_heap (hsz:=hz) (tupleKind_room_in1 hu) (jU I.hok eb) dd λh' L hs=>h _ ?_
  obtain⟨q,es,ep,U,h2,h3,h4,_,h5⟩:=L;refine qq I (by rw[e];exact g9) hs ⟨q,U⟩ ⟨hl,hd,_,(F.put k eb rv).keeps λc ys ec=>?_,q,es,ep,U,h2,h3,h4,h5⟩
  rw[ah (eV ec e (λz=>nomatch z))]
  exact ec
end
section
variable {kvs:List (Key × V)} {k:Key}
theorem EH (I:Inv X pins σ H s) (e:Rd H a (.dK kvs)) (h : ∀t s',Inv X pins σ H s'->Q (.int kvs.length t) s'):wpAny (model X.prog X.w) A (call (.builtin "len") [.ref a]) Q E s:=by
 obtain⟨z,L,vs,F,dd⟩:=pf I.hok e;refine call_len_dict L dd (by rw[<- F.length];rw[IQ] at z;omega) ?_
 rw[<- F.length];exact h _ _ (I.tok _)
end
def Gr (i:Expr):Prop:=∀L F,subscripted i false L F=operate [L,F] (Jw L F)
theorem Cb {F:Expr} {id:String}
  (hl:JF (.type T) "__getitem__" = pure (some (.builtin id))) (hs:Gr F)
  (h:wpAny (model prog w) A (eval value env) (λo s₁=>wpAny (model prog w) A (eval F env) (λi L=>L.TypeIs o T/\wpAny (model prog w) A (Jw o i) Q E L) E s₁) E s) :
  wpAny (model prog w) A (eval (.Subscript value F pos) env) Q E s:=by
 refine Subscript_ (t7 h (λo s₁ h₁=>t7 h₁ (λi L U=>?_) λ_ _ x=>x) λ_ _ x=>x)
 obtain⟨hT,U⟩:=U;unfold subscriptTail;refine a_ ?_
 rw[getitemInPython_of_ne hT.not_modules];refine a_ (HJ hT hl ?_)
 have aa:wpAny (model prog w) A (subscripted F false o i) (λr Z=>wpAny (model prog w) A (letTemporaryGo value o r >>= λ_=>pure r) Q E Z) E L:=by
  rw[hs o i];exact wpAny_operating (t7 U (λr Z ac=>a_ (wpAny_letTemporaryGo (b_ ac))) λ_ _ x=>x)
 first
  | exact b_ (a_ aa)
  | exact a_ (b_ (a_ aa))
  | exact a_ aa
theorem sE {o:Option V} (I:Inv X pins σ H s) (g:uU H a y o):s.TypeIs (.ref a) "dict" := by
 rcases g with⟨kvs,k,e,_,_⟩ | ⟨kvs,k,b,e,_,_,_⟩
 .obtain⟨_,_,vs,_,dd⟩:=pf I.hok e
  exact dd.typeIs
 .obtain⟨_,_,xs,_,dd⟩:=rg I.hok e
  exact dd.typeIs
theorem sR (h:Heap) (F:HZ < h.objs.size):aX P w H (h.push { cls:=.type "dict",data:=.dict #[] }) h.objs.size (.dK []) :=
 ⟨HG _,beq_eq_false_iff_ne.mpr (t6 (kf F)),[],.nil,Heap.DictOf.new h⟩
def vn:TE:=λ_ H Q=>∀p,H p=none->Q (.ref p) (upd H p (.dK []))
theorem rW:PE X (.Dict [] [] pos) vn:=λpins s σ H Q I h =>
 wpAny_Dict_empty ⟨.ref s.heap.objs.size,_,I.laid (a:=s.heap.objs.size) (o:=.dK []) (t':=s.toks) (λ_ _ q=>c_ _ q) (h_ _) (sR s.heap I.big),rfl,h _ (I.hok.fresh (h_ _))⟩
def mH:List (TE × TE)->St->Hp->(List (V × V)->Hp->Prop)->Prop
 | [],_,H,Q=>Q [] H
 | (tk,tv) :: r,σ,H,Q=>tk σ H λx H1=>tv σ H1 λy H2=>mH r σ H2 λps F=>Q ((x,y) :: ps) F
abbrev VV:List (V × V)->List (Value × Value)->Prop:=Paired λp q=>aT p.1 q.1/\aT p.2 q.2
def PPs (X:Cx) (pos:Pos) (keys:List (Option Expr)) (values:List Expr) (trs:List (TE × TE)):Prop :=
 ∀ (pins:List (Addr × Obj)) (s:Shared) (σ:St) (H:Hp) (Q:List (V × V)->Hp->Prop),Inv X pins σ H s->mH trs σ H Q ->
  wpAny (model X.prog X.w) X.A (evalPairs (pairTrees keys values X.env pos)) (λvs s'=>∃ps H',Inv X pins σ H' s'/\VV ps vs/\Q ps H') X.xe s
theorem Bb:PPs X pos [] [] []:=λpins s σ H Q I h=>pairTrees_nil_walk ⟨[],H,I,.nil,h⟩
theorem jC {k v:Expr} {ks:List (Option Expr)} {vs:List Expr} {tk:TE} (hk:PE X k tk) (hv:PE X v tv) (Z:PPs X pos ks vs trs) :
  PPs X pos (some k :: ks) (v :: vs) ((tk,tv) :: trs):=λpins s σ H Q I h =>
 pairTrees_cons_walk (thn (hk pins s σ H _ I h) λu s1 ⟨x,H1,I1,rx,q1⟩=>thn (hv pins s1 σ H1 _ I1 q1) λw2 s2 ⟨y,H2,I2,ry,q2⟩ =>
  thn (Z pins s2 σ H2 _ I2 q2) λws s3 L=>by obtain⟨ps,H3,I3,F,U⟩:=L;exact(⟨(x,y) :: ps,H3,I3,.cons ⟨rx,ry⟩ F,U⟩))
def eN (kvs more:List (Key × V)):List (Key × V):=more.foldl (λacc kv=>cL acc kv.1 kv.2) kvs
theorem KV.merge : ∀{more:List (Key × V)} {F:List (Key × Value)} {kvs:List (Key × V)} {vs:List (Key × Value)},KV more F->KV kvs vs->KV (eN kvs more) (merged vs F):=by
 intro more F kvs vs r;unfold KV at r
 induction r generalizing kvs vs with
 | nil=>intro q;exact q
 | @cons p q ps qs h t ih =>
  intro L;have e:KV (cL kvs p.1 p.2) (stored vs q.1 q.2):=by
   have:=L.put p.1 h.2
   rw[<- h.1];exact this
  exact ih e
theorem fz : ∀(more kvs:List (Key × V)),(eN kvs more).length<=kvs.length+more.length
 | [],kvs=>by show kvs.length<=kvs.length+0;omega
 | p :: r,kvs=>by
  have h1:=fz r (cL kvs p.1 p.2);have h2:=im kvs p.1 p.2
  show(eN (cL kvs p.1 p.2) r).length<=_
  rw[l_];omega
theorem mM {P:Program} {w:World} : ∀{kvs:List (Key × V)} {ws:List (Value × Value)},VV (kvs.map λkv=>(kV kv.1,kv.2)) ws->∃F,Carries (aR P w) ws F/\KV kvs F
 | [],_,r=>by rw[JI] at r;cases r;exact⟨[],g9,.nil⟩
 | p :: kvs,_,r=>by
  rw[k9] at r;cases r with
  | @cons a b as bs h t =>
   obtain⟨F,c,q⟩:=mM (P:=P) (w:=w) t;obtain⟨U,L⟩:=b;exact⟨(p.1,L) :: F,⟨ls h.1,rfl,c⟩,.cons ⟨rfl,h.2⟩ q⟩
def zZ (trs:List (TE × TE)):TE:=λσ H Q=>∀p,H p=none->mH trs σ (upd H p (.dK [])) λps H2=>H2 p<*[]/\∃kvs:List (Key × V),ps=kvs.map (λkv=>(kV kv.1,kv.2))/\kvs.length<=15/\Q (.ref p) (upd H2 p (.dK (eN [] kvs)))
theorem AZ (h:PPs X pos keys values trs) (U:keys.all (·.isSome)=true) (hl:keys.length=values.length) (h0:keys≠[])
  (aa:keys.length<=15):PE X (.Dict keys values pos) (zZ trs):=by
 intro pins s σ H Q I q;have hn:=I.hok.fresh (h_ s.heap.objs.size);have I1:=I.laid (a:=s.heap.objs.size) (o:=.dK []) (h':=s.heap.push { cls:=.type "dict",data:=.dict #[] }) (t':=s.toks) (λ_ _ q=>c_ _ q) (h_ _) (sR s.heap I.big)
 refine wpAny_Dict_walk (knd:=aR X.prog X.w) U hl h0 aa (thn (h pins _ σ _ _ I1 (q _ hn)) λws s2 F=>?_)
 obtain⟨ps,H2,I2,Z,e,kvs,ep,lk,q2⟩:=F;subst ep;obtain⟨rs,c,rk⟩:=mM (P:=X.prog) (w:=X.w) Z;obtain⟨z,hd,ac,r0,dd⟩:=vZ I2.hok e;cases r0;refine⟨rs,c,dd,λh' L hs=>⟨.ref s.heap.objs.size,_,?_,rfl,q2⟩⟩
 have hz:(eN [] kvs).length<=g_:=by
  have h1:=fz kvs [];rw[length_nil] at h1;rw[IQ];omega
 have he : ∃q,h'.get? s.heap.objs.size=some q:=let ⟨q,_,_,hq,_⟩:=L;⟨q,hq⟩
 exact qq I2 (by rw[e];exact g9) hs he (ya hz hd (rk.merge .nil) L)
end L2
namespace Att
open PySem PySem.W PySem.Calls PyProof.Rows
theorem lT {P:Params} : ∀(ns:List Int) (vs:List Value),WellAll P h vs (ns.map WData.int)->IntsAre vs ns:=by
 intro ns
 induction ns with
 | nil =>
  intro vs w;rw[JI] at w;cases w;exact .nil
 | cons n ns F =>
  intro vs w;rw[k9] at w;cases w with
  | cons a b =>
   cases a;exact .cons _ _ (F _ b)
theorem xl {l:OpenLaw} (hn:l.most=some n) {P:Params} {h:Heap} {args:List WData} {F:List Value}
  (L:l.row.toRowW.claim.pre args=true) (ac:WellAll P h F args) :
  ∃a vs ns,F=[i8 a]/\args=[WData.list (ns.map WData.int)]/\h.get? a=some { cls:=.type "list",data:=.seq vs.toArray }/\IntsAre vs ns/\ns.length<=n:=by
 have aa:WShape.hasAll [] args [.list .int]=true:=(pre_splitW L).1
 have hc:l.pre.holds [] { args:=args }=true:=(pre_splitW L).2
 obtain⟨d,r,rfl,h1,h2⟩:=hasAllW_cons aa;obtain rfl:=hasAllW_nil h2
 obtain⟨xs,rfl,h3⟩:=hasW_list h1;obtain⟨ns,rfl⟩:=items_int h3;have Z:ns.length<=n:=by
  unfold OpenLaw.pre at hc;have h4:(WTm.not (.lt (.lit (.int (n:Int))) (.len (.arg 0)))).holds [] { args:=[.list (ns.map .int)] }=true:=by
   have h4:=(holds_andW hc).1;rw[hn] at h4;exact h4
  have h5:=condW_of h4 (w_not (w_lt w_lit (w_len_list (w_arg rfl))));rw[f_] at h5;refine Nat.le_of_not_lt λq=>?_
  have q':(n:Int) < ((ns.length:Nat):Int):=()
  first
   | (rw[decide_eq_true q'] at h5;exact absurd h5 ∅)
   | (simp at h5;omega)
 cases ac with
 | cons w1 w2 =>
  cases w2;cases w1 with
  | list ho U=>exact⟨_,_,ns,rfl,rfl,ho,lT ns _ U,Z⟩
theorem wO (l:OpenLaw) (args:List WData):l.row.toRowW.claim.post args (.bool true) args=true :=
 postW_of (r:=l.row.toRowW) (X:=(true == true))
  (show WShape.has [] (.bool true) .bool=true by first | rfl | decide | simp[WShape.has,WShape.arms,WShape.armsAll])
  (show(WTm.eq .res (.lit (.bool true))).value [] { args:=args,res:=some (.bool true),after:=args }=some (.bool (true == true)) from w_eq_bool (w_res rfl) w_lit) rfl
theorem attach_call {l:OpenLaw} {q:Program} {d:DefRec}
  (hn:l.most=some n) (ag:d.params.defaults=[])
  (call : ∀(w:World) (F s₁:Shared) (mg mb:Str->Option Value) (fa:Addr) (o:Obj) (pm cd doc:Value) (a:Addr) (vs:List Value) (ns:List Int),
   Ground q loose [] XP w F mg mb s₁.heap->YP w s₁.heap ->
   s₁.heap.get? fa=some o->o.data = .func (docDef d.name d.params d.body d.scope pm cd doc)->s₁.heap.CodeRec cd d.name->mg d.name=some (.ref fa) ->
   s₁.heap.get? a=some { cls:=.type "list",data:=.seq vs.toArray }->IntsAre vs ns->ns.length<=n->s₁.gens = #[] ->
   ID (model l.prog w) callerA (.call (.ref fa) ⟨[.ref a],[]⟩) (λr s'=>r = .ok (.ret (.bool true))/\OldK s₁.heap s'.heap/\s'.os=s₁.os/\AllBare s'.gens) s₁) :
  WalkO q loose XP YP l.row.toRowW d [] (λf vs=>PySem.call f vs):=by
 intro w F s₁ mg mb G Y fa o pm cd doc dV kV ho hd af hD ac hg args ai as aa ah am ad aj;obtain rfl:dV = .none:=Dflts.none hD ag
 obtain rfl:kV = .none:=Dflts.noKw hD
 obtain⟨a,vs,ns,rfl,rfl,U,L,Z⟩:=xl hn aa ad;refine enter_call (Ib (call w F s₁ mg mb fa o pm cd doc a vs ns G Y ho (fd_plain hd) af ac U L Z hg) λr s' hq=>?_)
 obtain⟨rfl,h2,h3,h4⟩:=hq;exact⟨.inl ⟨.bool true,.bool true,[],rfl,λ_=>rfl,.bool true,wO l _,λ_=>⟨List.Pairwise.nil,λ_ hm=>(nomatch hm)⟩⟩,h2,h3,h4⟩
end Att
namespace L2
open PySem PySem.Spec PyProof.Rows
theorem kY : ∀{vs:List Value} {ns:List Int},IntsAre vs ns->aO (ns.map V.int) vs
 | _,_,.nil=>.nil
 | _,_,.cons n t h=>.cons ⟨t,rfl⟩ (kY h)
def AR (s:Stmt) (j:Nat):Stmt:=match s with
 | .ClassDef _ _ _ body _ _ _ _ _ _ _=>body.getD j (.Pass ⟨0,0,0,0⟩)
 | _=>.Pass ⟨0,0,0,0⟩
def bQ (s:Stmt):Arguments:=match s with
 | .FunctionDef _ a _ _ _ _ _ _ _ _=>a
 | _=>{ posonlyargs:=[],args:=[],vararg:=none,kwonlyargs:=[],kw_defaults:=[],kwarg:=none,defaults:=[] }
def br (s:Stmt):List Stmt:=match s with
 | .FunctionDef _ _ b _ _ _ _ _ _ _=>b
 | _=>[]
def am (s:Stmt):Scope:=match s with
 | .FunctionDef _ _ _ _ _ _ sc _ _ _=>sc
 | _=>{ kind:=.function,names:=[],isGenerator:=false,isCoroutine:=false }
abbrev CX0:CXT:=λ_ _ _ _ _ _=>False
abbrev E0:XK:=λ_ _ _=>False
theorem wc:qe CX0 X E0:=λ_ _ _ _ _ _ _ h=>h.elim
structure Fun (K:e_) (x qual:Str) (st:Stmt) (f:Addr) (fd:FuncData):Prop where
 ex : ∃(oc:Value) (od:Option Addr) (kV doc pm:Value) (an:Option Addr) (cdv ct:Value) (osl:Array (Option Value)),
  fd=fnOf x qual (bQ st) (br st) (am st) .none kV doc pm an cdv ct/\K.lookup f=some ⟨oc,od,.func fd,osl⟩/\codeIn K cdv qual=true
 kp:IT K (.ref f)=true
section
variable {P:Program} {w:World} {K:e_} {mg:Str->Option Value} {base:Heap}
theorem Fun.ok (F:Fun K x qual st f fd) (S:az N ps (am st)) (len : ∀vs H Q E,sp vs H Q E->vs.length=ps.length)
  (L : ∀(cdv:Value) (A:Around) (outer:List Env) (s:Shared) (H:Hp) (vs:List V) (Q:VK) (E:XK),ce k (A.deeper (envOfC qual (am st) s.heap.objs.size f cdv))->sp vs H Q E ->
   ∃t,PSs (ci CX0 P w K mg base N qual (am st) f cdv A outer s H E).nox (br st) t/\t { nx:=λ_ H'=>Q .non H',rt:=Q } (fu N vs) H):dY P w K mg base CX0 (k+1) f fd ps sp:=by
 obtain⟨oc,od,kV,doc,pm,an,cdv,ct,osl,rfl,lk,Z⟩:=F.ex;refine zT lk Z S len λA outer s H vs Q E hr U=>?_
 obtain⟨t,h,q⟩:=L cdv A outer s H vs Q E hr U;exact⟨t,h.nox,q⟩
theorem Fun.binds (F:Fun K x qual st f fd)
  (h : ∀(kV doc pm:Value) (L:Option Addr) (cdv ct:Value) (us:List Value),us.length=ps.length->bindArgs (fnOf x qual (bQ st) (br st) (am st) .none kV doc pm L cdv ct) ⟨us,[]⟩=pure (ps.zip us)):dP K fd ps []:=by
 obtain⟨oc,od,kV,doc,pm,L,cdv,ct,osl,rfl,Z,U⟩:=F.ex;exact .all (h kV doc pm L cdv ct)
theorem iX {F:Option Addr} {kV:Value} (l:K.lookup f=some ⟨oc,od,.func (fnOf x qual (bQ st) (br st) (am st) .none kV doc pm F cdv ct),osl⟩)
  (c:codeIn K cdv qual=true) (k:IT K (.ref f)=true):Fun K x qual st f (fnOf x qual (bQ st) (br st) (am st) .none kV doc pm F cdv ct):=⟨⟨oc,od,kV,doc,pm,F,cdv,ct,osl,rfl,l,c⟩,k⟩
end
theorem pc (F:ce k A):A.units+1 < cLine:=Nat.lt_of_le_of_lt (Nat.add_le_add_left (by decide:1<=64) _) F.units
theorem aw (h:n<=1000):n < g_:=Nat.lt_of_le_of_lt h ∅
theorem bR {c A B:Prop} [Decidable c] (h1:c->A) (h2 : ¬ c->B):if c then A else B:=by
 by_cases h:c
 .rw[if_pos h]
  exact h1 h
 .rw[if_neg h]
  exact h2 h
def ak (H H':Hp):Prop:=∀b o,H b=some o->H' b=some o
theorem ak.refl (H:Hp):ak H H:=λ_ _ h=>h
theorem ak.trans (a:ak H H1) (b:ak H1 H2):ak H H2:=λc o h=>b c o (a c o h)
theorem ak.free (e:ak H H') {l:Addr} (h:H' l=Option.none):H l=Option.none:=by
 cases q:H l with
 | none=>rfl
 | some o =>
  rw[e l o q] at h;cases h
theorem ak.seq (e:ak H H') (h:SqL K H a xs):SqL K H' a xs:=by
 rcases h with(h | ⟨o,h⟩) | h
 .exact .inl (.inl (e _ _ h))
 .exact .inl (.inr ⟨o,e _ _ h⟩)
 .exact .inr h
theorem wY:bP X (.builtin "len") (λxs H Q=>∃a kvs,xs=[V.ref a]/\H a<*kvs/\Q (.int kvs.length) H):=by
 intro pins s σ H xs us Q I r h;obtain⟨a,kvs,rfl,F,q⟩:=h;obtain⟨u,rfl,L⟩:=cU r;cases L;exact EH I (.inl F) λt s' U=>⟨.int kvs.length,H,U,⟨t,rfl⟩,q⟩
section
variable [DecidableEq κ]
theorem wz {kvs:List (κ × V)} {k:κ} {v:V} (h:cu kvs k=some v):k∈kvs.map (·.1):=by
 have q:(kvs.any λkv=>decide (kv.1=k))=true:=by
  rw[du,h]
  all_goals rfl
 obtain⟨p,hp,e⟩:=IP.mp q;exact v9.mpr ⟨p,hp,of_decide_eq_true e⟩
end
theorem jp {F:Expr} {it acc:Value} (I:Nat->Shared->Prop)
  (ad : ∀ n s,I n s->wpAny (model prog w) A (pyNext it) (λr s₁=>match r with
   | none=>R (.ok .next) s₁
   | some v=>wpAny (model prog w) A (letOwnedTupleGo F it v) (λ_ s₁=>wpAny (model prog w) A (assign F env v) (λ_ ac =>
     wpAny (model prog w) A (forIn ifs true λc r=>if r=true then do let ok <- isTrue c env (eval c env);pure (Jh ok) else pure (Jh r)) (λok L =>
      if ok=true then wpAny (model prog w) A (eval elt env) (λx Z =>
       wpAny (model prog w) A (call (.builtin "list.append") [acc,x]) (λ_ U=>∃m,m < n/\I m U) (Gt (model prog w) A env λe s'=>R (.error e) s') Z) (Gt (model prog w) A env λe s'=>R (.error e) s') L
      else ∃m,m < n/\I m L) (Gt (model prog w) A env λe s'=>R (.error e) s') ac) (Gt (model prog w) A env λe s'=>R (.error e) s') s₁) (Gt (model prog w) A env λe s'=>R (.error e) s') s₁) (Gt (model prog w) A env λe s'=>R (.error e) s') s)
  (n:Nat) (h:I n s) :
  ID (model prog w) A (.compLoop (.ListComp elt [⟨F,iter,ifs,0⟩] scope pos) 0 it acc env) R s:=by
 refine codeAny_loop rfl I (λn s hI=>?_) n h
 show wpAny _ A ((compTurn (.ListComp elt [⟨F,iter,ifs,0⟩] scope pos) 0 it acc env).onRaise (λx=>do noteFrame x env;theTreesLotGoes x)) _ _ s
 refine wpAny_noted ?_
 rw[compTurn_list];refine a_ (wpAny_standAt (a_ (t7 (ad n s hI) (λr s₁ h₁=>?_) λ_ _ h'=>h')))
 cases r with
 | none=>exact b_ h₁
 | some v =>
  refine a_ (t7 h₁ (λ_ s₁ h₁=>?_) λ_ _ h'=>h')
  refine a_ (t7 h₁ (λ_ ac ag=>a_ (t7 ag (λok L aa=>?_) λ_ _ h'=>h')) λ_ _ h'=>h')
  cases ok with
  | false=>exact b_ ⟨rfl,aa⟩
  | true =>
   exact a_ (a_ (t7 aa (λx Z ah=>a_ (t7 ah (λ_ U af=>b_ (b_ ⟨rfl,af⟩)) λ_ _ h'=>h')) λ_ _ h'=>h'))
def PTs (X:Cx) (ifs:List Expr) (t:TT):Prop :=
 ∀ (pins:List (Addr × Obj)) (s:Shared) (σ:St) (H:Hp) (Q:Bool->Hp->Prop),Inv X pins σ H s->t σ H Q ->
  wpAny (model X.prog X.w) X.A (forIn ifs true λc r=>if r=true then do let ok <- isTrue c X.env (eval c X.env);pure (Jh ok) else pure (Jh r)) (TP X pins σ Q) X.xe s
def lU:TT:=λ_ H Q=>Q true H
theorem cr:PTs X [] lU:=λ_ _ _ H _ I h=>wpAny_tests_nil ⟨H,I,h⟩
theorem gh {env:Env} : ∀(names:List (Str × IG)) (acc:List (Str × Addr)),(∀x∈names,x.2 = .free->∃c,env.cells.lookup x.1=some c) ->
  ∃ cl,(forIn (m:=Sem) names acc λx r=>match x with
   | (name,kind)=>if (kind == u_)=true then do let c <- cellOf env name;pure (Jh ((name,c) :: r)) else pure (Jh r))=pure cl /\
   (∀x c,cl.lookup x=some c->acc.lookup x=some c\/env.cells.lookup x=some c)/\(∀x,(acc.lookup x).isSome=true->(cl.lookup x).isSome=true)/\(∀x,(x,u_)∈names->(cl.lookup x).isSome=true)
 | [],acc,_=>⟨acc,rfl,λx c h=>.inl h,λx h=>h,λx h=>nomatch h⟩
 | (n, k) :: r,acc,h=>by
  by_cases L:k = .free
  .subst L
   obtain⟨c,Z⟩:=h (n,.free) m9 rfl;obtain⟨cl,e,h1,h2,U⟩:=gh r ((n,c) :: acc) (λx F=>h x (la _ F))
   refine⟨cl,?_,λx d hd=>?_,λx F=>h2 x ?_,λx F=>?_⟩
   .simp only[forIn_cons,beq_self_eq_true,if_true,cellOf,Z]
    exact e
   .rcases h1 x d hd with q | q
    .simp only[HE] at q
     split at q
     .rename_i hb
      have:x=n:=by simpa using hb
      subst this;cases q;exact .inr Z
     .exact .inl q
    .exact .inr q
   .simp only[HE]
    split
    .rfl
    .exact F
   .rcases i4.mp F with q | q
    .cases q
     exact h2 n (by simp)
    .exact U x q
  .obtain⟨cl,e,h1,h2,U⟩:=gh r acc (λx F=>h x (la _ F))
   refine⟨cl,?_,h1,h2,λx F=>?_⟩
   .have:(k == u_)=false:=by simpa using L
    simp only[forIn_cons,this,j_,if_false];exact e
   .rcases i4.mp F with q | q
    .cases q
     exact absurd rfl L
    .exact U x q
def bM (X:Cx) (scope:Scope) (N:List Str) (cl:List (Str × Addr)) (C:Addr) (fp:List Addr) (s:Shared) (H:Hp) (xe:Value->Shared->Prop):Cx where
 prog:=X.prog
 w:=X.w
 K:=X.K
 mg:=X.mg
 base:=X.base
 A:=X.A
 N:=N
 s₀:=s
 H₀:=H
 env:=E1 scope cl C X.env
 outer:=X.stack
 stack:=X.stack
 ex:=fp
 fn:=λ_=>false
 calm:=X.calm
 pn:=[]
 xe:=xe
def bG (nt:Nat) (js:List Nat) (σ:St):St:=List.replicate nt none++js.map λj=>(σ[j]?).join
def Wk (σ0 F:St):Prop:=σ0.length=F.length/\∀(i:Nat) v,σ0[i]? = some (some v)->F[i]? = some (some v)
def A9 (g:TG) (nt:Nat):Prop:=∀(x:V) (σ0:St) (H:Hp) (Q:St->Hp->Prop),(∀i,i < nt->σ0[i]? = some none)->g x σ0 H Q->g x σ0 H λF H2=>Wk σ0 F/\Q F H2
theorem Wk.set {σ0:St} {i:Nat} {v:V} (h:σ0[i]? = some none):Wk σ0 (σ0.set i (some v)):=by
 refine⟨by simp,λj w e=>?_⟩
 by_cases F:j=i
 .subst F;rw[h] at e;cases e
 .rw[Ia (t6 F)];exact e
theorem Wk.trans {a b c:St} (h:Wk a b) (h':Wk b c):Wk a c:=⟨h.1.trans h'.1,λi v e=>h'.2 i v (h.2 i v e)⟩
theorem bN (hi:i < nt:=by decide):A9 (cH i) nt:=λx σ0 H Q h q=>⟨Wk.set (h i hi),q⟩
theorem ja : ∀i,i < nt->(bG nt js σ)[i]? = some none:=λi hi=>by
 unfold bG;rw[List.getElem?_append_left (by simpa using hi)]
 simp[hi]
def zJ (nt:Nat) (js:List Nat) (wi:TI) (g:TG) (tc:TT) (te:TE):TE:=λσ H Q=>wi σ H λJ H1=>∀D,H1 D=none->∃W:Nat->Nat->List V->Hp->Prop,(∃m,W 0 m [] (upd H1 D (.lst []))) /\
 ∀ i m ys H2,W i m ys H2->(J.stop i H2/\Q (.ref D) H2)\/(J.go i H2/\∃N:List V->Hp->Prop,(∀F H',N F H'->∃U,U < m/\W (i+1) U F H') /\
  ∀x H',J.yld i H2 x H'->g x (bG nt js σ) H' λL H3=>tc L H3 λb H4=>if b=true then te L H4 λy Z=>Z D*>ys/\ys.length < g_/\N (ys++[y]) (upd Z D (.lst (ys++[y]))) else N ys H4)
structure pN (X:Cx) (scope:Scope) (N:List Str) (nt:Nat) (js:List Nat):Prop where
 kind:scope.kind = .function
 nd:N.Nodup
 len:N.length=nt+js.length
 at_ : ∀(k:Nat) (j:Nat) (x:Str),js[k]? = some j->N[nt+k]? = some x->X.N[j]? = some x/\(X.env.scope.names.lookup x=some .cell\/X.env.scope.names.lookup x=some .free)
 frl : ∀(k:Nat) (x:Str),N[nt+k]? = some x->scope.names.lookup x=some .free
 own : ∀y∈scope.names,y.2≠.cell
 loc : ∀y∈scope.names,y.2 = .local->scope.names.lookup y.1=some .local
 free : ∀y∈scope.names,y.2 = .free->X.env.scope.names.lookup y.1=some .cell\/X.env.scope.names.lookup y.1=some .free
theorem gl {env:Env} : ∀{names:List (Str × IG)} {x:Str},((names.map λ(n,k)=>if (k == u_ && env.scope.kind == .function && env.kindOf n == some .cell) then(n,NameKind.cell) else(n,k)).lookup x=some .cell\/(names.map λ(n,k)=>if (k == u_ && env.scope.kind == .function && env.kindOf n == some .cell) then(n,NameKind.cell) else(n,k)).lookup x=some .free) ->
  (∀y∈names,y.2≠.cell)->(x,u_)∈names
 | [],x,h,_=>by rcases h with h | h <;> simp at h
 | (n, k) :: r,x,h,hc=>by
  have L:=@gl env r x;have hr : ∀y∈r,y.2≠.cell:=λy U=>hc y (la _ U)
  cases F:x == n with
  | true =>
   have e:x=n:=by simpa using F
   subst e;have Z:k = .free:=by
    simp only[k9] at h
    by_cases q:(k == u_ && env.scope.kind == .function && env.kindOf x == some .cell)=true
    .simp only[fx,beq_iff_eq] at q
     exact q.1.1
    .rw[if_neg q] at h
     simp only[HE,beq_self_eq_true] at h;rcases h with h | h
     .cases h
      exact absurd rfl (hc _ m9)
     .exact j9 h
   subst Z;exact m9
  | false =>
   refine la _ (L ?_ hr)
   simp only[k9] at h
   by_cases q:(k == u_ && env.scope.kind == .function && env.kindOf n == some .cell)=true
   .rw[if_pos q] at h;simpa only [HE,F] using h
   .rw[if_neg q] at h;simpa only [HE,F] using h
theorem dM {env:Env} : ∀{names:List (Str × IG)} {x:Str},names.lookup x=some .free ->
  ((names.map λ(n,k)=>if (k == u_ && env.scope.kind == .function && env.kindOf n == some .cell) then(n,NameKind.cell) else(n,k)).lookup x=some .cell\/(names.map λ(n,k)=>if (k == u_ && env.scope.kind == .function && env.kindOf n == some .cell) then(n,NameKind.cell) else(n,k)).lookup x=some .free)
 | [],_,h=>by simp at h
 | (n,k) :: r,x,h=>by
  have L:=@dM env r x;simp only[k9];cases F:x == n with
  | true =>
   simp only[HE,F] at h;cases h
   by_cases q:(u_ == u_ && env.scope.kind == .function && env.kindOf n == some .cell)=true
   .rw[if_pos q];simp only[HE,F];simp
   .rw[if_neg q];simp only[HE,F];simp
  | false =>
   simp only[HE,F] at h
   by_cases q:(k == u_ && env.scope.kind == .function && env.kindOf n == some .cell)=true
   .rw[if_pos q];simp only[HE,F];exact L h
   .rw[if_neg q];simp only[HE,F];exact L h
theorem mO {m:Str->Option Value}
  (S:pN X scope N nt js) (I:Inv X pins σ H s) (hf : ∀b∈fp,nD X pins H b) (F : ∀x c,cl.lookup x=some c->X.env.cells.lookup x=some c) (U : ∀x,(x,u_)∈scope.names->(cl.lookup x).isSome=true)
  (ah : ∀b∈fp,b < s.heap.objs.size) (hC:s.heap.objs.size<=C) (k : ∀b o,s.heap.get? b=some o->h'.get? b=some o) (hs : ∀b o,H b=some o->H1 b=some o) (aa : ∀b,H b=none->b < s.heap.objs.size->H1 b=none) (ag:HOk X.prog X.w H1 h') (hn:h'.Ns C m) (aj:H1 C=none)
  (hm : ∀x,m x=none) :
  Inv (bM X scope N cl C fp s H xe) [] (bG nt js σ) H1 { s with heap:=h',toks:=tk }:=by
 have ai : ∀b∈fp,b∉frs X.stack:=λb Z z=>by
  obtain⟨f0,f1,f2,_⟩:=hf b Z;rcases i4.mp (I.stkSub b z) with q | q
  .exact f1 q
  .exact f2 q
 refine⟨⟨I.ok.mod,S.kind,I.ok.glob,I.ok.blt,hC,λx y c h1 h2=>I.ok.inj x y c (F x c h1) (F y c h2),λx hx=>?_,λx c z=>(i6 z).elim,I.ok.hd,I.ok.frames,.inl rfl,λb Z=>?_,I.bs,n_ I.ok.bsz I.sz,λb o e Z=>?_,ai,I.stack,I.stkFree⟩,
  rfl,I.bare,?_,⟨m,hn,λi x v h1 h2 h3=>?_⟩,λx c e=>?_,aj,λx c e=>?_,λp hp=>absurd (show p∈([]:List (Addr × Obj)) from hp) (by simp),ag,?_⟩
 .have q:(x,u_)∈scope.names:=gl (env:=X.env) hx S.own
  exact Ik.mp (U x q)
 .obtain⟨f0,f1,f2,f3,f4,f5⟩:=hf b Z
  refine⟨kf (j8 (ah b Z) hC),λx c e=>f4 x c (F x c e)⟩
 .have:=hf b Z
  obtain⟨f0,f1,f2,f3,f4,f5⟩:=this;rcases f3 with f3 | f3
  .exact I.ok.noex b o e f3
  .exact absurd (j8 (fy e) (n_ I.ok.bsz f3)) (w4 _)
 .refine⟨λb o e n _ _=>k b o e,λb o e n _ _=>⟨o.slots,k b o e⟩,λb o e n _=>aa b n (fy e),λb o e _=>⟨o,k b o e⟩,λb xs e=>hs b _ e,λb o u e=>hs b _ e,λb ps e=>⟨#[],by rw[hs b _ e];simp⟩⟩
 .by_cases hi:i < nt
  .rw[ja i hi] at h2;cases h2
  .obtain⟨k',rfl⟩ : ∃k',i=nt+k':=⟨i - nt,()⟩
   unfold bG at h2;rw[List.getElem?_append_right (by simp)] at h2
   simp only[List.length_replicate,Nat.add_sub_cancel_left,q_] at h2;cases ej:js[k']? with
   | none=>rw[ej] at h2;cases h2
   | some j =>
    rw[ej] at h2;simp only[map_some,Option.some.injEq] at h2;obtain⟨hN,hk⟩:=S.at_ k' j x ej h1;have af:σ[j]? = some (some v):=by
     cases q:σ[j]? with
     | none=>rw[q] at h2;cases h2
     | some z=>rw[q] at h2;simp only[Option.join] at h2;rw[<- h2];rfl
    have ac:Vis X.env.scope x:=by rcases hk with q | q;exact .inr (.inl q);exact .inr (.inr q)
    obtain⟨m0,am,ad⟩:=I.loc;obtain⟨u,r,l⟩:=ad j x v hN af ac;refine⟨u,r,?_⟩
    rcases l with⟨q,_⟩ | ⟨q,c,e,z⟩
    .have q':X.env.scope.names.lookup x=some .local:=q
     rw[q'] at hk;rcases hk with hk | hk <;> cases hk
    .have hv:(relabel scope X.env).names.lookup x=some .cell\/(relabel scope X.env).names.lookup x=some .free:=dM (env:=X.env) (S.frl k' x h1)
     have q:(x,u_)∈scope.names:=gl (env:=X.env) hv S.own
     obtain⟨c',e'⟩:=Ik.mp (U x q);have e2:=F x c' e';rw[e] at e2;cases e2;obtain⟨oc,L,hd⟩:=z;exact .inr ⟨hv,c,e',oc,k _ _ L,hd⟩
 .obtain⟨v,oc,L,hd⟩:=I.cell x c (F x c e)
  exact⟨v,oc,k _ _ L,hd⟩
 .have e2:=F x c e
  obtain⟨v,oc,L,hd⟩:=I.cell x c e2;exact aa c (I.freeC x c e2) (fy L)
 .unfold bG
  show _=N.length
  rw[S.len];simp
theorem Inv.wk {Y:Cx} {F:St} (I:Inv Y pins F H s) (h:Wk σ0 F):Inv Y pins σ0 H s:=I.weak h.1 h.2
theorem dj {g:TG}
  (S:pN X scope N nt js) (hi:PI X tg iter wi)
  (hg : ∀{cl C fp s H xe},PG (bM X scope N cl C fp s H xe) tg g) (aH:A9 g nt)
  (hc : ∀{cl C fp s H xe},PTs (bM X scope N cl C fp s H xe) ifs tc)
  (he : ∀{cl C fp s H xe},PE (bM X scope N cl C fp s H xe) elt te)
  (hs : ∀x,foldedSetIterable iter X.env x=pure x:=by intro _;rfl) (aF:X.calm=true:=by exact rfl) :
  PE X (.ListComp elt [⟨tg,iter,ifs,0⟩] scope pos) (zJ nt js wi g tc te):=by
 intro pins s σ H Q I h;obtain⟨cl,a2,a8,_,a7⟩:=gh (env:=X.env) scope.names [] (λx hx hk=>I.ok.has x.1 (S.free x hx hk))
 have aB : ∀x c,cl.lookup x=some c->X.env.cells.lookup x=some c:=λx c e=>(a8 x c e).elim (λz=>by simp at z) λz=>z
 have ap:closureFor scope X.env=pure cl:=by
  unfold closureFor;simp only[];rw[a2];rfl
 rw[eval_ListComp];refine wpAny_comprehension_free (use:=none) rfl hs ap S.kind S.loc (thn (hi pins s σ H _ I h) λv s1 h1=>thn h1 λaP F h2=>?_)
 obtain⟨it,fp,tn,J,H2,e,I2,T,a3,f2,q2⟩:=h2;subst e;have af:H2 F.heap.objs.size=none:=I2.hok.fresh (h_ _)
 obtain⟨W,⟨m0,w0⟩,aD⟩:=q2 F.heap.objs.size af;refine ra (wpAny_newFunctionEnv S.own (by intro y hy;simp at hy) (λh₁ aa U=>?_) S.kind)
 dsimp only at aa U ⊢;generalize hG:F.heap.push { cls:=.type "list",dict:=none,data:=.seq ([]:List Value).toArray }=G at aa U ⊢;have Z:G.objs.size=F.heap.objs.size+1:=by rw[<- hG,G2]
 have ad : ∀b o,F.heap.get? b=some o->h₁.get? b=some o:=λb o e =>
  U.extBut b o (by rw[Z];exact kf (Nat.lt_succ_of_lt (fy e))) (c_ _ (hG ▸ c_ _ e))
 have kD:h₁.get? F.heap.objs.size=some { cls:=.type "list",dict:=none,data:=.seq ([]:List Value).toArray } :=
  U.extBut _ _ (by rw[Z];exact kf (IU _)) (c_ _ (hG ▸ ge _ rfl))
 have a9:HOk X.prog X.w (upd H2 F.heap.objs.size (.lst [])) h₁:=I2.hok.laid ad (h_ _) ⟨HG _,[],0,.nil,kD⟩
 have ai : ∀b∈fp,b < F.heap.objs.size:=λb L=>by
  obtain⟨o,e,_⟩:=T.obj _ _ a3 b L;exact fy e
 have aL:(upd H2 F.heap.objs.size (.lst [])) G.objs.size=none:=by
  rw[ah (by rw[Z];exact IE (IU _))]
  exact I2.hok.fresh (by rw[Z];exact F_ _)
 generalize aC:(compPost (model X.prog X.w) X.A X.xe none (EP X pins σ Q) (.ref F.heap.objs.size) G.objs.size)=RR;have ag : ∀{H':Hp},(∀b∈fp,H' b=none)->∀b∈fp,nD (bM X scope N cl G.objs.size fp F H2 (Gt (model X.prog X.w) X.A (E1 scope cl G.objs.size X.env) λe s'=>RR (.error e) s')) [] H' b:=λ{H'} hn b L=>by
  obtain⟨f0,f1,a6,f3,f4,f5⟩:=f2 b L;refine⟨hn b L,kf (j8 (ai b L) (by show _<=G.objs.size;rw[Z];exact F_ _)),λz=>?_,.inl L,λx c e=>f4 x c (aB x c e),λp hp=>absurd (show p∈([]:List (Addr × Obj)) from hp) (by simp)⟩
  rcases i4.mp (I2.stkSub b z) with q | q
  .exact f1 q
  .exact a6 q
 have I3 : ∀tk,Inv (bM X scope N cl G.objs.size fp F H2 (Gt (model X.prog X.w) X.A (E1 scope cl G.objs.size X.env) λe s'=>RR (.error e) s')) [] (bG nt js σ) (upd H2 F.heap.objs.size (.lst [])) { F with heap:=h₁,toks:=tk }:=λtk =>
  mO S I2 f2 aB a7 ai (by rw[Z];exact F_ _) ad (λb o e=>by rw[ah (aj e af)];exact e) (λb n L=>by rw[ah (kf L)];exact n) a9 aa aL (λ_=>rfl)
 have a0 : ∀am:Shared,am={ F with heap:=h₁,toks:=F.toks+([]:List (Str × Value)).length } ->
   ID (model X.prog X.w) X.A (.compLoop (.ListComp elt [⟨tg,iter,ifs,0⟩] scope pos) 0 (.ref it) (.ref F.heap.objs.size) (E1 scope cl G.objs.size X.env)) RR am:=by
  rintro am rfl
  refine jp (λn s'=>∃i ys H',Inv (bM X scope N cl G.objs.size fp F H2 (Gt (model X.prog X.w) X.A (E1 scope cl G.objs.size X.env) λe s'=>RR (.error e) s')) [] (bG nt js σ) H' s'/\tn i s'.heap/\(∀b∈fp,H' b=none)/\W i n ys H') ?_ m0
   ⟨0,[],_,I3 _,T.keep _ _ _ a3 λb L o e=>ad b o e,λb L=>by rw[ah (kf (ai b L))];exact(f2 b L).1,w0⟩
  rintro n s3 ⟨i,ys,H3,J3,a5,a4,w3⟩
  rcases aD i n ys H3 w3 with⟨aG,qn⟩ | ⟨go,NN,hN,step⟩
  .refine thn (T.done (bM X scope N cl G.objs.size fp F H2 (Gt (model X.prog X.w) X.A (E1 scope cl G.objs.size X.env) λe s'=>RR (.error e) s')) rfl rfl rfl aF i [] s3 (bG nt js σ) H3 _ J3 (ag a4) a5 aG) λr s4 ax=>?_
   obtain⟨hr,I4⟩:=ax;subst hr
   show RR (.ok .next) s4
   rw[<- aC];obtain⟨mC,aN,_⟩:=id I4.loc;refine⟨mC,aN,λav aA=>?_⟩
   have ac : ∀b o,b≠G.objs.size->s4.heap.get? b=some o->av.get? b=some o:=λb o L e=>aA.extBut b o L e
   have un:Un (frs X.stack) fp H2 H3 F.heap av:=by
    have u:=I4.base;refine⟨λb o e n L hx=>ac b o ?_ (u.keep b o e n L hx),λb o e n L hx=>?_,u.free,λb o e hx=>?_,u.tups,u.frzs,u.tbls⟩
    .exact kf (j8 (fy e) (by rw[Z];exact F_ _))
    .obtain⟨sl,e1⟩:=u.slot b o e n L hx
     exact⟨sl,ac b _ (kf (j8 (fy e) (by rw[Z];exact F_ _))) e1⟩
    .obtain⟨o',e1⟩:=u.there b o e hx
     exact⟨o',ac b _ (kf (j8 (fy e) (by rw[Z];exact F_ _))) e1⟩
   have aE:HOk X.prog X.w H3 av:=λb u e=>(I4.hok b u e).stay (λc v hc q=>ac c v (by
     have cf:H3 G.objs.size=none:=I4.free
     rintro rfl
     rcases hc with z | z
     .rw[z] at cf;rw[cf] at e;cases e
     .rw[cf] at z;cases z) q) (λ_ q=>q) λ_ _ q=>q
   exact⟨.ref F.heap.objs.size,H3,I2.call' (s':={ s4 with heap:=av }) I4.os un aE I4.bare (λb L=>by
    obtain⟨f0,f1,a6,f3,f4,f5⟩:=f2 b L;exact⟨f3,f1,f4,f5⟩),rfl,qn⟩
  .refine thn (T.item (bM X scope N cl G.objs.size fp F H2 (Gt (model X.prog X.w) X.A (E1 scope cl G.objs.size X.env) λe s'=>RR (.error e) s')) rfl rfl rfl aF i [] s3 (bG nt js σ) H3 _ J3 (ag a4) a5 go) λr s4 aw=>?_
   obtain⟨u,hr,h4⟩:=aw;subst hr;refine thn h4 λ_ s5 az=>?_
   obtain⟨x,H5,I5,r5,y5,a1,aI⟩:=az;have aO:=I5.pinned (ag aI) (T.obj _ _ a1);have g5:=aH x (bG nt js σ) H5 _ ja (step x H5 y5);refine thn (@hg cl G.objs.size fp F H2 _ _ s5 _ H5 x u _ aO r5 g5) λ_ s6 au=>?_
   obtain⟨aq,H6,I6,aK,q6⟩:=au;refine thn (@hc cl G.objs.size fp F H2 _ _ s6 aq H6 _ I6 q6) λok s7 as=>?_
   obtain⟨H7,I7,q7⟩:=as;have an : ∀{s8:Shared} {H8:Hp} {ay:List V},Inv (bM X scope N cl G.objs.size fp F H2 (Gt (model X.prog X.w) X.A (E1 scope cl G.objs.size X.env) λe s'=>RR (.error e) s')) ([]++kl fp s5.heap) aq H8 s8->NN ay H8 ->
     ∃m,m < n/\∃i ys H',Inv (bM X scope N cl G.objs.size fp F H2 (Gt (model X.prog X.w) X.A (E1 scope cl G.objs.size X.env) λe s'=>RR (.error e) s')) [] (bG nt js σ) H' s8/\tn i s8.heap/\(∀b∈fp,H' b=none)/\W i m ys H':=λ{s8 H8 ay} I8 n8=>by
    obtain⟨m',hm,w8⟩:=hN ay H8 n8;refine⟨m',hm,i+1,ay,H8,(I8.unpinned).wk aK,T.keep _ _ _ a1 λb L o e=>(I8.pin (b,o) (n9 _ (n9 _ (db L e)))).1,λb L=>?_,w8⟩
    obtain⟨o,e,d⟩:=T.obj _ _ a1 b L;exact(I8.pin (b,o) (n9 _ (n9 _ (db L e)))).2.1
   cases ok with
   | false =>
    rw[if_neg i6] at q7 ⊢;exact an I7 q7
   | true =>
    rw[if_pos rfl] at q7 ⊢;refine thn (@he cl G.objs.size fp F H2 _ _ s7 aq H7 _ I7 q7) λy s8 ar=>?_
    obtain⟨yv,H8,I8,r8,aM,aJ,q8⟩:=ar;refine thn (kP (X:=bM X scope N cl G.objs.size fp F H2 (Gt (model X.prog X.w) X.A (E1 scope cl G.objs.size X.env) λe s'=>RR (.error e) s')) _ s8 aq H8 (.ref F.heap.objs.size) [yv] (.ref F.heap.objs.size) [y] (λ_ H9=>NN (ys++[yv]) H9) I8 rfl (.cons r8 .nil) ⟨_,ys,yv,rfl,rfl,aM,aJ,q8⟩) λv9 s9 ao=>?_
    obtain⟨x9,H9,I9,r9,q9⟩:=ao;exact an I9 q9
 subst aC;exact codeAny_compStart_list (a0 _ rfl) (T.self _ 0 _ _ _ (T.keep _ _ _ a3 λb L o e=>ad b o e) (a0 _ rfl))
end L2
namespace PySem
theorem xr:JF (.type "list_reverseiterator") "__len__" = pure none:=by rw[typeLookup_type,Jx];kernel_rfl
theorem zw:JF (.type "list_reverseiterator") "__length_hint__" = pure (some (.builtin "list_reverseiterator.__length_hint__")):=by rw[typeLookup_type,Jx];kernel_rfl
theorem ug (hh:A.handled=none) (S:Addr) (res:Value) (ac:Nat) (hS:s.heap.get? S=some { cls:=.type "list",data:=.seq #[] ac })
  {I l:Addr} {items:Array Value} (hi:s.heap.IsRevIter I l ((items.size:Int) - 1)) (hl:s.heap.IsList l items) (am:l≠I) (ad:S≠I) (an:S≠l)
  (hR : ∀h' tk L c',(∀b o,b≠S->b≠I->s.heap.get? b=some o->h'.get? b=some o)->h'.get? S=some { cls:=.type "list",dict:=none,data:=.seq L c',slots := #[] } ->
   JT (λi v=>items[items.size - 1 - i]? = some v) L items.size->R (.ok (.ret res)) { s with heap:=h',toks:=tk }) (hn:items.size<=g_) :
  wpAny (model prog w) A.in1 (w6 (.ref S) (.ref I) res)
   (λai s'=>match ai with | .done f=>R (.ok f) s' | .again c'=>c'.quiet=true/\ID (model prog w) A c' R s') (λe s'=>R (.error e) s') s:=by
 have W:=(Walks.listRev (prog:=prog) (w:=w) (A:=A.in1) hh I l am items);have ao:S∉[I,l]:=λhm=>by
  rcases i4.mp hm with e | e
  .exact ad e
  .exact an (k_.mp e)
 have af:0<=items.size/\s.heap.IsRevIter I l ((items.size:Int) - 1 - ((0:Nat):Int))/\s.heap.IsList l items:=⟨HG _,by simpa using hi,hl⟩
 unfold w6;refine a_ (Ic hi.typeIs ?_)
 have h1:Builtin.List.listSameRef (.ref S) (.ref I)=false:=by simp[Builtin.List.listSameRef,ad]
 have h2:(HP "list_reverseiterator" == HP "list")=false:=∅
 have h3:(HP "list_reverseiterator" == HP "tuple")=false:=∅
 simp only[h1,h2,h3,Bool.or_false,j_,if_false];refine a_ (W.self 0 _ _ _ af ?_)
 refine a_ (m6 ?_)
 unfold Builtin.List.listLengthHint;refine a_ (HJ hi.typeIs xr ?_)
 show wpAny _ A.in1 (specialOf (i8 I) (d_ "__length_hint__") >>= _) _ _ _
 refine a_ (HJ hi.typeIs zw ?_)
 (generalize Z:("list_reverseiterator.__length_hint__" : String)=aa;(fail_if_success (clear Z aa));wp_delta;rw[show splitId aa=some ("list_reverseiterator","__length_hint__") from by subst Z;decide+kernel];subst Z)
 refine a_ (wpAny_isInstance (b:=true) hi.typeIs (by rw[isSubtype_type];kernel_rfl) ?_)
 refine b_ ?_
 rw[if_neg ∅]
 refine b_ ⟨JG F.plain_extend_loop _,codeAny_extend_loopS W.toS hn _ ao _ items.size 0 _ _ _ rfl (HG _) af hS (ItemsOf.nil _) λs' L c' hm aj ag=>?_⟩
 rw[Moved.eq_with hm];refine hR s'.heap s'.toks L c' (λb ob hb ah e=>hm.heap b ob (λU=>?_) e) aj ag
 rcases i4.mp U with e' | U
 .exact hb e'
 .exact ah (k_.mp U)
theorem oE (hh:A.handled=none) (S:Addr) (hS:s.heap.get? S=some { cls:=.type "list",data:=.seq #[] })
  {I l:Addr} {items:Array Value} (hi:s.heap.IsRevIter I l ((items.size:Int) - 1)) (hl:s.heap.IsList l items) (ai:l≠I) (Z:S≠I) (ac:S≠l)
  (hR : ∀h' tk F c',(∀b o,b≠S->b≠I->s.heap.get? b=some o->h'.get? b=some o)->h'.get? S=some { cls:=.type "list",dict:=none,data:=.seq F c',slots := #[] } ->
   JT (λi v=>items[items.size - 1 - i]? = some v) F items.size->R (.ok (.ret .none)) { s with heap:=h',toks:=tk }) (hn:items.size<=g_) :
  wpAny (model prog w) A.in1 (Builtin.«list.__init__» ⟨[.ref S,.ref I],[]⟩)
   (λaf s'=>match af with | .done f=>R (.ok f) s' | .again c'=>c'.quiet=true/\ID (model prog w) A c' R s') (λe s'=>R (.error e) s') s:=by
 show wpAny _ _ (do let ah <- Builtin.List.listItems (.ref S);Builtin.List.listUpdate (.ref S) (λ_ => #[]);letGo ah.toList.reverse;w6 (.ref S) (.ref I) .none) _ _ s
 refine a_ ?_
 unfold Builtin.List.listItems;refine a_ (z_ hS rfl (b_ ?_))
 show wpAny _ _ (updateSeq S (λ_ => #[]) >>= λ_=>letGo (#[]:Array Value).toList.reverse >>= λ_=>w6 (.ref S) (.ref I) .none) _ _ s
 refine a_ (wpAny_updateSeq hS rfl ?_)
 have L:=HW (Ie (λ_=>(#[]:Array Value))) hS rfl
 have U : ∀b o,b≠S->s.heap.get? b=some o->(s.heap.update S (Ie (λ_=>(#[]:Array Value)))).get? b=some o :=
  λb o hb e=>(Heap.get?_update_other _ _ (t6 hb)).trans e
 refine a_ (wpAny_letGo ?_)
 refine ug (s:={ s with heap:=s.heap.update S (Ie (λ_=>(#[]:Array Value))) }) hh S .none _ L (hi.at λo e=>U _ o (t6 Z) e) (hl.at λo e=>U _ o (t6 ac) e) ai Z ac (λh' tk F c' hk ag aa=>?_) hn
 exact hR h' tk F c' (λb o hb ad e=>hk b o hb ad (U b o hb e)) ag aa
theorem oy (hh:A.handled=none) {I l:Addr} {items:Array Value} (hi:s.heap.IsRevIter I l ((items.size:Int) - 1)) (hl:s.heap.IsList l items) (ad:l≠I)
  (hQ : ∀h' tk L c',(∀b o,b≠I->s.heap.get? b=some o->h'.get? b=some o) ->
   h'.get? s.heap.objs.size=some { cls:=.type "list",dict:=none,data:=.seq L c',slots := #[] }->JT (λi v=>items[items.size - 1 - i]? = some v) L items.size->Q (.ref s.heap.objs.size) { s with heap:=h',toks:=tk }) (hn:items.size<=g_) :
  wpAny (model prog w) A (call (.type "list") [.ref I]) Q E s:=by
 refine callType_codes (Q₁:=λU s₁=>U = .ref s.heap.objs.size/\s₁={ s with heap:=s.heap.push { cls:=.type "list",data:=.seq #[] } }) F.called_list (F.typeCall_list_1 _) F.entry_list_init
  (code_list_new _ ⟨rfl,rfl⟩) λU s₁ h₁=>?_
 obtain⟨rfl,rfl⟩:=h₁;have hS:(s.heap.push { cls:=.type "list",data:=.seq #[] }).get? s.heap.objs.size=some { cls:=.type "list",data:=.seq #[] }:=ge _ rfl
 have up : ∀b o,s.heap.get? b=some o->(s.heap.push { cls:=.type "list",data:=.seq #[] }).get? b=some o:=λb o e=>c_ _ e
 obtain⟨oi,ac,_⟩:=id hi;obtain⟨ol,af,_⟩:=id hl;refine⟨⟨_,hS,rfl⟩,F.args_list_init_2 _ _,oE (s:={ s with heap:=s.heap.push { cls:=.type "list",data:=.seq #[] } }) (A:=A.in1) hh _ hS (hi.at λo e=>up _ o e) (hl.at λo e=>up _ o e) ad (IE (fy ac)) (IE (fy af)) (λh' tk L c' hk aa Z=>?_) hn⟩
 exact⟨rfl,hQ h' tk L c' (λb o hb e=>hk b o (kf (fy e)) hb (up b o e)) aa Z⟩
end PySem
namespace L2
open PySem PySem.Spec PyProof.Rows
mutual
inductive Rep (K:e_) (H:Hp):V->JU->Prop
 | non:Rep K H .non .none
 | bl (b:Bool):Rep K H (.bl b) (.bool b)
 | int (i:Int):Rep K H (.int i) (.int i)
 | str (x:Str):Rep K H (.str x) (.str x)
 | tup {a:Addr} {vs:List V} {ds:List JU}:SqT K H a vs->mm K H vs ds->Rep K H (.ref a) (.tuple ds)
 | lst {a:Addr} {vs:List V} {ds:List JU}:SqL K H a vs->mm K H vs ds->Rep K H (.ref a) (.list ds)
inductive mm (K:e_) (H:Hp):List V->List JU->Prop
 | nil:mm K H [] []
 | cons {v:V} {vs:List V} {d:JU} {ds:List JU}:Rep K H v d->mm K H vs ds->mm K H (v :: vs) (d :: ds)
end
theorem ak.seqT (e:ak H H') (h:SqT K H a xs):SqT K H' a xs:=by
 rcases h with(h | ⟨o,h⟩) | h
 .exact .inl (.inl (e _ _ h))
 .exact .inl (.inr ⟨o,e _ _ h⟩)
 .exact .inr h
theorem mm.ints {K:e_} {H:Hp} : ∀(ns:List Int),mm K H (ns.map V.int) (ns.map PyData.int)
 | []=>.nil
 | _ :: ns=>.cons (.int _) (mm.ints ns)
mutual
theorem Inv.reads (I:Inv X pins σ H s) : ∀{v:V} {d:JU} {u:Value},Rep X.K H v d->aT v u->∃as,Reads s.heap u d as
 | _,_,_,.non,r=>by cases r;exact⟨_,.none⟩
 | _,_,_,.bl b,r=>by cases r;exact⟨_,.bool b⟩
 | _,_,_,.int b,r=>by obtain⟨t,rfl⟩:=r;exact⟨_,.int b t⟩
 | _,_,_,.str b,r=>by obtain⟨t,rfl⟩:=r;exact⟨_,.str b t⟩
 | _,_,_,.tup h q,r=>by
  cases r;obtain⟨its,F,⟨o,L,hc,n,U⟩,_⟩:=I.tuple h;obtain⟨as,Z⟩:=Inv.readsAll I q F;exact⟨_,.tuple L hc U (by simpa using Z)⟩
 | _,_,_,.lst h q,r=>by
  cases r;obtain⟨its,F,⟨o,n,L,hc,_,U⟩,_⟩:=I.list h;obtain⟨as,Z⟩:=Inv.readsAll I q F;exact⟨_,.list L hc U (by simpa using Z)⟩
theorem Inv.readsAll (I:Inv X pins σ H s) : ∀{v:List V} {d:List JU} {u:List Value},mm X.K H v d->aO v u->∃F,ReadsAll s.heap u d F
 | _,_,_,.nil,r=>by cases r;exact⟨_,.nil⟩
 | _,_,_,.cons h q,r=>by
  cases r with
  | cons r1 U =>
   obtain⟨F,Z⟩:=Inv.reads I h r1;obtain⟨bs,L⟩:=Inv.readsAll I q U;exact⟨_,.cons Z L⟩
end
section
variable {a b c:Expr} {ta tb tc:TE}
def Ek (K:e_):R2:=λx y H Q=>∃dx F,Rep K H x dx/\Rep K H y F/\dx.canLay0=true/\F.canLay0=true/\dx.depth<=100/\Q (.bl (Ji dx F)) H
def Ev (K:e_):R2:=λx y H Q=>∃dx F,Rep K H x dx/\Rep K H y F/\dx.canLay0=true/\F.canLay0=true/\dx.depth<=100/\Q (.bl (!PyData.eqv dx F)) H
theorem Ee (hu:X.A.units+100 < cLine):OpR X (p8 .Eq) (Ek X.K):=by
 intro pins s σ H x y v u Q I L U h;obtain⟨dx,dy,h1,h2,h3,h4,h5,q⟩:=h;obtain⟨as,Z⟩:=I.reads h1 L;obtain⟨bs,F⟩:=I.reads h2 U;exact PySem.SeqAt.compareEq_reads Z F h3 h4 () ⟨.bl _,H,I,rfl,q⟩
theorem ud (hu:X.A.units+100 < cLine):OpR X (p8 .NotEq) (Ev X.K):=by
 intro pins s σ H x y v u Q I L U h;obtain⟨dx,dy,h1,h2,h3,h4,h5,q⟩:=h;obtain⟨as,Z⟩:=I.reads h1 L;obtain⟨bs,F⟩:=I.reads h2 U;exact PySem.SeqAt.compareNe_reads Z F h3 h4 () ⟨.bl _,H,I,rfl,q⟩
theorem xk:OpR X (p8 .LtE) (λx y H Q=>∃i j,x = .str i/\y = .str j/\Q (.bl (!decide (j.cps.toList < i.cps.toList))) H):=by
 intro pins s σ H x y v u Q I F L h;obtain⟨i,j,rfl,rfl,q⟩:=h;obtain⟨t,rfl⟩:=F;obtain⟨t',rfl⟩:=L;exact PySem.P.le_str (bj I q rfl)
def Hu (K:e_):List V->Hp->VK->Prop:=λxs H Q=>∃x t T k,xs=[x,.ty T]/\kR K H x t/\HM K t (.type T)=some k/\Q (.bl k) H
theorem yU:bP X (.builtin "isinstance") (Hu X.K):=by
 intro pins s σ H xs us Q I r h;obtain⟨x,t,T,k,rfl,ty,e,q⟩:=h;obtain⟨u,U,rfl,L,F⟩:=jz r;cases F;exact xF I L ty e λtk=>⟨.bl k,H,I.tok tk,rfl,q⟩
theorem gU (Z:Gl X x) (hm:X.mg x=none) (L:G_ x=some (.type T)) (U:x ≠ "__name__" := by decide) (F:(x ==("__debug__" : Str))=false:=by decide):PE X (.Name x pos) (tC (.ty T)) :=
 BL Z hm L rfl U F
theorem mw {its:Array Value} {bs:List Bool} (h:aO (bs.map V.bl) its.toList):TruthOf prog w A (λi v=>its[i]? = some v) (λi=>bs.getD i true):=by
 intro i v s Q E hP L;have h1:its.toList[i]? = some v:=by simpa using hP
 have F:i < its.toList.length:=(i7.mp h1).1
 have hl:=h.length;have U:i < bs.length:=by rw[<- hl] at F;simpa using F
 obtain⟨u,hu,Z⟩:=h.get (i:=i) (x:=V.bl bs[i]) (by simp[U])
 rw[h1] at hu;cases hu;cases Z;refine x8 ?_
 have e:bs.getD i true=bs[i]:=by simp[List.getD,U]
 show Q bs[i] s
 have L:Q (bs.getD i true) s:=L
 rw[e] at L;exact L
theorem wX (bs:List Bool):(range bs.length).all (λi=>bs.getD i true)=bs.all id:=by
 rw[t5];simp only[l9,x5]
 constructor
 .intro h b hb
  obtain⟨i,hi,e⟩:=IX hb;have:=h i hi
  simp[List.getD,hi,e] at this
  simpa using this
 .intro h i hi
  have:=h bs[i] (List.getElem_mem hi)
  simpa [List.getD,hi] using this
def DQ (K:e_):List V->Hp->VK->Prop:=λxs H Q=>∃(p:Addr) (bs:List Bool),xs=[.ref p]/\SqL K H p (bs.map V.bl)/\Q (.bl (bs.all id)) H
theorem vz (Z:X.calm=true):bP X (.builtin "all") (DQ X.K):=by
 intro pins s σ H xs us Q I r h;obtain⟨p,bs,rfl,U,q⟩:=h;obtain⟨u,rfl,rx⟩:=cU r;cases rx;obtain⟨its,L,pl,hz⟩:=I.list U;refine call_all_walk (IM pl.isList ?_)
 have F:p≠s.heap.objs.size:=by
  obtain⟨o,n,ho,_⟩:=pl;exact kf (fy ho)
 refine⟨_,_,_,_,_,_,λi=>bs.getD i true,rfl,Walks.list (A:=X.A.in1) (I.ok.hd Z) _ p F its.toArray,⟨⟨_,ge _ rfl,rfl,rfl⟩,pl.isList.at λo e=>c_ _ e⟩,mw (by simpa using L),λh' tk hk=>?_⟩
 have hl:its.toArray.size=bs.length:=by have:=L.length;simp at this ⊢;omega
 rw[hl,wX];exact⟨.bl (bs.all id),H,I.kept λb o e=>hk b o (by simp;exact kf (fy e)) (c_ _ e),rfl,q⟩
theorem lg (ns:List Int) : ∀n,n<=ns.length->preSum (λi=>ns.getD i 0) n=(ns.take n).sum
 | 0,_=>by simp[preSum]
 | n+1,h=>by
  have F:=lg ns n ()
  have e:ns[n]? = some (ns[n]'()):=by simp
  show preSum (λi=>ns.getD i 0) n+ns.getD n 0=_
  rw[F,w5,e,List.sum_append,List.getD,e];simp
theorem sg (ns:List Int):preSum (λi=>ns.getD i 0) ns.length=ns.sum:=by
 rw[lg ns _ (h_ _),A_]
def Bn (K:e_):List V->Hp->VK->Prop:=λxs H Q=>∃(p:Addr) (ns:List Int),xs=[.ref p]/\SqL K H p (ns.map V.int)/\Q (.int ns.sum) H
theorem tH (hc:X.calm=true):bP X (.builtin "sum") (Bn X.K):=by
 intro pins s σ H xs us Q I r h;obtain⟨p,ns,rfl,hq,q⟩:=h;obtain⟨u,rfl,rx⟩:=cU r;cases rx;obtain⟨its,U,pl,hz⟩:=I.list hq;refine call_sum_walkG (IM pl.isList ?_)
 have Z:p≠s.heap.objs.size:=by
  obtain⟨o,n,ho,_⟩:=pl;exact kf (fy ho)
 refine⟨_,_,_,_,_,_,λi=>ns.getD i 0,rfl,Walks.list (A:=X.A.in1) (I.ok.hd hc) _ p Z its.toArray,⟨⟨_,ge _ rfl,rfl,rfl⟩,pl.isList.at λo e=>c_ _ e⟩,λb L=>?_,λi v hv=>?_,λh' tk t' hk=>?_⟩
 .obtain⟨o,n,ho,_⟩:=pl
  rcases i4.mp L with e | e
  .rw[e];exact j8 (IU _) (by simp)
  .rw[k_.mp e];exact j8 (fy ho) (by simp)
 .have h1:its[i]? = some v:=by simpa using hv
  have F:i < its.length:=(i7.mp h1).1
  have hl:=U.length;have L:i < ns.length:=by rw[<- hl] at F;simpa using F
  obtain⟨u,hu,t,ru⟩:=U.get (i:=i) (x:=V.int ns[i]) (by simp[L])
  rw[h1] at hu;cases hu;exact⟨t,by rw[ru];simp[List.getD,L]⟩
 .have hl:its.toArray.size=ns.length:=by have:=U.length;simp at this ⊢;omega
  rw[hl,sg];exact⟨.int ns.sum,H,I.kept λb o e=>hk b o (by simp;exact kf (fy e)) (c_ _ e),⟨t',rfl⟩,q⟩
def mn (t:TE):TE:=λσ H Q=>t σ H λx H1=>∃p,x = .ref p/\∃ys,H1 p*>ys/\∀l,H1 l=none->Q (.ref l) (upd H1 l (.lst ys.reverse))
end
section
variable {a b c:Expr} {ta tb tc:TE} {p:Pos}
theorem tS (hc:X.calm=true) (hg:Gl X "list") (hm:X.mg "list" = none) (ac:Gl X "reversed") (ad:X.mg "reversed" = none) (he:PE X e te) (Z:i9 [e] X.env=[(false,eval e X.env)]:=by rfl) :
  PE X (.Call (.Name "list" p) [.Call (.Name "reversed" p2) [e] [] pos2] [] pos) (mn te):=by
 intro pins s σ H Q I h;refine r_ (dF I hg hm (by decide+kernel:G_ "list" = some (.type "list")) ?_)
 refine o6 (Jf ?_) rfl rfl
 refine r_ (dF I ac ad boot_reversed ?_)
 refine o6 (Q:=_) ?_ Z rfl
 rw[Z];refine Jf (thn (he pins s σ H _ I h) λu s1 ⟨x,H1,I1,r1,pp,e1,ys,hq',q⟩=>Jp ?_)
 subst e1;cases r1;have hq:SqL X.K H1 pp ys:=.of hq'
 obtain⟨its,rv,pl,hz⟩:=I1.list hq;have ag:=rv.length;refine call_reversed_list pl.isList ?_
 have af:pp < s1.heap.objs.size:=by
  obtain⟨o,n,ho,_⟩:=pl;exact fy ho
 refine Jp (oy (I.ok.hd hc) (I:=s1.heap.objs.size) (l:=pp) (items:=its.toArray) ⟨_,ge _ rfl,rfl,rfl⟩ (pl.isList.at λo e=>c_ _ e) (kf af) (λh' tk F c' hk hS L=>?_) (by simp only[k8];omega))
 have kp : ∀b o,s1.heap.get? b=some o->h'.get? b=some o:=λb o e=>hk b o (kf (fy e)) (c_ _ e)
 have aa:F=its.reverse.toArray:=by
  apply Array.ext_getElem?
  intro i;have U:=L.1;simp only[k8] at U
  by_cases hi:i < its.length
  .have h1:F[i]? = some (F[i]'()):=by simp[U,hi]
   have h2:=L.2 i _ h1;rw[h1,<- h2];simp only[k8,Jy];rw[List.getElem?_reverse hi]
  .simp only[Jy]
   rw[Jn (),List.getElem?_eq_none (by simp;omega)]
 subst aa;have hsz:s1.heap.objs.size<=(s1.heap.push (revObj pp ((its.toArray.size:Int) - 1))).objs.size:=by rw[G2];exact F_ _
 exact⟨.ref (s1.heap.push (revObj pp ((its.toArray.size:Int) - 1))).objs.size,upd H1 _ (.lst ys.reverse),I1.laid (t':=tk) kp hsz ⟨by simp;omega,its.reverse,c',rv.reverse,hS⟩,rfl,q _ (I1.hok.fresh hsz)⟩
def Its (x:Str):It:=⟨λi _=>i < x.length,λi H v H'=>H'=H/\∃c,x.cps[i]? = some c/\v = .str ⟨#[c]⟩,λi _=>x.length<=i⟩
theorem xO (it:Addr) (x:Str) (t:Tok):tf P w K tg (Its x) [it] it (λi h=>h.IsStrIter it "str_ascii_iterator" x t i) where
 mem:=by simp
 obj:=λi h st b L=>by
  have e:b=it:=by simpa using L
  subst e;obtain⟨o,e,c,d⟩:=st;exact⟨o,e,λv z=>by rw[d] at z;cases z⟩
 keep:=λi h h' st k=>let ⟨o,ho,r⟩:=st;⟨o,k it (by simp) o ho,r⟩
 item:=by
  intro X hP hw hK hc i pins s σ H E I Z st F;subst hP hw hK;obtain⟨f0,f1,f2,f3,f4,f5⟩:=Z it (by simp)
  have F:i < x.cps.size:=F
  refine wpAny_pyNext_ascii_item st (c:=x.cps[i]'F) (by simp) λh' U sb=>?_
  have I1:Inv X pins σ H { s with heap:=h',toks:=s.toks+1 }:=I.turned (λb o L e=>(sb.2 b L).trans e) f0 f1 f3 f4 f5
  obtain⟨o,e,c,d⟩:=id U;exact⟨_,rfl,rE (s:={ s with heap:=h',toks:=s.toks+1 }) e c d ∅ ⟨.str ⟨#[x.cps[i]'F]⟩,H,I1,⟨_,rfl⟩,⟨rfl,_,by simp,rfl⟩,U,λb L=>(Z b L).1⟩⟩
 done:=by
  intro X hP hw hK hc i pins s σ H E I Z st F;subst hP hw hK;have F:x.cps.size<=i:=F
  obtain⟨f0,f1,f2,f3,f4,f5⟩:=Z it (by simp)
  exact wpAny_pyNext_ascii_end (I.ok.hd hc) st (Jn F) λh' eb=>⟨rfl,I.turned (t':=s.toks) (λb o L e=>eb b o L e) f0 f1 f3 f4 f5⟩
 self:=λ_ _ _ _ _ st h=>wpAny_pyIter_striter_ascii st h
theorem xb (it:Addr) (x:Str) (t:Tok):tf P w K tg (Its x) [it] it (λi h=>h.IsStrIter it "str_iterator" x t i) where
 mem:=by simp
 obj:=λi h st b L=>by
  have e:b=it:=by simpa using L
  subst e;obtain⟨o,e,c,d⟩:=st;exact⟨o,e,λv z=>by rw[d] at z;cases z⟩
 keep:=λi h h' st k=>let ⟨o,ho,r⟩:=st;⟨o,k it (by simp) o ho,r⟩
 item:=by
  intro X hP hw hK hc i pins s σ H E I Z st F;subst hP hw hK;obtain⟨f0,f1,f2,f3,f4,f5⟩:=Z it (by simp)
  have F:i < x.cps.size:=F
  refine wpAny_pyNext_wide_item st (c:=x.cps[i]'F) (by simp) λh' U sb=>?_
  have I1:Inv X pins σ H { s with heap:=h',toks:=s.toks+1 }:=I.turned (λb o L e=>(sb.2 b L).trans e) f0 f1 f3 f4 f5
  obtain⟨o,e,c,d⟩:=id U;exact⟨_,rfl,rE (s:={ s with heap:=h',toks:=s.toks+1 }) e c d ∅ ⟨.str ⟨#[x.cps[i]'F]⟩,H,I1,⟨_,rfl⟩,⟨rfl,_,by simp,rfl⟩,U,λb L=>(Z b L).1⟩⟩
 done:=by
  intro X hP hw hK hc i pins s σ H E I Z st F;subst hP hw hK;have F:x.cps.size<=i:=F
  obtain⟨f0,f1,f2,f3,f4,f5⟩:=Z it (by simp)
  exact wpAny_pyNext_wide_end (I.ok.hd hc) st (Jn F) λh' eb=>⟨rfl,I.turned (t':=s.toks) (λb o L e=>eb b o L e) f0 f1 f3 f4 f5⟩
 self:=λ_ _ _ _ _ st h=>wpAny_pyIter_striter_wide st h
def CD (tl:TE):TI:=λσ H R=>tl σ H λx H1=>∃z,x = .str z/\R (Its z) H1
theorem C1 {l:Expr} (hl:PE X l tl):PI X tg l (CD tl):=by
 intro pins s σ H R I h;refine thn (hl pins s σ H _ I h) λv s1 F=>?_
 obtain⟨x,H1,L,r1,q1⟩:=F;obtain⟨z,e,q⟩:=q1;subst e;obtain⟨t,rfl⟩:=r1;cases Z:z.cps.all (· < 128)
 .refine wpAny_pyIter_wide Z ?_
  refine⟨s1.heap.objs.size,[s1.heap.objs.size],_,_,H1,rfl,L.kept (t':=s1.toks) λb o e=>c_ _ e,xb _ z t,⟨_,ge _ rfl,rfl,rfl⟩,λb U=>?_,q⟩
  have e:b=s1.heap.objs.size:=by simpa using U
  subst e;exact L.fpOk (h_ _) (L.hok.fresh (h_ _))
 .refine wpAny_pyIter_ascii Z ?_
  refine⟨s1.heap.objs.size,[s1.heap.objs.size],_,_,H1,rfl,L.kept (t':=s1.toks) λb o e=>c_ _ e,xO _ z t,⟨_,ge _ rfl,rfl,rfl⟩,λb U=>?_,q⟩
  have e:b=s1.heap.objs.size:=by simpa using U
  subst e;exact L.fpOk (h_ _) (L.hok.fresh (h_ _))
def AK:V->Option Int->Option Int->Hp->VK->Prop:=λx lo hi H Q=>∃z,x = .str z/\z.length<=g_/\Q (.str (Ip z lo hi)) H
theorem nB:SlR X AK:=by
 intro pins s σ H x v vl vu lo hi sl Q I rx hs pl pu h;obtain⟨z,rfl,Z,q⟩:=h;obtain⟨t,rfl⟩:=rx;refine⟨"str",_,F.slot_str_getitem.lookup,typeIs_str _ _ _,?_⟩
 have L : ∀(t':Tok) (k:Nat),EP X pins σ Q (.str (Ip z lo hi) t') { s with toks:=k }:=λt' k=>⟨.str _,H,I.tok k,⟨t',rfl⟩,q⟩
 obtain⟨o,h1,h2,U⟩:=hs;cases pl with
 | none=>cases pu with
  | none=>exact IY (l:=none) (u:=none) (st:=none) ⟨o,h1,h2,U⟩ rfl (post_val_or_str ⟨n_ (Ix z _ _) Z,λt' k=>L t' k⟩)
  | int j uj=>exact IY (l:=none) (u:=some (j,uj)) (st:=none) ⟨o,h1,h2,U⟩ rfl (post_val_or_str ⟨n_ (Ix z _ _) Z,λt' k=>L t' k⟩)
 | int i ui=>cases pu with
  | none=>exact IY (l:=some (i,ui)) (u:=none) (st:=none) ⟨o,h1,h2,U⟩ rfl (post_val_or_str ⟨n_ (Ix z _ _) Z,λt' k=>L t' k⟩)
  | int j uj=>exact IY (l:=some (i,ui)) (u:=some (j,uj)) (st:=none) ⟨o,h1,h2,U⟩ rfl (post_val_or_str ⟨n_ (Ix z _ _) Z,λt' k=>L t' k⟩)
end
def FnL (K:e_) (mg:Str->Option Value) (x:Str) (st:Stmt) (ps:List Str):Prop :=
 ∃f fd,Fun K x x st f fd/\mg x=some (.ref f)/\dP K fd ps []
def Fn (P:Program) (w:World) (K:e_) (mg:Str->Option Value) (base:Heap) (x:Str) (k:Nat) (ps:List Str) (sp:Sp):Prop :=
 ∃f fd,dY P w K mg base CX0 k f fd ps sp/\mg x=some (.ref f)/\IT K (.ref f)=true/\dP K fd ps []
section
variable {P:Program} {w:World} {K:e_} {mg:Str->Option Value} {base:Heap}
theorem FnL.ok {x:Str} {st:Stmt} {N ps:List Str} {k:Nat} {sp:Sp} (F:FnL K mg x st ps) (S:az N ps (am st)) (len : ∀vs H Q E,sp vs H Q E->vs.length=ps.length)
  (L : ∀(f:Addr) (cdv:Value) (A:Around) (outer:List Env) (s:Shared) (H:Hp) (vs:List V) (Q:VK) (E:XK),ce k (A.deeper (envOfC x (am st) s.heap.objs.size f cdv))->sp vs H Q E ->
   ∃t,PSs (ci CX0 P w K mg base N x (am st) f cdv A outer s H E).nox (br st) t/\t { nx:=λ_ H'=>Q .non H',rt:=Q } (fu N vs) H):Fn P w K mg base x (k+1) ps sp:=by
 obtain⟨f,fd,F,m,b⟩:=F;exact⟨f,fd,F.ok S len (L f),m,F.kp,b⟩
theorem Ej {F:Option Addr} {kV:Value} (X:K.In h) (G:h.Ns i_ mg)
  (a:nsIn K i_ x=some (-f))
  (l:K.lookup f=some ⟨oc,od,.func (fnOf x x (bQ st) (br st) (am st) .none kV doc pm F cdv ct),osl⟩)
  (c:codeIn K cdv x=true) (k:IT K (.ref f)=true)
  (L : ∀(kV doc pm:Value) (F:Option Addr) (cdv ct:Value) (us:List Value),us.length=ps.length->bindArgs (fnOf x x (bQ st) (br st) (am st) .none kV doc pm F cdv ct) ⟨us,[]⟩=pure (ps.zip us)):FnL K mg x st ps :=
 ⟨f,_,iX l c k,mg_of X G a,(iX l c k).binds L⟩
end
section
variable {p:Pos} {t:TA}
theorem ag (F:Fn X.prog X.w X.K X.mg X.base x k ps sp) (Z:PA X (e :: es) t) (hr:ce k X.A:=by exact ce.mono (by assumption) (by first | decide | omega)) (hg:Gl X x:=by exact rfl) (L:(x ==("__debug__" : Str))=false:=by decide)
  (he:i9 (e :: es) X.env=(false,eval e X.env) :: i9 es X.env:=by rfl) (U:(HR pos (i9 es X.env)).any (·.1)=false:=by rfl) :
  PE X (.Call (.Name x p) (e :: es) [] pos) (oZ sp [] E0 t):=by
 obtain⟨f,fd,F,m,kp,b⟩:=F;exact BQ F hr hg m kp b .nil wc Z L he U
end
structure Wlk (J:It) (xs:List V) (C:Hp->Prop):Prop where
 go : ∀i H,C H->i < xs.length->J.go i H
 yld : ∀i H x H',C H->i < xs.length->J.yld i H x H'->xs[i]? = some x/\H'=H
 stop : ∀i H,C H->xs.length<=i->J.stop i H
theorem jn:Wlk (Itl K a) xs (λH=>SqL K H a xs) :=
 ⟨λi H h hi=>⟨xs,xs[i],h,by simp[hi]⟩,λi H x H' h _ y=>⟨y.2 xs h,y.1⟩,λi H h hi=>⟨xs,h,hi⟩⟩
theorem eU:Wlk (Itt K a) xs (λH=>SqT K H a xs) :=
 ⟨λi H h hi=>⟨xs,xs[i],h,by simp[hi]⟩,λi H x H' h _ y=>⟨y.2 xs h,y.1⟩,λi H h hi=>⟨xs,h,hi⟩⟩
def iM (lo:Int) (n:Nat):List V:=(range n).map λ(i:Nat)=>V.int (lo+(i:Int))
theorem aG (lo:Int) (n:Nat):(iM lo n).length=n:=by simp[iM]
theorem eQ (h:i < n):(iM lo n)[i]? = some (.int (lo+i)):=by simp[iM,h]
theorem cm:Wlk (Itr lo n) (iM lo n) (λ_=>True) :=
 ⟨λi H _ hi=>by rw[aG] at hi;exact hi,λi H x H' _ hi y=>by
  obtain⟨e,y⟩:=y;rw[aG] at hi;rw[eQ hi,y];exact⟨rfl,e⟩,λi H _ hi=>by rw[aG] at hi;exact hi⟩
def wW (x:Str):List V:=x.cps.toList.map λc=>V.str ⟨#[c]⟩
theorem AA:Wlk (Its x) (wW x) (λ_=>True) :=
 ⟨λi H _ hi=>by show i < x.cps.size;simpa [wW] using hi,λi H v H' _ hi y=>by
  obtain⟨e,c,F,y⟩:=y;refine⟨?_,e⟩
  rw[y];simp[wW,F],λi H _ hi=>by show x.cps.size<=i;simpa [wW] using hi⟩
theorem AN {C:Hp->Prop} (w:Wlk J xs C) {g:TG} {tb:TS} {D:iN} {σ:St} {H:Hp} (L:Nat->St->Hp->Prop) (h0:L 0 σ H) (hl : ∀i σ H,L i σ H->C H)
  (hs : ∀i x σ H,i < xs.length->xs[i]? = some x->L i σ H->g x σ H λU H2=>tb { D with nx:=L (i+1),ct:=L (i+1),bk:=D.nx } U H2) (hd : ∀ σ H,L xs.length σ H->D.nx σ H) :
  ∃ W:Nat->Nat->St->Hp->Prop,(∃m,W 0 m σ H)/\∀i m σ H,W i m σ H ->
   (J.stop i H/\D.nx σ H)\/(J.go i H/\∃N:St->Hp->Prop,(∀ σ' H',N σ' H'->∃Z,Z < m/\W (i+1) Z σ' H')/\∀x H',J.yld i H x H'->g x σ H' λU H2=>tb { D with nx:=N,ct:=N,bk:=D.nx } U H2):=by
 refine⟨λi m σ H=>m=xs.length - i/\i<=xs.length/\L i σ H,⟨xs.length,by simp,HG _,h0⟩,?_⟩
 rintro i m σ H ⟨rfl,hi,p⟩
 have q:=hl i σ H p
 by_cases F:i < xs.length
 .refine .inr ⟨w.go i H q F,L (i+1),λσ' H' p'=>⟨xs.length - (i+1),(),rfl,F,p'⟩,λx H' y=>?_⟩
  obtain⟨e1,e2⟩:=w.yld i H x H' q F y;subst e2;exact hs i x σ _ F e1 p
 .have e:i=xs.length:=()
  subst e;exact .inl ⟨w.stop _ H q (h_ _),hd σ H p⟩
theorem zV {C:Hp->Prop} (w:Wlk J xs C) {g:TG} {tc:TT} {te:TE} {σ0:St} {Q:VK} {H1:Hp} {D:Addr} (U:Nat->List V->Hp->Prop) (h0:U 0 [] (upd H1 D (.lst []))) (hl : ∀i ys H,U i ys H->C H)
  (hs : ∀i x ys H,i < xs.length->xs[i]? = some x->U i ys H->g x σ0 H λF H3=>tc F H3 λb H4=>if b=true then te F H4 λy H5=>H5 D*>ys/\ys.length < g_/\U (i+1) (ys++[y]) (upd H5 D (.lst (ys++[y]))) else U (i+1) ys H4)
  (hd : ∀ys H,U xs.length ys H->Q (.ref D) H) :
  ∃ W : Nat->Nat->List V->Hp->Prop,(∃m,W 0 m [] (upd H1 D (.lst []))) /\
   ∀ i m ys H2,W i m ys H2->(J.stop i H2/\Q (.ref D) H2)\/(J.go i H2/\∃N:List V->Hp->Prop,(∀Z H',N Z H'->∃m',m' < m/\W (i+1) m' Z H') /\
    ∀x H',J.yld i H2 x H'->g x σ0 H' λF H3=>tc F H3 λb H4=>if b=true then te F H4 λy H5=>H5 D*>ys/\ys.length < g_/\N (ys++[y]) (upd H5 D (.lst (ys++[y]))) else N ys H4):=by
 refine⟨λi m ys H=>m=xs.length - i/\i<=xs.length/\U i ys H,⟨xs.length,by simp,HG _,h0⟩,?_⟩
 rintro i m ys H ⟨rfl,hi,p⟩
 have q:=hl i ys H p
 by_cases L:i < xs.length
 .refine .inr ⟨w.go i H q L,U (i+1),λσ' H' p'=>⟨xs.length - (i+1),(),rfl,L,p'⟩,λx H' y=>?_⟩
  obtain⟨e1,e2⟩:=w.yld i H x H' q L y;subst e2;exact hs i x ys _ L e1 p
 .have e:i=xs.length:=()
  subst e;exact .inl ⟨w.stop _ H q (h_ _),hd ys H p⟩
end L2
namespace HT
open PySem PyProof.Rows
open PySem.SeqAt
open PySem.AutoSeq1 (wpAny_loadPart')
open PySem.MeetsSeq PySem.MeetsSeq2 PySem.MeetsSeq3
theorem getItem_tuple_whole {t sl:Addr} {lo hi:Option Int} (F:IsTup s.heap t items) (hs:s.heap.IsSliceOf sl vl vu .none) (pl:IsPart vl lo) (pu:IsPart vu hi)
  (h1:sIx items.size 0 lo=0) (h2:sIx items.size items.size hi=items.size)
  (h:Q (.ref t) s):wpAny (model prog w) A (Jw (.ref t) (.ref sl)) Q E s:=by
 obtain⟨os,U,Z,aa⟩:=id hs;have L:s.TypeIs (.ref sl) "slice" :=⟨os,U,Z⟩
 unfold Jw
 try with_reducible refine m6 ?_
 first | refine a_ (b_ ?_) | skip
 refine a_ (wpAny_sequenceKey F.typeIs ∅ ?_)
 refine a_ (C_ (name:=d_ "__getitem__") F.typeIs nH
  (x4 nH F.typeIs entry_tuple_getitem ?_ (args_tuple_getitem _ _)))
 show wpAny _ _ (Builtin.Tuple.tupleItemsOf (.ref t) >>= _) _ _ s
 refine a_ (tupleItemsOf_ F ?_)
 refine a_ (Ic L ?_)
 rw[if_pos ∅]
 refine a_ (fU hs pl pu ?_)
 rw[h1,h2]
 show wpAny _ _ (if (((0:Nat):Int) == 0 && (1:Int) == 1 && (items.size - 0) == items.size)=true then _ else _) _ _ s
 rw[if_pos (by simp)]
 unfold Builtin.Tuple.tupleIsExact;refine a_ (a_ (Ic F.typeIs (b_ ?_)))
 rw[if_pos ∅]
 exact a_ (wpAny_rule (b_ ⟨_,rfl,b_ h⟩))
end HT
namespace L2
open PySem PySem.Spec PyProof.Rows
def df (xs:List (Str × IG)) (x:Str):Bool:=xs.lookup x == some .cell || xs.lookup x == some .free
def wn (F:List Str) (xs sn:List (Str × IG)) (N:List Str) (nt:Nat) (js:List Nat):Bool :=
 decide N.Nodup && N.length == nt+js.length && (js.zip (N.drop nt)).all (λp=>F[p.1]? == some p.2 && df xs p.2) && (N.drop nt).all (λx=>sn.lookup x == some .free)
  && sn.all (λy=>y.2 != .cell) && sn.all (λy=>y.2 != .local || sn.lookup y.1 == some .local) && sn.all (λy=>y.2 != .free || df xs y.1)
theorem cR {xs:List (Str × IG)} (h:df xs x=true):xs.lookup x=some .cell\/xs.lookup x=some .free:=by
 unfold df at h;rw[Bool.or_eq_true] at h;simpa using h
theorem bI (U:List Str) (xs:List (Str × IG)) (hk:scope.kind = .function:=by exact rfl) (hN:X.N=U:=by exact rfl) (hx:X.env.scope.names=xs:=by exact rfl)
  (h:wn U xs scope.names N nt js=true:=by decide+kernel):pN X scope N nt js:=by
 subst hN hx;unfold wn at h;simp only[fx] at h;obtain⟨⟨⟨⟨⟨⟨h1,h2⟩,h3⟩,h4⟩,h5⟩,h6⟩,Z⟩:=h;refine⟨hk,of_decide_eq_true h1,by simpa using h2,λk j x e1 e2=>?_,λk x e=>?_,λy L=>?_,λy L e=>?_,λy L e=>?_⟩
 .have hm:(j,x)∈js.zip (N.drop nt):=by
   have F:(N.drop nt)[k]? = some x:=by rw[HX];exact e2
   have:(js.zip (N.drop nt))[k]? = some (j,x):=by rw[List.getElem?_zip_eq_some];exact⟨e1,F⟩
   exact j7 this
  have q:=l9.mp h3 _ hm;rw[fx] at q;exact⟨by simpa using q.1,cR q.2⟩
 .have hm:x∈N.drop nt:=by
   have F:(N.drop nt)[k]? = some x:=by rw[HX];exact e
   exact j7 F
  simpa using l9.mp h4 _ hm
 .simpa using l9.mp h5 _ L
 .have q:=l9.mp h6 _ L
  rw[e] at q;simpa using q
 .have q:=l9.mp Z _ L
  rw[e] at q;exact cR (by simpa using q)
def EK (K:e_):V->Option Int->Option Int->Hp->VK->Prop:=λx lo hi H Q=>∃a xs,x = .ref a/\SqT K H a xs/\(dJ xs lo hi=xs->Q (.ref a) H)/\(∀p,H p=none->Q (.ref p) (upd H p (.tup (dJ xs lo hi))))
theorem Bj:SlR X (EK X.K):=by
 intro pins s σ H x v vl vu lo hi sl Q I Z hs pl U h;obtain⟨a,xs,e,hx,q1,q2⟩:=h
 by_cases L:HT.sIx xs.length 0 lo=0/\HT.sIx xs.length xs.length hi=xs.length
 .subst e
  cases Z;obtain⟨its,r,ht,hz⟩:=I.tuple hx;have F:its.toArray.size=xs.length:=by rw[k8];exact r.length.symm
  refine⟨"tuple",_,nH.lookup,ht.typeIs,?_⟩
  refine HT.getItem_tuple_whole ht hs pl U (by rw[F];exact L.1) (by rw[F];exact L.2) ⟨.ref a,H,I,rfl,q1 ?_⟩
  unfold dJ;rw[L.1,L.2];simp
 .exact DE pins s σ H x v vl vu lo hi sl Q I Z hs pl U ⟨a,xs,e,hx,L,q2⟩
theorem EN {s:Str} {P:Key->Prop}:(∃k,V.str s=kV k/\P k)↔P (h9 s):=by
 constructor
 .rintro⟨k,e,p⟩
  cases k with
  | inl i=>cases e
  | inr x=>cases e;exact p
 .exact λp=>⟨_,rfl,p⟩
theorem E7 {i:Int} {P:Key->Prop}:(∃k,V.int i=kV k/\P k)↔P (JS i):=by
 constructor
 .rintro⟨k,e,p⟩
  cases k with
  | inl i=>cases e;exact p
  | inr x=>cases e
 .exact λp=>⟨_,rfl,p⟩
section
variable {o i:Expr} {td ty:TE}
def tDG (td ty:TE):TE:=λσ H Q=>td σ H λx H1=>ty σ H1 λy H2=>∃a,x = .ref a/\∃k,y=kV k/\∃kvs v,H2 a<*kvs/\cu kvs k=some v/\Q v H2
theorem lD (hu:X.A.units+1 < cLine) (ho:PE X o td) (hi:PE X i ty) (hs:Gr i:=by exact λ_ _=>rfl):PE X (.Subscript o i pos) (tDG td ty):=by
 intro pins s σ H Q I h;refine Cb PySem.F.slot_dict_getitem.lookup hs (thn (ho pins s σ H _ I h) λu s1 ⟨x,H1,I1,rx,q1⟩=>thn (hi pins s1 σ H1 _ I1 q1) λiv s2 L=>?_)
 obtain⟨y,H2,Z,ry,a,ex,k,ey,kvs,v,hd,hv,q2⟩:=L;subst ex;obtain rfl:u=i8 a:=rx
 have g:uU H2 a y (some v):=.inl ⟨kvs,k,.inl hd,ey,hv.symm⟩
 exact⟨sE Z g,xG hu Z g ry λw' s3 I3 U=>⟨v,H2,I3,U,q2⟩⟩
def sDP (td ty tv:TE):TS:=λD σ H=>tv σ H λv H1=>td σ H1 λx H2=>ty σ H2 λy F=>∃a,x = .ref a/\∃k,y=kV k/\∃kvs,F a<*kvs/\kvs.length < g_/\D.nx σ (upd F a (.dK (cL kvs k v)))
theorem rY (hu:X.A.units+1 < cLine) (ho:PE X o td) (hi:PE X i ty) (hv:PE X value tv) (hs:swapsWith value (some (.Subscript o i pos')) pos.line X.env=pure false) :
  PS X (.Assign [.Subscript o i pos'] value pos) (sDP td ty tv):=by
 intro pins s σ H D I h;refine wpAny_Assign_Subscript (thn (hv pins s σ H _ I h) λr s1 ⟨v,H1,I1,rv,q1⟩=>thn (ho pins s1 σ H1 _ I1 q1) λu s2 ⟨x,H2,I2,rx,q2⟩=>thn (hi pins s2 σ H2 _ I2 q2) λiv s3 F=>?_) hs
 obtain⟨y,L,I3,ry,a,ex,k,Z,kvs,hd,hl,U⟩:=F;subst ex;obtain rfl:u=i8 a:=rx
 have g:EC L a y v (upd L a (.dK (cL kvs k v))):=.inl ⟨kvs,k,hd,Z,hl,rfl⟩
 exact xA hu I3 g ry rv λs4 I4=>⟨σ,_,I4,U⟩
def tDI (ty td:TE):TE:=λσ H Q=>ty σ H λy H1=>td σ H1 λx H2=>∃a,x = .ref a/\∃k,y=kV k/\∃kvs,H2 a<*kvs/\Q (.bl (cu kvs k).isSome) H2
end
theorem nE {c:TT} {tb:TS} {D:iN} (W:Nat->St->Hp->Prop) (F:St->Hp->Prop) (Z : ∃m,W m σ H)
  (hs : ∀R:St->Hp->Prop,(∀ σ H,F σ H->R σ H)->∀m σ H,W m σ H->c σ H λb H1=>if b=true then ∃N:St->Hp->Prop,(∀ σ' H',N σ' H'->∃U,U < m/\W U σ' H')/\tb { D with nx:=N,ct:=N,bk:=R } σ H1 else R σ H1)
  (L : ∀ σ H,F σ H->D.nx σ H):uC c tb D σ H:=⟨W,Z,λm σ H w=>hs D.nx L m σ H w⟩
theorem cxK {q:Str} {o:List Env} {E:XK} :
  (ci CX P w K mg base N q sc f cd A o s H E).K=K:=rfl
theorem cpK:(bM X sc N cl C fp s H xe).K=X.K:=rfl
theorem By (i j:Int):qL (.int i) (.int j)=true:=rfl
theorem Be (i j:Str):qL (.str i) (.str j)=true:=rfl
theorem AO (i j:Bool):qL (.bl i) (.bl j)=true:=rfl
theorem Bk:qL .non .non=true:=rfl
theorem AH (i:Int):qL (.int i) .non=true:=rfl
theorem BU (s:Str) (i:Int):qL (.str s) (.int i)=true:=rfl
section
variable {a b o l:Expr} {ta tb:TE} {t:TA}
theorem OpR.imp {f:Value->Value->Sem Value} {r r':R2} (h:OpR X f r) (i : ∀x y H Q,r' x y H Q->r x y H Q):OpR X f r':=λpins s σ H x y v u Q I F L q=>h pins s σ H x y v u Q I F L (i _ _ _ _ q)
theorem bP.imp {f:Value} {r r':List V->Hp->VK->Prop} (h:bP X f r) (i : ∀x H Q,r' x H Q->r x H Q):bP X f r':=λpins s σ H xs us Q I F q=>h pins s σ H xs us Q I F (i _ _ _ q)
theorem IxR.imp {r r':R2} (h:IxR X r) (i : ∀x y H Q,r' x y H Q->r x y H Q):IxR X r':=λvalue F pins s σ H x y v u Q I L U q hs=>h value F pins s σ H x y v u Q I L U (i _ _ _ _ q) hs
theorem SlR.imp (h:SlR X r) (i : ∀x lo hi H Q,r' x lo hi H Q->r x lo hi H Q):SlR X r':=λpins s σ H x v vl vu lo hi sl Q I L hs pl F q=>h pins s σ H x v vl vu lo hi sl Q I L hs pl F (i _ _ _ _ _ q)
def rD:List V->Hp->VK->Prop:=λxs H Q=>∃p,xs=[.ref p]/\∃ys,H p*>ys/\Q (.int ys.length) H
def pH:List V->Hp->VK->Prop:=λxs H Q=>∃p,xs=[.ref p]/\∃ys,H p>>ys/\Q (.int ys.length) H
theorem be:bP X (.builtin "len") rD:=gy.imp λ_ _ _ F=>by obtain⟨p,e,ys,h,q⟩:=F;exact(⟨p,ys,e,.inl (.of h),q⟩)
theorem bf:bP X (.builtin "len") pH:=gy.imp λ_ _ _ F=>by obtain⟨p,e,ys,h,q⟩:=F;exact(⟨p,ys,e,.inr (.of h),q⟩)
def rIL:R2:=λx y H Q=>∃p,x = .ref p/\∃i,y = .int i/\∃xs,H p*>xs/\∃v,atI xs i=some v/\Q v H
def rIT:R2:=λx y H Q=>∃p,x = .ref p/\∃i,y = .int i/\∃xs,H p>>xs/\∃v,atI xs i=some v/\Q v H
theorem dI:IxR X rIL:=Bm.imp λ_ _ _ _ F=>by obtain⟨p,e,i,e2,xs,h,v,L,q⟩:=F;exact(⟨p,xs,i,v,e,e2,.of h,L,q⟩)
theorem bB:IxR X rIT:=DL.imp λ_ _ _ _ F=>by obtain⟨p,e,i,e2,xs,h,v,L,q⟩:=F;exact(⟨p,xs,i,v,e,e2,.of h,L,q⟩)
def rIS:R2:=λx y H Q=>∃z,x = .str z/\∃i,y = .int i/\z.length<=g_/\∃c,atI z.cps.toList i=some c/\Q (.str ⟨#[c]⟩) H
theorem qS:IxR X rIS:=Dd.imp λ_ _ _ _ F=>by obtain⟨z,e,i,e2,h,c,L,q⟩:=F;exact(⟨z,i,c,e,e2,h,L,q⟩)
def rSL:V->Option Int->Option Int->Hp->VK->Prop:=λx lo hi H Q=>∃a,x = .ref a/\∃xs,H a*>xs/\∀p,H p=none->Q (.ref p) (upd H p (.lst (dJ xs lo hi)))
theorem wI:SlR X rSL:=vY.imp λ_ _ _ _ _ F=>by obtain⟨a,e,xs,h,q⟩:=F;exact(⟨a,xs,e,.of h,q⟩)
def rSQ (K:e_):V->Option Int->Option Int->Hp->VK->Prop:=λx lo hi H Q=>∃a,x = .ref a/\∃xs,SqL K H a xs/\∀p,H p=none->Q (.ref p) (upd H p (.lst (dJ xs lo hi)))
theorem EG:SlR X (rSQ X.K):=vY.imp λ_ _ _ _ _ F=>by obtain⟨a,e,xs,h,q⟩:=F;exact(⟨a,xs,e,h,q⟩)
def rST:V->Option Int->Option Int->Hp->VK->Prop:=λx lo hi H Q=>∃a,x = .ref a/\∃xs,H a>>xs/\(dJ xs lo hi=xs->Q (.ref a) H)/\(∀p,H p=none->Q (.ref p) (upd H p (.tup (dJ xs lo hi))))
theorem G9:SlR X rST:=Bj.imp λ_ _ _ _ _ F=>by obtain⟨a,e,xs,h,q⟩:=F;exact(⟨a,xs,e,.of h,q⟩)
def iL (K:e_) (tl:TE):TI:=λσ H R=>tl σ H λx H1=>∃a,x = .ref a/\∃xs,H1 a*>xs/\R (Itl K a) H1
def iT (K:e_) (tl:TE):TI:=λσ H R=>tl σ H λx H1=>∃a,x = .ref a/\∃xs,H1 a>>xs/\R (Itt K a) H1
theorem GZ (hl:PE X l tl):PI X tg l (iL X.K tl):=by
 intro pins s σ H R I h;refine thn (hl pins s σ H _ I h) λv s1 F=>?_
 obtain⟨x,H1,L,r1,a,e,xs,U,q⟩:=F;subst e;cases r1;obtain⟨its,rv,p,hz⟩:=L.list (SqL.of U);refine IM p.isList ?_
 refine⟨s1.heap.objs.size,[s1.heap.objs.size],_,_,H1,rfl,L.kept (t':=s1.toks) λb o e=>c_ _ e,wF a _,⟨_,ge _ rfl,rfl,rfl⟩,λb Z=>?_,q⟩
 have e:b=s1.heap.objs.size:=by simpa using Z
 subst e;exact L.fpOk (h_ _) (L.hok.fresh (h_ _))
theorem GF (hl:PE X l tl):PI X tg l (iT X.K tl):=by
 intro pins s σ H R I h;refine thn (hl pins s σ H _ I h) λv s1 F=>?_
 obtain⟨x,H1,L,r1,a,e,xs,U,q⟩:=F;subst e;cases r1;obtain⟨its,rv,p,hz⟩:=L.tuple (SqT.of U);refine B_ (show s1.heap.IsTuple a its.toArray from p) ?_
 refine⟨s1.heap.objs.size,[s1.heap.objs.size],_,_,H1,rfl,L.kept (t':=s1.toks) λb o e=>c_ _ e,tK a _,⟨_,ge _ rfl,rfl,rfl⟩,λb Z=>?_,q⟩
 have e:b=s1.heap.objs.size:=by simpa using Z
 subst e;exact L.fpOk (h_ _) (L.hok.fresh (h_ _))
abbrev RM:=Addr->List V->Hp->VK->Prop
def MtL (X:Cx) (id:String) (r:RM):Prop:=MtR X id λx vs H Q=>∃p,x = .ref p/\r p vs H Q
def tML (r:RM) (to:TE) (t:TA):TE:=λσ H Q=>to σ H λx H1=>∃p,x = .ref p/\(∃xs,H1 p*>xs)/\t σ H1 λvs H2=>r p vs H2 Q
variable {id:String} {r:RM}
theorem fe (ad:Slot "list" name id) (af:typeOf (.builtin id)=pure (.type "method_descriptor")) (hm:MtL X id r) (ho:PE X o to) (ha:PA X (e :: es) t)
  (aa:attributeBase o name X.env (eval o X.env)=eval o X.env:=by rfl)
  (ac:((HR cpos (i9 (e :: es) X.env)).all (λx=>!x.1) && (backToKw cpos (keywordEach [] X.env)).all (λx=>x.1.isSome)
   && decide ((e :: es).length+([]:List Keyword).length+(if ([]:List Keyword).isEmpty then 0 else 1) < 30))=true:=by rfl)
  (Z:(apos.endLine == cpos.line)=true:=by rfl) (hs:i9 (e :: es) X.env=(false,eval e X.env) :: i9 es X.env:=by rfl) (L:(HR cpos (i9 es X.env)).any (·.1)=false:=by rfl) :
  PE X (.Call (.Attribute o name apos) (e :: es) [] cpos) (tML r to t):=by
 intro pins s σ H Q I h;refine wpAny_Call_method_late aa ac Z rfl (thn (ho pins s σ H _ I h) λv s1 ⟨x,H1,I1,r1,p,ex,⟨xs,hp⟩,q1⟩=>?_)
 subst ex;have ty:tyV X.K "list" (.ref p) H1:=.inl ⟨rfl,xs,.of hp⟩
 obtain⟨h1,h2⟩:=uB I1 r1 ty;refine⟨"list",id,PySem.F.plainAttrs_list,ad,af,h1,h2,?_⟩
 have hA:=ha cpos pins s1 σ H1 _ I1 q1;rw[hs] at hA ⊢;refine Calls.callWith_builtin (by show(false || (HR cpos (i9 es X.env)).any (·.1))=false;rw[L] <;> rfl) (Calls.evalArgs_plain ?_)
 refine thn hA λus s2 U=>?_
 obtain⟨vs,H2,I2,rr,q2⟩:=U;exact hm pins s2 σ H2 (.ref p) vs v us Q I2 r1 rr ⟨p,rfl,q2⟩
theorem C2 (Z:Slot "list" name id) (aa:typeOf (.builtin id)=pure (.type "method_descriptor")) (hm:MtL X id r) (ho:PE X o to)
  (L:attributeBase o name X.env (eval o X.env)=eval o X.env:=by rfl) (U:(apos.endLine == cpos.line)=true:=by rfl):PE X (.Call (.Attribute o name apos) [] [] cpos) (tML r to dC):=by
 intro pins s σ H Q I h;refine wpAny_Call_method0_late L U (thn (ho pins s σ H _ I h) λv s1 ⟨x,H1,I1,r1,p,ex,⟨xs,hp⟩,q1⟩=>?_)
 subst ex;have ty:tyV X.K "list" (.ref p) H1:=.inl ⟨rfl,xs,.of hp⟩
 obtain⟨h1,h2⟩:=uB I1 r1 ty;exact⟨"list",id,PySem.F.plainAttrs_list,Z,aa,h1,h2,Calls.callWith_builtin rfl (PySem.evalArgs_none (hm pins s1 σ H1 _ [] v [] Q I1 r1 .nil ⟨p,rfl,q1⟩))⟩
def jm:RM:=λp vs H Q=>∃y,vs=[y]/\∃xs,H p*>xs/\xs.length < g_/\Q .non (upd H p (.lst (xs++[y])))
theorem cB:MtL X "list.append" jm:=λpins s σ H x vs v us Q I U L F=>by obtain⟨p,e,y,e2,xs,h,hl,q⟩:=F;exact(kP pins s σ H x vs v us Q I U L ⟨p,xs,y,e,e2,h,hl,q⟩)
def As:RM:=λp vs H Q=>vs=[]/\∃xs,H p*>xs/\∃y,xs[xs.length - 1]? = some y/\Q y (upd H p (.lst xs.dropLast))
theorem Dt:MtL X "list.pop" As:=λpins s σ H x vs v us Q I U L F=>by obtain⟨p,e,e2,xs,h,y,hl,q⟩:=F;exact(Dv pins s σ H x vs v us Q I U L ⟨p,xs,y,e,e2,h,hl,q⟩)
def my:RM:=λp vs H Q=>∃i y,vs=[.int i,y]/\∃xs,H p*>xs/\0<=i/\i<=xs.length/\xs.length < g_/\Q .non (upd H p (.lst (xs.take i.toNat++y :: xs.drop i.toNat)))
theorem fT:MtL X "list.insert" my:=by
 intro pins s σ H x vs v us Q I rx rv h;obtain⟨p,rfl,i,y,rfl,xs,hH,i0,i1,hz,q⟩:=h;cases rx;obtain⟨u,w',rfl,ru,U⟩:=jz rv;obtain⟨t,rfl⟩:=ru;obtain⟨z,its,n,Z,hl,e⟩:=I.lstM hH;have L:Builtin.List.listFitsIndex i=true:=by
  have aa:=iO;simp only[Builtin.List.listFitsIndex,fx,decide_eq_true_eq];omega
 refine call_meets F.slot_list_insert ⟨_,e,rfl⟩ F.entry_list_insert (F.args_list_insert_3 _ _ _) (PySem.AutoSeq1.list_insert_list_int_val_1 p its.toArray n i t w' (by rw[L];decide) (by rw[k8];omega)) ⟨e,?_⟩
 refine⟨.non,_,I.lset (its':=its.take i.toNat++w' :: its.drop i.toNat) hH e ?_ ((Z.take i.toNat).append (.cons U (Z.drop i.toNat))) ?_,rfl,q⟩
 .have hk:(if i < 0 then(i+(its.toArray.size:Int)).toNat else min i.toNat its.toArray.size)=i.toNat:=by
   rw[if_neg (),k8];omega
  simp only[hk]
  apply ext'
  simp
  rw[x6 (by simp)]
 .simp
  omega
def rCL:R2:=λx y H Q=>∃l,x = .ref l/\∃b,y = .ref b/\∃xs,H l*>xs/\∃zs,H b*>zs/\xs.length+zs.length<=g_/\∀p,H p=none->Q (.ref p) (upd H p (.lst (xs++zs)))
theorem gx:OpR X (HQ .Add) rCL:=CY.imp λ_ _ _ _ F=>by obtain⟨l,e,b,e2,xs,h,zs,h2,hl,q⟩:=F;exact(⟨l,b,xs,zs,e,e2,h,h2,hl,q⟩)
def xn (F:Bool):R2:=λx y H Q=>∃p,y = .ref p/\∃xs,H p*>xs/\eM x=true/\xs.all eM=true/\Q (.bl (if F then !inV x xs else inV x xs)) H
def Dl (F:Bool):R2:=λx y H Q=>∃p,y = .ref p/\∃xs,H p>>xs/\eM x=true/\xs.all eM=true/\Q (.bl (if F then !inV x xs else inV x xs)) H
def Dx (K:e_) (F:Bool):R2:=λx y H Q=>∃p,y = .ref p/\∃xs,SqT K H p xs/\eM x=true/\xs.all eM=true/\Q (.bl (if F then !inV x xs else inV x xs)) H
theorem uP:OpR X (p8 .In) (xn false):=xD.imp λ_ _ _ _ F=>by obtain⟨p,e,xs,h,f1,L,q⟩:=F;exact(⟨p,xs,e,.inl (.of h),f1,L,q⟩)
theorem xv:OpR X (p8 .NotIn) (xn true):=gf.imp λ_ _ _ _ F=>by obtain⟨p,e,xs,h,f1,L,q⟩:=F;exact(⟨p,xs,e,.inl (.of h),f1,L,q⟩)
theorem xQ:OpR X (p8 .NotIn) (Dl true):=gf.imp λ_ _ _ _ F=>by obtain⟨p,e,xs,h,f1,L,q⟩:=F;exact(⟨p,xs,e,.inr (.of h),f1,L,q⟩)
theorem xM:OpR X (p8 .NotIn) (Dx X.K true):=gf.imp λ_ _ _ _ F=>by obtain⟨p,e,xs,h,f1,L,q⟩:=F;exact(⟨p,xs,e,.inr h,f1,L,q⟩)
def tU:List V->Hp->VK->Prop:=λxs H Q=>∃p,xs=[.ref p]/\∃ys,H p*>ys/\∀l,H l=none->Q (.ref l) (upd H l (.lst ys))
def yx:List V->Hp->VK->Prop:=λxs H Q=>∃p,xs=[.ref p]/\∃ys,H p*>ys/\∀l,H l=none->Q (.ref l) (upd H l (.tup ys))
theorem mq:bP X (.type "list") tU:=qC.imp λ_ _ _ F=>by obtain⟨p,e,ys,h,q⟩:=F;exact(⟨p,ys,e,.inl (.of h),q⟩)
theorem bo:bP X (.type "tuple") yx:=oz.imp λ_ _ _ F=>by obtain⟨p,e,ys,h,q⟩:=F;exact(⟨p,ys,e,.inl ⟨.of h,q⟩⟩)
def rCS:R2:=λx y H Q=>∃i,x = .str i/\∃j,y = .str j/\i.length+j.length<=g_/\Q (.str (i++j)) H
theorem dX:OpR X (HQ .Add) rCS:=vA.imp λ_ _ _ _ F=>by obtain⟨i,e,j,e2,h,q⟩:=F;exact(⟨i,j,e,e2,h,q⟩)
def ye:List V->Hp->VK->Prop:=λxs H Q=>∃z,xs=[.str z]/\z.length<=g_/\Q (.int z.length) H
theorem pF:bP X (.builtin "len") ye:=pX
def De:R2:=λx y H Q=>∃i,x = .str i/\∃j,y = .str j/\Q (.bl (!decide (j.cps.toList < i.cps.toList))) H
theorem Am:OpR X (p8 .LtE) De:=xk.imp λ_ _ _ _ F=>by obtain⟨i,e,j,e2,q⟩:=F;exact(⟨i,j,e,e2,q⟩)
end
theorem mf (i:Nat) {y:Str} {py a0:Pos} {elt tg iter:Expr} {ifs:List Expr} {scope:Scope} {pos:Pos} {N:List Str} {nt:Nat} {js:List Nat} {wi:TI} {g:TG} {tc:TT} {te:TE}
  (S:pN X scope N nt js) (hi:PI X tg iter wi)
  (hg : ∀{cl C fp s H xe},PG (bM X scope N cl C fp s H xe) tg g) (aM:A9 g nt)
  (hc : ∀{cl C fp s H xe},PTs (bM X scope N cl C fp s H xe) ifs tc)
  (he : ∀{cl C fp s H xe},PE (bM X scope N cl C fp s H xe) elt te)
  (hs : ∀x,foldedSetIterable iter X.env x=pure x:=by intro _;rfl) (aH:X.calm=true:=by exact rfl) (hN:X.N.Nodup:=by assumption) (aL:X.N[i]? = some y:=by exact rfl) (hy:Loc X.env.scope y:=by first | exact Or.inl rfl | exact Or.inr rfl)
  (aP:swapsWith (.ListComp elt [⟨tg,iter,ifs,0⟩] scope pos) (some (.Name y py)) a0.line X.env=pure true:=by rfl)
  (hf:X.fn y=true\/X.env.scope.names.lookup y=some .local:=by first | exact .inl rfl | exact .inr rfl | assumption) :
  PS X (.Assign [.Name y py] (.ListComp elt [⟨tg,iter,ifs,0⟩] scope pos) a0) (lE (zJ nt js wi g tc te) (cH i)):=by
 intro pins s σ H D I h;obtain⟨cl,a3,aB,_,a8⟩:=gh (env:=X.env) scope.names [] (λx hx hk=>I.ok.has x.1 (S.free x hx hk))
 have aE : ∀x c,cl.lookup x=some c->X.env.cells.lookup x=some c:=λx c e=>(aB x c e).elim (λz=>by simp at z) λz=>z
 have aq:closureFor scope X.env=pure cl:=by
  unfold closureFor;simp only[];rw[a3];rfl
 rw[exec_Assign_Name_used _ _ _ _ aP];refine a_ (wpAny_standAt (a_ ?_))
 show wpAny _ X.A (do let _ <- comprehension (.ListComp elt [⟨tg,iter,ifs,0⟩] scope pos) scope X.env _ (newList []) false (eval iter X.env) (some (assign (.Name y py) X.env))) _ _ s
 refine a_ (t7 (wpAny_comprehension_free (use:=some (assign (.Name y py) X.env)) (Q:=λ_ s'=>SP X pins D .next s') rfl hs aq S.kind S.loc (thn (hi pins s σ H _ I h) λv s1 h1=>thn h1 λaW F h2=>?_)) (λ_ s' hq=>b_ (b_ hq)) λ_ _ e=>e)
 obtain⟨it,fp,tn,J,H2,e,I2,T,a4,f2,q2⟩:=h2;subst e;have af:H2 F.heap.objs.size=none:=I2.hok.fresh (h_ _)
 obtain⟨W,⟨m0,w0⟩,aG⟩:=q2 F.heap.objs.size af;refine ra (wpAny_newFunctionEnv S.own (by intro y hy;simp at hy) (λh₁ aa L=>?_) S.kind)
 dsimp only at aa L ⊢;generalize hG:F.heap.push { cls:=.type "list",dict:=none,data:=.seq ([]:List Value).toArray }=G at aa L ⊢;have Z:G.objs.size=F.heap.objs.size+1:=by rw[<- hG,G2]
 have ac : ∀b o,F.heap.get? b=some o->h₁.get? b=some o:=λb o e =>
  L.extBut b o (by rw[Z];exact kf (Nat.lt_succ_of_lt (fy e))) (c_ _ (hG ▸ c_ _ e))
 have kD:h₁.get? F.heap.objs.size=some { cls:=.type "list",dict:=none,data:=.seq ([]:List Value).toArray } :=
  L.extBut _ _ (by rw[Z];exact kf (IU _)) (c_ _ (hG ▸ ge _ rfl))
 have aC:HOk X.prog X.w (upd H2 F.heap.objs.size (.lst [])) h₁:=I2.hok.laid ac (h_ _) ⟨HG _,[],0,.nil,kD⟩
 have ai : ∀b∈fp,b < F.heap.objs.size:=λb U=>by
  obtain⟨o,e,_⟩:=T.obj _ _ a4 b U;exact fy e
 have aR:(upd H2 F.heap.objs.size (.lst [])) G.objs.size=none:=by
  rw[ah (by rw[Z];exact IE (IU _))]
  exact I2.hok.fresh (by rw[Z];exact F_ _)
 generalize aF:(compPost (model X.prog X.w) X.A X.xe (some (assign (.Name y py) X.env)) (λ_ s'=>SP X pins D .next s') (.ref F.heap.objs.size) G.objs.size)=RR
 have ag : ∀{H':Hp},(∀b∈fp,H' b=none)->∀b∈fp,nD (bM X scope N cl G.objs.size fp F H2 (Gt (model X.prog X.w) X.A (E1 scope cl G.objs.size X.env) λe s'=>RR (.error e) s')) [] H' b:=λ{H'} hn b U=>by
  obtain⟨f0,f1,a7,f3,f4,f5⟩:=f2 b U;refine⟨hn b U,kf (j8 (ai b U) (by show _<=G.objs.size;rw[Z];exact F_ _)),λz=>?_,.inl U,λx c e=>f4 x c (aE x c e),λp hp=>absurd (show p∈([]:List (Addr × Obj)) from hp) (by simp)⟩
  rcases i4.mp (I2.stkSub b z) with q | q
  .exact f1 q
  .exact a7 q
 have I3 : ∀tk,Inv (bM X scope N cl G.objs.size fp F H2 (Gt (model X.prog X.w) X.A (E1 scope cl G.objs.size X.env) λe s'=>RR (.error e) s')) [] (bG nt js σ) (upd H2 F.heap.objs.size (.lst [])) { F with heap:=h₁,toks:=tk }:=λtk =>
  mO S I2 f2 aE a8 ai (by rw[Z];exact F_ _) ac (λb o e=>by rw[ah (aj e af)];exact e) (λb n U=>by rw[ah (kf U)];exact n) aC aa aR (λ_=>rfl)
 have a1 : ∀am:Shared,am={ F with heap:=h₁,toks:=F.toks+([]:List (Str × Value)).length } ->
   ID (model X.prog X.w) X.A (.compLoop (.ListComp elt [⟨tg,iter,ifs,0⟩] scope pos) 0 (.ref it) (.ref F.heap.objs.size) (E1 scope cl G.objs.size X.env)) RR am:=by
  rintro am rfl
  refine jp (λn s'=>∃i ys H',Inv (bM X scope N cl G.objs.size fp F H2 (Gt (model X.prog X.w) X.A (E1 scope cl G.objs.size X.env) λe s'=>RR (.error e) s')) [] (bG nt js σ) H' s'/\tn i s'.heap/\(∀b∈fp,H' b=none)/\W i n ys H') ?_ m0
   ⟨0,[],_,I3 _,T.keep _ _ _ a4 λb U o e=>ac b o e,λb U=>by rw[ah (kf (ai b U))];exact(f2 b U).1,w0⟩
  rintro n s3 ⟨i,ys,H3,J3,a6,a5,w3⟩
  rcases aG i n ys H3 w3 with⟨aI,qn⟩ | ⟨go,NN,hN,step⟩
  .refine thn (T.done (bM X scope N cl G.objs.size fp F H2 (Gt (model X.prog X.w) X.A (E1 scope cl G.objs.size X.env) λe s'=>RR (.error e) s')) rfl rfl rfl aH i [] s3 (bG nt js σ) H3 _ J3 (ag a5) a6 aI) λr s4 ay=>?_
   obtain⟨hr,I4⟩:=ay;subst hr
   show RR (.ok .next) s4
   rw[<- aF];obtain⟨mC,aT,_⟩:=id I4.loc;have I5:Inv X pins σ H3 s4:=I2.call' (s':=s4) I4.os I4.base I4.hok I4.bare (λb U=>by
    obtain⟨f0,f1,a7,f3,f4,f5⟩:=f2 b U;exact⟨f3,f1,f4,f5⟩)
   show wpAny _ X.A (assign (.Name y py) X.env (.ref F.heap.objs.size)) _ _ s4
   have a9:G.objs.size≠X.env.locals:=IE (j8 I2.lt (by rw[Z];exact F_ _))
   have aJ : ∀x c,X.env.cells.lookup x=some c->c≠G.objs.size:=λx c e z=>by
    obtain⟨v,q⟩:=I2.cell x c e;exact absurd (j8 q.lt (by rw[z,Z];exact F_ _)) (w4 _)
   refine wpAny_assign_Name (kb I5 hN aL hy (v:=.ref F.heap.objs.size) rfl (λs6 I6 az=>?_) hf)
   obtain⟨ad,sb,aK⟩:=az;have aA:G.objs.size≠ad:=by
    rcases aK with z | z
    .rw[z];exact a9
    .exact λe=>aJ _ _ z e.symm
   refine⟨mC,aT.sameBut sb aA,λaX aD=>?_⟩
   refine⟨_,H3,Inv.turned (t':=s6.toks) (it:=G.objs.size) I6 (λb o U e=>aD.extBut b o U e) I4.free a9 (.inr (n_ I2.sz (by rw[Z];exact F_ _))) aJ (λp hp z=>?_),qn⟩
   have e:=(I2.pin p hp).1;exact absurd (j8 (fy e) (by rw[z,Z];exact F_ _)) (w4 _)
  .refine thn (T.item (bM X scope N cl G.objs.size fp F H2 (Gt (model X.prog X.w) X.A (E1 scope cl G.objs.size X.env) λe s'=>RR (.error e) s')) rfl rfl rfl aH i [] s3 (bG nt js σ) H3 _ J3 (ag a5) a6 go) λr s4 ap=>?_
   obtain⟨u,hr,h4⟩:=ap;subst hr;refine thn h4 λ_ s5 av=>?_
   obtain⟨x,H5,I5,r5,y5,a2,aN⟩:=av;have aV:=I5.pinned (ag aN) (T.obj _ _ a2);have g5:=aM x (bG nt js σ) H5 _ ja (step x H5 y5);refine thn (@hg cl G.objs.size fp F H2 _ _ s5 _ H5 x u _ aV r5 g5) λ_ s6 au=>?_
   obtain⟨ar,H6,I6,aQ,q6⟩:=au;refine thn (@hc cl G.objs.size fp F H2 _ _ s6 ar H6 _ I6 q6) λok s7 as=>?_
   obtain⟨H7,I7,q7⟩:=as;have an : ∀{s8:Shared} {H8:Hp} {ax:List V},Inv (bM X scope N cl G.objs.size fp F H2 (Gt (model X.prog X.w) X.A (E1 scope cl G.objs.size X.env) λe s'=>RR (.error e) s')) ([]++kl fp s5.heap) ar H8 s8->NN ax H8 ->
     ∃m,m < n/\∃i ys H',Inv (bM X scope N cl G.objs.size fp F H2 (Gt (model X.prog X.w) X.A (E1 scope cl G.objs.size X.env) λe s'=>RR (.error e) s')) [] (bG nt js σ) H' s8/\tn i s8.heap/\(∀b∈fp,H' b=none)/\W i m ys H':=λ{s8 H8 ax} I8 n8=>by
    obtain⟨m',hm,w8⟩:=hN ax H8 n8;refine⟨m',hm,i+1,ax,H8,(I8.unpinned).wk aQ,T.keep _ _ _ a2 λb U o e=>(I8.pin (b,o) (n9 _ (n9 _ (db U e)))).1,λb U=>?_,w8⟩
    obtain⟨o,e,d⟩:=T.obj _ _ a2 b U;exact(I8.pin (b,o) (n9 _ (n9 _ (db U e)))).2.1
   cases ok with
   | false =>
    rw[if_neg i6] at q7 ⊢;exact an I7 q7
   | true =>
    rw[if_pos rfl] at q7 ⊢;refine thn (@he cl G.objs.size fp F H2 _ _ s7 ar H7 _ I7 q7) λy s8 ao=>?_
    obtain⟨yv,H8,I8,r8,aS,aO,q8⟩:=ao;refine thn (kP (X:=bM X scope N cl G.objs.size fp F H2 (Gt (model X.prog X.w) X.A (E1 scope cl G.objs.size X.env) λe s'=>RR (.error e) s')) _ s8 ar H8 (.ref F.heap.objs.size) [yv] (.ref F.heap.objs.size) [y] (λ_ H9=>NN (ys++[yv]) H9) I8 rfl (.cons r8 .nil) ⟨_,ys,yv,rfl,rfl,aS,aO,q8⟩) λv9 s9 aw=>?_
    obtain⟨x9,H9,I9,r9,q9⟩:=aw;exact an I9 q9
 subst aF;exact codeAny_compStart_list (a1 _ rfl) (T.self _ 0 _ _ _ (T.keep _ _ _ a4 λb U o e=>ac b o e) (a1 _ rfl))
def lq (J:It) (σ0:St) (g:TG) (tc:TT) (te:TE) (Q:VK) (H1:Hp) (D:Addr):Prop:=∃W:Nat->Nat->List V->Hp->Prop,(∃m,W 0 m [] (upd H1 D (.lst []))) /\
 ∀ i m ys H2,W i m ys H2->(J.stop i H2/\Q (.ref D) H2)\/(J.go i H2/\∃N:List V->Hp->Prop,(∀F H',N F H'->∃U,U < m/\W (i+1) U F H') /\
  ∀x H',J.yld i H2 x H'->g x σ0 H' λL H3=>tc L H3 λb Z=>if b=true then te L Z λy H5=>H5 D*>ys/\ys.length < g_/\N (ys++[y]) (upd H5 D (.lst (ys++[y]))) else N ys Z)
theorem zC (nt:Nat) (js:List Nat) (wi:TI) (g:TG) (tc:TT) (te:TE):zJ nt js wi g tc te=λσ H Q=>wi σ H λJ H1=>∀D,H1 D=none->lq J (bG nt js σ) g tc te Q H1 D:=rfl
def DD (J:It) (g:TG) (tb:TS) (D:iN) (σ:St) (H1:Hp):Prop:=∃W:Nat->Nat->St->Hp->Prop,(∃m,W 0 m σ H1)/\∀i m σ H,W i m σ H ->
 (J.stop i H/\D.nx σ H)\/(J.go i H/\∃N:St->Hp->Prop,(∀ σ' H',N σ' H'->∃L,L < m/\W (i+1) L σ' H')/\∀x H',J.yld i H x H'->g x σ H' λF H2=>tb { D with nx:=N,ct:=N,bk:=D.nx } F H2)
theorem Bh (wi:TI) (g:TG) (tb:TS):E6 wi g tb=λD σ H=>wi σ H λJ H1=>DD J g tb D σ H1:=rfl
theorem gJ {C:Hp->Prop} (w:Wlk J xs C) {g:TG} {tb:TS} {D:iN} {σ:St} {H:Hp} (F:Nat->St->Hp->Prop) (U:F 0 σ H) (hl : ∀i σ H,F i σ H->C H)
  (hs : ∀i x σ H,i < xs.length->xs[i]? = some x->F i σ H->g x σ H λL H2=>tb { D with nx:=F (i+1),ct:=F (i+1),bk:=D.nx } L H2) (Z : ∀ σ H,F xs.length σ H->D.nx σ H):DD J g tb D σ H :=
 AN w F U hl hs Z
theorem eR {C:Hp->Prop} (w:Wlk J xs C) {g:TG} {tc:TT} {te:TE} {σ0:St} {Q:VK} {H1:Hp} {D:Addr} (F:Nat->List V->Hp->Prop) (h0:F 0 [] (upd H1 D (.lst []))) (hl : ∀i ys H,F i ys H->C H)
  (hs : ∀i x ys H,i < xs.length->xs[i]? = some x->F i ys H->g x σ0 H λL H3=>tc L H3 λb U=>if b=true then te L U λy Z=>Z D*>ys/\ys.length < g_/\F (i+1) (ys++[y]) (upd Z D (.lst (ys++[y]))) else F (i+1) ys U)
  (hd : ∀ys H,F xs.length ys H->Q (.ref D) H):lq J σ0 g tc te Q H1 D:=zV w F h0 hl hs hd
theorem Dq (js:List Nat) (σ:St):bG 0 js σ=js.map λj=>(σ[j]?).join:=rfl
theorem D9 (js:List Nat) (σ:St):bG 1 js σ=none :: js.map λj=>(σ[j]?).join:=rfl
theorem Dr (js:List Nat) (σ:St):bG 2 js σ=none :: none :: js.map λj=>(σ[j]?).join:=rfl
theorem CP (js:List Nat) (σ:St):bG 3 js σ=none :: none :: none :: js.map λj=>(σ[j]?).join:=rfl
theorem ak.upd_new (s:ak H H1) (hp:H1 p=none):ak H (upd H1 p o):=λb u e=>by
 have e1:=s b u e;rw[ah (aj e1 hp)];exact e1
theorem ak.upd0 (hp:H p=none):ak H (upd H p o):=(ak.refl H).upd_new hp
def IsB (H:Hp) (x:V) (T:String) (k:Bool):Prop:=match x with
 | .non=>k=false
 | .bl _=>k=(T == "bool" || T == "int")
 | .int _=>k=(T == "int")
 | .str _=>k=(T == "str")
 | .ref a=>(∃vs,H a>>vs/\k=(T == "tuple"))\/(∃vs,H a*>vs/\k=(T == "list"))
 | _=>False
def CJ:List V->Hp->VK->Prop:=λxs H Q=>∃x T,xs=[x,.ty T]/\(T = "int" \/ T = "str" \/ T = "bool" \/ T = "tuple" \/ T = "list")/\∃k,IsB H x T k/\Q (.bl k) H
theorem BG (K:e_) {T:String} (h:T = "int" \/ T = "str" \/ T = "bool" \/ T = "tuple" \/ T = "list") :
  HM K (.type "NoneType") (.type T)=some false/\HM K (.type "bool") (.type T)=some (T == "bool" || T == "int")/\HM K (.type "int") (.type T)=some (T == "int") /\
  HM K (.type "str") (.type T)=some (T == "str")/\HM K (.type "tuple") (.type T)=some (T == "tuple")/\HM K (.type "list") (.type T)=some (T == "list"):=by
 rcases h with rfl | rfl | rfl | rfl | rfl
 all_goals exact⟨rfl,rfl,rfl,rfl,rfl,rfl⟩
theorem cG:bP X (.builtin "isinstance") CJ:=yU.imp λxs H Q ⟨x,T,e,hT,k,hk,q⟩=>by
 obtain⟨k1,k2,k3,F,k5,L⟩:=BG X.K hT;cases x with
 | non=>cases hk;exact⟨_,_,T,_,e,.non,k1,q⟩
 | bl b=>cases hk;exact⟨_,_,T,_,e,.bl b,k2,q⟩
 | int b=>cases hk;exact⟨_,_,T,_,e,.int b,k3,q⟩
 | str b=>cases hk;exact⟨_,_,T,_,e,.str b,F,q⟩
 | ref a =>
  rcases hk with⟨vs,h,rfl⟩ | ⟨vs,h,rfl⟩
  .exact⟨_,_,T,_,e,.tup h,k5,q⟩
  .exact⟨_,_,T,_,e,.lst h,L,q⟩
 | _=>exact hk.elim
theorem dN {i:Int} (h : ∃t,X.mg x=some (.int i t)) (L:Gl X x) (F:(x ==("__debug__" : Str))=false:=by decide):PE X (.Name x pos) (tC (.int i)):=by
 obtain⟨t,h⟩:=h;exact cq L h ⟨t,rfl⟩ F
def tCT (K:e_) (xs:List V):TE:=λ_ H Q=>∀a,SqT K H a xs->Q (.ref a) H
def Au (K:e_) (mg:Str->Option Value) (x:Str) (xs:List V):Prop :=
 ∃(a:Addr) (o:Obj) (its:Array Value) (n:Nat),mg x=some (.ref a)/\K.lookup a=some o/\o.cls = .type "tuple" /\ o.data = .seq its n/\its.size<=g_/\aO xs its.toList
theorem Gc (h:Au X.K X.mg x xs) (L:Gl X x) (F:(x ==("__debug__" : Str))=false:=by decide):PE X (.Name x pos) (tCT X.K xs):=by
 obtain⟨a,o,its,n,hm,h1,h2,U,Z,h5⟩:=h;intro pins s σ H Q I q;exact cq (v:=.ref a) L hm rfl F pins s σ H Q I (q a (.inr ⟨o,its,n,h1,h2,U,Z,h5⟩))
def bV (c:Nat):Bool:=decide (97<=c) && decide (c<=122)
theorem GE (c:Nat):decide ([c] < (d_ "a").cps.toList)=decide (c < 97):=by
 rw[show(d_ "a").cps.toList=[97] by decide+kernel,t5]
 simp[List.cons_lt_cons_iff]
theorem GH (c:Nat):decide ((d_ "z").cps.toList < [c])=decide (122 < c):=by
 rw[show(d_ "z").cps.toList=[122] by decide+kernel,t5]
 simp[List.cons_lt_cons_iff]
theorem yT {Q:Bool->Prop} (q:Q (bV c)):if decide (c < 97)=false then Q (!decide (122 < c)) else Q false:=by
 unfold bV at q
 by_cases h:c < 97
 .rw[decide_eq_true h,if_neg ∅]
  rw[decide_eq_false (show ¬ 97<=c by omega),p_] at q
  exact q
 .rw[decide_eq_false h,if_pos rfl]
  rw[decide_eq_true (show 97<=c by omega),o7] at q
  by_cases h2:122 < c
  .rw[decide_eq_true h2];rw[decide_eq_false (show ¬ c<=122 by omega)] at q;exact q
  .rw[decide_eq_false h2];rw[decide_eq_true (show c<=122 by omega)] at q;exact q
theorem mS (a b:Str):(a++b).length=a.length+b.length:=by
 show(a++b).cps.size=a.cps.size+b.cps.size
 exact Array.size_append
theorem Ai {C:Hp->Prop} (w:Wlk J xs C) {te:TE} {σ0:St} {Q:VK} {H1:Hp} {D:Addr} (f:V->V) (L:H1 D=none) (Z : ∀H',ak H1 H'->C H') (hn:xs.length<=1000)
  (he : ∀(x:V) (H2:Hp) (U:VK),x∈xs->ak H1 H2->U (f x) H2->te (σ0.set 0 (some x)) H2 U)
  (F : ∀H2,ak H1 H2->H2 D*>(xs.map f)->Q (.ref D) H2):lq J σ0 (cH 0) lU te Q H1 D:=by
 refine eR w (λi ys H=>ys=(xs.take i).map f/\i<=xs.length/\ak H1 H/\H D*>ys) ⟨by simp,HG _,ak.upd0 L,ae⟩ (λi ys H h=>Z _ h.2.2.1) ?_ ?_
 .rintro i x ys H hi hx ⟨rfl,hle,sm,F⟩
  simp only[cH,lU,if_true];refine he x H _ (j7 hx) sm ⟨F,by simp;exact aw (),?_,hi,?_,ae⟩
  .rw[w5,hx];simp
  .exact λb o e=>by rw[ah (aj e L)];exact sm b o e
 .rintro ys H ⟨rfl,_,sm,hd'⟩
  rw[A_] at hd';exact F H sm hd'
theorem sG (F:ce k A):A.units+100 < cLine:=by have:=F.un;omega
end L2
namespace HT
open PySem PyProof.Rows
theorem cat_tup0 {t:Addr} {vs ws:List Value} (ht:IsTup s.heap t vs.toArray) (hb:IsTup s.heap b ws.toArray) (hv:vs=[])
  (h1:Q (.ref b) s):wpAny (model prog w) A (HQ .Add (.ref t) (.ref b)) Q E s:=by
 obtain⟨⟨cls,dd,data,sl⟩,ho,hc,n,hd⟩:=id ht;obtain⟨⟨ad,ac,aa,sl2⟩,Z,L,n2,U⟩:=id hb;simp only at hc hd L U;subst hc hd L U;exact concat_meets ⟨_,ho,rfl⟩ ⟨_,Z,rfl⟩ noFill_tuple_add seq_tuple_add PySem.F.slot_tuple_add PySem.F.entry_tuple_add (PySem.F.args_tuple_add_2 _ _)
   (tuple_addW0 t b vs.toArray ws.toArray n n2 dd ac sl sl2 (by simp[hv])) ⟨ho,Z,h1⟩
end HT
namespace L2
open PySem PySem.Spec PyProof.Rows
section
variable {a b o l:Expr} {ta tb:TE} {t:TA}
def rCT:R2:=λx y H Q=>∃l,x = .ref l/\∃b,y = .ref b/\∃xs,H l>>xs/\∃ys,H b>>ys/\xs.length+ys.length<=g_ /\
 (xs=[]->Q (.ref b) H)/\(xs≠[]->ys=[]->Q (.ref l) H)/\(xs≠[]->ys≠[]->∀p,H p=none->Q (.ref p) (upd H p (.tup (xs++ys))))
theorem Ar:OpR X (HQ .Add) rCT:=by
 intro pins s σ H x y v u Q I U Z h;obtain⟨a,rfl,b,rfl,xs,L,ys,hb,hz,q0,q1,q2⟩:=h
 by_cases F:xs=[]
 .cases U
  cases Z;obtain⟨its,r1,p1,_⟩:=I.tuple (SqT.of L);obtain⟨aa,r2,p2,_⟩:=I.tuple (SqT.of hb);exact HT.cat_tup0 p1 p2 (r1.nil_iff.mpr F) ⟨.ref b,H,I,rfl,q0 F⟩
 .exact Bc pins s σ H _ _ v u Q I U Z ⟨a,b,xs,ys,rfl,rfl,.of L,.of hb,F,hz,q1 F,q2 F⟩
def Es (i j:Int):Prop:=0 < j/\j < 18446744073709551616
theorem fR:OpR X (HQ .FloorDiv) (rI Es λi j=>.int (i / j)):=opI λi j _ _ _ _ _ F q=>by
 have h1:(0:Int) < j:=F.1
 have h2:j < 18446744073709551616:=F.2
 refine floordiv_int () (by rw[Int.fdiv_eq_ediv_of_nonneg i ()];exact q) (.inl (PyProof.noPylong_of_log2 ?_))
 have L:j.natAbs < 2 ^ 64:=()
 exact lt_trans ((Nat.log2_lt ()).mpr L) ∅
abbrev RMS:=Str->List V->Hp->VK->Prop
def MtS (X:Cx) (id:String) (r:RMS):Prop:=MtR X id λx vs H Q=>∃p,x = .str p/\r p vs H Q
def tMS (r:RMS) (to:TE) (t:TA):TE:=λσ H Q=>to σ H λx H1=>∃p,x = .str p/\t σ H1 λvs H2=>r p vs H2 Q
variable {id:String} {r:RMS}
theorem Cl (af:Slot "str" name id) (ag:typeOf (.builtin id)=pure (.type "method_descriptor")) (hm:MtS X id r) (ho:PE X o to) (ha:PA X (e :: es) t)
  (ac:attributeBase o name X.env (eval o X.env)=eval o X.env:=by rfl)
  (ad:((HR cpos (i9 (e :: es) X.env)).all (λx=>!x.1) && (backToKw cpos (keywordEach [] X.env)).all (λx=>x.1.isSome)
   && decide ((e :: es).length+([]:List Keyword).length+(if ([]:List Keyword).isEmpty then 0 else 1) < 30))=true:=by rfl)
  (aa:(apos.endLine == cpos.line)=true:=by rfl) (hs:i9 (e :: es) X.env=(false,eval e X.env) :: i9 es X.env:=by rfl) (L:(HR cpos (i9 es X.env)).any (·.1)=false:=by rfl) :
  PE X (.Call (.Attribute o name apos) (e :: es) [] cpos) (tMS r to t):=by
 intro pins s σ H Q I h;refine wpAny_Call_method_late ac ad aa rfl (thn (ho pins s σ H _ I h) λv s1 Z=>?_)
 obtain⟨x,H1,I1,r1,p,ex,q1⟩:=Z;subst ex;obtain⟨h1,h2⟩:=uB I1 r1 (show tyV X.K "str" (.str p) H1 from rfl)
 refine⟨"str",id,PySem.F.plainAttrs_str,af,ag,h1,h2,?_⟩
 have hA:=ha cpos pins s1 σ H1 _ I1 q1;rw[hs] at hA ⊢;refine Calls.callWith_builtin (by show(false || (HR cpos (i9 es X.env)).any (·.1))=false;rw[L] <;> rfl) (Calls.evalArgs_plain ?_)
 refine thn hA λus s2 U=>?_
 obtain⟨vs,H2,I2,rr,q2⟩:=U;exact hm pins s2 σ H2 (.str p) vs v us Q I2 r1 rr ⟨p,rfl,q2⟩
theorem ux : ∀{us:List Value},aO (ns.map V.str) us->StrsAre us ns:=by
 induction ns with
 | nil=>intro us h;cases h;exact .nil
 | cons n ns L =>
  intro us h;cases h with
  | cons U F =>
   obtain⟨t,rfl⟩:=U;exact .cons _ _ (L F)
def uX:RMS:=λz vs H Q=>∃p,vs=[.ref p]/\∃ys:List Str,H p*>(ys.map V.str)/\(ys.map (·.length)).sum+ys.length * z.length<=16777216/\Q (.str (Txt.join z ys)) H
theorem BR:MtS X "str.join" uX:=by
 intro pins s σ H x vs v us Q I Z L h;obtain⟨z,rfl,p,rfl,ys,hp,F,q⟩:=h;obtain⟨t,rfl⟩:=Z;obtain⟨u,rfl,U⟩:=cU L;cases U;obtain⟨its,r,pl,hz⟩:=I.list (SqL.of hp);exact join_list pl.isList (ys:=ys) (by simpa using ux r) F λt' k=>⟨.str _,H,I.tok k,⟨t',rfl⟩,q⟩
def me:RMS:=λz vs H Q=>∃y,vs=[.str y]/\∃i rest,IZ z y 0 z.length 1=i :: rest/\Q (.int (i:Nat)) H
theorem yM:MtS X "str.index" me:=by
 intro pins s σ H x vs v us Q I U F h;obtain⟨z,rfl,y,rfl,i,rest,Z,q⟩:=h;obtain⟨t,rfl⟩:=U;obtain⟨u,rfl,L⟩:=cU F;obtain⟨t',rfl⟩:=L;exact SC.index Z ⟨.int i,H,I.tok _,⟨_,rfl⟩,q⟩
end
theorem qy {a b:Str} (h:a.cps.toList=b.cps.toList):a=b:=by
 cases a;cases b;congr 1;exact ext' h
theorem cx (a b:Str):(a++b).cps.toList=a.cps.toList++b.cps.toList:=by
 show(a.cps++b.cps).toList=_
 simp
theorem fO (l:List Nat) (s:Nat) : ∀n,s+n<=l.length->((range n).map λk=>s+k).filterMap (λi=>l[i]?)=(l.drop s).take n
 | 0,_=>by simp
 | n+1,h=>by
  rw[range_succ,m7,List.filterMap_append,fO l s n (),w5]
  have e:l[s+n]? = some (l[s+n]'()):=by simp
  simp[e,HX]
theorem C3 (lo hi:Option Int) (n:Nat):Builtin.Str.strSliceIndices lo hi 1 n=(range (HT.sIx n n hi - HT.sIx n 0 lo)).map λk=>HT.sIx n 0 lo+k:=by
 have F : ∀(v:Int) (d:Nat),(if (1:Int) > 0 then max 0 (min (if v < 0 then v+(n:Int) else v) (n:Int)) else max (-1) (min (if v < 0 then v+(n:Int) else v) ((n:Int) - 1)))=((HT.sIx n d (some v):Nat):Int):=λv d=>by
  rw[if_pos ∅]
  show max 0 (min (if v < 0 then v+(n:Int) else v) (n:Int))=(((if v < 0 then(v+(n:Int)).toNat else min v.toNat n):Nat):Int)
  split <;> rw[Int.max_def,Int.min_def] <;> split <;> split <;> omega
 have base : ∀(a b:Nat),sliceRange (a:Int) (b:Int) 1=(range (b - a)).map λk=>a+k:=λa b=>by
  unfold sliceRange;simp only[show(1:Int) > 0 by decide,if_true,Int.one_mul]
  have e:(if (a:Int) < (b:Int) then((b:Int) - (a:Int)+1 - 1) / 1 else 0).toNat=b - a:=by
   split
   .rw[Int.ediv_one];omega
   .show(0:Int).toNat=b - a
    rw[Int.toNat_zero];omega
  rw[e];refine List.map_congr_left λk _=>?_
  omega
 unfold Builtin.Str.strSliceIndices;cases lo with
 | none=>cases hi with
  | none=>exact base 0 n
  | some v=>simp only[];rw[F v n];exact base 0 _
 | some u=>cases hi with
  | none=>simp only[];rw[F u 0];exact base _ n
  | some v=>simp only[];rw[F u 0,F v n];exact base _ _
theorem kK (x:Str) (lo hi:Option Int):(Ip x lo hi).cps.toList=(x.cps.toList.drop (HT.sIx x.length 0 lo)).take (HT.sIx x.length x.length hi - HT.sIx x.length 0 lo):=by
 have h1:=HT.sIx_le x.length x.length (h_ _) hi;have L:=HT.sIx_le x.length 0 (HG _) lo;have hl:x.cps.toList.length=x.length:=by show x.cps.toList.length=x.cps.size;simp
 unfold Ip;rw[C3]
 split
 .rename_i h
  simp only[beq_self_eq_true,o7,f_,List.length_range,beq_iff_eq] at h;have F:HT.sIx x.length 0 lo=0:=()
  rw[h,F,drop_zero,<- hl,A_]
 .show((List.map _ _).filterMap (λi=>x.cps[i]?)).toArray.toList=_
  rw[List.toList_toArray];rw[<- fO _ _ _ ()]
  refine congrArg (λf=>List.filterMap f _) (funext λi=>?_)
  simp
theorem zL (ys:List Str):(Txt.join (d_ "") ys).cps.toList=ys.flatMap λy=>y.cps.toList:=by
 have key : ∀(l:List Str) (acc:Array Nat),(l.foldl (λacc p=>acc++(d_ "").cps++p.cps) acc).toList=acc.toList++l.flatMap λy=>y.cps.toList:=by
  intro l
  induction l with
  | nil=>intro acc;simp
  | cons a l F =>
   intro acc;rw[foldl_cons,F];have e:(d_ "").cps = #[]:=by decide+kernel
   simp[e]
 show((ys.drop 1).foldl _ (ys.headD Str.empty).cps).toList=_
 rw[key];cases ys with
 | nil=>simp;decide+kernel
 | cons a l=>simp
structure fK (w:Str):Prop where
 pos:1<=w.length
 le:w.length<=8
 small : ∀c∈w.cps.toList,bV c=true
theorem eW (x:Str):x.cps.toList.length=x.length:=by show x.cps.toList.length=x.cps.size;simp
theorem fK.cons {w:Str} (h:fK w) : ∃c cs,w.cps.toList=c :: cs/\bV c=true/\(∀x∈cs,bV x=true)/\cs.length<=7:=by
 have hl:=eW w;cases e:w.cps.toList with
 | nil=>rw[e] at hl;have:=h.pos;simp at hl;omega
 | cons c cs =>
  rw[e] at hl;have:=h.le
  exact⟨c,cs,rfl,h.small c (by rw[e];simp),λx F=>h.small x (by rw[e];simp[F]),by simp at hl;omega⟩
theorem fK.of {w:Str} {cs:List Nat} (e:w.cps.toList=c :: cs) (U:bV c=true) (F : ∀x∈cs,bV x=true) (hl:cs.length<=7):fK w:=by
 have h:=eW w;rw[e] at h;simp at h
 refine⟨(),(),λx L=>?_⟩
 rw[e] at L;rcases i4.mp L with rfl | q
 .exact U
 .exact F x q
theorem gd {r:Int} (F:0<=r) (h1:r < 26):atI (d_ "abcdefghijklmnopqrstuvwxyz").cps.toList r=some (97+r.toNat):=by
 obtain⟨n,rfl⟩:=Int.eq_ofNat_of_zero_le F;rw[show(d_ "abcdefghijklmnopqrstuvwxyz").cps.toList=range' 97 26 by decide+kernel]
 refine bh ?_
 rw[List.getElem?_range' ()]
 simp
theorem eX:(d_ "abcdefghijklmnopqrstuvwxyz").length<=g_:=by decide+kernel
theorem nW (h:bV c=true):IZ (d_ "abcdefghijklmnopqrstuvwxyz") ⟨#[c]⟩ 0 (d_ "abcdefghijklmnopqrstuvwxyz").length 1=(c - 97) :: []:=by
 have key : ∀i:Fin 26,IZ (d_ "abcdefghijklmnopqrstuvwxyz") ⟨#[97+i.1]⟩ 0 (d_ "abcdefghijklmnopqrstuvwxyz").length 1=[i.1]:=by decide+kernel
 simp only[bV,fx,decide_eq_true_eq] at h;have:=key ⟨c - 97,()⟩
 simp only[show 97+(c - 97)=c by omega] at this
 exact this
def sO (c:Nat):Nat:=97+(c - 97+1) % 26
def Bs:List Nat->List Nat
 | []=>[]
 | c :: cs=>sO c :: cs
def mr (w:Str):Str:=⟨(Bs w.cps.toList).toArray⟩
def mG:Nat->Str->Str
 | 0,w=>w
 | n+1,w=>mG n (mr w)
theorem mo (c:Nat):bV (sO c)=true:=by
 have:=mod_lt (c - 97+1) (show 0 < 26 by decide)
 unfold bV sO;rw[fx,decide_eq_true_eq,decide_eq_true_eq];exact⟨(),()⟩
theorem Bt {w:Str} (h:fK w):fK (mr w):=by
 obtain⟨c,cs,e,L,F,hl⟩:=h.cons;exact .of (c:=sO c) (cs:=cs) (by simp[mr,e,Bs]) (mo c) F hl
theorem zx {cs:List Nat} : ∀(n:Nat) {w:Str},w.cps.toList=c :: cs->bV c=true->(mG n w).cps.toList=(97+(c - 97+n) % 26) :: cs:=by
 intro n
 induction n generalizing c with
 | zero =>
  intro w e F;simp only[bV,fx,decide_eq_true_eq] at F;rw[mG,e]
  congr 1
  omega
 | succ n L =>
  intro w e F;rw[mG,L (c:=sO c) (by simp[mr,e,Bs]) (mo c)]
  congr 1
  simp only[sO];omega
theorem sK {α:Type} [BEq α] [LawfulBEq α] : ∀{xs ys:List α},xs.Nodup->(∀x∈xs,x∈ys)->xs.length<=ys.length
 | [],_,_,_=>by simp
 | x :: xs,ys,hn,h=>by
  have F:=D_.mp hn;have U:=h x (by simp)
  have:=sK (xs:=xs) (ys:=ys.erase x) F.2 λz Z=>by
   have L:z≠x:=λe=>F.1 (e ▸ Z)
   exact(List.mem_erase_of_ne L).mpr (h z (by simp[Z]))
  rw[List.length_erase_of_mem U] at this;have:=List.length_pos_of_mem U
  simp
  omega
theorem xq {w:Str} (h:fK w) {F:List Str} (hF:F.length < 26) : ∃n,mG n w∉F:=by
 obtain⟨c,cs,e,hc,ac,hl⟩:=h.cons;have L : ∀i j,i < 26->j < 26->mG i w=mG j w->i=j:=λi j hi hj q=>by
  have q2:=congrArg (λz:Str=>z.cps.toList) q
  simp only[zx _ e hc] at q2;have q3:=(List.cons.inj q2).1;omega
 refine Classical.byContradiction λaa=>?_
 have U : ∀n,mG n w∈F:=λn=>Classical.byContradiction λq=>aa ⟨n,q⟩
 have Z:((range 26).map λn=>mG n w).Nodup:=by
  refine Js.mpr (List.Pairwise.imp_of_mem (λ{i j} hi hj q e=>q (L i j (x5.mp hi) (x5.mp hj) e)) (nodup_range (n:=26)))
 have:=sK (ys:=F) Z λx hx=>by
  obtain⟨n,_,rfl⟩:=v9.mp hx;exact U n
 simp at this
 omega
theorem BV (a b:Str):eqV (.str a) (.str b)=decide (a=b):=by
 show(a == b)=decide (a=b)
 rw[t5];simp
theorem ik (x:Str) (ys:List Str):inV (.str x) (ys.map V.str)=decide (x∈ys):=by
 rw[t5];simp only[inV,any_map,IP,Function.comp,BV,decide_eq_true_eq]
 constructor
 .rintro⟨y,hy,rfl⟩;exact hy
 .exact λh=>⟨x,h,rfl⟩
theorem kX (ys:List Str):(ys.map V.str).all eM=true:=by
 rw[l9];intro x F;obtain⟨y,_,rfl⟩:=v9.mp F;rfl
def de:List Str:=["in","from","to","end"]
structure dZ (ws:List Str):Prop where
 nm : ∀w∈ws,fK w
 nd:ws.Nodup
 nomark : ∀w∈ws,w∉de
theorem dZ.nil:dZ []:=⟨by simp,by simp,by simp⟩
theorem dZ.snoc {w:Str} (h:dZ ws) (hw:fK w) (Z:w∉ws) (hm:w∉de):dZ (ws++[w]):=by
 refine⟨λx F=>?_,?_,λx F=>?_⟩
 .rcases t0.mp F with q | q
  .exact h.nm x q
  .rw[k_.mp q];exact hw
 .rw[Iv]
  refine⟨h.nd,by simp,λa L b U=>?_⟩
  rw[k_.mp U];rintro rfl
  exact Z L
 .rcases t0.mp F with q | q
  .exact h.nomark x q
  .rw[k_.mp q];exact hm
theorem ib (x:α) (xs:List α):atI (x :: xs) 0=some x:=bh (j:=0) rfl
theorem A3 {r:Int} (F:fK z) (hc:bV c=true) (Z:0<=r) (r1:r < z.length):fK (Ip z none (some r)++(Str.mk #[c])++Ip z (some (r+1)) none):=by
 obtain⟨n,rfl⟩:=Int.eq_ofNat_of_zero_le Z;have hn:n < z.length:=()
 have hl:=eW z;have e:(Ip z none (some (n:Int))++(Str.mk #[c])++Ip z (some ((n:Int)+1)) none).cps.toList=z.cps.toList.take n++[c]++z.cps.toList.drop (n+1):=by
  rw[cx,cx,kK,kK,HT.sIx_none,HT.sIx_nat,HT.sIx_none,show((n:Int)+1)=((n+1:Nat):Int) by omega,HT.sIx_nat,Jm (),Jm ()]
  rw[drop_zero,sub_zero,x6 (i:=z.length - (n+1)) (by rw[Jk,hl];omega)]
 have h8:=F.le;have L:(Ip z none (some (n:Int))++(Str.mk #[c])++Ip z (some ((n:Int)+1)) none).length=z.length:=by
  rw[<- eW,e];simp only[HD,m8,Jk,l_,length_nil,hl];omega
 refine⟨(),(),λx U=>?_⟩
 rw[e] at U;rcases t0.mp U with q | q
 .rcases t0.mp q with q | q
  .exact F.small x (G3 q)
  .rw[k_.mp q];exact hc
 .exact F.small x (List.mem_of_mem_drop q)
theorem uI (cs:List Nat):(Txt.join (d_ "") (cs.map λc=>Str.mk #[c])).cps.toList=cs:=by
 rw[zL]
 induction cs with
 | nil=>rfl
 | cons c cs F=>simp[F]
theorem xU (cs:List Nat):((cs.map λc=>Str.mk #[c]).map λx=>x.length).sum=cs.length:=by
 induction cs with
 | nil=>rfl
 | cons c cs F =>
  rw[k9,k9,List.sum_cons,F]
  show 1+cs.length=cs.length+1
  omega
def tF:V->Option Int->Option Int->Hp->VK->Prop:=λx lo hi H Q=>∃a,x = .ref a/\∃xs,H a>>xs/\∀p H',H' p>>(dJ xs lo hi)->ak H H'->Q (.ref p) H'
theorem hV:SlR X tF:=G9.imp λ_ _ _ _ _ F=>by obtain⟨a,e,xs,h,q⟩:=F;exact(⟨a,e,xs,h,λL=>q a _ (by rw[L];exact h) (ak.refl _),λp hp=>q p _ ae (ak.upd0 hp)⟩)
def zq:R2:=λx y H Q=>∃l,x = .ref l/\∃b,y = .ref b/\∃xs,H l>>xs/\∃ys,H b>>ys/\xs.length+ys.length<=g_/\∀p H',H' p>>(xs++ys)->ak H H'->Q (.ref p) H'
theorem cQ:OpR X (HQ .Add) zq:=Ar.imp λ_ _ _ _ ⟨l,e,b,e2,xs,h,ys,h2,hl,q⟩=>⟨l,e,b,e2,xs,h,ys,h2,hl,
 λL=>q b _ (by rw[L];exact h2) (ak.refl _),λ_ F=>q l _ (by rw[F,HY];exact h) (ak.refl _),λ_ _ p hp=>q p _ ae (ak.upd0 hp)⟩
def qb:AD:=λo i v H Q=>∃p,o = .ref p/\∃k,i = .int k/\∃xs,H p*>xs/\0<=k/\k < xs.length/\Q (upd H p (.lst (xs.set k.toNat v)))
theorem wl:C7 X qb:=λpins s σ H o i v ov U u Q I Z ri L F=>by obtain⟨p,e1,k,e2,xs,h,k0,k1,q⟩:=F;exact(sH pins s σ H o i v ov U u Q I Z ri L ⟨p,xs,k,k.toNat,e1,e2,h,by unfold ixN;rw[if_pos k0,if_pos ()],q⟩)
theorem gb (f:α->V) (xs:List α) (n:Nat):dJ (xs.map f) none (some (n:Int))=(xs.take n).map f:=by
 unfold dJ;rw[HT.sIx_none,HT.sIx_nat,drop_zero,sub_zero,f_,map_take]
 by_cases h:n<=xs.length
 .rw[Jm h]
 .rw[Nat.min_eq_right (),x6 (by simp),x6 (by simp;omega)]
theorem gn (f:α->V) (xs:List α) (n:Nat):dJ (xs.map f) (some (n:Int)) none=(xs.drop n).map f:=by
 unfold dJ;rw[HT.sIx_none,HT.sIx_nat,f_,map_drop]
 by_cases h:n<=xs.length
 .rw[Jm h,x6 (by simp)]
 .rw[Nat.min_eq_right (),List.drop_of_length_le (l:=List.map f xs) (i:=n) (by simp;omega)]
  simp
theorem gM (f:α->V) (xs:List α):dJ (xs.map f) none (some (-1))=xs.dropLast.map f:=by
 unfold dJ;have e:HT.sIx (List.map f xs).length (List.map f xs).length (some (-1))=xs.length - 1:=by
  show(if (-1:Int) < 0 then((-1:Int)+((List.map f xs).length:Int)).toNat else min (-1:Int).toNat (List.map f xs).length)=_
  rw[if_pos ∅,f_]
  omega
 rw[e,HT.sIx_none,drop_zero,sub_zero,List.dropLast_eq_take,map_take]
theorem G6 (x:α) (xs:List α):atI (x :: xs) 0=some x:=bh (j:=0) rfl
theorem Hh (x y:α) (xs:List α):atI (x :: y :: xs) 1=some y:=bh (j:=1) rfl
theorem Hm (x y z:α) (xs:List α):atI (x :: y :: z :: xs) 2=some z:=bh (j:=2) rfl
theorem GV (x y z a:α) (xs:List α):atI (x :: y :: z :: a :: xs) 3=some a:=bh (j:=3) rfl
theorem Hs (x y z a b:α) (xs:List α):atI (x :: y :: z :: a :: b :: xs) 4=some b:=bh (j:=4) rfl
theorem Bi {a b:String}:(d_ a=d_ b)=(a=b):=by
 refine propext ⟨λh=>?_,λh=>by rw[h]⟩
 rw[Str.ofString_eq_toList,Str.ofString_eq_toList] at h;have h1:=congrArg (λs:Str=>s.cps.toList) h
 simp only[List.toList_toArray] at h1;have key : ∀(L F:List Char),L.map Char.toNat=F.map Char.toNat->L=F:=by
  intro L
  induction L with
  | nil=>intro F h;cases F with
   | nil=>rfl
   | cons a b=>cases h
  | cons a b U=>intro F h;cases F with
   | nil=>cases h
   | cons c d =>
    rw[k9,k9,List.cons.injEq] at h;rw[U d h.2,Char.toNat_inj.mp h.1]
 exact String.toList_injective (key _ _ h1)
theorem PG.imp {g g':TG} (h:PG X tg g) (i : ∀v σ H Q,g' v σ H Q->g v σ H Q):PG X tg g':=λpins s σ H v u Q I r q=>h pins s σ H v u Q I r (i _ _ _ _ q)
def tq (n:Nat) (t:TGs):TG:=λv σ H Q=>∃a,v = .ref a/\∃xs,H a>>xs/\xs.length=n/\t xs σ H Q
theorem mi {t:TGs} (Z:X.calm=true) (h:PGs X es t)
  (U:(JE es X.env).length=n:=by rfl) (L:(JE es X.env).findIdx? (·.1)=none:=by rfl):PG X (.Tuple es k pos) (tq n t) :=
 (Do Z h U L).imp λ_ _ _ _ F=>by obtain⟨a,e,xs,h,hl,q⟩:=F;exact(⟨a,xs,e,.of h,hl,q⟩)
theorem rz {κ:Type} [DecidableEq κ] : ∀{kvs:List (κ × V)} {k:κ} {v:V},(kvs.map (·.1)).Nodup->(k,v)∈kvs->cu kvs k=some v
 | (a,b) :: r,k,v,hn,hm=>by
  rw[k9,D_] at hn;rcases i4.mp hm with e | e
  .cases e
   exact dv rfl
  .have hne : ¬ a=k:=λz=>hn.1 (by subst z;exact v9.mpr ⟨(a,v),e,rfl⟩)
   rw[bL hne];exact rz hn.2 e
def aF (mg:Str->Option Value) (x:Str):Addr:=match mg x with | some (.ref a)=>a | _=>0
theorem cw (h:mg x=-C):aF mg x=C:=by unfold aF;rw[h]
def Ay (K:e_) (R:Addr->Prop) (x q:Str) (st:Stmt) (ps:List Str):Prop:=∃f fd,Fun K x q st f fd/\R f/\dP K fd ps []
def FnR (P:Program) (w:World) (K:e_) (mg:Str->Option Value) (base:Heap) (R:Addr->Prop) (k:Nat) (ps:List Str) (sp:Sp):Prop:=∃f fd,dY P w K mg base CX0 k f fd ps sp/\R f/\dP K fd ps []
section
variable {R:Addr->Prop}
theorem Ay.ok {x q:Str} {st:Stmt} {N ps:List Str} {k:Nat} {sp:Sp} (F:Ay K R x q st ps) (S:az N ps (am st)) (len : ∀vs H Q E,sp vs H Q E->vs.length=ps.length)
  (L : ∀(f:Addr) (cdv:Value) (A:Around) (outer:List Env) (s:Shared) (H:Hp) (vs:List V) (Q:VK) (E:XK),ce k (A.deeper (envOfC q (am st) s.heap.objs.size f cdv))->sp vs H Q E ->
   ∃t,PSs (ci CX0 P w K mg base N q (am st) f cdv A outer s H E).nox (br st) t/\t { nx:=λ_ H'=>Q .non H',rt:=Q } (fu N vs) H):FnR P w K mg base R (k+1) ps sp:=by
 obtain⟨f,fd,F,r,b⟩:=F;exact⟨f,fd,F.ok S len (L f),r,b⟩
theorem BH {q:Str} {F:Option Addr} {kV:Value} (r:R f)
  (l:K.lookup f=some ⟨oc,od,.func (fnOf x q (bQ st) (br st) (am st) .none kV doc pm F cdv ct),osl⟩)
  (c:codeIn K cdv q=true) (k:IT K (.ref f)=true)
  (L : ∀(kV doc pm:Value) (F:Option Addr) (cdv ct:Value) (us:List Value),us.length=ps.length->bindArgs (fnOf x q (bQ st) (br st) (am st) .none kV doc pm F cdv ct) ⟨us,[]⟩=pure (ps.zip us)):Ay K R x q st ps :=
 ⟨f,_,iX l c k,r,(iX l c k).binds L⟩
end
section
variable {l:Expr}
theorem rj (K:e_) (hl:PE X l tl) (hK:X.K=K:=by exact rfl):PI X tg l (iL K tl):=by subst hK;exact GZ hl
theorem kZ (K:e_) (hl:PE X l tl) (hK:X.K=K:=by exact rfl):PI X tg l (iT K tl):=by subst hK;exact GF hl
def yI:List V->Hp->VK->Prop:=λxs H Q=>∃p,xs=[.ref p]/\∃bs:List Bool,H p*>(bs.map V.bl)/\Q (.bl (bs.all id)) H
theorem ir (L:X.calm=true):bP X (.builtin "all") yI:=(vz L).imp λ_ _ _ F=>by obtain⟨p,e,bs,h,q⟩:=F;exact(⟨p,bs,e,.of h,q⟩)
end
theorem xy {C:Hp->Prop} (w:Wlk J xs C) {te:TE} {σ0:St} {Q:VK} {H1:Hp} {D:Addr} (f:V->V) (L:H1 D=none) (hC : ∀H',ak H1 H'->C H') (hn:xs.length<=10000)
  (he : ∀(x:V) (H2:Hp) (Z:VK),x∈xs->ak H1 H2->(∀H3,ak H2 H3->Z (f x) H3)->te (σ0.set 0 (some x)) H2 Z)
  (F : ∀H2,ak H1 H2->H2 D*>(xs.map f)->Q (.ref D) H2):lq J σ0 (cH 0) lU te Q H1 D:=by
 refine eR w (λi ys H=>ys=(xs.take i).map f/\i<=xs.length/\ak H1 H/\H D*>ys) ⟨by simp,HG _,ak.upd0 L,ae⟩ (λi ys H h=>hC _ h.2.2.1) ?_ ?_
 .rintro i x ys H hi hx ⟨rfl,hle,sm,F⟩
  simp only[cH,lU,if_true];refine he x H _ (j7 hx) sm λH4 U=>⟨U _ _ F,by simp;exact Nat.lt_of_le_of_lt (n_ (Nat.min_le_right _ _) hn) ∅,?_,hi,?_,ae⟩
  .rw[w5,hx];simp
  .exact λb o e=>by rw[ah (aj e L)];exact U _ _ (sm b o e)
 .rintro ys H ⟨rfl,_,sm,hd'⟩
  rw[A_] at hd';exact F H sm hd'
section
def DB (ty td:TE):TE:=λσ H Q=>ty σ H λy H1=>td σ H1 λx H2=>∃a,x = .ref a/\∃k,y=kV k/\∃kvs,H2 a<*kvs/\Q (.bl (!(cu kvs k).isSome)) H2
variable {o i:Expr} {td ty:TE}
theorem qO (hu:X.A.units+1 < cLine) (hi:PE X i ty) (ho:PE X o td):PC X .In i o (tDI ty td):=by
 intro pins s σ H Q I h;refine thn (hi pins s σ H _ I h) λiv s1 ⟨y,H1,I1,ry,q1⟩=>thn (ho pins s1 σ H1 _ I1 q1) λu s2 F=>?_
 obtain⟨x,H2,I2,rx,a,ex,k,L,kvs,U,Z⟩:=F;subst ex;subst L;obtain rfl:u=i8 a:=rx
 have g:uU H2 a (kV k) (cu kvs k):=.inl ⟨kvs,k,.inl U,rfl,rfl⟩
 exact GN hu I2 g ry λs3 I3=>⟨.bl (cu kvs k).isSome,H2,I3,rfl,Z⟩
theorem tZ (hu:X.A.units+1 < cLine) (hi:PE X i ty) (ho:PE X o td):PC X .NotIn i o (DB ty td):=by
 intro pins s σ H Q I h;refine thn (hi pins s σ H _ I h) λiv s1 ⟨y,H1,I1,ry,q1⟩=>thn (ho pins s1 σ H1 _ I1 q1) λu s2 F=>?_
 obtain⟨x,H2,I2,rx,a,ex,k,L,kvs,U,Z⟩:=F;subst ex;subst L;obtain rfl:u=i8 a:=rx
 have g:uU H2 a (kV k) (cu kvs k):=.inl ⟨kvs,k,.inl U,rfl,rfl⟩
 exact AL hu I2 g ry λs3 I3=>⟨.bl (!(cu kvs k).isSome),H2,I3,rfl,Z⟩
end
end L2
namespace PySem
open PyProof.Rows
theorem uy:isSubtype (.type "tuple") (.type "frozenset")=pure false:=by rw[isSubtype_type];kernel_rfl
theorem uZ {J T:Addr} (a:s.heap.IsTupleIter J T i) (b:s.heap.IsTuple T vs) (c:vs[i]? = some v)
  (k : ∀g,g.IsTupleIter J T (i+1)->H_ J s.heap g->Q v { s with heap:=g }):wpAny (model prog w) A (o_ (.ref J)) Q E s:=by
 obtain⟨oJ,U,Z,L⟩:=id a;obtain⟨oT,b1,_,bn,b2⟩:=b;unfold o_;refine a_ (C_ (name:=d_ "__next__") a.typeIs IJ (x4 IJ a.typeIs F.entry_tuple_iterator_next ?_ (F.args_tuple_iterator_next_1 _)))
 change wpAny _ _ (field (.ref J) 0 >>= _) _ _ s;refine a_ (o9 U L (x:=.ref T) rfl ?_)
 change wpAny _ _ (if (i8 T == v_)=true then _ else _) _ _ s;rw[if_neg (show ¬ ((i8 T == v_)=true) from i6)]
 change wpAny _ _ (field (.ref J) 1 >>= _) _ _ s;refine a_ (o9 U L (x:=.int i 0) rfl ?_)
 change wpAny _ _ (seqItems? (.ref T) >>= _) _ _ s;refine a_ (z_ b1 b2 ?_)
 simp only[Int.toNat_natCast,c];refine a_ (wpAny_setField U L (by simp) (b_ ⟨v,rfl,b_ (k _ ⟨_,HW _ U (Obj.isFreed_of_fields (Obj.data_mapFields L _)),(Obj.cls_mapFields ..).trans Z,?_⟩ (JL ..))⟩))
 rw[Obj.data_mapFields L];simp[HU]
theorem iJ {J T:Addr} (Z:A.handled=none) (a:s.heap.IsTupleIter J T i) (b:s.heap.IsTuple T vs) (c:vs[i]? = none)
  (k : ∀g e,Heap.ExtBut J s.heap g->(∃o,g.get? e=some o/\o.cls = .type "StopIteration")->E (.ref e) { s with heap:=g }):wpAny (model prog w) A (o_ (.ref J)) Q E s:=by
 obtain⟨oJ,L,a2,U⟩:=id a;obtain⟨oT,b1,_,bn,b2⟩:=b;unfold o_;refine a_ (C_ (name:=d_ "__next__") a.typeIs IJ (x4 IJ a.typeIs F.entry_tuple_iterator_next ?_ (F.args_tuple_iterator_next_1 _)))
 change wpAny _ _ (field (.ref J) 0 >>= _) _ _ s;refine a_ (o9 L U (x:=.ref T) rfl ?_)
 change wpAny _ _ (if (i8 T == v_)=true then _ else _) _ _ s;rw[if_neg (show ¬ ((i8 T == v_)=true) from i6)]
 change wpAny _ _ (field (.ref J) 1 >>= _) _ _ s;refine a_ (o9 L U (x:=.int i 0) rfl ?_)
 change wpAny _ _ (seqItems? (.ref T) >>= _) _ _ s;refine a_ (z_ b1 b2 ?_)
 simp only[Int.toNat_natCast,c];refine a_ (wpAny_rule (a_ (wpAny_setField L U (by simp) ?_)))
 change wpAny _ _ (newExc (.type "StopIteration") [] >>= _) _ _ _;refine a_ (by
  simp only[newExc,newTuple];refine a_ (ra ?_ (by size_fits))
  refine a_ (m:=firstArgMember _ _) (wpAny_of_eq (a:=v_) (by first | rfl | (simp only[firstArgMember];rfl)) ?_)
  refine ra ?_ (by size_fits)
  (simp only[raiseNew];refine a_ (wpAny_handled ?_))
  first | rw[show A.in1.handled=none from Z] | rw[Z]
  refine a_ (b_ (wpAny_throw (k _ _ (((JL ..).extBut.push _).push _) ⟨_,ge _ rfl,rfl⟩))))
def ZIt:Bool->Heap->Addr->Addr->Nat->Prop
 | false=>Heap.IsTupleIter
 | true=>Heap.IsListIter
def ZSq:Bool->Heap->Addr->Array Value->Prop
 | false=>JV
 | true=>Heap.IsList
theorem ZIt.ex {g:Heap} (h:ZIt q g I S i) : ∃o,g.get? I=some o/\o.data = .fields #[.ref S,.int i 0]:=by
 cases q with
 | false=>obtain⟨o,h1,_,F⟩:=h;exact⟨o,h1,F⟩
 | true=>obtain⟨o,h1,_,F⟩:=h;exact⟨o,h1,F⟩
theorem ZIt.at {q:Bool} {g g':Heap} {I S:Addr} {i:Nat} (h:ZIt q g I S i) (e : ∀o,g.get? I=some o->g'.get? I=some o):ZIt q g' I S i:=by
 cases q with
 | false=>exact Heap.IsTupleIter.at h e
 | true=>exact Heap.IsListIter.at h e
theorem ZIt.extBut {g g':Heap} (h:ZIt q g I S i) (hs:Heap.ExtBut b g g') (F:I≠b):ZIt q g' I S i:=h.at λo e=>hs _ _ F e
theorem ZSq.at {g g':Heap} {xs:Array Value} (h:ZSq q g S xs) (e : ∀o,g.get? S=some o->g'.get? S=some o):ZSq q g' S xs:=by
 cases q with
 | false=>obtain⟨o,h1,r⟩:=h;exact⟨o,e _ h1,r⟩
 | true=>obtain⟨o,h1,r⟩:=h;exact⟨o,e _ h1,r⟩
theorem ZSq.extBut {g g':Heap} {xs:Array Value} (h:ZSq q g S xs) (hs:Heap.ExtBut b g g') (F:S≠b):ZSq q g' S xs:=h.at λo e=>hs _ _ F e
theorem ZSq.ex {g:Heap} {xs:Array Value} (h:ZSq q g S xs) : ∃o,g.get? S=some o:=by
 cases q with
 | false=>obtain⟨o,h1,_⟩:=h;exact⟨o,h1⟩
 | true=>obtain⟨o,h1,_⟩:=h;exact⟨o,h1⟩
theorem Av {J T:Addr} (a:ZIt q s.heap J T i) (b:ZSq q s.heap T vs) (c:vs[i]? = some v)
  (k : ∀g,ZIt q g J T (i+1)->H_ J s.heap g->Q v { s with heap:=g }):wpAny (model prog w) A (o_ (.ref J)) Q E s:=by
 cases q with
 | false=>exact uZ a b c k
 | true=>exact wpAny_nextOf_list_item a b c k
theorem vv {J T:Addr} (F:A.handled=none) (a:ZIt q s.heap J T i) (b:ZSq q s.heap T vs) (c:vs[i]? = none)
  (k : ∀g e,Heap.ExtBut J s.heap g->(∃o,g.get? e=some o/\o.cls = .type "StopIteration")->E (.ref e) { s with heap:=g }):wpAny (model prog w) A (o_ (.ref J)) Q E s:=by
 cases q with
 | false=>exact iJ F a b c k
 | true=>exact wpAny_nextOf_list_end F a b c k
structure gB (q:Bool) (g:Heap) (z P O I J S T:Addr) (i:Nat) (f0 f1:Value):Prop where
 zz:g.get? z=some { cls:=.type "zip",dict:=none,data:=.fields #[f0,f1,.bool false,.ref P,.ref O],slots := #[] }
 pp:IsPair g P (.ref I) (.ref J)
 oo : ∃a b,IsPair g O a b
 ii:ZIt q g I S i
 jj:g.IsTupleIter J T i
theorem gB.keep {g g':Heap} {z P J T:Addr} (h:gB q g z P O I J S T i f0 f1) (k : ∀b∈[z,P,O,I,J],∀o,g.get? b=some o->g'.get? b=some o):gB q g' z P O I J S T i f0 f1:=by
 obtain⟨a,b,oo⟩:=h.oo;exact⟨k z (by simp) _ h.zz,k P (by simp) _ h.pp,⟨a,b,k O (by simp) _ oo⟩,h.ii.at λo e=>k I (by simp) o e,h.jj.at λo e=>k J (by simp) o e⟩
theorem A8 {z P J T:Addr} {xs ys:Array Value} {x y:Value} (D:ZipApart z P O I J S T) (Z:gB q s.heap z P O I J S T i .none (.bool false))
  (hS:ZSq q s.heap S xs) (hT:s.heap.IsTuple T ys) (hx:xs[i]? = some x) (hy:ys[i]? = some y)
  (k : ∀g,gB q g z P O I J S T (i+1) (HU s.heap.objs.size) (.bool false)->IsPair g s.heap.objs.size x y->g.objs.size=s.heap.objs.size+1 ->
   (∀c o,c≠z->c≠O->c≠I->c≠J->s.heap.get? c=some o->g.get? c=some o)->Q (.ref s.heap.objs.size) { s with heap:=g }) :
  wpAny (model prog w) A (Builtin.«zip.__next__» ⟨[.ref z],[]⟩) (λaa s'=>∃v,aa = .done (.ret v)/\Q v s') E s:=by
 have zz:=Z.zz;obtain⟨a,b,oo⟩:=Z.oo;change wpAny _ _ (field (.ref z) 2 >>= _) _ _ _;refine a_ (o9 zz rfl (x:=.bool false) rfl ?_)
 change wpAny _ _ (field (.ref z) 3 >>= _) _ _ _;refine a_ (o9 zz rfl (x:=.ref P) rfl ?_)
 refine a_ (z_ Z.pp rfl ?_)
 change wpAny _ _ (HH (.ref z) >>= _) _ _ _;refine a_ (by
  unfold HH;refine a_ (o9 zz rfl (x:=.none) rfl (b_ ?_))
  simp only[if_true];refine a_ (wpAny_rule ?_)
  refine a_ (o9 zz rfl (x:=.ref O) rfl ?_)
  refine a_ (Iy zz (by simp) λg1 z1 s1=>?_)
  replace z1:g1.get? z=some { cls:=.type "zip",dict:=none,data:=.fields #[.ellipsis,.bool false,.bool false,.ref P,.ref O],slots := #[] }:=z1
  refine a_ ?_
  simp only[List.zipIdx_cons,List.zipIdx_nil,forIn_cons,List.forIn_nil];refine a_ (a_ (wpAny_onRaise ?_))
  change wpAny _ _ (o_ (.ref I) >>= _) _ _ _;refine a_ (Av (Z.ii.extBut s1.extBut D.i1z) (hS.extBut s1.extBut D.l1z) hx λg2 i2 U=>b_ ?_)
  have o2:IsPair g2 O a b:=U.extBut _ _ D.TOi1 (s1.extBut _ _ D.TOz oo)
  refine a_ (z_ o2 rfl ?_)
  refine a_ (wpAny_updateSeq_pair o2 λg3 o3 s3=>?_)
  replace o3:IsPair g3 O x b:=o3
  refine a_ (wpAny_letGo (b_ ?_))
  refine a_ (a_ (wpAny_onRaise ?_))
  change wpAny _ _ (o_ (.ref J) >>= _) _ _ _;refine a_ (uZ (((Z.jj.extBut s1.extBut D.i2z).extBut U.extBut D.i12.symm).extBut s3.extBut D.TOi2.symm) (((hT.extBut s1.extBut D.l2z).extBut U.extBut D.l2i1).extBut s3.extBut D.l2TO) hy λg4 j4 s4=>b_ ?_)
  have o4:IsPair g4 O x b:=s4.extBut _ _ D.TOi2 o3
  refine a_ (z_ o4 rfl ?_)
  refine a_ (wpAny_updateSeq_pair o4 λF o5 s5=>?_)
  replace o5:IsPair F O x y:=o5
  refine a_ (wpAny_letGo (b_ (b_ ?_)))
  refine a_ (z_ o5 rfl ?_)
  refine a_ (wpAny_newTuple ?_)
  have sz:F.objs.size=s.heap.objs.size:=by rw[s5.1,s4.1,s3.1,U.1,s1.1]
  have z5:=s5.extBut _ _ D.TOz.symm (s4.extBut _ _ D.i2z.symm (s3.extBut _ _ D.TOz.symm (U.extBut _ _ D.i1z.symm z1)));have k5 : ∀c o,c≠z->c≠O->c≠I->c≠J->s.heap.get? c=some o->F.get? c=some o:=λc o L c2 c3 c4 e =>
   s5.extBut _ _ c2 (s4.extBut _ _ c4 (s3.extBut _ _ c2 (U.extBut _ _ c3 (s1.extBut _ _ L e))))
  have i5:ZIt q F I S (i+1):=((i2.extBut s3.extBut D.TOi1.symm).extBut s4.extBut D.i12).extBut s5.extBut D.TOi1.symm
  have j5:F.IsTupleIter J T (i+1):=j4.extBut s5.extBut D.TOi2.symm
  have zl:z < F.objs.size:=fy z5
  change wpAny _ _ (Builtin.SmallTypes.ownedTupleHandOut (.ref z) (.ref F.objs.size) >>= _) _ _ _;refine a_ ?_
  unfold Builtin.SmallTypes.ownedTupleHandOut;have z6:=c_ { cls:=.type "tuple",data:=.seq #[x,y] } z5;refine a_ (Iy z6 (by simp) λg7 z7 s7=>?_)
  refine Iy z7 (by simp) λg8 z8 s8=>?_
  have up : ∀c o,c≠z->F.get? c=some o->g8.get? c=some o:=λc o L e=>s8.extBut _ _ L (s7.extBut _ _ L (c_ _ e))
  have t8:IsPair g8 F.objs.size x y:=s8.extBut _ _ (IE zl) (s7.extBut _ _ (IE zl) (ge _ rfl))
  have l8:g8.objs.size=F.objs.size+1:=by rw[s8.1,s7.1,G2]
  refine b_ ⟨_,rfl,?_⟩
  have zf:gB q g8 z P O I J S T (i+1) (HU F.objs.size) (.bool false) :=
   ⟨z8,up _ _ D.TIz (k5 _ _ D.TIz D.TITO D.TIi1 D.TIi2 Z.pp),⟨x,y,up _ _ D.TOz o5⟩,i5.at λo e=>up _ o D.i1z e,j5.at λo e=>up _ o D.i2z e⟩
  rw[sz] at zf t8 l8;change Q (.ref F.objs.size) _;rw[sz];exact k g8 zf t8 l8 λc o L c2 c3 c4 e=>up c o L (k5 c o L c2 c3 c4 e))
theorem Db {z P J T:Addr} {xs ys:Array Value} {Q:Fin->Shared->Prop} (hd:A.handled=none) (D:ZipApart z P O I J S T) (Z:gB q s.heap z P O I J S T i .none (.bool false))
  (hS:ZSq q s.heap S xs) (hT:s.heap.IsTuple T ys) (hx:xs[i]? = none\/ys[i]? = none)
  (k : ∀g e,(∀c o,c≠z->c≠O->c≠I->c≠J->s.heap.get? c=some o->g.get? c=some o)->(∃o,g.get? e=some o/\o.cls = .type "StopIteration")->E (.ref e) { s with heap:=g }) :
  wpAny (model prog w) A (Builtin.«zip.__next__» ⟨[.ref z],[]⟩) Q E s:=by
 have zz:=Z.zz;obtain⟨a,b,oo⟩:=Z.oo;change wpAny _ _ (field (.ref z) 2 >>= _) _ _ _;refine a_ (o9 zz rfl (x:=.bool false) rfl ?_)
 change wpAny _ _ (field (.ref z) 3 >>= _) _ _ _;refine a_ (o9 zz rfl (x:=.ref P) rfl ?_)
 refine a_ (z_ Z.pp rfl ?_)
 change wpAny _ _ (HH (.ref z) >>= _) _ _ _;refine a_ (by
  unfold HH;refine a_ (o9 zz rfl (x:=.none) rfl (b_ ?_))
  simp only[if_true];refine a_ (wpAny_rule ?_)
  refine a_ (o9 zz rfl (x:=.ref O) rfl ?_)
  refine a_ (Iy zz (by simp) λg1 z1 s1=>?_)
  refine a_ ?_
  simp only[List.zipIdx_cons,List.zipIdx_nil,forIn_cons,List.forIn_nil];refine a_ (a_ (wpAny_onRaise ?_))
  change wpAny _ _ (o_ (.ref I) >>= _) _ _ _;cases ex:xs[i]? with
  | none =>
   refine a_ (vv hd (Z.ii.extBut s1.extBut D.i1z) (hS.extBut s1.extBut D.l1z) ex λg2 e U he=>?_)
   obtain⟨oe,F,L⟩:=he;have z2:=U _ _ D.i1z.symm z1;have ez:e≠z:=λq=>by subst q;rw[z2] at F;cases F;simp at L
   refine Iy z2 (by simp) λg3 _ s3=>k g3 e (λc o c1 _ c3 _ q=>s3.extBut _ _ c1 (U _ _ c3 (s1.extBut _ _ c1 q))) ⟨oe,s3.extBut _ _ ez F,L⟩
  | some x =>
   have hy:ys[i]? = none:=by rcases hx with q | q;(rw[ex] at q;cases q);exact q
   refine a_ (Av (Z.ii.extBut s1.extBut D.i1z) (hS.extBut s1.extBut D.l1z) ex λg2 i2 U=>b_ ?_)
   have o2:IsPair g2 O a b:=U.extBut _ _ D.TOi1 (s1.extBut _ _ D.TOz oo)
   refine a_ (z_ o2 rfl ?_)
   refine a_ (wpAny_updateSeq_pair o2 λg3 o3 s3=>?_)
   refine a_ (wpAny_letGo (b_ ?_))
   refine a_ (a_ (wpAny_onRaise ?_))
   change wpAny _ _ (o_ (.ref J) >>= _) _ _ _;refine a_ (iJ hd (((Z.jj.extBut s1.extBut D.i2z).extBut U.extBut D.i12.symm).extBut s3.extBut D.TOi2.symm) (((hT.extBut s1.extBut D.l2z).extBut U.extBut D.l2i1).extBut s3.extBut D.l2TO) hy λg4 e s4 he=>?_)
   obtain⟨oe,F,L⟩:=he;have z4:=s4 _ _ D.i2z.symm (s3.extBut _ _ D.TOz.symm (U.extBut _ _ D.i1z.symm z1));have ez:e≠z:=λq=>by subst q;rw[z4] at F;cases F;simp at L
   refine Iy z4 (by simp) λg5 _ s5=>k g5 e (λc o c1 c2 c3 c4 q=>s5.extBut _ _ c1 (s4 _ _ c4 (s3.extBut _ _ c2 (U.extBut _ _ c3 (s1.extBut _ _ c1 q))))) ⟨oe,s5.extBut _ _ ez F,L⟩)
theorem wj {hp:Heap} {T:Addr} {xs ys:Array Value} (h1:ZSq q hp S xs) (h2:hp.IsTuple T ys) {L F U G4 Z:Heap} (e1:L=hp.push { cls:=.type (if q then "list_iterator" else "tuple_iterator"),data:=.fields #[.ref S,.int 0 0] })
  (e2:F=L.push { cls:=.type "tuple_iterator",data:=.fields #[.ref T,.int 0 0] }) (e3:U=F.push { cls:=.type "tuple",data:=.seq #[.ref hp.objs.size,.ref L.objs.size] }) (e4:G4=U.push { cls:=.type "tuple",data:=.seq #[.none,.none] })
  (e5:Z=G4.push { cls:=.type "zip",data:=.fields #[.none,.bool false,.bool false,.ref F.objs.size,.ref U.objs.size] }) :
  gB q Z G4.objs.size F.objs.size U.objs.size hp.objs.size L.objs.size S T 0 .none (.bool false)/\ZipApart G4.objs.size F.objs.size U.objs.size hp.objs.size L.objs.size S T/\G4.objs.size=hp.objs.size+4/\U.objs.size=hp.objs.size+3/\F.objs.size=hp.objs.size+2/\L.objs.size=hp.objs.size+1/\∀c o,hp.get? c=some o->Z.get? c=some o:=by
 have n1:L.objs.size=hp.objs.size+1:=by rw[e1,G2]
 have n2:F.objs.size=hp.objs.size+2:=by rw[e2,G2,n1]
 have n3:U.objs.size=hp.objs.size+3:=by rw[e3,G2,n2]
 have n4:G4.objs.size=hp.objs.size+4:=by rw[e4,G2,n3]
 have p5 : ∀c o,G4.get? c=some o->Z.get? c=some o:=λc o e=>by rw[e5];exact c_ _ e
 have p4 : ∀c o,U.get? c=some o->Z.get? c=some o:=λc o e=>p5 c o (by rw[e4];exact c_ _ e)
 have p3 : ∀c o,F.get? c=some o->Z.get? c=some o:=λc o e=>p4 c o (by rw[e3];exact c_ _ e)
 have p2 : ∀c o,L.get? c=some o->Z.get? c=some o:=λc o e=>p3 c o (by rw[e2];exact c_ _ e)
 have p1 : ∀c o,hp.get? c=some o->Z.get? c=some o:=λc o e=>p2 c o (by rw[e1];exact c_ _ e)
 obtain⟨oS,hS⟩:=h1.ex;obtain⟨oT,hT,_⟩:=id h2;refine⟨⟨by rw[e5];exact ge _ rfl,p4 _ _ (by rw[e3];exact ge _ rfl),⟨.none,.none,p5 _ _ (by rw[e4];exact ge _ rfl)⟩,(by cases q <;> exact⟨_,p2 _ _ (by rw[e1];exact ge _ rfl),rfl,rfl⟩),⟨_,p3 _ _ (by rw[e2];exact ge _ rfl),rfl,rfl⟩⟩,?_,n4,n3,n2,n1,p1⟩
 rw[n1,n2,n3,n4];exact PyProof.Rows.zipApart_new (fy hS) (fy hT)
set_option maxHeartbeats 0 in
theorem zm (q:Bool) (S T:Addr) (xs ys:Array Value):Meets (Builtin.«zip.__new__» ⟨[.type "zip",.ref S,.ref T],[]⟩) (λ_ R s=>ZSq q s.heap S xs/\s.heap.IsTuple T ys /\
   ∀g z P O I J,gB q g z P O I J S T 0 .none (.bool false)->ZipApart z P O I J S T->s.heap.objs.size<=z->s.heap.objs.size<=P->s.heap.objs.size<=O->s.heap.objs.size<=I->s.heap.objs.size<=J->(∀c o,s.heap.get? c=some o->g.get? c=some o)->R (.ok (.ret (.ref z))) { s with heap:=g }) :=
 .of_wp λprog w A R s h=>by
  obtain⟨hp,g,d,tk,os⟩:=s;obtain⟨h1,h2,h⟩:=h;have aa:=sub_zip;cases q with
  | false =>
   have q1:JV (Shared.heap ⟨hp,g,d,tk,os⟩) S xs:=h1
   have q2:JV (Shared.heap ⟨hp.push { cls:=.type "tuple_iterator",data:=.fields #[.ref S,.int 0 0] },g,d,tk,os⟩) T ys:=Heap.IsTuple.push h2 _
   wp_walk using B_ q1,B_ q2
   obtain⟨Z,zb,L,n3,n2,F,U⟩:=wj (hp:=hp) h1 h2 rfl rfl rfl rfl rfl;exact⟨_,rfl,h _ _ _ _ _ _ Z zb (n_ (Iw _ 4) (Jl L.symm)) (n_ (Iw _ 2) (Jl n2.symm)) (n_ (Iw _ 3) (Jl n3.symm)) (h_ _) (n_ (Iw _ 1) (Jl F.symm)) U⟩
  | true =>
   have q1:Heap.IsList (Shared.heap ⟨hp,g,d,tk,os⟩) S xs:=h1
   have q2:JV (Shared.heap ⟨hp.push { cls:=.type "list_iterator",data:=.fields #[.ref S,.int 0 0] },g,d,tk,os⟩) T ys:=Heap.IsTuple.push h2 _
   wp_walk using IM q1,B_ q2
   obtain⟨Z,zb,L,n3,n2,F,U⟩:=wj (hp:=hp) h1 h2 rfl rfl rfl rfl rfl;exact⟨_,rfl,h _ _ _ _ _ _ Z zb (n_ (Iw _ 4) (Jl L.symm)) (n_ (Iw _ 2) (Jl n2.symm)) (n_ (Iw _ 3) (Jl n3.symm)) (h_ _) (n_ (Iw _ 1) (Jl F.symm)) U⟩
theorem wM {T:Addr} {xs ys:Array Value} (h1:ZSq q s.heap S xs) (h2:s.heap.IsTuple T ys)
  (k : ∀g z P O I J,gB q g z P O I J S T 0 .none (.bool false)->ZipApart z P O I J S T->s.heap.objs.size<=z->s.heap.objs.size<=P->s.heap.objs.size<=O->s.heap.objs.size<=I->s.heap.objs.size<=J->(∀c o,s.heap.get? c=some o->g.get? c=some o)->Q (.ref z) { s with heap:=g }) :
  wpAny (model prog w) A (call (.type "zip") [.ref S,.ref T]) Q E s:=by
 refine callType_new F.called_zip ∅ (F.typeCall_zip_2 _ _) (F.newCall_zip_2 _ _) (λL=>F.args_object_init_3 L _ _) F.entry_zip_new (zm q S T xs ys) ⟨h1,h2,λg z P O I J Z D l1 l2 l3 U l5 kk=>?_⟩
 exact⟨⟨_,Z.zz,rfl⟩,k g z P O I J Z D l1 l2 l3 U l5 kk⟩
theorem fm {z P:Addr} (U:s.heap.get? z=some { cls:=.type "zip",dict:=none,data:=.fields #[f0,f1,.bool false,.ref P,.ref O],slots := #[] }) (h:Q (.ref z) s):wpAny (model prog w) A (pyIter (.ref z)) Q E s:=by
 have L:s.TypeIs (.ref z) "zip" :=⟨_,U,rfl⟩
 refine wpAny_pyIter_slot L F.slot_zip_iter (x4 F.slot_zip_iter L F.entry_zip_iter (by
  show wpAny _ _ (ret (.ref z)) _ _ s
  exact b_ ⟨_,rfl,"zip",_,L,JO.lookup,h⟩) (F.args_zip_iter_1 _))
end PySem
namespace L2
open PySem PySem.Spec PyProof.Rows
theorem Inv.turnedL {g:Heap} (I:Inv X pins σ H s) (k : ∀b o,b∉fp->s.heap.get? b=some o->g.get? b=some o) (L : ∀b∈fp,nD X pins H b):Inv X pins σ H { s with heap:=g,toks:=t' }:=by
 have U : ∀b u,H b=some u->b∉fp:=λb u e z=>by rw[(L b z).1] at e;cases e
 refine I.step (g':=s.gens) (d':=s.drawn) (ch:=fp) (λb Z=>⟨(L b Z).2.2.2.1,(L b Z).2.1,(L b Z).2.2.2.2.1,(L b Z).2.2.2.2.2⟩) (λb o _ _ F e _=>k b o F e) (λb o _ _ F e _=>⟨o.slots,k b o F e⟩) (λ_ _ _ _ n=>n)
  (λb o F e=>⟨o,k b o F e⟩) (λ_ _ e=>e) (λ_ _ _ e=>e) (λb ps e=>⟨#[],by rw[e];simp⟩) (λm hm=>?_) (λb u e=>?_) I.bare
 .obtain⟨o,es,ep,ho,r⟩:=hm
  exact⟨o,es,ep,k _ o (λz=>(L _ z).2.1 rfl) ho,r⟩
 .refine(I.hok b u e).stay (λc v F q=>k c v ?_ q) (λ_ q=>q) λ_ _ q=>q
  rcases F with z | z
  .rw[z];exact U b u e
  .exact U c _ z
theorem Inv.turnedNew {g:Heap} {u0:HO} (I:Inv X pins σ H s) (k : ∀b o,b∉fp->s.heap.get? b=some o->g.get? b=some o) (Z : ∀b∈fp,nD X pins H b) (ha:s.heap.objs.size<=a)
  (ok:aX X.prog X.w (upd H a u0) g a u0):Inv X pins σ (upd H a u0) { s with heap:=g,toks:=t' }:=by
 have aa : ∀b u,H b=some u->b∉fp:=λb u e z=>by rw[(Z b z).1] at e;cases e
 have na : ∀b o,s.heap.get? b=some o->b≠a:=λb o e z=>by rw[z] at e;exact absurd (j8 (fy e) ha) (w4 _)
 have hn:H a=none:=I.hok.fresh ha
 have U : ∀b u,H b=some u->b≠a:=λb u e z=>by rw[z,hn] at e;cases e
 refine I.step (g':=s.gens) (d':=s.drawn) (ch:=fp) (λb L=>⟨(Z b L).2.2.2.1,(Z b L).2.1,(Z b L).2.2.2.2.1,(Z b L).2.2.2.2.2⟩) (λb o _ _ F e _=>k b o F e) (λb o _ _ F e _=>⟨o.slots,k b o F e⟩) (λb o _ e n=>by rw[ah (na b o e)];exact n)
  (λb o F e=>⟨o,k b o F e⟩) (λb xs e=>by rw[ah (U b _ e)];exact e) (λb o u e=>by rw[ah (U b _ e)];exact e) (λb ps e=>⟨#[],by rw[ah (U b _ e),e];simp⟩) (λm hm=>?_) (λb u e=>?_) I.bare
 .obtain⟨o,es,ep,ho,r⟩:=hm
  exact⟨o,es,ep,k _ o (λz=>(Z _ z).2.1 rfl) ho,r⟩
 .by_cases L:b=a
  .subst L
   rw[ae] at e;cases e;exact ok
  .rw[ah L] at e
   refine(I.hok b u e).stay (λc v F q=>k c v ?_ q) (λc q=>by rw[ah (U c _ q)];exact q) (λc xs q=>by rw[ah (U c _ q)];exact q) λc _ _ q=>by rw[ah (U c _ q)];exact q
   rcases F with z | z
   .rw[z];exact aa b u e
   .exact aa c _ z
def SqQ:Bool->e_->Hp->Addr->List V->Prop
 | false=>SqT
 | true=>SqL
theorem Inv.sq (I:Inv X pins σ H s) (h:SqQ q X.K H a xs) : ∃its:List Value,aO xs its/\ZSq q s.heap a its.toArray/\xs.length<=g_:=by
 cases q with
 | false=>exact I.tuple h
 | true =>
  obtain⟨its,h1,h2,F⟩:=I.list h;exact⟨its,h1,h2.isList,F⟩
theorem Inv.sq_inj (I:Inv X pins σ H s) (h:SqQ q X.K H a xs) (h':SqQ q X.K H a ys):xs=ys:=by
 cases q with
 | false=>exact I.tuple_inj h h'
 | true=>exact I.list_inj h h'
def Ds (q:Bool) (K:e_) (a b:Addr):It :=
  ⟨λi H=>∃xs ys x y,SqQ q K H a xs/\SqT K H b ys/\xs[i]? = some x/\ys[i]? = some y,
   λi H v H'=>∃t x y,H t=none/\v = .ref t/\H'=upd H t (.tup [x,y])/\(∀xs,SqQ q K H a xs->xs[i]? = some x)/\(∀ys,SqT K H b ys->ys[i]? = some y),
   λi H=>∃xs ys,SqQ q K H a xs/\SqT K H b ys/\(xs[i]? = none\/ys[i]? = none)⟩
abbrev Itz:=Ds false
theorem pB (h:aO xs us) (e:xs[i]? = none):us[i]? = none:=by
 have:=h.length
 rw[List.getElem?_eq_none_iff] at e ⊢;omega
theorem yg {x1} {pos:Pos} (a b z Q O I J:Addr) (D:ZipApart z Q O I J a b) :
  tf P w K (.Tuple es x1 pos) (Ds q K a b) [z,Q,O,I,J] z (λi h=>gB q h z Q O I J a b i .none (.bool false)) where
 mem:=by simp
 obj:=λi h st c L=>by
  obtain⟨u,v,oo⟩:=st.oo;obtain⟨oi,i1,i3⟩:=st.ii.ex;obtain⟨oj,j1,j2,j3⟩:=st.jj;simp only[i4,md,or_false] at L;rcases L with rfl | rfl | rfl | rfl | rfl
  .exact⟨_,st.zz,λv z=>by cases z⟩
  .exact⟨_,st.pp,λv z=>by cases z⟩
  .exact⟨_,oo,λv z=>by cases z⟩
  .exact⟨oi,i1,λv z=>by rw[i3] at z;cases z⟩
  .exact⟨oj,j1,λv z=>by rw[j3] at z;cases z⟩
 keep:=λi h h' st k=>st.keep k
 item:=by
  intro X hP hw hK L i pins s σ H E U hf st hg;subst hP hw hK;obtain⟨xs,ys,x,y,hq,aa,hx,hy⟩:=hg;obtain⟨its,rv,p,hz⟩:=U.sq hq;obtain⟨Z,ad,p2,ag⟩:=U.tuple aa;obtain⟨u,hu,ru⟩:=rv.get hx;obtain⟨u2,aj,ai⟩:=ad.get hy;have hT:s.TypeIs (.ref z) "zip" :=⟨_,st.zz,rfl⟩
  unfold pyNext;refine a_ (wpAny_attempt (C_ (name:=d_ "__next__") hT JO (x4 JO hT F.entry_zip_next (A8 D st p (show s.heap.IsTuple b Z.toArray from p2) (x:=u) (y:=u2) (by simpa using hu) (by simpa using aj) λg Z1 t1 n1 k1=>b_ ⟨_,rfl,?_⟩) (F.args_zip_next_1 _))))
  have af:H s.heap.objs.size=none:=U.hok.fresh (h_ _)
  refine wpAny_letOwnedTupleGo_zip (s:={ s with heap:=g }) Z1.zz λg2 z2 s2=>?_
  have nn : ∀c∈[z,Q,O,I,J],c≠s.heap.objs.size:=λc L e=>by
   obtain⟨u',v',oo⟩:=st.oo;obtain⟨oi,i1,_⟩:=st.ii.ex;obtain⟨oj,j1,_⟩:=st.jj;simp only[i4,md,or_false] at L;rcases L with rfl | rfl | rfl | rfl | rfl
   .exact absurd (fy st.zz) (by rw[e];exact w4 _)
   .exact absurd (fy st.pp) (by rw[e];exact w4 _)
   .exact absurd (fy oo) (by rw[e];exact w4 _)
   .exact absurd (fy i1) (by rw[e];exact w4 _)
   .exact absurd (fy j1) (by rw[e];exact w4 _)
  have Z2:gB q g2 z Q O I J a b (i+1) .none (.bool false):=by
   obtain⟨u',v',oo⟩:=Z1.oo;exact⟨z2,s2.extBut _ _ D.TIz Z1.pp,⟨u',v',s2.extBut _ _ D.TOz oo⟩,Z1.ii.extBut s2.extBut D.i1z,Z1.jj.extBut s2.extBut D.i2z⟩
  have I2:Inv X pins σ (upd H s.heap.objs.size (.tup [x,y])) { s with heap:=g2 }:=U.turnedNew (t':=s.toks) (fp:=[z,Q,O,I,J]) (λc o L e=>by
    simp only[i4,md,or_false,not_or] at L;exact s2.extBut _ _ L.1 (k1 c o L.1 L.2.2.1 L.2.2.2.1 L.2.2.2.2 e)) hf (h_ _)
   ⟨by show 2<=g_;decide,[u,u2],.cons ru (.cons ai .nil),⟨_,s2.extBut _ _ (nn z (by simp)).symm t1,rfl,_,rfl⟩⟩
  exact⟨.ref s.heap.objs.size,_,I2,rfl,⟨_,x,y,af,rfl,rfl,λzs ac=>by rw[U.sq_inj ac hq];exact hx,λzs ac=>by rw[U.tuple_inj ac aa];exact hy⟩,Z2,λc L=>by rw[ah (nn c L)];exact(hf c L).1⟩
 done:=by
  intro X hP hw hK L i pins s σ H E U hf st hg;subst hP hw hK;obtain⟨xs,ys,hq,aa,hx⟩:=hg;obtain⟨its,rv,p,hz⟩:=U.sq hq;obtain⟨Z,ad,p2,ag⟩:=U.tuple aa;have hT:s.TypeIs (.ref z) "zip" :=⟨_,st.zz,rfl⟩
  unfold pyNext;refine a_ (wpAny_attempt (C_ (name:=d_ "__next__") hT JO (x4 JO hT F.entry_zip_next (Db (U.ok.hd L) D st p (show s.heap.IsTuple b Z.toArray from p2) (hx.imp (λe=>by simpa using pB rv e) λe=>by simpa using pB ad e) λg e kg he=>?_) (F.args_zip_next_1 _))))
  obtain⟨o,ho,am⟩:=he;refine a_ (wpAny_isInstance (T := "StopIteration") (b:=true) ⟨o,ho,am⟩ isSubtype_stop ?_)
  exact b_ ⟨rfl,U.turnedL (t':=s.toks) (fp:=[z,Q,O,I,J]) (λc o L e=>by
    simp only[i4,md,or_false,not_or] at L;exact kg c o L.1 L.2.2.1 L.2.2.2.1 L.2.2.2.2 e) hf⟩
 self:=λ_ _ _ _ _ st h=>fm st.zz h
def iZG (q:Bool) (Pr:Hp->Addr->List V->Prop) (K:e_) (ta:TA):TI:=λσ H R=>ta σ H λvs H1=>∃a b,vs=[.ref a,.ref b]/\∃xs,Pr H1 a xs/\∃ys,H1 b>>ys/\R (Ds q K a b) H1
def iZ (K:e_) (ta:TA):TI:=λσ H R=>ta σ H λvs H1=>∃a b,vs=[.ref a,.ref b]/\∃xs,H1 a>>xs/\∃ys,H1 b>>ys/\R (Itz K a b) H1
section
variable {p:Pos} {x1:Nat}
theorem wV:G_ "zip" = some (.type "zip"):=by decide+kernel
theorem AC {x1} {q:Bool} {Pr:Hp->Addr->List V->Prop} (U : ∀H a xs,Pr H a xs->SqQ q K H a xs) (hK:X.K=K) (hg:Gl X "zip") (hm:X.mg "zip" = none) (ha:PA X [e1,e2] ta) (hs:i9 [e1,e2] X.env=[(false,eval e1 X.env),(false,eval e2 X.env)]:=by rfl) (F:i9 [e2] X.env=[(false,eval e2 X.env)]:=by rfl) :
  PI X (.Tuple es x1 pos') (.Call (.Name "zip" p) [e1,e2] [] pos) (iZG q Pr K ta):=by
 subst hK;intro pins s σ H R I h;refine Call_ (dF I hg hm wV (o6 (thn (ha pos pins s σ H _ I h) λus s1 ⟨vs,H1,I1,r1,q1⟩=>?_) (by rw[hs,F]) (by rw[F];rfl)))
 obtain⟨a,b,e,xs,ad,ys,aa,q⟩:=q1;subst e;obtain⟨u,u2,rfl,ru,af⟩:=jz r1;cases ru;cases af;obtain⟨its,rv,pl,hz⟩:=I1.sq (U _ _ _ ad);obtain⟨L,ag,ac,ah⟩:=I1.tuple (SqT.of aa);refine wM pl (show s1.heap.IsTuple b L.toArray from ac) λg z P O II J Z D l1 l2 l3 l4 l5 kg=>?_
 refine fm (s:={ s1 with heap:=g }) Z.zz ⟨z,[z,P,O,II,J],_,_,H1,rfl,I1.kept (t':=s1.toks) kg,yg a b z P O II J D,Z,λc hc=>?_,q⟩
 simp only[i4,md,or_false] at hc;rcases hc with rfl | rfl | rfl | rfl | rfl
 .exact I1.fpOk l1 (I1.hok.fresh l1)
 .exact I1.fpOk l2 (I1.hok.fresh l2)
 .exact I1.fpOk l3 (I1.hok.fresh l3)
 .exact I1.fpOk l4 (I1.hok.fresh l4)
 .exact I1.fpOk l5 (I1.hok.fresh l5)
theorem CM {x1} (hK:X.K=K) (L:Gl X "zip") (Z:X.mg "zip" = none) (U:PA X [e1,e2] ta) (hs:i9 [e1,e2] X.env=[(false,eval e1 X.env),(false,eval e2 X.env)]:=by rfl) (F:i9 [e2] X.env=[(false,eval e2 X.env)]:=by rfl) :
  PI X (.Tuple es x1 pos') (.Call (.Name "zip" p) [e1,e2] [] pos) (iZ K ta):=AC (q:=false) (Pr:=λH a xs=>H a>>xs) (λ_ _ _ h=>SqT.of h) hK L Z U hs F
theorem B9 {zs:List V} {g:TG} {Q:VK} (F:Nat->List V->Hp->Prop) (h0:F 0 [] (upd H1 D (.lst []))) (hl : ∀i ys H,F i ys H->SqT K H a xs/\SqT K H b zs)
  (hs : ∀(i:Nat) (x y:V) (ys:List V) (H:Hp) (t:Addr),xs[i]? = some x->zs[i]? = some y->F i ys H->H t=none->g (.ref t) σ0 (upd H t (.tup [x,y])) λU H3=>tc U H3 λc H4=>if c=true then te U H4 λv H5=>H5 D*>ys/\ys.length < g_/\F (i+1) (ys++[v]) (upd H5 D (.lst (ys++[v]))) else F (i+1) ys H4)
  (hd : ∀ys H,F (min xs.length zs.length) ys H->Q (.ref D) H):lq (Itz K a b) σ0 g tc te Q H1 D:=by
 refine⟨λi m ys H=>F i ys H/\i<=min xs.length zs.length/\m=min xs.length zs.length - i,⟨_,h0,HG _,rfl⟩,?_⟩
 rintro i m ys H ⟨hp,hi,rfl⟩
 obtain⟨sa,Z⟩:=hl i ys H hp
 by_cases aa:i=min xs.length zs.length
 .left
  subst aa;refine⟨⟨xs,zs,sa,Z,?_⟩,hd ys H hp⟩
  rcases Nat.le_total xs.length zs.length with h | h
  .exact .inl (List.getElem?_eq_none_iff.mpr ())
  .exact .inr (List.getElem?_eq_none_iff.mpr ())
 .right
  have h1:i < xs.length:=()
  have h2:i < zs.length:=()
  refine⟨⟨xs,zs,xs[i],zs[i],sa,Z,by simp[h1],by simp[h2]⟩,λL H'=>F (i+1) L H',λL H' h=>⟨_,(),h,(),rfl⟩,?_⟩
  rintro v H' ⟨t,x,y,ht,rfl,rfl,e1,e2⟩
  exact hs i x y ys H t (e1 xs sa) (e2 zs Z) hp ht
theorem uc (hi:i < nt:=by decide) (U:j < nt:=by decide) (F:i≠j:=by decide):A9 (tq n (mJ (cH i) (mJ (cH j) Ag))) nt:=by
 intro x σ0 H Q h q;obtain⟨a,e,xs,sq,l,v,r,e2,v',r',Z,L,q⟩:=q;refine⟨a,e,xs,sq,l,v,r,e2,v',r',Z,L,(Wk.set (h i hi)).trans (Wk.set ?_),q⟩
 rw[Ia F];exact h j U
theorem xj {zs:List V} {F:St} {Q:VK} (f:V->V->V) (L:H1 D=none) (ha:H1 a>>xs) (hb:H1 b>>zs) (hn:xs.length<=10000)
  (he : ∀(x y:V) (H2:Hp) (Z:VK),x∈xs->y∈zs->ak H1 H2->(∀H3,ak H2 H3->Z (f x y) H3)->te (some x :: some y :: F) H2 Z)
  (hd : ∀H2,ak H1 H2->H2 D*>(zipWith f xs zs)->Q (.ref D) H2):lq (Itz K a b) (none :: none :: F) (tq 2 (mJ (cH 0) (mJ (cH 1) Ag))) lU te Q H1 D:=by
 refine B9 (xs:=xs) (zs:=zs) (λi ys H=>ys=zipWith f (xs.take i) (zs.take i)/\ak H1 H/\H D*>ys) ⟨by simp,ak.upd0 L,ae⟩ (λi ys H h=>⟨.of (h.2.1 _ _ ha),.of (h.2.1 _ _ hb)⟩) ?_ ?_
 .rintro i x y ys H t hx hy ⟨rfl,sm,hd'⟩ ht
  have st:ak H (upd H t (.tup [x,y])):=ak.upd0 ht
  refine⟨t,rfl,[x,y],ae,rfl,x,[y],rfl,y,[],rfl,rfl,?_⟩
  simp only[lU,if_true];refine he x y _ _ (j7 hx) (j7 hy) (sm.trans st) λH4 U=>⟨U _ _ (st _ _ hd'),?_,?_,λc o e=>?_,ae⟩
  .refine Nat.lt_of_le_of_lt (n_ ?_ hn) ∅
   rw[List.length_zipWith,m8];omega
  .have e1:xs.take (i+1)=xs.take i++[x]:=by rw[w5,hx];rfl
   have e2:zs.take (i+1)=zs.take i++[y]:=by rw[w5,hy];rfl
   have h1:i < xs.length:=(i7.mp hx).1
   have h2:i < zs.length:=(i7.mp hy).1
   rw[e1,e2,List.zipWith_append (by simp;omega)]
   rfl
  .rw[ah (aj e L)];exact U _ _ (st _ _ (sm c o e))
 .rintro ys H ⟨rfl,sm,hd'⟩
  refine hd H sm ?_
  rw[hd']
  congr 2
  have:zipWith f xs zs=zipWith f (xs.take (min xs.length zs.length)) (zs.take (min xs.length zs.length)):=by
   rw[<- List.take_zipWith,x6 (by rw[List.length_zipWith];exact h_ _)]
  exact this.symm
end
end L2
namespace PyProof.Rows
open PySem PySem.Spec
theorem sr {t:Addr} {Q:List Value->Shared->Prop} (U:s.heap.IsTuple t us.toArray) (Z:us.length<=1000)
  (k:Q us { s with heap:=(s.heap.push (seqObj "list" #[] 0)).update s.heap.objs.size (Ie (· ++ us.toArray)) }):wpAny (model prog w) A (collect (.ref t)) Q E s:=by
 obtain⟨L,h1,h2,n,h3⟩:=id U;unfold collect;refine a_ (wpAny_runValue (HK entry_proto_collect' ?_))
 change wpAny _ _ (do again (.builtin "list.__iadd__" ⟨[<- newList [],.ref t],[]⟩)) _ _ s;refine a_ (wpAny_newList (b_ ⟨Code.quiet_builtin _ (by decide+kernel),HK entry_list_iadd' ?_⟩))
 change wpAny _ _ (w6 (.ref s.heap.objs.size) (.ref t) (.ref s.heap.objs.size)) _ _ { s with heap:=s.heap.push (seqObj "list" #[] 0) }
 unfold w6;have F:(s.heap.push (seqObj "list" #[] 0)).get? t=some L:=c_ _ h1
 refine a_ (Ic (T := "tuple") ⟨L,F,h2⟩ ?_)
 have q1:(HP "tuple" == HP "tuple")=true:=by rfl
 rw[if_pos (by rw[q1];simp)]
 refine a_ (listItems_at F h3 (a_ (listItems_at (xs := #[]) (n:=0) (ge _ rfl) rfl ?_)))
 rw[if_neg (by simp)]
 have hz:us.length<=g_:=n_ Z ∅
 refine a_ (listUpdate_at (xs := #[]) (n:=0) (ge _ rfl) rfl (b_ ?_) (HG _) (by show(#[]++us.toArray).size<=g_+1;simp only[Array.size_append,k8,length_nil];omega))
 refine a_ (m:=load s.heap.objs.size) (wpAny_load (get?_update_seq (ge _ rfl) _) ?_)
 change wpAny _ _ (pure ((#[]:Array Value)++us.toArray).toList) Q E _;rw[show((#[]:Array Value)++us.toArray).toList=us by simp]
 exact b_ k
theorem qp {t:Addr} {ns:List Int} (ht:s.heap.IsTuple t us.toArray) (hi:IntsAre us ns) (hl:us.length < 64)
  (k : ∀(F:Array Value) (ms:List Int),IntsAre F.toList ms->ms.Perm ns->ms.Pairwise (·<=·)->Q (.ref (s.heap.objs.size+1)) { s with heap:=sortedAll s.heap us F }) :
  wpAny (model prog w) A (call (.builtin "sorted") [.ref t]) Q E s:=by
 refine Calls.call_function_entry kind_sorted plain_sorted entry_sorted (args_sorted1 _) ?_
 unfold Builtin.«sorted»;refine a_ (m:=checkCount "sorted" 1 1 _) (b_ (a_ (sr ht () (a_ (wpAny_newList ?_)))))
 have L:((s.heap.push (seqObj "list" #[] 0)).update s.heap.objs.size (Ie (· ++ us.toArray))).objs.size=s.heap.objs.size+1:=by rw[Heap.size_update,size_push']
 have g1:(((s.heap.push (seqObj "list" #[] 0)).update s.heap.objs.size (Ie (· ++ us.toArray))).push (seqObj "list" us.toArray 0)).get? (s.heap.objs.size+1)=some (seqObj "list" us.toArray 0):=by rw[<- L];exact ge _ rfl
 change wpAny _ _ _ _ _ { s with heap:=((s.heap.push (seqObj "list" #[] 0)).update s.heap.objs.size (Ie (· ++ us.toArray))).push (seqObj "list" us.toArray 0) }
 rw[L];refine a_ (m6 (x4 slot_list_sort ⟨_,g1,rfl⟩ entry_list_sort (list_sort_tree g1 hi hl λF ms Z U a3=>⟨_,rfl,b_ ⟨_,rfl,k F ms Z U a3⟩⟩) (args_list_sort _)))
end PyProof.Rows
namespace L2
open PySem PySem.Spec PyProof.Rows
def mZ:List V->Hp->VK->Prop:=λxs H Q=>∃p,xs=[.ref p]/\∃ns:List Int,H p>>(ns.map V.int)/\ns.length < 64/\∀(q:Addr) (ms:List Int),H q=none->ms.Perm ns->ms.Pairwise (·<=·)->Q (.ref q) (upd H q (.lst (ms.map V.int)))
theorem qH:bP X (.builtin "sorted") mZ:=by
 intro pins s σ H xs us Q I r h;obtain⟨p,rfl,ns,hp,hl,q⟩:=h;obtain⟨u,rfl,ru⟩:=cU r;cases ru;obtain⟨its,rv,pl,hz⟩:=I.tuple (SqT.of hp);have U:=rv.length;rw[f_] at U;refine qp (show s.heap.IsTuple p its.toArray from pl) (ue rv) () λL ms Z F aa=>?_
 obtain⟨e,he⟩:=sortedAll_at s.heap its L;have ac:L=L.toList.toArray:=by simp
 refine⟨.ref (s.heap.objs.size+1),_,I.laid (a:=s.heap.objs.size+1) (o:=.lst (ms.map V.int)) (t':=s.toks) (λb o e=>sortedAll_old e) (F_ _) ⟨?_,L.toList,e,kY Z,by rw[he]⟩,rfl,q _ ms (I.hok.fresh (F_ _)) F aa⟩
 rw[f_,F.length_eq];exact pj (aw ())
theorem Gb (F:ce k A):A.units+102 < cLine:=by have:=F.un;omega
theorem rH : ∀ns:List Int,PyData.canLayAll0 (ns.map PyData.int)=true
 | []=>rfl
 | n :: ns=>by
  rw[k9];unfold PyData.canLayAll0;rw[rH ns];rfl
theorem nk : ∀ns:List Int,PyData.depthAll (ns.map PyData.int)=0
 | []=>rfl
 | n :: ns=>by
  rw[k9];unfold PyData.depthAll;rw[nk ns];rfl
def qY (r:List Int):JU:=.tuple (r.map PyData.int)
theorem AI (r:List Int):(qY r).canLay0=true:=by unfold qY PyData.canLay0;exact rH r
theorem wP (r:List Int):(qY r).depth<=1:=by unfold qY PyData.depth;rw[nk];decide
theorem lf : ∀(a b:List Int),JH (a.map PyData.int) (b.map PyData.int)=decide (a=b)
 | [],[]=>rfl
 | [],_ :: _=>by simp[JH]
 | _ :: _,[]=>by simp[JH]
 | x :: a,y :: b=>by
  rw[k9,k9];unfold JH;rw[lf a b];have:Ji (.int x) (.int y)=decide (x=y):=by
   simp only[Ji];rw[t5];simp
  rw[this]
  by_cases h:x=y <;> by_cases h2:a=b <;> simp[h,h2]
theorem BA (a b:List Int):Ji (qY a) (qY b)=decide (a=b):=by
 unfold qY;unfold Ji;exact lf a b
end L2
namespace PySem
open AutoSeq1 (wpAny_loadPart')
theorem Draws.tup (Z:A.handled=none) (J T:Addr) (L:T≠J) (vs:Array Value) :
  Draws prog w A J [J,T] vs.size (λi v=>vs[i]? = some v) (λi h=>h.IsTupleIter J T i/\h.IsTuple T vs) where
 live:=λ_ _ st=>let ⟨o,ho,_⟩:=st.1;⟨o,ho⟩
 frame:=λ_ _ _ st U=>⟨st.1.at λo e=>U J (by simp) o e,st.2.at λo e=>U T (by simp) o e⟩
 item:=λi s Q E hi st F=>uZ st.1 st.2 (IN hi) λg a b=>F _ g s.toks (IN hi) ⟨a,st.2.at λo e=>(b.2 T L).trans e⟩ b
 done:=λs Q E st F=>iJ Z st.1 st.2 (Jn (h_ _)) F
theorem tY (T:Addr) (vs:Array Value) (n:Nat) (dd:Option Addr) (sl:Array (Option Value)) :
  Meets (Builtin.«enumerate.__new__» ⟨[.type "enumerate",.ref T],[]⟩) (λ_ R s=>s.heap.get? T=some { cls:=.type "tuple",dict:=dd,data:=.seq vs n,slots:=sl } /\
   R (.ok (.ret (.ref (s.heap.push { cls:=.type "tuple_iterator",data:=.fields #[.ref T,.int 0 0] }).objs.size)))
    { s with heap:=(s.heap.push { cls:=.type "tuple_iterator",data:=.fields #[.ref T,.int 0 0] }).push { cls:=.type "enumerate",data:=.fields #[.none,.bool false,.ref s.heap.objs.size,HU 0,.none,.none] } }) :=
 .of_wp λprog w A R s h=>by
  obtain⟨hp,g,d,tk,os⟩:=s;obtain⟨F,h⟩:=h;have U:=sub_enumerate;have L:JV (Shared.heap ⟨hp,g,d,tk,os⟩) T vs:=⟨_,F,rfl,n,rfl⟩
  wp_walk using wpAny_loadPart' F
  refine wpAny_stack_any λst=>b_ ?_
  split
  .rename_i c _ _ _ _ _
   cases (c == HP "enumerate")
   .wp_walk using wpAny_loadPart' F,B_ L
    exact⟨_,rfl,h⟩
   .wp_walk using wpAny_loadPart' F,B_ L
    exact⟨_,rfl,h⟩
  .wp_walk using wpAny_loadPart' F,B_ L
   exact⟨_,rfl,h⟩
theorem uk {T:Addr} (ht:s.heap.IsTuple T vs)
  (k : ∀g e J,IsEnum g e J 0 .none->g.IsTupleIter J T 0->e≠J->s.heap.objs.size<=e->s.heap.objs.size<=J->(∀b o,s.heap.get? b=some o->g.get? b=some o)->Q (.ref e) { s with heap:=g }) :
  wpAny (model prog w) A (call (.type "enumerate") [.ref T]) Q E s:=by
 obtain⟨⟨cls,dd,data,sl⟩,h1,h2,n,Z⟩:=ht;simp only at h2 Z;subst h2 Z;refine callType_new F.called_enumerate ∅ (F.typeCall_enumerate_1 _) (F.newCall_enumerate_1 _) (λL=>F.args_object_init_2 L _) F.entry_enumerate_new (tY T vs n dd sl) ⟨h1,?_⟩
 have U:(s.heap.push { cls:=.type "tuple_iterator",data:=.fields #[.ref T,.int 0 0] }).objs.size=s.heap.objs.size+1:=G2 ..
 have g1:((s.heap.push { cls:=.type "tuple_iterator",data:=.fields #[.ref T,.int 0 0] }).push { cls:=.type "enumerate",data:=.fields #[.none,.bool false,.ref s.heap.objs.size,HU 0,.none,.none] }).get? (s.heap.push { cls:=.type "tuple_iterator",data:=.fields #[.ref T,.int 0 0] }).objs.size=some _:=ge _ rfl
 have g2:((s.heap.push { cls:=.type "tuple_iterator",data:=.fields #[.ref T,.int 0 0] }).push { cls:=.type "enumerate",data:=.fields #[.none,.bool false,.ref s.heap.objs.size,HU 0,.none,.none] }).get? s.heap.objs.size=some _:=c_ _ (ge _ rfl)
 refine⟨⟨_,g1,rfl⟩,k _ _ s.heap.objs.size g1 ⟨_,g2,rfl,rfl⟩ ?_ ?_ (h_ _) λb o e=>c_ _ (c_ _ e)⟩
 .rw[U];exact Nat.succ_ne_self _
 .rw[U];exact F_ _
end PySem
namespace L2
open PySem PySem.Spec PyProof.Rows
def Ite (K:e_) (a:Addr):It :=
  ⟨λi H=>∃xs x,SqT K H a xs/\xs[i]? = some x,
   λi H v H'=>∃t x,H t=none/\v = .ref t/\H'=upd H t (.tup [.int (i:Nat),x])/\∀xs,SqT K H a xs->xs[i]? = some x,
   λi H=>∃xs,SqT K H a xs/\xs.length=i⟩
theorem um {x1} {pos:Pos} (a e J:Addr) (aa:e≠J) :
  tf P w K (.Tuple es x1 pos) (Ite K a) [e,J] e (λi h=>(∃L,IsEnum h e J i L)/\h.IsTupleIter J a i) where
 mem:=by simp
 obj:=λi h st c F=>by
  obtain⟨⟨L,U⟩,oi,i1,i2,i3⟩:=st;simp only[i4,md,or_false] at F;rcases F with rfl | rfl
  .exact⟨_,U,λv z=>by cases z⟩
  .exact⟨oi,i1,λv z=>by rw[i3] at z;cases z⟩
 keep:=λi h h' st k=>by
  obtain⟨⟨L,U⟩,hi⟩:=st;exact⟨⟨L,k e (by simp) _ U⟩,hi.at λo q=>k J (by simp) o q⟩
 item:=by
  intro X hP hw hK F i pins s σ H E Z hf st hg;subst hP hw hK;obtain⟨xs,x,hq,hx⟩:=hg;obtain⟨its,rv,p,hz⟩:=Z.tuple hq;obtain⟨u,hu,ru⟩:=rv.get hx;obtain⟨⟨L,U⟩,hi⟩:=st;have pl:s.heap.IsTuple a its.toArray:=p
  have ac:a≠J:=λz=>by
   obtain⟨o1,q1,q2,_⟩:=hi;obtain⟨o2,q3,q4,_⟩:=id pl;rw[<- z,q3] at q1;cases q1;rw[q4] at q2;exact absurd q2 (by simp)
  have ai:e∉[J,a]:=λhm=>by
   rcases i4.mp hm with z | z
   .exact aa z
   .have z:=k_.mp z
    obtain⟨o2,q3,q4,_⟩:=id pl;rw[<- z,U] at q3;cases q3;exact absurd q4 (by simp)
  have aj:i < its.toArray.size:=by simpa using (i7.mp hu).1
  refine wpAny_pyNext_enum_itemD (Draws.tup (A:=X.A.in1) (show X.A.in1.handled=none from Z.ok.hd F) J a ac its.toArray) U ⟨hi,pl⟩ aj aa ai λv g tk hv ho am ht hs hk=>?_
  have ag:v=u:=by
   simp only[Jy] at hv;rw[hu] at hv;exact(j9 hv).symm
  subst ag;refine⟨_,rfl,wpAny_letOwnedTupleGo_enum (s:={ s with heap:=g,toks:=tk+1 }) ho λg2 ap s2=>?_⟩
  have ad:e < s.heap.objs.size:=fy U
  have an:J < s.heap.objs.size:=by obtain⟨o1,q1,_⟩:=hi;exact fy q1
  have af:H s.heap.objs.size=none:=Z.hok.fresh (h_ _)
  have I2:Inv X pins σ (upd H s.heap.objs.size (.tup [.int (i:Nat),x])) { s with heap:=g2,toks:=tk+1 }:=Z.turnedNew (t':=tk+1) (fp:=[e,J]) (λc o F q=>by
    simp only[i4,md,or_false,not_or] at F;exact(s2.2 c F.1).trans (hk c o F.1 F.2 q)) hf (h_ _)
   ⟨by show 2<=g_;decide,[.int i tk,v],.cons ⟨tk,rfl⟩ (.cons ru .nil),⟨_,(s2.2 _ (IE ad)).trans ht,rfl,_,rfl⟩⟩
  refine⟨.ref s.heap.objs.size,_,I2,rfl,⟨_,x,af,rfl,rfl,λzs ao=>by rw[Z.tuple_inj ao hq];exact hx⟩,⟨⟨v,by simpa using ap⟩,am.1.at λo q=>(s2.2 J aa.symm).trans q⟩,λc F=>?_⟩
  simp only[i4,md,or_false] at F;rcases F with rfl | rfl
  .rw[ah (kf ad)];exact(hf _ (by simp)).1
  .rw[ah (kf an)];exact(hf _ (by simp)).1
 done:=by
  intro X hP hw hK F i pins s σ H E Z hf st hg;subst hP hw hK;obtain⟨xs,hq,hx⟩:=hg;obtain⟨its,rv,p,hz⟩:=Z.tuple hq;obtain⟨⟨L,U⟩,hi⟩:=st;have pl:s.heap.IsTuple a its.toArray:=p
  have ac:a≠J:=λz=>by
   obtain⟨o1,q1,q2,_⟩:=hi;obtain⟨o2,q3,q4,_⟩:=id pl;rw[<- z,q3] at q1;cases q1;rw[q4] at q2;exact absurd q2 (by simp)
  have hn:its.toArray.size=i:=by have:=rv.length;simp;omega
  subst hn;refine wpAny_pyNext_enum_endD (Draws.tup (A:=X.A.in1) (show X.A.in1.handled=none from Z.ok.hd F) J a ac its.toArray) U ⟨hi,pl⟩ λg hk=>⟨rfl,Z.turnedL (t':=s.toks) (fp:=[e,J]) (λc o F q=>hk c o (λz=>F (by simp[z])) q) hf⟩
 self:=λ_ _ _ _ _ st h=>by
  obtain⟨⟨L,U⟩,_⟩:=st;exact wpAny_pyIter_enum U h
def iE (K:e_) (ta:TA):TI:=λσ H R=>ta σ H λvs H1=>∃a,vs=[.ref a]/\∃xs,H1 a>>xs/\R (Ite K a) H1
theorem ul:G_ "enumerate" = some (.type "enumerate"):=by decide+kernel
theorem sM {p:Pos} {x1} (hK:X.K=K) (hg:Gl X "enumerate") (hm:X.mg "enumerate" = none) (ha:PA X [e1] ta) (hs:i9 [e1] X.env=[(false,eval e1 X.env)]:=by rfl) :
  PI X (.Tuple es x1 pos') (.Call (.Name "enumerate" p) [e1] [] pos) (iE K ta):=by
 subst hK;intro pins s σ H R I h;refine Call_ (dF I hg hm ul (o6 (thn (ha pos pins s σ H _ I h) λus s1 ⟨vs,H1,I1,r1,q1⟩=>?_) (by rw[hs];rfl) rfl))
 obtain⟨a,e,xs,F,q⟩:=q1;subst e;obtain⟨u,rfl,ru⟩:=cU r1;cases ru;obtain⟨its,rv,pl,hz⟩:=I1.tuple (SqT.of F);refine uk (show s1.heap.IsTuple a its.toArray from pl) λg e J he hJ L l1 Z kg=>?_
 refine wpAny_pyIter_enum (s:={ s1 with heap:=g }) he ⟨e,[e,J],_,_,H1,rfl,I1.kept (t':=s1.toks) kg,um a e J L,⟨⟨_,he⟩,hJ⟩,λc U=>?_,q⟩
 simp only[i4,md,or_false] at U;rcases U with rfl | rfl
 .exact I1.fpOk l1 (I1.hok.fresh l1)
 .exact I1.fpOk Z (I1.hok.fresh Z)
theorem zy {g:TG} {tb:TS} {D:iN} (F:Nat->St->Hp->Prop) (h0:F 0 σ H) (hl : ∀i σ H,F i σ H->SqT K H a xs)
  (hs : ∀(i:Nat) (x:V) (σ:St) (H:Hp) (t:Addr),xs[i]? = some x->F i σ H->H t=none->g (.ref t) σ (upd H t (.tup [.int (i:Nat),x])) λZ H2=>tb { D with nx:=F (i+1),ct:=F (i+1),bk:=D.nx } Z H2)
  (hd : ∀ σ H,F xs.length σ H->D.nx σ H):DD (Ite K a) g tb D σ H:=by
 refine⟨λi m σ H=>F i σ H/\i<=xs.length/\m=xs.length - i,⟨_,h0,HG _,rfl⟩,?_⟩
 rintro i m σ H ⟨hp,hi,rfl⟩
 have U:=hl i σ H hp
 by_cases L:i=xs.length
 .left
  subst L;exact⟨⟨xs,U,rfl⟩,hd σ H hp⟩
 .right
  have h1:i < xs.length:=()
  refine⟨⟨xs,xs[i],U,by simp[h1]⟩,λσ' H'=>F (i+1) σ' H',λσ' H' h=>⟨_,(),h,(),rfl⟩,?_⟩
  rintro v H' ⟨t,x,ht,rfl,rfl,e1⟩
  exact hs i x σ H t (e1 xs U) hp ht
def B0 (X:Cx) (scope:Scope) (N:List Str) (cl:List (Str × Addr)) (C:Addr) (fp:List Addr) (s:Shared) (H:Hp) (xe:Value->Shared->Prop):Cx where
 prog:=X.prog
 w:=X.w
 K:=X.K
 mg:=X.mg
 base:=X.base
 A:=X.A
 N:=N
 s₀:=s
 H₀:=H
 env:=E1 scope cl C X.env
 outer:=X.stack
 stack:=X.stack
 ex:=fp
 fn:=λx=>scope.names.lookup x == some .cell
 calm:=X.calm
 pn:=[]
 xe:=xe
theorem HB:(B0 X sc N cl C fp s H xe).K=X.K:=rfl
structure BS (X:Cx) (scope:Scope) (N:List Str) (nt:Nat) (js:List Nat):Prop where
 kind:scope.kind = .function
 nd:N.Nodup
 len:N.length=nt+js.length
 at_ : ∀(k:Nat) (j:Nat) (x:Str),js[k]? = some j->N[nt+k]? = some x->X.N[j]? = some x/\(X.env.scope.names.lookup x=some .cell\/X.env.scope.names.lookup x=some .free)
 frl : ∀(k:Nat) (x:Str),N[nt+k]? = some x->scope.names.lookup x=some .free
 own : ∀y∈scope.names,y.2 = .cell->scope.names.lookup y.1=some .cell
 loc : ∀y∈scope.names,y.2 = .local->scope.names.lookup y.1=some .local
 free : ∀y∈scope.names,y.2 = .free->X.env.scope.names.lookup y.1=some .cell\/X.env.scope.names.lookup y.1=some .free
def rA (F:List Str) (xs sn:List (Str × IG)) (N:List Str) (nt:Nat) (js:List Nat):Bool :=
 decide N.Nodup && N.length == nt+js.length && (js.zip (N.drop nt)).all (λp=>F[p.1]? == some p.2 && df xs p.2) && (N.drop nt).all (λx=>sn.lookup x == some .free)
  && sn.all (λy=>y.2 != .cell || sn.lookup y.1 == some .cell) && sn.all (λy=>y.2 != .local || sn.lookup y.1 == some .local) && sn.all (λy=>y.2 != .free || df xs y.1)
theorem DI (U:List Str) (xs:List (Str × IG)) (hk:scope.kind = .function:=by exact rfl) (hN:X.N=U:=by exact rfl) (hx:X.env.scope.names=xs:=by exact rfl)
  (h:rA U xs scope.names N nt js=true:=by decide+kernel):BS X scope N nt js:=by
 subst hN hx;unfold rA at h;simp only[fx] at h;obtain⟨⟨⟨⟨⟨⟨h1,h2⟩,h3⟩,h4⟩,h5⟩,h6⟩,Z⟩:=h;refine⟨hk,of_decide_eq_true h1,by simpa using h2,λk j x e1 e2=>?_,λk x e=>?_,λy L e=>?_,λy L e=>?_,λy L e=>?_⟩
 .have hm:(j,x)∈js.zip (N.drop nt):=by
   have F:(N.drop nt)[k]? = some x:=by rw[HX];exact e2
   have:(js.zip (N.drop nt))[k]? = some (j,x):=by rw[List.getElem?_zip_eq_some];exact⟨e1,F⟩
   exact j7 this
  have q:=l9.mp h3 _ hm;rw[fx] at q;exact⟨by simpa using q.1,cR q.2⟩
 .have hm:x∈N.drop nt:=by
   have F:(N.drop nt)[k]? = some x:=by rw[HX];exact e
   exact j7 F
  simpa using l9.mp h4 _ hm
 .have q:=l9.mp h5 _ L
  rw[e] at q;simpa using q
 .have q:=l9.mp h6 _ L
  rw[e] at q;simpa using q
 .have q:=l9.mp Z _ L
  rw[e] at q;exact cR (by simpa using q)
def qR (K:e_) (H:Hp) (l kvs:List (Key × V)):Prop:=∀p∈l,∃v,cu kvs p.1=some v/\∃d,Rep K H p.2 d/\Rep K H v d/\d.canLay0=true/\d.depth<=50/\Ji d d=true
theorem uF {kvs:List (Key × V)} (I:Inv X pins σ H s) (hu:A.units+50 < cLine) (rb:KV kvs vb) : ∀{l:List (Key × V)} {L:List (Key × Value)},KV l L->qR X.K H l kvs->PySem.W.KeqHits A s vb L true:=by
 intro l L r;unfold KV at r
 induction r with
 | nil=>intro _;exact .nil
 | @cons p q ps qs h _ ih =>
  intro F;obtain⟨k,v⟩:=p;obtain⟨k',u⟩:=q;obtain⟨e,U⟩:=h;dsimp only at e U;subst e;obtain⟨v',h1,d,Z,r2,hl,hd,he⟩:=F (k,v) (by simp)
  dsimp only at h1 Z;obtain⟨y,hy,ry⟩:=gG.some_of (v:=v') (o:=valueAt vb k) (by rw[<- h1];exact rb.val k)
  obtain⟨as,g1⟩:=I.reads Z U;obtain⟨bs,g2⟩:=I.reads r2 ry;have ea:SeqAt.EqAt A s u y true:=by
   have:=SeqAt.eqAt_reads d d A s u y as bs g1 g2 hl hl (by rw[Nat.min_self];omega)
   rwa [he] at this
  exact PySem.W.KeqHits.hit (e:=true) (b:=true) hy ea (ih λp hp=>F p (by simp[hp]))
def Gj (K:e_) (b:Bool):R2:=λx y H Q=>∃a,x = .ref a/\∃c,y = .ref c/\∃l kvs,H a<*l/\H c<*kvs/\l.length=kvs.length/\qR K H l kvs/\Q (.bl b) H
theorem BJ (hu:X.A.units+102 < cLine):OpR X (p8 .NotEq) (Gj X.K false):=by
 intro pins s σ H x y v u Q I rx ry h;obtain⟨a,rfl,b,rfl,l,kvs,ha,hb,U,ac,q⟩:=h;cases rx;cases ry;obtain⟨z,hd,vs,L,dd⟩:=vZ I.hok ha;obtain⟨z2,Z,ad,F,aa⟩:=vZ I.hok hb;refine PySem.W.keq_ne (r:=true) hd Z dd aa () (λ_=>uF I (by show X.A.units+1+50 < cLine;omega) F L ac) ?_
 rw[<- L.length,<- F.length,U,beq_self_eq_true];exact⟨.bl false,H,I,rfl,q⟩
def fc (t:HC):Prop:=t.place.toList.Pairwise (· < ·)
theorem dn {xs:Array Nat} (hp:xs.toList.Pairwise (· < ·)) {k l v u:Nat} (F:k < l) (e1:xs[k]? = some v) (e2:xs[l]? = some u):v < u:=by
 rw[<- s_] at e1 e2;obtain⟨h1,rfl⟩:=i7.mp e1;obtain⟨h2,rfl⟩:=i7.mp e2;exact List.pairwise_iff_getElem.mp hp k l h1 h2 F
theorem Ad {xs:Array Nat} (hp:xs.toList.Pairwise (· < ·)) : ∀(f lo hi:Nat),hi - lo<=f->lo<=hi->hi<=xs.size->(∀k v,k < lo->xs[k]? = some v->v < j)->(∀k v,hi<=k->xs[k]? = some v->j<=v) ->
  Jq xs j f lo hi<=xs.size/\(∀k v,k < Jq xs j f lo hi->xs[k]? = some v->v < j)/\∀k v,Jq xs j f lo hi<=k->xs[k]? = some v->j<=v:=by
 intro f
 induction f with
 | zero =>
  intro lo hi h1 h2 h3 h4 h5;have e:lo=hi:=()
  subst e;unfold Jq;exact⟨h3,h4,h5⟩
 | succ f ih =>
  intro lo hi h1 h2 h3 h4 h5;unfold Jq
  by_cases Z:lo < hi
  .rw[if_pos Z]
   dsimp only;have hm:(lo+hi) / 2 < hi:=()
   have U:lo<=(lo+hi) / 2:=()
   generalize (lo+hi) / 2=F at hm U ⊢;have L:F < xs.size:=()
   have eg:xs[F]? = some xs[F]:=by simp[L]
   have ed:xs.getD F j=xs[F]:=by simp[Array.getD,L]
   rw[ed]
   by_cases hj:xs[F] < j
   .rw[if_pos hj]
    refine ih (F+1) hi () () h3 (λk v hk e=>?_) h5
    by_cases ek:k=F
    .subst ek;rw[eg] at e;cases e;exact hj
    .exact lt_trans (dn hp () e eg) hj
   .rw[if_neg hj]
    refine ih lo F () U () h4 (λk v hk e=>?_)
    by_cases ek:k=F
    .subst ek;rw[eg] at e;cases e;omega
    .have:=dn hp (show F < k by omega) eg e
     omega
  .rw[if_neg Z]
   have e:lo=hi:=()
   subst e;exact⟨h3,h4,h5⟩
theorem sJ {xs:Array Nat} (hp:xs.toList.Pairwise (· < ·)):mu xs j<=xs.size/\(∀k v,k < mu xs j->xs[k]? = some v->v < j)/\∀k v,mu xs j<=k->xs[k]? = some v->j<=v :=
 Ad hp xs.size 0 xs.size () () () (λk v h=>absurd h ()) λk v h e=>by
  have:=(v8.mp e).1
  omega
def vJ (t:HC) (j:Nat):Prop:=t.place[mu t.place j]? ≠ some j
theorem Aq {t:HC} (L:fc t) (U:vJ t j):fc (t.put j).1:=by
 unfold fc SetTable.put;dsimp only;rw[IW];obtain⟨b1,b2,Z⟩:=sJ (j:=j) L;unfold vJ at U;generalize mu t.place j=p at b1 b2 Z U ⊢;have hd : ∀v∈t.place.toList.drop p,j < v:=λv hv=>by
  obtain⟨i,hi,rfl⟩:=IX hv;have e:t.place[p+i]? = some (t.place.toList.drop p)[i]:=by rw[<- s_,<- HX];simp[hi]
  have h1:=Z (p+i) _ () e
  by_cases h0:i=0
  .subst h0
   have:(t.place.toList.drop p)[0]≠j:=λz=>U (by rw[z] at e;simpa using e)
   omega
  .have hl:p < t.place.size:=by
    have:=(v8.mp e).1
    omega
   have e0:t.place[p]? = some t.place[p]:=by simp[hl]
   have h2:=Z p _ (h_ _) e0;have h3:=dn L (show p < p+i by omega) e0 e
   omega
 have ht : ∀v∈t.place.toList.take p,v < j:=λv hv=>by
  obtain⟨i,hi,rfl⟩:=IX hv;have F:i < p/\i < t.place.size:=by simp at hi;omega
  exact b2 i _ F.1 (by rw[<- s_,List.getElem_take];simp[F.2])
 rw[List.pairwise_append,Io];refine⟨L.sublist (IS _ _),⟨hd,L.sublist (List.drop_sublist _ _)⟩,λa ha b hb=>?_⟩
 rcases i4.mp hb with rfl | hb
 .exact ht a ha
 .exact lt_trans (ht a ha) (hd b hb)
theorem wG {mask f:Nat} {pl:Bool} {t:HC} {od:Array Nat} (e:SetTable.laid mask f m led pl hs=some (t,od)):fc t/\t.led=led:=by
 unfold SetTable.laid at e;cases U:JX mask hs with
 | none=>rw[U] at e;cases e
 | some ow =>
  rw[U] at e;cases e;refine⟨?_,rfl⟩
  unfold fc;dsimp only;rw[Js];refine List.Pairwise.filterMap _ ?_ (List.pairwise_lt_range (n:=mask+1))
  intro a a' L b Z b' F;obtain⟨x,hx,rfl⟩:=JM.mp Z;obtain⟨y,hy,rfl⟩:=JM.mp F;exact L
end L2
namespace PySem
open L2 PyProof.Rows PySem.Calls
def gH:Int:=0xFCA86420
theorem rZ {Q:Int->Shared->Prop} (h:Q gH { s with toks:=s.toks+1 }):wpAny (model prog w) A (pyHash .none) Q E s:=by
 have L:s.TypeIs v_ "NoneType" := rfl
 show wpAny _ _ (pyHashByItsType .none) Q E s
 unfold pyHashByItsType;refine a_ ?_
 rw[cRoomFor,if_neg (by rw[show[v_].any Value.onHeap=false from rfl];exact i6)]
 refine b_ (a_ (HJ L IK.lookup ?_))
 refine If (λz=>by cases z) λ_=>?_
 refine a_ (HJ L IK.lookup ?_)
 refine If (λz=>by cases z) λ_=>?_
 refine a_ (wpAny_callSpecialIfBoundUnlessNone?_slot L IK (x4 IK L PySem.F.entry_NoneType_hash (show wpAny _ _ (do ret (<- mkInt gH)) _ _ s from wpAny_ret_mkInt ?_) (PySem.F.args_NoneType_hash_1 _)))
 show wpAny _ _ (if (decide (-(2:Int) ^ 63<=gH) && decide (gH < 2 ^ 63))=true then _ else _) Q E _
 rw[if_pos ∅]
 exact b_ h
theorem rC {Q:Bool->Shared->Prop} (h:Q true s):wpAny (model prog w) A (eqBool .none .none) Q E s:=by
 unfold eqBool;refine m6 ?_
 rw[if_pos ∅]
 exact a_ (wpAny_rule (b_ h))
end PySem
namespace L2
open PySem PySem.Spec PyProof.Rows
noncomputable def aU (i:Nat):TE:=λσ H Q=>match σ[i]? with | some (some v)=>Q v H | _=>False
theorem Aa {Q:VK} (h:aU i σ H Q):BF i σ H Q:=by
 unfold aU at h
 split at h
 .exact⟨_,by assumption,h⟩
 .exact h.elim
theorem pvM (i:Nat) {x:Str} {pos:Pos} (L:X.N[i]? = some x:=by rfl) (Z:Vis X.env.scope x:=by first | exact Or.inl rfl | exact Or.inr (Or.inl rfl) | exact Or.inr (Or.inr rfl)) (U:(x ==("__debug__" : Str))=false:=by decide)
  (F:(x ==("__classdict__" : Str))=false:=by decide):PE X (.Name x pos) (aU i):=λpins s σ H Q I h=>zS L Z U F pins s σ H Q I (Aa h)
end L2
namespace PySem
section
variable {o:Obj} {xs:Array Value} {Q:Option Value->Shared->Prop}
theorem ki (hx:s.heap.get? a=some o) (hc:o.cls = .type "tuple") (L:o.data = .seq xs k) (hd:o.dict=none) (U:JF (.type "tuple") name=pure none) (Z:(["__module__","__name__","__qualname__","__doc__","__annotations__"]:List Str).contains name=false) (hA:A.handled=none)
  (h : ∀h' tk,(∀b u,s.heap.get? b=some u->h'.get? b=some u)->Q none { s with heap:=h',toks:=tk }) (hsz:name.length+100<=g_:=by size_fits) :
  wpAny (model prog w) A (getAttr? (.ref a) name) Q E s:=by
 obtain⟨c,ad,af,sl⟩:=o;simp only at hc L hd;subst hc L hd;obtain⟨hp,g,d,tk,os⟩:=s;have hT : ∀aa,(⟨hp,g,d,aa,os⟩:Shared).TypeIs (.ref a) "tuple" := λ_=>⟨_,hx,rfl⟩
 have f1:=sub_AttributeError;have f3:=F.slot_tuple_getattribute.lookup;have f4:=F.slot_tuple_getattribute.bind (.ref a);have f5:=am_tuple_getattr_none;unfold getAttr? getAttrBy? getAttrBy
 repeat (any_goals (first | assumption | exact hT _ | ((with_reducible show wpAny _ _ (call (Ja "tuple.__getattribute__") _ _) _ _ _);refine call_meets F.slot_tuple_getattribute (hT _) am_entry_tuple_getattribute (F.args_tuple_getattribute_2 _ _) (meets_getattribute_miss_tuple a xs k sl name _ U Z hsz) ⟨hx,hA,λh' aa e ac=>?_⟩) | wp_step))
 obtain⟨t',u',he⟩:=ac.there
 show wpAny _ _ (getattributeRaised _ _ _ _ _ _ _) _ _ _
 unfold getattributeRaised
 repeat (any_goals (first | assumption | wp_step))
 exact h _ _ ac.keeps
theorem lH (hx:s.heap.get? a=some o) (hc:o.cls = .type "list") (L:o.data = .seq xs k) (hd:o.dict=none) (U:JF (.type "list") name=pure none) (Z:(["__module__","__name__","__qualname__","__doc__","__annotations__"]:List Str).contains name=false) (hA:A.handled=none)
  (h : ∀h' tk,(∀b u,s.heap.get? b=some u->h'.get? b=some u)->Q none { s with heap:=h',toks:=tk }) (hsz:name.length+100<=g_:=by size_fits) :
  wpAny (model prog w) A (getAttr? (.ref a) name) Q E s:=by
 obtain⟨c,ad,af,sl⟩:=o;simp only at hc L hd;subst hc L hd;obtain⟨hp,g,d,tk,os⟩:=s;have hT : ∀aa,(⟨hp,g,d,aa,os⟩:Shared).TypeIs (.ref a) "list" := λ_=>⟨_,hx,rfl⟩
 have f1:=sub_AttributeError;have f3:=F.slot_list_getattribute.lookup;have f4:=F.slot_list_getattribute.bind (.ref a);have f5:=am_list_getattr_none;unfold getAttr? getAttrBy? getAttrBy
 repeat (any_goals (first | assumption | exact hT _ | ((with_reducible show wpAny _ _ (call (Ja "list.__getattribute__") _ _) _ _ _);refine call_meets F.slot_list_getattribute (hT _) am_entry_list_getattribute (F.args_list_getattribute_2 _ _) (meets_getattribute_miss_list a xs k sl name _ U Z hsz) ⟨hx,hA,λh' aa e ac=>?_⟩) | wp_step))
 obtain⟨t',u',he⟩:=ac.there
 show wpAny _ _ (getattributeRaised _ _ _ _ _ _ _) _ _ _
 unfold getattributeRaised
 repeat (any_goals (first | assumption | wp_step))
 exact h _ _ ac.keeps
end
namespace F
theorem entry_dict_update_loop:entryFor table "dict.update.loop" = some Builtin.«dict.update.loop» := entryFor_of_tree (by kernel_rfl)
theorem plain_dict_update_loop:plainId "dict.update.loop" = true:=by decide+kernel
theorem lk_tuple_keys:JF (.type "tuple") "keys" = pure none:=by rw[typeLookup_type,Jx];kernel_rfl
theorem lk_list_keys:JF (.type "list") "keys" = pure none:=by rw[typeLookup_type,Jx];kernel_rfl
end F
section
variable {K:Type} [DecidableEq K] {knd:KeyKind prog w K} {A:Around} {R:Result->Shared->Prop} {I:Addr} {fp wr:List Addr} {G:Array GenState->Array GenState->Prop} {n:Nat} {P:Nat->Value->Prop} {St:Nat->Shared->Prop}
theorem eT (W:WalksS prog w A.in1 I fp wr G n P St) (D:Addr) (an:D∉fp) (h0:Heap) (key:Nat->K) (val:Nat->Value) (kv:Nat->List (K × Value))
  (ad : ∀i v,i < n->P i v->∃q o k0 m,v = .ref q/\q∉D :: wr/\h0.get? q=some o/\o.cls = .type "tuple" /\ o.data = .seq #[k0,val i] m/\knd.is (key i) k0=true)
  (ao : ∀i,i < n->kv (i+1)=stored (kv i) (key i) (val i)) (hsz : ∀i,i<=n->(kv i).length<=g_) :
  ∀ (k i:Nat) (s:Shared) (tok:Tok),n - i=k->i<=n->St i s->s.heap.DictOf knd D (kv i)->(∀b o,b∉D :: wr->h0.get? b=some o->s.heap.get? b=some o) ->
   (∀s',Moved (D :: wr) G s s'->s'.heap.DictOf knd D (kv n)->R (.ok (.ret .none)) s') ->
   ID (model prog w) A (.builtin "dict.update.loop" ⟨[.ref D,.ref I,.int i tok,.none],[]⟩) R s:=by
 have ah:D∉wr:=λh=>an (W.sub _ h)
 have L : ∀b∈wr,b∈D :: wr:=λb U=>la _ U
 intro k
 induction k with
 | zero =>
  intro i s tok hk hi af hD aa hR;have as:i=n:=()
  subst as;refine HK F.entry_dict_update_loop ?_
  rw[Ig F.plain_dict_update_loop _]
  show wpAny _ A.in1 (pyNext (.ref I) >>= _) _ _ s
  refine a_ (W.done s _ _ af λs' hm=>?_)
  show wpAny _ A.in1 (do Builtin.Dict.addKeywords D [];ret v_) _ _ s'
  refine a_ (b_ (b_ (hR s' (hm.mono L) ?_)))
  obtain⟨o,es,ep,ho,rest⟩:=hD;exact⟨o,es,ep,hm.heap D _ ah ho,rest⟩
 | succ k ih =>
  intro i s tok hk hi af hD aa hR;have Z:i < n:=()
  refine HK F.entry_dict_update_loop ?_
  rw[Ig F.plain_dict_update_loop _]
  show wpAny _ A.in1 (pyNext (.ref I) >>= _) _ _ s
  refine a_ (W.item i s _ _ Z af λv s' hP ag hm=>?_)
  obtain⟨q,o,k0,m,rfl,hq,hg,hc,hd,au⟩:=ad i v Z hP;have ap:s'.heap.DictOf knd D (kv i):=by
   obtain⟨o,es,ep,ho,rest⟩:=hD;exact⟨o,es,ep,hm.heap D _ ah ho,rest⟩
  have am:s'.heap.get? q=some o:=hm.heap q o (λz=>hq (L _ z)) (aa q o hq hg)
  obtain⟨c,av,aw,sl⟩:=o;simp only at hc hd;subst hc hd;have hT:s'.TypeIs (.ref q) "tuple" :=⟨_,am,rfl⟩
  dsimp only;refine a_ (m6 (a_ ?_))
  refine wpAny_tryCatch ?_
  unfold Builtin.Dict.pairItems;refine a_ (Ic hT ?_)
  rw[if_pos ∅]
  refine a_ (z_ am rfl ?_)
  refine b_ ?_
  show wpAny _ _ (holding [k0,val i] (dictSet D k0 (val i))) _ _ s'
  refine m6 (wpAny_dictSet_pairs au ap (λh' ar ac=>?_) (hsz i hi))
  refine b_ ⟨JG F.plain_dict_update_loop _,ih (i+1) _ _ () Z (W.frame _ s' _ _ ag (F_ _) λb U o e=>?_) (by rw[ao i Z];exact ar) (λb o U e=>?_) λaq aj ai=>?_⟩
  .rw[ac.2 b (λh:b=D=>an (by rw[<- h];exact U))];exact e
  .rw[ac.2 b (λh:b=D=>U (by rw[h];exact m9))]
   exact hm.heap b o (λz=>U (L _ z)) (aa b o U e)
  .refine hR aq (Moved.trans W.gtrans ((hm.mono L).then_heap (F_ _) λb o U e=>?_) aj) ai
   rw[ac.2 b (λh:b=D=>U (by rw[h];exact m9))];exact e
theorem call_dict_pairs {l:Addr} {o:Obj} {key:Nat->K} {val:Nat->Value} {kv:Nat->List (K × Value)}
  (ao:T = "tuple" \/ T = "list") (hh:A.handled=none) (hl:s.heap.get? l=some o) (hc:o.cls = .type T) (L:o.data = .seq items m) (hd:o.dict=none)
  (ah : ∀i v,items[i]? = some v->∃q o k0 m,v = .ref q/\s.heap.get? q=some o/\o.cls = .type "tuple" /\ o.data = .seq #[k0,val i] m/\knd.is (key i) k0=true)
  (h0:kv 0=[]) (an : ∀i,i < items.size->kv (i+1)=stored (kv i) (key i) (val i)) (hsz : ∀i,i<=items.size->(kv i).length<=g_)
  (h : ∀h' tk,h'.DictOf knd s.heap.objs.size (kv items.size)->(∀b o,s.heap.get? b=some o->h'.get? b=some o)->Q (.ref s.heap.objs.size) { s with heap:=h',toks:=tk }) :
  wpAny (model prog w) A (call (.type "dict") [.ref l]) Q E s:=by
 refine callType_codes (Q₁:=λaj s₁=>aj = .ref s.heap.objs.size/\s₁={ s with heap:=s.heap.push { cls:=.type "dict",data:=.dict #[] } }) F.kt_called_dict (F.kt_typeCall_dict_1 _) F.entry_dict_init (kt_code_dict_new _ ⟨rfl,rfl⟩) ?_
 rintro aj s₁ ⟨rfl,rfl⟩
 have aa:(s.heap.push { cls:=.type "dict",data:=.dict #[] }).DictOf knd s.heap.objs.size []:=Heap.DictOf.new s.heap
 refine⟨aa.typeIs,F.args_dict_init_2 _ _,?_⟩
 unfold Builtin.«dict.__init__»;refine a_ ?_
 unfold Builtin.Dict.selfAndRest;refine a_ (wpAny_notOrdered_dict aa.typeIs ?_)
 show wpAny _ _ (pure (s.heap.objs.size,[i8 l])) _ _ _
 refine b_ ?_
 show wpAny _ _ (Builtin.Dict.updateFrom "dict.__init__" s.heap.objs.size (.ref l) [] .none) _ _ _
 unfold Builtin.Dict.updateFrom;have U:(s.heap.push { cls:=.type "dict",data:=.dict #[] }).get? l=some o:=c_ _ hl
 have ap:Shared.TypeIs { s with heap:=s.heap.push { cls:=.type "dict",data:=.dict #[] } } (.ref l) T:=⟨_,U,hc⟩
 refine a_ (Ic ap ?_)
 have ag : ∀(h1:Heap) (Z:Nat),(∀b u,(s.heap.push { cls:=.type "dict",data:=.dict #[] }).get? b=some u->h1.get? b=some u) ->
   ∀(TI:Obj) (St:Nat->Heap->Prop),Walks prog w A.in1.in1 h1.objs.size [h1.objs.size,l] [h1.objs.size] items.size (λi v=>items[i]? = some v) St->St 0 (h1.push TI) ->
   ID (model prog w) A.in1 (.builtin "dict.update.loop" ⟨[.ref s.heap.objs.size,.ref h1.objs.size,HU 0,.none],[]⟩) (wants (λr am=>r=v_/\Q (i8 s.heap.objs.size) am) E) { s with heap:=h1.push TI,toks:=Z }:=by
  intro h1 Z k1 TI St W ar;obtain⟨od,_,_,au,_⟩:=aa;have ac:s.heap.objs.size < h1.objs.size:=fy (k1 _ _ au)
  have aq:l < s.heap.objs.size:=fy hl
  have as:s.heap.objs.size∉[h1.objs.size,l]:=by
   simp only[i4,k_,md,or_false,not_or];exact⟨kf ac,IE aq⟩
  have af : ∀b o,s.heap.get? b=some o->(h1.push TI).get? b=some o:=λb o e=>c_ _ (k1 b o (c_ _ e))
  refine eT (knd:=knd) W.toS s.heap.objs.size as s.heap key val kv (λi v hi hv=>?_) an hsz (items.size - 0) 0 _ 0 rfl (HG _) ar ?_ (λb o _ e=>af b o e) λs' hm hD=>?_
  .obtain⟨q,o,k0,m,rfl,hg,r⟩:=ah i v hv
   have hq:=fy hg;exact⟨q,o,k0,m,rfl,by simp only[i4,k_,md,or_false,not_or];exact⟨kf hq,kf (lt_trans hq ac)⟩,hg,r⟩
  .rw[h0]
   obtain⟨o,es,ep,ho,rest⟩:=(Heap.DictOf.new (knd:=knd) s.heap);exact⟨o,es,ep,c_ _ (k1 _ _ ho),rest⟩
  .obtain⟨h',g',d',tk',os'⟩:=s'
   have eg:g'=s.gens:=hm.gens
   have ed:d'=s.drawn:=hm.drawn
   have eo:os'=s.os:=hm.os
   subst eg;subst ed;subst eo;refine⟨rfl,h h' tk' hD λb o e=>hm.heap b o ?_ (af b o e)⟩
   have hq:=fy e;simp only[i4,k_,md,or_false,not_or];exact⟨kf hq,kf (lt_trans hq ac)⟩
 have ad:A.in1.in1.handled=none:=by simp[hh]
 rcases ao with rfl | rfl
 .rw[if_pos ∅]
  refine a_ (ki U hc L hd F.lk_tuple_keys (by decide+kernel) ad (λh1 Z k1=>?_))
  rw[if_pos (show(Option.isNone (none:Option Value))=true from rfl)]
  refine a_ (wpAny_rule ?_)
  have ht:h1.IsTuple l items:=⟨o,k1 _ _ U,hc,m,L⟩
  refine a_ (B_ ht ?_)
  have ai:l≠h1.objs.size:=kf (fy (k1 _ _ U))
  refine b_ ⟨JG F.plain_dict_update_loop _,ag h1 Z k1 _ _ (Walks.tuple ad _ l ai items) ⟨⟨_,ge _ rfl,rfl,rfl⟩,?_⟩⟩
  exact⟨o,c_ _ (k1 _ _ U),hc,m,L⟩
 .rw[if_pos ∅]
  refine a_ (lH U hc L hd F.lk_list_keys (by decide+kernel) ad (λh1 Z k1=>?_))
  rw[if_pos (show(Option.isNone (none:Option Value))=true from rfl)]
  refine a_ (wpAny_rule ?_)
  have ht:h1.IsList l items:=⟨o,k1 _ _ U,hc,m,L⟩
  refine a_ (IM ht ?_)
  have ai:l≠h1.objs.size:=kf (fy (k1 _ _ U))
  refine b_ ⟨JG F.plain_dict_update_loop _,ag h1 Z k1 _ _ (Walks.list ad _ l ai items) ⟨⟨_,ge _ rfl,rfl,rfl⟩,?_⟩⟩
  exact⟨o,c_ _ (k1 _ _ U),hc,m,L⟩
end
end PySem
namespace L2
open PySem PySem.Spec PyProof.Rows
structure Cp (w:World) (K:e_) (a:Addr):Prop where
 ex : ∃es n,K.lookup a=some ⟨.type "dict",none,.dict es n,#[]⟩/\PySem.W.KeysLit w.params es.toList
def FnT (P:Program) (w:World) (K:e_) (mg:Str->Option Value) (base:Heap) (a:Addr) (x:Str) (k:Nat) (ps:List Str) (sp:Sp):Prop :=
 ∃f fd,dY P w K mg base CX0 k f fd ps sp/\nsIn K a x=some (-f)/\IT K (.ref f)=true/\dP K fd ps []
theorem kE {y:Str} (F:Fn P w K mg base y j ps sp) (Z:mg y=-f) (L:nsIn K a x=some (-f)) (h:j<=k)
  (hs : ∀vs H Q E,sp' vs H Q E->sp vs H Q E):FnT P w K mg base a x k ps sp':=by
 obtain⟨f',fd,F,m,U,b⟩:=F;rw[Z] at m;cases m;exact⟨f,fd,(F.mono h).imp hs,L,U,b⟩
noncomputable def yZ (names:List Str) (sp:Str->Sp) (tb:TE) (t:TA):TE:=λσ H Q=>tb σ H λy H1=>∃x,y = .str x/\x∈names/\t σ H1 λvs H2=>sp x vs H2 Q E0
section
variable {p p1:Pos} {b:Expr} {tb:TE} {t:TA}
theorem Ae {sp:Str->Sp} (TA:Cp X.w X.K a) (F : ∀y∈names,FnT X.prog X.w X.K X.mg X.base a y k ps (sp y)) (hm:X.mg x=-a) (hb:PE X b tb) (ha:PA X (e :: es) t) (hr:ce k X.A:=by exact ce.mono (by assumption) (by first | decide | omega)) (hg:Gl X x:=by exact rfl)
  (hs:vM b:=by exact λ_ _=>rfl) (Z:(x ==("__debug__" : Str))=false:=by decide)
  (he:i9 (e :: es) X.env=(false,eval e X.env) :: i9 es X.env:=by rfl) (aa:(HR pos (i9 es X.env)).any (·.1)=false:=by rfl) :
  PE X (.Call (.Subscript (.Name x p) b p1) (e :: es) [] pos) (yZ names sp tb t):=by
 intro pins s σ H Q I h
 show wpAny _ _ (do callWith pos (<- eval (.Subscript (.Name x p) b p1) X.env) [] (HR pos (i9 (e :: es) X.env)) (backToKw pos (keywordEach [] X.env))) _ _ s
 refine a_ (Subscript_ (iA I hg hm (thn (hb pins s σ H _ I h) λu s1 L=>?_) Z))
 obtain⟨v,H1,I1,r,y,ey,hy,q⟩:=L;subst ey;obtain⟨tk,rfl⟩:=r;obtain⟨f,fd,F,hn,kp,bd⟩:=F y hy;obtain⟨ac,n,hl,hk⟩:=TA.ex;have U:=PySem.W.mapOf_K (prog:=X.prog) I1.kIn hl hk;refine PyProof.Rows.tail_any U.typeIs PySem.F.slot_dict_getitem.lookup (wpAny_getItem_of (strKind_is X.prog X.w y tk) U (PySem.W.find_K hl hn) ?_) (hs _ _)
 have I2:Inv X pins σ H1 { s1 with toks:=s1.toks+1 }:=I1.tok _
 refine callWith_K (h₀:=X.base) I.ok.mod.kin kp (thn (ha pos pins _ σ H1 _ I2 q) λus s3 ⟨vs,H3,I3,r3,q3⟩=>⟨I3.kIn,?_⟩) he aa
 exact uW F hr bd .nil wc I3 r3 (by rw[HY];exact q3)
end
def Ht (H:Hp) (p:Addr) (ys:List V):Prop:=∃o:Obj,o.dict=none/\H p=some (.frz o (.tup ys))
def yd (H:Hp) (ys:List V) (F:List (Key × V)):Prop:=∃L:List (Addr × Key × V),ys=L.map (λx=>V.ref x.1)/\L.map (·.2)=F/\∀x∈L,H x.1>>[kV x.2.1,x.2.2]
def CT:List V->Hp->VK->Prop:=λxs H Q=>∃p,xs=[.ref p]/\∃ys F,(Ht H p ys\/H p*>ys)/\yd H ys F/\F.length<=g_/\∀d,H d=none->Q (.ref d) (upd H d (.dK (eN [] F)))
theorem nj {pins:List (Addr × Obj)} {σ:St} {H:Hp} {s:Shared} (I:Inv X pins σ H s) : ∀F:List (Addr × Key × V),(∀x∈F,H x.1>>[kV x.2.1,x.2.2]) ->
  ∃L:List (Key × Value),KV (F.map (·.2)) L/\∀(i:Nat) (x:Addr × Key × V),F[i]? = some x->∃(o:Obj) (k0:Value) (m:Nat) (r:Value),L[i]? = some (x.2.1,r)/\s.heap.get? x.1=some o/\o.cls = .type "tuple" /\ o.data = .seq #[k0,r] m/\(aR X.prog X.w).is x.2.1 k0=true
 | [],_=>⟨[],.nil,λi x h=>by simp at h⟩
 | y :: F,h=>by
  obtain⟨L,h1,h2⟩:=nj I F λx hx=>h x (la _ hx)
  obtain⟨its,r,⟨o,ho,hc,m,Z⟩,_⟩:=I.tuple (.of (h y m9));obtain⟨u,v,rfl,r1,U⟩:=jz r;refine⟨(y.2.1,v) :: L,.cons ⟨rfl,U⟩ h1,λi x e=>?_⟩
  cases i with
  | zero =>
   simp at e
   subst e;exact⟨o,u,m,v,rfl,ho,hc,Z,ls r1⟩
  | succ i=>exact h2 i x (by simpa using e)
theorem se (F:List (Key × Value)) (i:Nat) (x:Key × Value) (h:F[i]? = some x):merged [] (F.take (i+1))=stored (merged [] (F.take i)) x.1 x.2:=by
 rw[w5,h];unfold merged;rw[List.foldl_append];rfl
theorem tQ (hc:X.calm=true):bP X (.type "dict") CT:=by
 intro pins s σ H xs us Q I r h;obtain⟨p,rfl,ys,aj,hz,⟨L,rfl,rfl,hp⟩,hl,q⟩:=h;obtain⟨u,rfl,rx⟩:=cU r;cases rx;obtain⟨F,kv,ad⟩:=nj I L hp;have ai:L.length=F.length:=by have:=Paired.length kv;simpa using this
 obtain⟨its,o,T,m,rv,ho,hT,ac,Z,ag⟩ : ∃(its:List Value) (o:Obj) (T:String) (m:Nat),aO (L.map λx=>V.ref x.1) its/\s.heap.get? p=some o/\(T = "tuple" \/ T = "list")/\o.cls = .type T/\o.data = .seq its.toArray m/\o.dict=none:=by
  rcases hz with⟨o,hd,e⟩ | e
  .obtain⟨h1,_,its,r,o',h2,h3,m,h4⟩:=(show aX X.prog X.w H s.heap p (.frz o (.tup _)) from I.hok p _ e)
   rw[h1] at h2;cases h2;exact⟨its,o,"tuple",m,r,h1,.inl rfl,h3,h4,hd⟩
  .obtain⟨_,its,m,r,h1⟩:=(show aX X.prog X.w H s.heap p (.lst _) from I.hok p _ e)
   exact⟨its,_,"list",m,r,h1,.inr rfl,rfl,rfl,rfl⟩
 have af:its.toArray.size=F.length:=by have:=rv.length;simp at this ⊢;omega
 refine PySem.call_dict_pairs (knd:=aR X.prog X.w) (key:=λi=>((F[i]?).map (·.1)).getD (JS 0)) (val:=λi=>((F[i]?).map (·.2)).getD .none) (kv:=λi=>merged [] (F.take i)) hT (I.ok.hd hc) ho ac Z ag (λi v hv=>?_) rfl (λi hi=>?_) (λi hi=>?_) λh' tk dd kp=>?_
 .have hi:i < its.length:=by
   have:=(v8.mp hv).1
   simpa using this
  have U:i < L.length:=by have:=rv.length;simp at this;omega
  obtain⟨w',hw,ah⟩:=rv.get (i:=i) (x:=V.ref (L[i].1)) (by simp[U])
  have ev:v=w':=by
   rw[Jy,hw] at hv;exact(j9 hv).symm
  subst ev;cases ah;obtain⟨o',k0,m',rr,e1,e2,e3,e4,e5⟩:=ad i L[i] (by simp[U])
  refine⟨_,o',k0,m',rfl,e2,e3,?_,?_⟩
  .simp only[e1,map_some,Jc];exact e4
  .simp only[e1,map_some,Jc];exact e5
 .have hi':i < F.length:=()
  have e:F[i]? = some F[i]:=by simp[hi']
  rw[se F i _ e];simp only[e,map_some,Jc]
 .have h1:(merged [] (F.take i)).length<=(F.take i).length:=by
   have hg : ∀(ms ks:List (Key × Value)),(merged ks ms).length<=ks.length+ms.length:=by
    intro ms
    induction ms with
    | nil=>intro ks;simp[merged]
    | cons y ms ih =>
     intro ks;have h1:=ih (stored ks y.1 y.2);have h2:(stored ks y.1 y.2).length<=ks.length+1:=by unfold stored;split <;> simp
     show(merged (stored ks y.1 y.2) ms).length<=_
     simp only[l_];omega
   simpa using hg (F.take i) []
  have h2:(F.take i).length<=F.length:=by simp;omega
  simp at hl
  omega
 .rw[af,A_] at dd
  have aa:=fz (L.map (·.2)) [];simp at hl aa
  refine⟨.ref s.heap.objs.size,_,I.laid (a:=s.heap.objs.size) (o:=.dK (eN [] (L.map (·.2)))) (t':=tk) kp (h_ _) ⟨(),beq_eq_false_iff_ne.mpr (t6 (kf I.big)),_,KV.merge kv .nil,dd⟩,rfl,q _ (I.hok.fresh (h_ _))⟩
end L2
namespace PySem
open AutoSeq1 (wpAny_loadPart')
theorem nZ {Q:List Value->Shared->Prop} {r:Addr} {a b c:Int} {t u v:Tok} (hh:A.handled=none) (hr:IsRange s.heap r a b c t u v) (aa:Builtin.Range.small a b c=true)
  (hn:HI a b c=n) (ad:n<=2 ^ 24)
  (hQ : ∀h' tk (acc:Array Value),(∀b o,s.heap.get? b=some o->h'.get? b=some o)->s.heap.objs.size < h'.objs.size->JT (λi v=>∃t,v = .int (a+i * c) t) acc n->Q acc.toList { s with heap:=h',toks:=tk }) :
  wpAny (model prog w) A (collect (.ref r)) Q E s:=by
 unfold collect;refine a_ (wpAny_runValue (HK F.entry_proto_collect ?_))
 rw[Ig F.plain_proto_collect _]
 show wpAny _ A.in1 (newList [] >>= λl=>again (.builtin "list.__iadd__" ⟨[l,.ref r],[]⟩)) _ _ s
 refine a_ (ra ?_)
 refine b_ ⟨JG F.plain_list_iadd _,HK F.entry_list_iadd ?_⟩
 rw[Ig F.plain_list_iadd _]
 show wpAny _ A.in1 (w6 (.ref s.heap.objs.size) (.ref r) (.ref s.heap.objs.size)) _ _ _
 have hS:(s.heap.push { cls:=.type "list",data:=.seq ([]:List Value).toArray }).get? s.heap.objs.size=some { cls:=.type "list",data:=.seq #[] 0 }:=ge _ rfl
 have ac : ∀(s':Shared),(∃h' tk L c',s'={ s with heap:=h',toks:=tk }/\(∀b o,s.heap.get? b=some o->h'.get? b=some o)/\h'.get? s.heap.objs.size=some { cls:=.type "list",dict:=none,data:=.seq L c',slots := #[] }/\JT (λi v=>∃t,v = .int (a+i * c) t) L n) ->
   wpAny (model prog w) A (match i8 s.heap.objs.size with
   | i8 a=>do
    match (<- load a).data with
     | Data.seq xs _=>pure xs.toList
     | _=>unsupported "internal:collect"
   | _=>unsupported "internal:collect") Q E s':=by
  rintro s' ⟨h',tk,L,c',rfl,hk,Z,U⟩
  show wpAny _ A (load s.heap.objs.size >>= _) _ _ _
  refine a_ (wpAny_load Z ?_)
  exact b_ (hQ h' tk L hk (fy Z) U)
 refine t7 (wpAny_extend_range (A:=A) (R:=λx s'=>x = .ok (.ret (.ref s.heap.objs.size))/\∃h' tk L c',s'={ s with heap:=h',toks:=tk }/\(∀b o,s.heap.get? b=some o->h'.get? b=some o)/\h'.get? s.heap.objs.size=some { cls:=.type "list",dict:=none,data:=.seq L c',slots := #[] }/\JT (λi v=>∃t,v = .int (a+i * c) t) L n)
  (s:={ s with heap:=s.heap.push { cls:=.type "list",data:=.seq ([]:List Value).toArray } }) hh (c_ _ hr) aa hn ad _ _ 0 hS λh' tk L c' hk Z U=>⟨rfl,h',tk,L,c',rfl,λb o e=>hk b o (kf (fy e)) (c_ _ e),Z,U⟩) (λaf s' h=>?_) (λe s' h=>?_)
 .cases af with
  | done f =>
   obtain⟨e,q⟩:=h;cases e;exact ac _ q
  | again c'=>exact⟨h.1,Ib h.2 λr ag hr=>by obtain⟨rfl,q⟩:=hr;exact ac _ q⟩
 .exact absurd h.1 (by simp)
theorem lP (r:Addr) (a b c:Int) (t u v:Tok) (n:Nat) (F:Builtin.Range.small a b c=true) (hn:HI a b c=n) (U:n<=2 ^ 24) :
  Meets (Builtin.«tuple.__new__» ⟨[.type "tuple",.ref r],[]⟩)
   (λA R s=>A.handled=none/\IsRange s.heap r a b c t u v/\∀(h':Heap) tk (acc:Array Value),(∀b o',s.heap.get? b=some o'->h'.get? b=some o')->JT (λi v=>∃t,v = .int (a+i * c) t) acc n->R (.ok (.ret (.ref h'.objs.size))) { s with heap:=h'.push { cls:=.type "tuple",data:=.seq acc },toks:=tk }) :=
 .of_wp λprog w A R s h=>by
  obtain⟨hp,g,d,tk,os⟩:=s;obtain⟨hh,ht,h⟩:=h;have ac:=sub_tuple_self;have aa:=init_tuple_lookup;have ad:=madeHere_tuple;have hT:Shared.TypeIs ⟨hp,g,d,tk,os⟩ (.ref r) "range" :=⟨_,ht,rfl⟩
  wp_walk using wpAny_loadPart' ht,Ic hT,nZ (A:=A.in1) hh ht F hn U
  intro h' Z acc hk _ L
  show wpAny _ _ (p9 acc.toList.toArray >>= λv=>ret v) _ _ _
  unfold p9;refine a_ (ra ?_ (by show acc.toList.toArray.size<=g_;rw[Array.toArray_toList,L.1];exact n_ U ∅))
  refine b_ ⟨_,rfl,?_⟩
  rw[Array.toArray_toList];exact h h' Z acc hk L
theorem fN {r:Addr} {a b c:Int} {t u v:Tok} (hh:A.handled=none) (hr:IsRange s.heap r a b c t u v) (L:Builtin.Range.small a b c=true) (hn:HI a b c=n) (U:n<=2 ^ 24)
  (h : ∀(h':Heap) tk (acc:Array Value),(∀b o',s.heap.get? b=some o'->h'.get? b=some o')->JT (λi v=>∃t,v = .int (a+i * c) t) acc n->Q (.ref h'.objs.size) { s with heap:=h'.push { cls:=.type "tuple",data:=.seq acc },toks:=tk }) :
  wpAny (model prog w) A (call (.type "tuple") [.ref r]) Q E s :=
 callType_new F.called_tuple ∅ (F.typeCall_tuple_1 _) (F.newCall_tuple_1 _) (λZ=>F.args_object_init_2 Z _) F.entry_tuple_new
  (lP r a b c t u v n L hn U) ⟨hh,hr,λh' tk acc hk ha=>⟨⟨_,ge _ rfl,rfl⟩,h h' tk acc hk ha⟩⟩
end PySem
namespace L2
open PySem PySem.Spec PyProof.Rows
theorem yh (h:JT (λi v=>∃t,v=JC (0+i * 1) t) acc n):aO (iM 0 n) acc.toList:=by
 have key : ∀(k:Nat) (us:List Value),(∀(j:Nat) v,us[j]? = some v->∃t,v=JC ((k:Int)+j) t)->aO ((range' k us.length).map λi:Nat=>V.int (0+(i:Int))) us:=by
  intro k us
  induction us generalizing k with
  | nil=>intro _;exact .nil
  | cons u us F =>
   intro hu;rw[l_,List.range'_succ,k9];refine .cons ?_ (F (k+1) λj v e=>?_)
   .obtain⟨t,rfl⟩:=hu 0 u rfl
    exact⟨t,by simp⟩
   .obtain⟨t,rfl⟩:=hu (j+1) v (by simpa using e)
    exact⟨t,by congr 1;push_cast;omega⟩
 have:=key 0 acc.toList λj v e=>by
  obtain⟨t,rfl⟩:=h.2 j v (by simpa using e)
  exact⟨t,by simp⟩
 rw[pz,h.1,<- List.range_eq_range'] at this;exact this
def wo (ta:TA):TE:=λσ H Q=>ta σ H λvs H1=>∃j:Int,vs=[.int j]/\0<=j/\j<=1000/\∀l,H1 l=none->Q (.ref l) (upd H1 l (.tup (iM 0 j.toNat)))
section
variable {p:Pos}
theorem rQ (hc:X.calm=true) (hg:Gl X "tuple") (hm:X.mg "tuple" = none) (U:Gl X "range") (Z:X.mg "range" = none) (ha:PA X [e1] ta) (hs:i9 [e1] X.env=[(false,eval e1 X.env)]:=by rfl) :
  PE X (.Call (.Name "tuple" p) [.Call (.Name "range" p2) [e1] [] pos2] [] pos) (wo ta):=by
 intro pins s σ H Q I h;refine r_ (dF I hg hm (by decide+kernel:G_ "tuple" = some (.type "tuple")) ?_)
 refine o6 (Jf ?_) rfl rfl
 refine r_ (dF I U Z boot_range ?_)
 refine o6 (thn (ha pos2 pins s σ H _ I h) λus s1 F=>?_) hs rfl
 obtain⟨vs,H1,I1,r1,q1⟩:=F;obtain⟨j,e,q1,q2,q⟩:=q1;subst e;obtain⟨u,rfl,ru⟩:=cU r1;obtain⟨t,rfl⟩:=ru;refine call_range_1 ?_
 refine Jp ?_
 have hsz:HI 0 j 1=((j.toNat:Nat):Int):=by rw[rangeSize_one];split <;> omega
 refine fN (I.ok.hd hc) (IsRange.new ..) (small_one ∅ ∅ () ()) hsz () λh' tk acc hk L=>?_
 have I2:Inv X pins σ H1 { s1 with heap:=h',toks:=tk }:=I1.kept λb o e=>hk b o (c_ _ e)
 have I3:Inv X pins σ (upd H1 h'.objs.size (.tup (iM 0 j.toNat))) { s1 with heap:=h'.push { cls:=.type "tuple",data:=.seq acc },toks:=tk } :=
  I2.laid (t':=tk) (λb o e=>c_ _ e) (h_ _) (show aX X.prog X.w _ _ _ (.tup (iM 0 j.toNat)) from⟨by rw[aG];exact pj (aw ()),acc.toList,yh L,IsTup.new _ _⟩)
 exact⟨.ref h'.objs.size,_,I3,rfl,q _ (I2.hok.fresh (h_ _))⟩
end
end L2
namespace HT
open PySem PySem.Spec PyProof.Rows L2
theorem uN (n:Nat):G5 none none (-1) (n:Int)=((n:Int) - 1,-1):=by
 unfold G5;simp
theorem uE (n:Nat):wh ((n:Int) - 1) (-1) (-1)=n:=by
 unfold wh;have h1 : ¬ ((-1:Int) > 0):=()
 simp only[h1,if_false,show(-(-1):Int)=1 from rfl,Int.ediv_one]
 split <;> omega
theorem ko {sl:Addr} {Q:Int × Int × Nat->Shared->Prop} (hs:s.heap.IsSliceOf sl .none .none vk) (Z:IsPart vk (some (-1)))
  (h:Q ((n:Int) - 1,-1,n) s):wpAny (model prog w) A (IH (.ref sl) (pure (n:Int))) Q E s:=by
 obtain⟨os,F,U,L⟩:=id hs;unfold IH Builtin.Slice.sliceFields;refine a_ (a_ (o9 F L (x:=.none) rfl (a_ (o9 F L (x:=.none) rfl (a_ (o9 F L (x:=vk) rfl (b_ ?_)))))))
 refine a_ (iR Z ?_)
 show wpAny _ _ (if ((-1:Int) == 0)=true then _ else _) _ _ s
 rw[if_neg ∅]
 refine a_ (slicePart_none (a_ (slicePart_none (a_ (b_ ?_)))))
 show wpAny _ _ (match G5 none none (-1) (n:Int) with | (lo,hi)=>pure (lo,(-1:Int),wh lo hi (-1))) _ _ s
 rw[uN n]
 show wpAny _ _ (pure ((n:Int) - 1,(-1:Int),wh ((n:Int) - 1) (-1) (-1))) _ _ s
 rw[uE];exact b_ h
theorem xT (xs:Array Value):((range xs.size).filterMap λ(m:Nat)=>xs[(((xs.size:Int) - 1)+(m:Int) * (-1)).toNat]?).toArray=xs.toList.reverse.toArray:=by
 have e:(range xs.size).filterMap (λ(m:Nat)=>xs[(((xs.size:Int) - 1)+(m:Int) * (-1)).toNat]?)=(range xs.size).filterMap (λ(m:Nat)=>xs.toList.reverse.toArray[((0:Nat):Int).toNat+m]?):=by
  have key : ∀(f g:Nat->Option Value) (l:List Nat),(∀m∈l,f m=g m)->l.filterMap f=l.filterMap g:=by
   intro f g l
   induction l with
   | nil=>intro _;rfl
   | cons a l U =>
    intro h;rw[E_,E_,h a m9,U λm F=>h m (la _ F)]
  refine key _ _ _ λm F=>?_
  have L:=x5.mp F;have e1:(((xs.size:Int) - 1)+(m:Int) * (-1)).toNat=xs.size - 1 - m:=()
  rw[e1];simp[List.getElem?_reverse,L]
 rw[e];have:=tm xs.toList.reverse.toArray 0 xs.size
 have e2:(λ(m:Nat)=>xs.toList.reverse.toArray[(((0:Nat):Int)+(m:Int) * 1).toNat]?)=λ(m:Nat)=>xs.toList.reverse.toArray[((0:Nat):Int).toNat+m]? := by
  funext m
  congr 1
  omega
 rw[e2] at this;rw[this];rw[drop_zero,x6 (by simp)]
theorem getItem_tuple_rev {t sl:Addr} (L:IsTup s.heap t items) (hs:s.heap.IsSliceOf sl .none .none vk) (pk:IsPart vk (some (-1)))
  (h:Q (.ref s.heap.objs.size) { s with heap:=s.heap.push { cls:=.type "tuple",data:=.seq items.toList.reverse.toArray } })
  (hsz:items.size<=g_):wpAny (model prog w) A (Jw (.ref t) (.ref sl)) Q E s:=by
 have F:sizeOk (.seq items.toList.reverse.toArray):=by
  show items.toList.reverse.toArray.size<=g_
  simpa using hsz
 obtain⟨os,Z,aa,ad⟩:=id hs;have U:s.TypeIs (.ref sl) "slice" :=⟨os,Z,aa⟩
 unfold Jw
 try with_reducible refine m6 ?_
 first | refine a_ (b_ ?_) | skip
 refine a_ (wpAny_sequenceKey L.typeIs ∅ ?_)
 refine a_ (C_ (name:=d_ "__getitem__") L.typeIs nH
  (x4 nH L.typeIs entry_tuple_getitem ?_ (args_tuple_getitem _ _)))
 show wpAny _ _ (Builtin.Tuple.tupleItemsOf (.ref t) >>= _) _ _ s
 refine a_ (tupleItemsOf_ L ?_)
 refine a_ (Ic U ?_)
 rw[if_pos ∅]
 refine a_ (ko hs pk ?_)
 have ac : ¬ ((((items.size:Int) - 1) == 0 && (-1:Int) == 1 && items.size == items.size)=true):=by simp
 show wpAny _ _ (if (((items.size:Int) - 1) == 0 && (-1:Int) == 1 && items.size == items.size)=true then _ else _) _ _ s
 rw[if_neg ac,xT]
 first
  | exact a_ (m:=p9 _) (ra (b_ ⟨_,rfl,b_ h⟩) F)
  | exact a_ (m:=p9 _) (ra (a_ (b_ (b_ ⟨_,rfl,b_ h⟩))) F)
  | exact a_ (a_ (m:=p9 _) (ra (b_ (b_ ⟨_,rfl,b_ h⟩)) F))
  | exact a_ (a_ (m:=p9 _) (ra (b_ ⟨_,rfl,b_ h⟩) F))
end HT
namespace L2
open PySem PySem.Spec PyProof.Rows
section
variable {tk:TO} {stp:Expr}
def ym (te:TE) (tk:TO):TE:=λσ H Q=>te σ H λx H1=>tk σ H1 λu H2=>u=some (-1)/\∃a,x = .ref a/\∃xs,H2 a>>xs/\∀p,H2 p=none->Q (.ref p) (upd H2 p (.tup xs.reverse))
theorem vL (he:PE X e te) (hk:PO X (some stp) tk):PE X (.Subscript e (.Slice none none (some stp) p2) pos) (ym te tk):=by
 intro pins s σ H Q I h;refine Subscript_ (thn (he pins s σ H _ I h) λv s1 ⟨x,H1,I1,r1,q1⟩=>wpAny_Slice ?_)
 rw[evalPart_none];refine b_ (b_ (thn (hk pins s1 σ H1 _ I1 q1) λvk L F=>?_))
 obtain⟨u,H3,I3,pu,hu,a,ex,xs,hx,q3⟩:=F;subst ex;subst hu;cases r1;have U:Inv X pins σ H3 { L with heap:=L.heap.push { cls:=.type "slice",data:=.fields #[.none,.none,vk] } }:=I3.kept (t':=L.toks) λb ob q=>c_ _ q
 obtain⟨its,r,Z,hz⟩:=U.tuple (SqT.of hx);have aa:=r.length
 show wpAny (model X.prog X.w) X.A (subscriptTail e (.Slice none none (some stp) p2) (.ref a) (.ref L.heap.objs.size)) (EP X pins σ Q) X.xe { L with heap:=L.heap.push { cls:=.type "slice",data:=.fields #[.none,.none,vk] } }
 refine tail_any (ops:=[.ref a,.ref L.heap.objs.size]) Z.typeIs nH.lookup ?_ (by with_unfolding_all rfl)
 refine HT.getItem_tuple_rev Z (Heap.IsSliceOf.new ..) pu ?_ (by rw[k8] <;> omega)
 refine⟨.ref _,_,U.laid (t':=L.toks) (o:=.tup xs.reverse) (λb ob q=>c_ _ q) (h_ _) ?_,rfl,q3 _ (U.hok.fresh (h_ _))⟩
 exact⟨by rw[List.length_reverse];exact hz,_,r.reverse,IsTup.new _ _⟩
end
end L2
namespace PySem.W
open PySem PySem.Calls PyProof.Rows
theorem among_app {r:List Value} (l:List Value) (h:TriplesOk l):Jd pos (l++r)=(Jd pos l).or (Jd pos r):=by
 fun_induction TriplesOk l with
 | case1=>simp[Jd]
 | case2 a t b u x rest F =>
  simp only[List.cons_append,Jd]
  split
  .rfl
  .exact F h
 | case3 l h1 h2=>exact h.elim
theorem triples_app {r:List Value} (l:List Value) (h:TriplesOk l) (g:TriplesOk r):TriplesOk (l++r):=by
 fun_induction TriplesOk l with
 | case1=>simpa using g
 | case2 a t b u x rest F=>exact F h
 | case3 l h1 h2=>exact h.elim
end PySem.W
namespace L2
open PySem PySem.Spec PyProof.Rows
def lm (mg:Str->Option Value) (base:Heap):Prop:=∃bm ob,mg "__builtins__" = some (.ref bm)/\bm≠builtinsNs/\base.get? bm=some ob/\ob.cls = .type "module" /\ ob.dict=some builtinsNs/\ob.data = .plain
def yY (K:e_) (mg:Str->Option Value) (x:Str) (st:Stmt) (ps:List Str) (P:Addr):Prop :=
 ∃f fd c,Fun K x x st f fd/\fd.code = .ref c/\codeHdIn K c P=true/\mg x=some (.ref f)/\dP K fd ps []
section
variable {P:Program} {w:World} {K:e_} {mg:Str->Option Value} {base:Heap}
theorem yY.ok {pt:Addr} (F:yY K mg x st ps pt) (S:az N ps (am st)) (len : ∀vs H Q E,sp vs H Q E->vs.length=ps.length)
  (L : ∀(f c:Addr) (hc:codeHdIn K c pt=true) (A:Around) (outer:List Env) (s:Shared) (H:Hp) (vs:List V) (Q:VK) (E:XK),ce k (A.deeper (envOfC x (am st) s.heap.objs.size f (.ref c)))->sp vs H Q E ->
   ∃t,PSs (ci CX0 P w K mg base N x (am st) f (.ref c) A outer s H E).nox (br st) t/\t { nx:=λ_ H'=>Q .non H',rt:=Q } (fu N vs) H):Fn P w K mg base x (k+1) ps sp:=by
 obtain⟨f,fd,c,F,aa,hc,m,b⟩:=F;refine⟨f,fd,?_,m,F.kp,b⟩
 obtain⟨oc,od,kV,doc,pm,an,cdv,ct,osl,rfl,lk,U⟩:=F.ex;have e:cdv = .ref c:=aa
 subst e;refine zT lk U S len λA outer s H vs Q E hr Z=>?_
 obtain⟨t,h,q⟩:=L f c hc A outer s H vs Q E hr Z;exact⟨t,h.nox,q⟩
theorem Bz {c pt:Addr} {L:Option Addr} {kV:Value} (X:K.In h) (G:h.Ns i_ mg)
  (a:nsIn K i_ x=some (-f))
  (l:K.lookup f=some ⟨oc,od,.func (fnOf x x (bQ st) (br st) (am st) .none kV doc pm L cdv ct),osl⟩)
  (c':codeIn K cdv x=true) (k:IT K (.ref f)=true) (F:cdv = .ref c) (Z:codeHdIn K c pt=true)
  (U : ∀(kV doc pm:Value) (L:Option Addr) (cdv ct:Value) (us:List Value),us.length=ps.length->bindArgs (fnOf x x (bQ st) (br st) (am st) .none kV doc pm L cdv ct) ⟨us,[]⟩=pure (ps.zip us)):yY K mg x st ps pt :=
 ⟨f,_,c,iX l c' k,F,Z,mg_of X G a,(iX l c' k).binds U⟩
end
def jv (tabs:List (Addr × Addr × Str)) (H:Hp):Prop:=∀t∈tabs,H t.2.1=some (.tab t.2.2)
theorem Ac {α:Type} {f:α->Addr} {t t':α} : ∀{l:List α},(l.map f).Nodup->t∈l->t'∈l->f t=f t'->t=t'
 | [],_,h,_,_=>by simp at h
 | x :: l,F,h,h',e=>by
  have F:(f x :: l.map f).Nodup:=F
  obtain⟨h1,h2⟩:=D_.mp F;rcases i4.mp h with rfl | h
  .rcases i4.mp h' with rfl | h'
   .rfl
   .exact absurd (v9.mpr ⟨t',h',e.symm⟩) h1
  .rcases i4.mp h' with h' | h'
   .exact absurd (v9.mpr ⟨t,h,by rw[<- h'];exact e⟩:f x∈l.map f) h1
   .exact Ac h2 h h' e
theorem wQ {vs:List Value} {ns:List Int} {tabs:List (Addr × Addr × Str)}
  (KX:K.In s₁.heap) (aj:s₁.heap.Ns i_ mg) (hb:s₁.heap.Ns builtinsNs mb) (az : ∀x:Str,x ≠ "__name__" -> mb x=G_ x) (ag:s₁.heap.NoLimit) (hg:s₁.gens = #[]) (ap:lm mg s₁.heap)
  (hT : ∀t∈tabs,s₁.heap.get? t.2.1=some (tabObj #[])) (hC : ∀t∈tabs,codeHdIn K t.1 t.2.1=true) (aq : ∀t∈tabs,K.lookup t.2.1=none) (aw:(tabs.map (·.2.1)).Nodup)
  (ha:s₁.heap.get? a=some { cls:=.type "list",data:=.seq vs.toArray }) (hi:IntsAre vs ns) (hl:ns.length<=g_) (hr:ce k callerA)
  (F : ∀base:Heap,K.In base->base.Ns i_ mg->lm mg base->dY P w K mg base CX0 k fa fd [x] sp) (af : ∀(s:Shared) (u:Value),BindsTo s fd ⟨[u],[]⟩ [(x,u)])
  (as : ∀H:Hp,jv tabs H->SqL K H a (ns.map V.int)->sp [.ref a] H (λv H'=>v = .bl true/\jv tabs H') λ_ _ _=>False) :
  ID (model P w) callerA (.call (.ref fa) ⟨[.ref a],[]⟩) (λr s'=>r = .ok (.ret (.bool true))/\OldK s₁.heap s'.heap/\s'.os=s₁.os/\AllBare s'.gens) s₁:=by
 have rv:=kY hi;have an:=hi.length;have ao : ∀t∈tabs,t.2.1≠a:=λt U z=>by
  have:=hT t U
  rw[z,ha] at this;cases this
 obtain⟨S,Z,a0⟩ : ∃S:Hp,(∀b u,S b=some u->b=a/\K.lookup a=none/\u = .frz { cls:=.type "list",data:=.seq vs.toArray } (.lst (ns.map V.int)))/\∀H:Hp,(∀b u,S b=some u->H b=some u)->SqL K H a (ns.map V.int):=by
  cases hk:K.lookup a with
  | some o =>
   have e:=KX a o hk;rw[ha] at e;cases e;refine⟨λ_=>none,λb u z=>(nomatch (show(none:Option HO)=some u from z)),λH _=>?_⟩
   exact .inr ⟨_,vs.toArray,_,hk,rfl,rfl,rfl,by rw[k8,an];exact hl,by simpa using rv⟩
  | none =>
   refine⟨λb=>if b=a then some (.frz { cls:=.type "list",data:=.seq vs.toArray } (.lst (ns.map V.int))) else none,λb u z=>?_,λH z=>.inl (.inr ⟨_,z a _ (if_pos rfl)⟩)⟩
   by_cases hb:b=a
   .have z':=(if_pos hb).symm.trans z
    cases z';exact⟨hb,rfl,rfl⟩
   .have z':=(if_neg hb).symm.trans z
    cases z'
 obtain⟨H,aa,au,am⟩ : ∃H:Hp,(∀b u,H b=some u->S b=some u\/∃t∈tabs,b=t.2.1/\u = .tab t.2.2)/\jv tabs H/\∀b u,S b=some u->H b=some u:=by
  refine⟨λb=>match tabs.find? (λt=>t.2.1 == b) with | some t=>some (.tab t.2.2) | none=>S b,λb u z=>?_,λt U=>?_,λb u z=>?_⟩
  .cases q:tabs.find? (λt=>t.2.1 == b) with
   | some t =>
    simp only[q] at z;have e:=find?_some q;exact .inr ⟨t,List.mem_of_find?_eq_some q,(eq_of_beq e).symm,(j9 z).symm⟩
   | none =>
    simp only[q] at z;exact .inl z
  .cases q:tabs.find? (λt'=>t'.2.1 == t.2.1) with
   | some t' =>
    simp only[q];have e0:=find?_some q;have e:t'.2.1=t.2.1:=by simpa using e0
    have:t'=t:=by
     have hm:=List.mem_of_find?_eq_some q;exact Ac aw hm U e
    rw[this]
   | none =>
    have:=List.find?_eq_none.mp q t U
    simp at this
  .have hb:=(Z b u z).1
   cases q:tabs.find? (λt=>t.2.1 == b) with
   | some t =>
    have e0:=find?_some q;have e:t.2.1=b:=by simpa using e0
    exact absurd (e.trans hb) (ao t (List.mem_of_find?_eq_some q))
   | none =>
    simp only[q];exact z
 have ar:HOk P w H s₁.heap:=λb u z=>by
  rcases aa b u z with z | ⟨t,U,rfl,rfl⟩
  .obtain⟨rfl,_,rfl⟩:=Z b u z
   exact⟨ha,by rw[f_];exact hl,vs,_,rv,ha⟩
  .exact⟨#[],hT t U,trivial,λpos cv z=>by simp[Jd] at z⟩
 have L : ∀{b:Addr} {o:Obj},s₁.heap.get? b=some o->H b=none->(og s₁.heap H).get? b=some o:=λe n=>zp e n
 have ay : ∀{b:Addr} {o:Obj},s₁.heap.get? b=some o->o.cls≠.type "list" -> o.cls≠.none->H b=none:=λ{b o} e d d2=>by
  cases q:H b with
  | none=>rfl
  | some u =>
   rcases aa b u q with z | ⟨t,U,rfl,rfl⟩
   .obtain⟨rfl,_,_⟩:=Z b u z
    rw[ha] at e;cases e;exact absurd rfl d
   .rw[hT t U] at e;cases e
    exact absurd rfl d2
 have ax : ∀{b:Addr} {o:Obj} {es:Array JQ} {ep:Nat},s₁.heap.get? b=some o->o.data = .dict es ep->H b=none:=λ{b o es ep} e d=>by
  cases q:H b with
  | none=>rfl
  | some u =>
   rcases aa b u q with z | ⟨t,U,rfl,rfl⟩
   .obtain⟨rfl,_,_⟩:=Z b u z
    rw[ha] at e;cases e;have d':Data.seq vs.toArray _=Data.dict es ep:=d
    cases d'
   .rw[hT t U] at e;cases e
    have d':Data.fields #[]=Data.dict es ep:=d
    cases d'
 have ac : ∀{b:Addr} {m:Str->Option Value},s₁.heap.Ns b m->(og s₁.heap H).Ns b m:=λ{b m} zq31=>by obtain⟨o,es,ep,e,d,r⟩:=zq31;exact(⟨o,es,ep,L e (ax e d),d,r⟩)
 have ai:K.In (og s₁.heap H):=λb o e=>L (KX b o e) (by
  cases q:H b with
  | none=>rfl
  | some u =>
   rcases aa b u q with z | ⟨t,U,rfl,rfl⟩
   .obtain⟨rfl,z2,_⟩:=Z b u z
    rw[z2] at e;cases e
   .rw[aq t U] at e;cases e)
 have av:lm mg (og s₁.heap H):=by
  obtain⟨bm,ob,h1,h2,h3,h4,h5,h6⟩:=ap;exact⟨bm,ob,h1,h2,L h3 (ay h3 (by rw[h4];decide) (by rw[h4];decide)),h4,h5,h6⟩
 have hM:Mod K mg (og s₁.heap H):=⟨ai,ac aj,⟨mb,ac hb,az⟩,let ⟨mc,h1,h2⟩:=ag;⟨mc,ac h1,h2⟩⟩
 have e0:sY P w K mg (og s₁.heap H) callerA [] s₁ H:=⟨rfl,hM,λb o e=>A1 e,Jl (wN _ _),trivial,λb hb=>absurd (show b∈([]:List Addr) from hb) (by simp),ar,.of_eq hg⟩
 refine Ib ((F _ ai (ac aj) av).run callerA [] s₁ H ⟨[.ref a],[]⟩ [.ref a] [.ref a] _ _ hr e0 (af s₁ (.ref a)) (.cons rfl .nil) (as H au (a0 H am))) λr s' h=>?_
 cases r with
 | error e=>exact h.elim
 | ok fl =>
  cases fl with
  | next=>exact m_ h
  | brk=>exact m_ h
  | cont=>exact m_ h
  | ret u =>
   obtain⟨v,H',os,ah,un,ad,r',q⟩:=h;obtain⟨q',qT⟩:=q;subst q';obtain rfl:u=Value.bool true:=r'
   have frz : ∀b u,S b=some u->∀o,s₁.heap.get? b=some o->s'.heap.get? b=some o:=λb u z o e=>by
    obtain⟨rfl,_,rfl⟩:=Z b u z;have z2:=un.frzs b _ _ (am _ _ z);obtain⟨e2,_⟩:=ad b _ z2;rw[ha] at e;cases e;exact e2
   refine⟨rfl,⟨λb o e=>?_,λb o e=>un.there b o e (by simp)⟩,os,ah⟩
   cases q:H b with
   | none=>exact .inl (un.keep b o e q (by intro z;exact absurd (show b∈([]:List Addr) from z) (by simp)) (by simp))
   | some u =>
    rcases aa b u q with z | ⟨t,U,rfl,rfl⟩
    .exact .inl (frz b u z o e)
    .obtain⟨ps,e2,_⟩:=ad _ _ (qT t U)
     rw[hT t U] at e;cases e;exact .inr (.inl ⟨((codeHd_of_K KX (hC t U)).tab (hT t U)).isCodeTable,rfl,#[],ps,rfl,by rw[Array.empty_append];exact e2⟩)
theorem zK {l:PySem.W.OpenLaw} {q:Program} {d:DefRec} {K:Params->e_} {sp:World->Sp} {tabs:List (Addr × Addr × Str)}
  (hn:l.most=some n) (ad:n<=g_) (ah:d.params.defaults=[]) (hr:ce k callerA)
  (hY : ∀(w:World) (h:Heap),YP w h->(K w.params).In h) (hT : ∀(w:World) (h:Heap),YP w h->∀t∈tabs,h.get? t.2.1=some (tabObj #[]))
  (hC : ∀w:World,∀t∈tabs,codeHdIn (K w.params) t.1 t.2.1=true) (af : ∀w:World,∀t∈tabs,(K w.params).lookup t.2.1=none) (ac:(tabs.map (·.2.1)).Nodup)
  (F : ∀(w:World) (mg:Str->Option Value) (fa:Addr) (h:Heap),(K w.params).In h->h.Ns i_ mg->mg d.name=some (.ref fa) ->
   ∃ fd:FuncData,(∀(s:Shared) (u:Value),BindsTo s fd ⟨[u],[]⟩ [(x,u)]) /\
    ∀base:Heap,(K w.params).In base->base.Ns i_ mg->lm mg base->dY l.prog w (K w.params) mg base CX0 k fa fd [x] (sp w))
  (ag : ∀(w:World) (H:Hp) (a:Addr) (ns:List Int),ns.length<=n->jv tabs H->SqL (K w.params) H a (ns.map V.int)->sp w [.ref a] H (λv H'=>v = .bl true/\jv tabs H') λ_ _ _=>False) :
  PySem.W.WalkO q loose XP YP l.row.toRowW d [] (λf vs=>PySem.call f vs):=by
 refine Att.attach_call hn ah λw ai s₁ mg mb fa o pm cd doc a vs ns G Y ho hd aj aa Z U L hg=>?_
 have KX:=hY w _ Y;obtain⟨fd,hb,hF⟩:=F w mg fa _ KX G.T.g aa;exact wQ KX G.T.g G.T.b G.T.builtins G.T.nolimit hg G.T.bmain (hT w _ Y) (hC w) (af w) ac Z U (n_ L ad) hr hF hb λH hO hS=>ag w H a ns L hO hS
end L2
namespace PySem
open L2 PyProof.Rows PySem.Calls
def b01 (b:Bool):Int:=if b then 1 else 0
theorem sN {b:Bool} {Q:Int->Shared->Prop} (h:Q (hashInt (b01 b)) { s with toks:=s.toks+1 }):wpAny (model prog w) A (pyHash (.bool b)) Q E s:=by
 have L:s.TypeIs (.bool b) "bool" := rfl
 show wpAny _ _ (pyHashByItsType (.bool b)) Q E s
 unfold pyHashByItsType;refine a_ ?_
 rw[cRoomFor,if_neg (by rw[show[Value.bool b].any Value.onHeap=false from rfl];exact i6)]
 refine b_ (a_ (HJ L Jo.lookup ?_))
 refine If (λz=>by cases z) λ_=>?_
 refine a_ (HJ L Jo.lookup ?_)
 refine If (λz=>by cases z) λ_=>?_
 refine a_ (wpAny_callSpecialIfBoundUnlessNone?_slot L Jo (x4 Jo L PySem.F.entry_int_hash ?_ (PySem.F.args_int_hash_1 _)))
 have U:=rawHash_range (b01 b);cases b with
 | true =>
  refine(show wpAny _ _ (do ret (<- mkInt (rawHash 1))) _ _ s from wpAny_ret_mkInt ?_)
  show wpAny _ _ (if (decide (-(2:Int) ^ 63<=rawHash 1) && decide (rawHash 1 < 2 ^ 63))=true then _ else _) Q E _
  rw[if_pos ∅]
  exact b_ h
 | false =>
  refine(show wpAny _ _ (do ret (<- mkInt (rawHash 0))) _ _ s from wpAny_ret_mkInt ?_)
  show wpAny _ _ (if (decide (-(2:Int) ^ 63<=rawHash 0) && decide (rawHash 0 < 2 ^ 63))=true then _ else _) Q E _
  rw[if_pos ∅]
  exact b_ h
def gE:Option Key->Value->Bool
 | none,.none=>true
 | some (.inl i),.bool b=>b01 b == i
 | some k,v=>hZ k v
 | _,_=>false
theorem cb {k:Option Key} (h:gE k v=true):(k=none/\v = .none)\/(∃i t,k=some (.inl i)/\v = .int i t)\/(∃x t,k=some (.inr x)/\v = .str x t)\/∃b,k=some (.inl (b01 b))/\v = .bool b:=by
 cases k with
 | none=>cases v <;> first | exact .inl ⟨rfl,rfl⟩ | cases h
 | some k =>
  have F:hZ k v=true->(some k=none/\v = .none)\/(∃i t,some k=some (.inl i)/\v = .int i t)\/(∃x t,some k=some (.inr x)/\v = .str x t)\/∃b,some k=some (.inl (b01 b))/\v = .bool b:=λh=>by
   rcases bE h with⟨i,t,rfl,rfl⟩ | ⟨x,t,rfl,rfl⟩
   .exact .inr (.inl ⟨i,t,rfl,rfl⟩)
   .exact .inr (.inr (.inl ⟨x,t,rfl,rfl⟩))
  cases v with
  | bool b =>
   cases k with
   | inl i=>exact .inr (.inr (.inr ⟨b,by rw[eq_of_beq (show(b01 b == i)=true from h)],rfl⟩))
   | inr x=>exact F h
  | _=>exact F (by cases k <;> exact h)
theorem mN {k:Key} (h:hZ k v=true):gE (some k) v=true:=by
 rcases bE h with⟨i,t,rfl,rfl⟩ | ⟨x,t,rfl,rfl⟩ <;> exact h
def G7 (w:World):Option Key->Int | none=>gH | some k=>EO w k
theorem Ga {a b:Option Key} {Q:Bool->Shared->Prop} (hu:gE a u=true) (L:gE b v=true) (h:Q (decide (a=b)) s):wpAny (model prog w) A (eqBool u v) Q E s:=by
 have F : ∀i j:Int,decide (some (JS i:Key)=some (.inl j))=(i == j):=λi j=>by rw[t5];simp
 rcases cb hu with⟨rfl,rfl⟩ | ⟨i,t,rfl,rfl⟩ | ⟨x,t,rfl,rfl⟩ | ⟨c,rfl,rfl⟩ <;> rcases cb L with⟨rfl,rfl⟩ | ⟨j,t',rfl,rfl⟩ | ⟨y,t',rfl,rfl⟩ | ⟨d,rfl,rfl⟩
 .exact rC (by simpa using h)
 .exact SeqAt.EqAt.none_int j t' _ _ _ _ (by simpa using h)
 .exact SeqAt.EqAt.none_str y t' _ _ _ _ (by simpa using h)
 .exact SeqAt.EqAt.none_bool d _ _ _ _ (by simpa using h)
 .exact SeqAt.EqAt.int_none i t _ _ _ _ (by simpa using h)
 .rw[F] at h;exact wpAny_eqBool_int h
 .exact SeqAt.EqAt.int_str i t y t' _ _ _ _ (by simpa using h)
 .rw[F] at h;exact SeqAt.EqAt.int_bool i t d _ _ _ _ h
 .exact SeqAt.EqAt.str_none x t _ _ _ _ (by simpa using h)
 .exact SeqAt.EqAt.str_int x t j t' _ _ _ _ (by simpa using h)
 .refine wpAny_eqBool_str ?_
  have e:decide (x=y)=decide (some (h9 x:Key)=some (.inr y)):=decide_eq_decide.mpr ⟨λe=>by rw[e],λe=>Sum.inr.inj (j9 e)⟩
  rw[e];exact h
 .exact SeqAt.EqAt.str_bool x t d _ _ _ _ (by simpa using h)
 .exact SeqAt.EqAt.bool_none c _ _ _ _ (by simpa using h)
 .rw[F] at h;exact SeqAt.EqAt.bool_int c j t' _ _ _ _ h
 .exact SeqAt.EqAt.bool_str c y t' _ _ _ _ (by simpa using h)
 .rw[F] at h
  refine SeqAt.EqAt.bool_bool c d _ _ _ _ ?_
  have e:(c == d)=(b01 c == b01 d):=by cases c <;> cases d <;> rfl
  rw[e];exact h
def qA (prog:Program) (w:World):KeyKind prog w (Option Key) where
 is:=gE
 hash:=G7 w
 inj:=λv a b U L=>by
  rcases cb U with⟨rfl,rfl⟩ | ⟨i,t,rfl,rfl⟩ | ⟨x,t,rfl,rfl⟩ | ⟨c,rfl,rfl⟩ <;> rcases cb L with⟨rfl,e⟩ | ⟨j,u,rfl,e⟩ | ⟨y,u,rfl,e⟩ | ⟨d,rfl,e⟩ <;> first | rfl | (cases e;rfl) | cases e
 byValue:=λk v h=>by
  rcases cb h with⟨rfl,rfl⟩ | ⟨i,t,rfl,rfl⟩ | ⟨x,t,rfl,rfl⟩ | ⟨c,rfl,rfl⟩ <;> rfl
 pyHash:=λF h=>by
  rcases cb F with⟨rfl,rfl⟩ | ⟨i,t,rfl,rfl⟩ | ⟨x,t,rfl,rfl⟩ | ⟨c,rfl,rfl⟩
  .exact rZ h
  .exact wpAny_pyHash_int h
  .exact wpAny_pyHash_str h
  .exact sN h
 eqBool:=λhu F h=>Ga hu F h
 «strs» := λk x t v h=>by
  rcases cb h with⟨rfl,e⟩ | ⟨i,u,rfl,e⟩ | ⟨y,u,rfl,e⟩ | ⟨c,rfl,e⟩
  .cases e
  .cases e
  .cases e
   show gE (some (.inr x)) v=v.isStr x
   cases v <;> rfl
  .cases e
end PySem
namespace L2
open PySem PySem.Spec PyProof.Rows
def itr {α:Type} (f:α->α):Nat->α->α
 | 0,x=>x
 | n+1,x=>itr f n (f x)
theorem dm {α:Type} (f:α->α) : ∀(a b:Nat) (x:α),itr f (a+b) x=itr f b (itr f a x)
 | 0,b,x=>by rw[zero_add];rfl
 | a+1,b,x=>by rw[Nat.succ_add_eq_add_succ,Nat.add_succ];exact dm f a b (f x)
theorem nS (f:α->α) (n:Nat) (x:α):itr f (n+1) x=f (itr f n x):=dm f n 1 x
abbrev Pb:=SetTable.Probe
def adv (m:Nat) (p:Pb):Pb :=
 if p.more > 0 then { p with j:=p.j+1,more:=p.more - 1 } else
 { p with j:=(p.i * 5+1+p.perturb / 32) % (m+1),more:=o8 m ((p.i * 5+1+p.perturb / 32) % (m+1)) - (p.i * 5+1+p.perturb / 32) % (m+1),i:=(p.i * 5+1+p.perturb / 32) % (m+1),perturb:=p.perturb / 32 }
def kC (m:Nat) (x:Nat × Nat):Pb:={ j:=x.1,more:=o8 m x.1 - x.1,i:=x.1,perturb:=x.2,dummy:=none }
def lp (m:Nat) (x:Nat × Nat):Nat × Nat:=((x.1 * 5+1+x.2 / 32) % (m+1),x.2 / 32)
def st0 (m:Nat) (h:Int):Nat × Nat:=(y_ h % (m+1),y_ h)
theorem pw (m:Nat) (p:Pb):(adv m p).dummy=p.dummy:=by unfold adv;split <;> rfl
theorem oW (m:Nat) : ∀(n:Nat) (p:Pb),(itr (adv m) n p).dummy=p.dummy
 | 0,p=>rfl
 | n+1,p=>(oW m n (adv m p)).trans (pw m p)
theorem yF (m i:Nat):o8 m i - i<=9:=by unfold o8;split <;> omega
theorem zU (hi:i<=m) (F:k<=o8 m i - i):i+k<=m:=by unfold o8 at F;split at F <;> omega
theorem qG (m:Nat) : ∀(k:Nat) (p:Pb),k<=p.more->itr (adv m) k p={ p with j:=p.j+k,more:=p.more - k }
 | 0,p,_=>rfl
 | k+1,p,h=>by
  have e:adv m p={ p with j:=p.j+1,more:=p.more - 1 }:=by unfold adv;rw[if_pos ()]
  show itr (adv m) k (adv m p)=_
  rw[e,qG m k _ (by show k<=p.more - 1;omega)]
  simp[Nat.sub_sub,Nat.add_assoc,Nat.add_comm 1 k]
theorem mV (m:Nat) (p:Pb) (F:p.dummy=none):itr (adv m) (p.more+1) p=kC m (lp m (p.i,p.perturb)):=by
 rw[nS,qG m _ p (h_ _)];unfold adv;rw[if_neg (by show ¬ p.more - p.more > 0;omega)]
 simp[kC,lp,F]
theorem oP (m:Nat) : ∀(k:Nat) (p:Pb),p.dummy=none->p.more<=9->∃n,n<=10 * (k+1)/\itr (adv m) n p=kC m (itr (lp m) (k+1) (p.i,p.perturb))
 | 0,p,hd,hp=>⟨p.more+1,(),mV m p hd⟩
 | k+1,p,hd,hp=>by
  obtain⟨n,F,e⟩:=oP m k (kC m (lp m (p.i,p.perturb))) rfl (yF _ _);exact⟨p.more+1+n,(),by rw[dm,mV m p hd,e];rfl⟩
theorem vI (m:Nat) : ∀(k:Nat) (x:Nat × Nat),(itr (lp m) k x).2=x.2 / 32 ^ k
 | 0,x=>by simp[itr]
 | k+1,x=>by
  show(itr (lp m) k (lp m x)).2=_
  rw[vI m k,lp,Nat.pow_succ,Nat.mul_comm (32 ^ k),Nat.div_div_eq_div_mul]
def fv (m i:Nat):Nat:=(i * 5+1) % (m+1)
theorem wq (m:Nat) : ∀(k i:Nat),itr (lp m) k (i,0)=(itr (fv m) k i,0)
 | 0,i=>rfl
 | k+1,i=>by
  show itr (lp m) k (lp m (i,0))=(itr (fv m) k (fv m i),0)
  rw[<- wq m k]
  congr 1
  simp[lp,fv]
theorem yl (m:Nat) (x:Nat × Nat):(lp m x).1<=m:=Nat.le_of_lt_succ (mod_lt _ (Nat.succ_pos _))
def Msk (m:Nat):Prop:=m=7\/m=31\/m=127
theorem ES:itr (fv 7) 8 0=0/\∀j,j < 8->∃k,k < 8/\itr (fv 7) k 0=j:=by decide+kernel
theorem CQ:itr (fv 31) 32 0=0/\∀j,j < 32->∃k,k < 32/\itr (fv 31) k 0=j:=by decide+kernel
theorem BD:itr (fv 127) 128 0=0/\∀j,j < 128->∃k,k < 128/\itr (fv 127) k 0=j:=by decide+kernel
theorem GJ (F:Msk m):itr (fv m) (m+1) 0=0/\∀j,j < m+1->∃k,k < m+1/\itr (fv m) k 0=j:=by
 rcases F with rfl | rfl | rfl
 .exact ES
 .exact CQ
 .exact BD
theorem DX (hm:Msk m) (hi:i<=m) (hj:j<=m) : ∃k,k<=m/\itr (fv m) k i=j:=by
 obtain⟨Z,F⟩:=GJ hm;obtain⟨a,ha,U⟩:=F i ()
 obtain⟨b,hb,L⟩:=F j ()
 by_cases aa:a<=b
 .refine⟨b - a,(),?_⟩
  rw[<- U,<- dm,show a+(b - a)=b by omega,L]
 .refine⟨b+(m+1) - a,(),?_⟩
  rw[<- U,<- dm,show a+(b+(m+1) - a)=m+1+b by omega,dm,Z,L]
theorem we (h:Int):y_ h < 2 ^ 64:=by
 unfold y_;have h1:=Iz h (show(0:Int) < 2 ^ 64 by decide)
 have h2:=Jj h (show(2 ^ 64:Int)≠0 by decide)
 omega
theorem lj {x:Nat × Nat} (Z:Msk m) (U:x.2 < 2 ^ 64) (F:j<=m) : ∃k,k<=12+m/\(itr (lp m) (k+1) x).1=j:=by
 have L:(itr (lp m) 13 x).2=0:=by
  rw[vI];exact Nat.div_eq_of_lt (j8 U ∅)
 have hi:(itr (lp m) 13 x).1<=m:=by rw[nS];exact yl m _
 obtain⟨k,hk,e⟩:=DX Z hi F;refine⟨12+k,(),?_⟩
 have e2:itr (lp m) 13 x=((itr (lp m) 13 x).1,0):=by rw[<- L]
 rw[show 12+k+1=13+k by omega,dm,e2,wq]
 exact e
theorem Ge {p:Pb} (hm:Msk m) (L:p.dummy=none) (U:p.more<=9) (Z:p.perturb < 2 ^ 64) (F:j<=m) : ∃n,n<=10 * (m+13)/\(itr (adv m) n p).j=j:=by
 obtain⟨k,hk,e⟩:=lj (x:=(p.i,p.perturb)) hm Z F;obtain⟨n,hn,e2⟩:=oP m k p L U;exact⟨n,(),by rw[e2];exact e⟩
def OkP (p:Pb):Prop:=p.dummy=none/\p.more<=9/\p.perturb < 2 ^ 64
theorem yo (m:Nat) (h:Int):OkP (kC m (st0 m h)):=⟨rfl,yF _ _,we h⟩
def pat (m:Nat) (h:Int) (n:Nat):Pb:=itr (adv m) n (kC m (st0 m h))
theorem yw (m:Nat) (h:Int) (n:Nat):pat m h (n+1)=adv m (pat m h n):=nS _ _ _
theorem qz {m:Nat} {h:Int} : ∀n,(pat m h n).j+(pat m h n).more<=m/\(pat m h n).i<=m
 | 0=>by
  have hi:y_ h % (m+1)<=m:=Nat.le_of_lt_succ (mod_lt _ (Nat.succ_pos _))
  exact⟨zU hi (h_ _),hi⟩
 | n + 1=>by
  obtain⟨h1,h2⟩:=qz (m:=m) (h:=h) n;rw[yw];unfold adv
  split
  .refine⟨?_,h2⟩
   show(pat m h n).j+1+((pat m h n).more - 1)<=m
   omega
  .exact⟨zU (yl m ((pat m h n).i,(pat m h n).perturb)) (h_ _),yl m ((pat m h n).i,(pat m h n).perturb)⟩
structure wf (t:HC):Prop where
 rise:fc t
 nod:t.dummies = #[]
 msk:Msk t.mask
 ins : ∀j∈t.place.toList,j<=t.mask
 room:t.place.size<=t.mask
section
variable {t:HC}
theorem xf (U:fc t) (h:j∈t.place.toList):t.place[mu t.place j]? = some j:=by
 obtain⟨i,hi,e⟩:=IX h;have e1:t.place[i]? = some j:=by rw[<- s_,j6 hi,e]
 obtain⟨Z,L,F⟩:=sJ (j:=j) U;generalize mu t.place j=p at Z L F ⊢;have h1 : ¬ i < p:=λz=>absurd (L i j z e1) (w4 _)
 by_cases hp:p=i
 .rw[hp];exact e1
 .have hl:p < t.place.size:=by have:=(v8.mp e1).1;omega
  have e2:t.place[p]? = some t.place[p]:=by simp[hl]
  have:=F p _ (h_ _) e2
  have:=dn U (show p < i by omega) e2 e1
  omega
theorem uq (T:wf t) (h:j∉t.place.toList):t.slot j = .empty:=by
 unfold SetTable.slot;dsimp only;rw[if_neg,if_neg]
 .rw[T.nod];simp[SetTable.has]
 .intro z
  refine h ?_
  have:t.place[mu t.place j]? = some j:=by simpa using z
  rw[<- s_] at this;exact j7 this
theorem Ah (T:wf t) : ∃j,j<=t.mask/\j∉t.place.toList:=by
 false_or_by_contra
 rename_i h
 have hs:range (t.mask+1) ⊆ t.place.toList:=λj F=>by
  false_or_by_contra
  rename_i L
  exact h ⟨j,by have:=x5.mp F;omega,L⟩
 have:=(nodup_range (n:=t.mask+1)).length_le_of_subset hs
 have:=T.room
 simp at *
 omega
theorem Al {P:Nat->Prop} [DecidablePred P] : ∀n,P n->∃k,k<=n/\P k/\∀m,m < k->¬ P m
 | 0,h=>⟨0,h_ _,h,λm z=>absurd z (not_lt_zero _)⟩
 | n + 1,h=>by
  by_cases F : ∃k,k<=n/\P k
  .obtain⟨k,hk,hp⟩:=F
   obtain⟨l,hl,hp,L⟩:=Al k hp;exact⟨l,(),hp,L⟩
  .exact⟨n+1,h_ _,h,λm L hp=>F ⟨m,(),hp⟩⟩
theorem Bx (T:wf t) (h:Int) : ∃N,N<=10 * (t.mask+13)/\(pat t.mask h N).j∉t.place.toList/\∀n,n < N->(pat t.mask h n).j∈t.place.toList:=by
 obtain⟨j,F,U⟩:=Ah T;obtain⟨s1,s2,Z⟩:=yo t.mask h;obtain⟨n,L,e⟩:=Ge (p:=kC t.mask (st0 t.mask h)) T.msk s1 s2 Z F;obtain⟨k,hk,hp,hm⟩:=Al (P:=λn=>(pat t.mask h n).j∉t.place.toList) n (by show(pat t.mask h n).j∉_;unfold pat;rw[e];exact U)
 exact⟨k,(),hp,λm z=>by have:=hm m z;simpa using this⟩
theorem rN (L:Nat->Int) (h:Int) : ∀(n F:Nat) (p:Pb),n < F ->
  (∀k,k < n->∃i,t.slot (itr (adv t.mask) k p).j = .live i/\L i≠h) ->
  (t.slot (itr (adv t.mask) n p).j = .empty->Il t L h F p=some (.empty (itr (adv t.mask) n p).j p.dummy)) /\
  (∀i,t.slot (itr (adv t.mask) n p).j = .live i->L i=h->Il t L h F p=some (.candidate (itr (adv t.mask) n p).j i (itr (adv t.mask) (n+1) p)))
 | n,0,p,hf,_=>absurd hf (not_lt_zero _)
 | 0,F+1,p,hf,_=>by
  refine⟨λe=>?_,λi e hh=>?_⟩
  .unfold Il
   show(match t.slot p.j with | .empty=>_ | .dummy=>_ | .live i=>_)=_
   rw[show t.slot p.j = .empty from e]
   rfl
  .unfold Il
   rw[show t.slot p.j = .live i from e]
   dsimp only;rw[if_pos (by simp[hh])]
   rfl
 | n + 1,F+1,p,hf,hk=>by
  obtain⟨i,e,U⟩:=hk 0 ()
  have e0:Il t L h (F+1) p=Il t L h F (adv t.mask p):=by
   conv=>lhs;unfold Il
   rw[show t.slot p.j = .live i from e]
   dsimp only;rw[if_neg (by simpa using U)]
   rfl
  have Z:=rN L h n F (adv t.mask p) () λk z=>hk (k+1) ()
  rw[e0];rw[pw] at Z;exact Z
end
structure gX (t:HC) (es:List (Int × Value)):Prop where
 T:wf t
 len:t.place.size=es.length
 way : ∀j e,(j,e)∈t.place.toList.zip es->∃n,(pat t.mask e.1 n).j=j/\∀m,m < n->(pat t.mask e.1 m).j∈t.place.toList
theorem gX.plain {t:HC} {es:List (Int × Value)} (h:gX t es) (b:Bool):gX { t with plain:=b } es:=⟨⟨h.T.rise,h.T.nod,h.T.msk,h.T.ins,h.T.room⟩,h.len,h.way⟩
theorem gX.fits {t:HC} {es:List (Int × Value)} (h:gX t es):t.fits es.length=true:=by
 unfold SetTable.fits SetTable.fill;rw[h.T.nod,h.len];have:=h.T.room
 rw[h.len] at this;simpa using this
theorem vy (led:Bool):gX (.fresh 0 0 led) []:=⟨⟨by unfold fc;simp[SetTable.fresh],rfl,.inl rfl,λj h=>by simp[SetTable.fresh] at h,by simp[SetTable.fresh]⟩,rfl,λj e h=>by simp[SetTable.fresh] at h⟩
theorem AS {l:List α} {F:List β} (h:l.length=F.length) (p:Nat) (x:α) (y:β):(l.take p++x :: l.drop p).zip (F.take p++y :: F.drop p)=(l.zip F).take p++(x,y) ::(l.zip F).drop p:=by
 rw[List.zip_append (by simp[h]),List.zip_cons_cons]
 simp only[List.zip,List.take_zipWith,List.drop_zipWith]
theorem yp {t:HC} {es:Array (Int × Value)} {h:Int} {x:Value} {N:Nat} (L:gX t es.toList) (hN:(pat t.mask h N).j∉t.place.toList) (hb : ∀n,n < N->(pat t.mask h n).j∈t.place.toList) (hr:es.size+1<=t.mask) :
  gX (t.put (pat t.mask h N).j).1 (SetTable.insertAt es (t.put (pat t.mask h N).j).2 (h,x)).toList/\(t.put (pat t.mask h N).j).1.mask=t.mask/\(t.put (pat t.mask h N).j).1.led=t.led/\(t.put (pat t.mask h N).j).1.plain=t.plain/\(t.put (pat t.mask h N).j).1.place.size=es.size+1:=by
 have ac:=Aq L.T.rise (j:=(pat t.mask h N).j) (λz=>hN (by rw[<- s_] at z;exact j7 z))
 have ad:=(qz (m:=t.mask) (h:=h) N).1;generalize hj:(pat t.mask h N).j=j at *;have Z:(t.put j).1.mask=t.mask:=rfl
 have ep:(t.put j).1.place.toList=t.place.toList.take (mu t.place j)++j :: t.place.toList.drop (mu t.place j):=IW ..
 have F : ∀i,i∈(t.put j).1.place.toList↔i=j\/i∈t.place.toList:=λi=>by
  rw[ep]
  conv=>rhs;rw[<- Iq (mu t.place j) t.place.toList]
  simp only[t0,i4]
  constructor
  .rintro(z | z | z)
   .exact .inr (.inl z)
   .exact .inl z
   .exact .inr (.inr z)
  .rintro(z | z | z)
   .exact .inr (.inl z)
   .exact .inl z
   .exact .inr (.inr z)
 have U:t.place.toList.length=es.toList.length:=by rw[pz];exact L.len
 have hsz:(t.put j).1.place.size=es.size+1:=by
  rw[<- pz,ep];have:=congrArg w9 (Iq (mu t.place j) t.place.toList)
  rw[HD,U] at this;have e2:es.toList.length=es.size:=pz ..
  rw[HD,l_];omega
 refine⟨⟨⟨ac,?_,by rw[Z];exact L.T.msk,λi hi=>?_,?_⟩,?_,λi e hz=>?_⟩,Z,rfl,rfl,hsz⟩
 .show(if SetTable.has t.dummies j=true then _ else t.dummies) = #[]
  rw[L.T.nod];simp[SetTable.has]
 .rw[Z]
  rcases (F i).mp hi with rfl | z
  .omega
  .exact L.T.ins i z
 .rw[hsz,Z];exact hr
 .rw[hsz,(SetTable.insertAt_perm ..).length_eq];simp
 .rw[ep,IW,show(t.put j).2=mu t.place j from rfl,AS U] at hz
  rw[Z];have aa:(i,e)∈t.place.toList.zip es.toList->∃n,(pat t.mask e.1 n).j=i/\∀m,m < n->(pat t.mask e.1 m).j∈(t.put j).1.place.toList:=λz=>by
   obtain⟨n,h1,h2⟩:=L.way i e z;exact⟨n,h1,λm hm=>(F _).mpr (.inr (h2 m hm))⟩
  rcases t0.mp hz with z | z
  .exact aa (G3 z)
  .rcases i4.mp z with z | z
   .cases z
    exact⟨N,hj,λm hm=>(F _).mpr (.inr (hb m hm))⟩
   .exact aa (List.mem_of_mem_drop z)
def frO (ow:Array (Option Nat)) (j:Nat):Bool:=(ow.getD j (some 0)).isNone
theorem ph : ∀(F:Nat) (x:Nat × Nat),(∃k,k < F/\frO ow (itr (lp m) k x).1=true) ->
  ∃j,HN m ow F x.1 x.2=some j/\frO ow j=true/\∃n,(itr (adv m) n (kC m x)).j=j/\∀k,k < n->frO ow (itr (adv m) k (kC m x)).j=false
 | 0,x,h=>by obtain⟨k,Z,_⟩:=h;omega
 | F+1,x,h=>by
  have L : ∀k,k<=o8 m x.1 - x.1->(itr (adv m) k (kC m x)).j=x.1+k:=λk Z=>by rw[qG m k _ Z];rfl
  have ac:x.1<=o8 m x.1:=by unfold o8;split <;> omega
  unfold HN;cases hf:(range (o8 m x.1+1 - x.1)).find? λk=>(ow.getD (x.1+k) (some 0)).isNone with
  | some k =>
   obtain⟨h1,h2,h3⟩:=List.find?_range_eq_some.mp hf;have Z:k<=o8 m x.1 - x.1:=by have:=x5.mp h2;omega
   refine⟨x.1+k,rfl,h1,k,L k Z,λl hl=>?_⟩
   rw[L l ()]
   have:=h3 l hl
   unfold frO;cases z:(ow.getD (x.1+l) (some 0)).isNone with
   | false=>rfl
   | true=>rw[z] at this;exact absurd this ∅
  | none =>
   have h3:=List.find?_range_eq_none.mp hf;have aa : ∀l,l<=o8 m x.1 - x.1->frO ow (x.1+l)=false:=λl hl=>by
    have:=h3 l ()
    unfold frO;cases z:(ow.getD (x.1+l) (some 0)).isNone with
    | false=>rfl
    | true=>rw[z] at this;exact absurd this ∅
   obtain⟨k,Z,e⟩:=h;cases k with
   | zero =>
    have:=aa 0 ()
    rw[Nat.add_zero] at this;rw[show(itr (lp m) 0 x).1=x.1 from rfl,this] at e
    cases e
   | succ k =>
    obtain⟨j,e1,e2,n,e3,e4⟩:=ph F (lp m x) ⟨k,(),e⟩
    have U:itr (adv m) (o8 m x.1 - x.1+1) (kC m x)=kC m (lp m x):=mV m (kC m x) rfl
    refine⟨j,e1,e2,o8 m x.1 - x.1+1+n,by rw[dm,U];exact e3,λl hl=>?_⟩
    by_cases hx:l<=o8 m x.1 - x.1
    .rw[L l hx];exact aa l hx
    .have el:l=o8 m x.1 - x.1+1+(l - (o8 m x.1 - x.1+1)):=()
     rw[el,dm,U];exact e4 _ ()
structure oN (m:Nat) (hs:List Int) (ow:Array (Option Nat)) (d:Nat):Prop where
 size:ow.size=m+1
 perm:((range (m+1)).filterMap λj=>ow.getD j none).Perm (range d)
 way : ∀j k,ow.getD j none=some k->∃h n,hs[k]? = some h/\(pat m h n).j=j/\∀l,l < n->(ow.getD (pat m h l).j none).isSome=true
theorem nG {α β:Type} {f g:α->Option β} : ∀{l:List α},(∀x∈l,f x=g x)->l.filterMap f=l.filterMap g
 | [],_=>rfl
 | a :: l,h=>by rw[E_,E_,h a (by simp),nG λx z=>h x (by simp[z])]
theorem xV {f g:Nat->Option Nat} {j k:Nat} (hf:f j=none) (hg:g j=some k) (L : ∀i,i≠j->g i=f i) : ∀(l:List Nat),l.Nodup->j∈l->(l.filterMap g).Perm (k :: l.filterMap f)
 | [],_,h=>by cases h
 | a :: l,hn,h=>by
  rw[D_] at hn
  by_cases U:a=j
  .subst U
   rw[List.filterMap_cons_some hg,List.filterMap_cons_none hf];have:l.filterMap g=l.filterMap f:=nG λx F=>L x λe=>hn.1 (e ▸ F)
   rw[this]
  .have hm:j∈l:=(i4.mp h).resolve_left λe=>U e.symm
   have Z:=xV hf hg L l hn.2 hm;rw[E_,E_,L a U];cases f a with
   | none=>exact Z
   | some v=>exact(Z.cons v).trans (List.Perm.swap _ _ _)
theorem wg {f:Nat->Option Nat} : ∀(l:List Nat),(∀x∈l,(f x).isSome=true)->(l.filterMap f).length=l.length
 | [],_=>rfl
 | a :: l,h=>by
  obtain⟨v,e⟩:=Ik.mp (h a (by simp))
  rw[List.filterMap_cons_some e,l_,l_,wg l λx z=>h x (by simp[z])]
theorem DA (h:frO ow j=true):j < ow.size/\ow.getD j none=none:=by
 unfold frO at h
 by_cases F:j < ow.size
 .refine⟨F,?_⟩
  rw[IA,IN F,Jc] at h ⊢;simpa using h
 .simp[Array.getD,F] at h
theorem zj (F:j < ow.size) (h:frO ow j=false):(ow.getD j none).isSome=true:=by
 unfold frO at h;rw[IA,IN F,Jc] at h ⊢;cases z:ow[j] with
 | none=>rw[z] at h;cases h
 | some v=>rfl
theorem yr {hs:List Int} {d:Nat} {h:Int} (hm:Msk m) (O:oN m hs ow d) (hd:d<=m) (hh:hs[d]? = some h) :
  ∃j,HN m ow (Ir m) (y_ h % (m+1)) (y_ h)=some j/\oN m hs (ow.setIfInBounds j (some d)) (d+1):=by
 have F : ∃j0,j0<=m/\frO ow j0=true:=by
  false_or_by_contra
  rename_i hn
  have:=wg (f:=λj=>ow.getD j none) (range (m+1)) λx F=>by
   have F:=x5.mp F;refine zj (by rw[O.size];exact F) ?_
   cases z:frO ow x with
   | false=>rfl
   | true=>exact absurd ⟨x,(),z⟩ hn
  rw[O.perm.length_eq] at this;simp at this
  omega
 obtain⟨j0,Z,aa⟩:=F;obtain⟨k,hk,ek⟩:=lj (x:=st0 m h) hm (we h) Z;obtain⟨j,e1,e2,n,e3,e4⟩:=ph (m:=m) (ow:=ow) (Ir m) (st0 m h) ⟨k+1,by unfold Ir;omega,by rw[ek];exact aa⟩
 obtain⟨L,ac⟩:=DA e2;have g1:(ow.setIfInBounds j (some d)).getD j none=some d:=by rw[IA,Array.getElem?_setIfInBounds_self_of_lt L];rfl
 have g2 : ∀i,i≠j->(ow.setIfInBounds j (some d)).getD i none=ow.getD i none:=λi hi=>by
  simp only[IA];rw[Array.getElem?_setIfInBounds_ne (λz=>hi z.symm)]
 have g3 : ∀i,(ow.getD i none).isSome=true->((ow.setIfInBounds j (some d)).getD i none).isSome=true:=λi hi=>by
  by_cases e:i=j
  .subst e;rw[g1];rfl
  .rw[g2 i e];exact hi
 refine⟨j,e1,⟨by simp[O.size],?_,λi q U=>?_⟩⟩
 .have:=xV (f:=λj=>ow.getD j none) (g:=λi=>(ow.setIfInBounds j (some d)).getD i none) ac g1 g2 (range (m+1)) nodup_range (x5.mpr (by rw[<- O.size];exact L))
  rw[range_succ (n:=d)];exact this.trans ((O.perm.cons d).trans (List.perm_append_singleton d _).symm)
 .by_cases e:i=j
  .subst e
   rw[g1] at U;cases U;refine⟨h,n,hh,e3,λl hl=>g3 _ (zj ?_ (e4 l hl))⟩
   have:=(qz (m:=m) (h:=h) l).1
   rw[O.size]
   show(pat m h l).j < m+1
   omega
  .rw[g2 i e] at U
   obtain⟨h',n',a1,a2,a3⟩:=O.way i q U;exact⟨h',n',a1,a2,λl hl=>g3 _ (a3 l hl)⟩
theorem rX {hs:List Int} (L:Msk m) : ∀(left:List Int) (d:Nat) (ow:Array (Option Nat)),oN m hs ow d->hs.drop d=left->d+left.length<=m+1 ->
  ∃ F,(left.foldl (λacc h=>do
   let (owner,k) <- acc
   let j <- HN m owner (Ir m) (y_ h % (m+1)) (y_ h)
   pure (owner.setIfInBounds j (some k),k+1)) (some (ow,d)):Option (Array (Option Nat) × Nat))=some (F,d+left.length)/\oN m hs F (d+left.length)
 | [],d,ow,O,_,_=>⟨ow,rfl,O⟩
 | h :: left,d,ow,O,hl,hd=>by
  have U:hs[d]? = some h:=by
   have:=congrArg (λl=>l[0]?) hl
   simpa [HX] using this
  rw[l_] at hd;obtain⟨j,e,Z⟩:=yr L O () U
  obtain⟨F,e1,e2⟩:=rX L left (d+1) _ Z (by rw[<- List.drop_drop,hl];rfl) ()
  refine⟨F,?_,?_⟩
  .rw[foldl_cons]
   have e0:(do
    let (owner,k) <- some (ow,d)
    let j <- HN m owner (Ir m) (y_ h % (m+1)) (y_ h)
    pure (owner.setIfInBounds j (some k),k+1):Option (Array (Option Nat) × Nat))=some (ow.setIfInBounds j (some d),d+1):=by
    show(HN m ow (Ir m) (y_ h % (m+1)) (y_ h) >>= λj=>_)=_
    rw[e];rfl
   rw[e0,e1,l_]
   congr 2
   omega
  .rw[l_,show d+(left.length+1)=d+1+left.length by omega];exact e2
theorem A5 (m:Nat) (hs:List Int):oN m hs (replicate (m+1) none) 0:=by
 have g : ∀j,(replicate (m+1) (none:Option Nat)).getD j none=none:=λj=>by
  by_cases h:j < m+1
  .simp[Array.getD,h]
  .simp[Array.getD,h]
 refine⟨by simp,?_,λj k e=>by rw[g] at e;cases e⟩
 have:((range (m+1)).filterMap λj=>(replicate (m+1) (none:Option Nat)).getD j none)=[]:=by
  rw[List.filterMap_eq_nil_iff];exact λx _=>g x
 rw[this];simp
theorem yX (F:Msk m) (hl:hs.size<=m+1) : ∃ow,JX m hs=some ow/\oN m hs.toList ow hs.size:=by
 obtain⟨ow,e,O⟩:=rX (hs:=hs.toList) F hs.toList 0 _ (A5 m hs.toList) rfl (by simpa using hl)
 rw[pz,zero_add] at O;refine⟨ow,?_,O⟩
 unfold JX;rw[<- Array.foldl_toList,e];rfl
theorem Aw {β:Type} {g:Nat->Option β} {j:Nat} {e:β} : ∀(l:List (Nat × Nat)),(∀x∈l,(g x.2).isSome=true)->(j,e)∈(l.map (·.1)).zip ((l.map (·.2)).filterMap g)->∃k,(j,k)∈l/\g k=some e
 | [],_,h=>by cases h
 | x :: l,hg,h=>by
  obtain⟨v,F⟩:=Ik.mp (hg x (by simp))
  rw[k9,k9,List.filterMap_cons_some F,List.zip_cons_cons] at h;rcases i4.mp h with z | z
  .cases z
   exact⟨x.2,by simp,F⟩
  .obtain⟨k,h1,h2⟩:=Aw l (λy L=>hg y (by simp[L])) z
   exact⟨k,by simp[h1],h2⟩
theorem wA {es:Array (Int × Value)} {f mv:Nat} {pl:Bool} (hm:Msk m) (hl:es.size<=m) :
  ∃t od,SetTable.laid m f mv led pl (es.map (·.1))=some (t,od)/\(od.filterMap (es[·]?)).toList.Perm es.toList/\gX t (od.filterMap (es[·]?)).toList/\t.led=led/\t.mask=m:=by
 obtain⟨ow,e,O⟩:=yX (hs:=es.map (·.1)) hm (by simp;omega)
 rw[Array.size_map] at O;have eL:SetTable.laid m f mv led pl (es.map (·.1))=some ({ mask:=m,place:=(((range (m+1)).filterMap λj=>(ow.getD j none).map (j,·)).map (·.1)).toArray,dummies := #[],finger:=f,led,moves:=mv,plain:=pl },(((range (m+1)).filterMap λj=>(ow.getD j none).map (j,·)).map (·.2)).toArray):=by
  unfold SetTable.laid;rw[e];rfl
 refine⟨_,_,eL,?_⟩
 have U:=(wG eL).1;generalize aa:((range (m+1)).filterMap λj=>(ow.getD j none).map (j,·))=F at U ⊢
 have L:(F.map (·.2)).Perm (range es.size):=by
  rw[<- aa,List.map_filterMap];refine List.Perm.trans (List.Perm.of_eq (nG λx _=>?_)) O.perm
  cases ow.getD x none <;> rfl
 have ac : ∀x∈F,x.1<=m/\ow.getD x.1 none=some x.2:=λx hx=>by
  rw[<- aa] at hx;obtain⟨a,ha,ea⟩:=mem_filterMap.mp hx;obtain⟨b,hb,rfl⟩:=JM.mp ea;exact⟨by have:=x5.mp ha;show a<=m;omega,hb⟩
 have ad : ∀x∈F,x.2 < es.size:=λx hx=>x5.mp (L.mem_iff.mp (HF hx))
 have Z:((F.map (·.2)).filterMap (es[·]?)).Perm es.toList:=by
  have:=L.filterMap (es[·]?)
  rwa [filterMap_getElem?_range] at this
 have af:((F.map (·.2)).toArray.filterMap (es[·]?)).toList=(F.map (·.2)).filterMap (es[·]?):=by rw[Array.toList_filterMap]
 rw[af];have ag:F.length=es.size:=by have:=L.length_eq;simpa using this
 refine⟨Z,⟨⟨U,rfl,hm,λj hj=>?_,?_⟩,?_,λj x hz=>?_⟩,rfl,rfl⟩
 .obtain⟨x,hx,rfl⟩:=v9.mp (show j∈F.map (·.1) by simpa using hj)
  exact(ac x hx).1
 .show(F.map (·.1)).toArray.size<=m
  simp;omega
 .show(F.map (·.1)).toArray.size=_
  rw[Z.length_eq];simp;omega
 .obtain⟨k,h1,h2⟩:=Aw (g:=λk=>es[k]?) F (λy hy=>by show(es[y.2]?).isSome=true;simp[ad y hy]) (show(j,x)∈(F.map (·.1)).zip _ by simpa using hz)
  obtain⟨h,n,a1,a2,a3⟩:=O.way j k (ac _ h1).2;have ex:h=x.1:=by
   rw[Array.toList_map,q_,s_,h2] at a1;exact(j9 a1).symm
  subst ex;refine⟨n,a2,λl hl=>?_⟩
  obtain⟨v,hv⟩:=Ik.mp (a3 l hl)
  show(pat m x.1 l).j∈(F.map (·.1)).toArray.toList
  refine(show(pat m x.1 l).j∈F.map (·.1) from v9.mpr ⟨((pat m x.1 l).j,v),?_,rfl⟩)
  rw[<- aa];have ah:=(qz (m:=m) (h:=x.1) l).1;exact mem_filterMap.mpr ⟨(pat m x.1 l).j,x5.mpr (),by rw[hv];rfl⟩
end L2
namespace PySem
open L2 PyProof.Rows
section
variable {K:Type} [DecidableEq K] {knd:KeyKind prog w K} {A:Around} {E:Value->Shared->Prop} {s:Shared}
theorem nY (n:Nat) {v:Value} (h:carriedByValue v=true):ofAClassStatement n v=pure false:=by
 cases v with
 | ref a=>simp[carriedByValue] at h
 | _=>cases n <;> rfl
theorem pG {ks:List K} {Q:Bool->Shared->Prop} (L:x_ knd s.heap ks a) (h:Q false s):wpAny (model prog w) A (ofAClassStatement 8 (.ref a)) Q E s:=by
 have U:=L.typeIs;obtain⟨o,items,n,ho,_,Z,hi⟩:=L;unfold ofAClassStatement;refine a_ (Ic U ?_)
 dsimp only;rw[if_pos ∅]
 refine a_ (b_ ?_)
 simp only[Bool.not_true,j_,if_false];refine a_ (z_ ho Z ?_)
 dsimp only;refine a_ ?_
 rw[<- Array.forIn_toList];refine wpAny_forIn_list _ (λrest r s'=>r.1=none/\s'=s/\∀v∈rest,carriedByValue v=true) _ ?_ ?_ _ _ ⟨rfl,rfl,hi.byValue⟩
 .rintro v rest r s' ⟨hr,rfl,hall⟩
  rw[nY _ (hall v m9)];refine a_ (b_ ?_)
  simp only[j_,if_false];exact b_ ⟨rfl,rfl,λu F=>hall u (la _ F)⟩
 .rintro⟨r1,r2⟩ s' ⟨hr,rfl,_⟩
  simp only at hr;subst hr;exact b_ h
theorem yz {k:List K} {Q:Bool->Shared->Prop} (hk:x_ knd s.heap k b) (l:List Value) (hl : ∀v∈l,∃L F,v = .ref F/\x_ knd s.heap L F) (h:Q false s):wpAny (model prog w) A (searchCouldBeSeen (.ref b) l) Q E s:=by
 unfold searchCouldBeSeen;refine a_ ?_
 refine wpAny_forIn_list _ (λrest r s'=>r.1=none/\s'=s/\∀v∈rest,∃L F,v = .ref F/\x_ knd s.heap L F) _ ?_ ?_ _ _ ⟨rfl,rfl,hl⟩
 .rintro v rest r s' ⟨hr,rfl,hall⟩
  obtain⟨L,F,rfl,U⟩:=hall v m9;dsimp only;have nx : ∀u∈rest,∃L F,u=i8 F/\x_ knd s'.heap L F:=λu Z=>hall u (la _ Z)
  refine If (λ_=>?_) (λ_=>?_)
  .exact b_ ⟨rfl,rfl,nx⟩
  refine a_ (wpAny_eqIsQuiet_tuple hk ?_)
  simp only[Bool.not_true,j_,if_false];refine a_ (wpAny_eqIsQuiet_tuple U ?_)
  simp only[Bool.not_true,j_,if_false];refine a_ (pG hk ?_)
  simp only[j_,if_false];refine a_ (pG U ?_)
  simp only[j_,if_false];exact b_ ⟨rfl,rfl,nx⟩
 .rintro⟨r1,r2⟩ s' ⟨hr,rfl,_⟩
  simp only at hr;subst hr;exact b_ h
theorem pW (n:Nat) {v:Value} (h:(∃i t,v = .int i t)\/∃x t,v = .str x t) : ∃b,hashByValue n v=pure b:=by
 rcases h with⟨i,t,rfl⟩ | ⟨x,t,rfl⟩
 .cases n <;> exact⟨true,rfl⟩
 .cases n <;> exact⟨false,rfl⟩
theorem xB {Q:Bool->Shared->Prop} (U:s.heap.IsTuple a items) (hv : ∀v∈items.toList,(∃i t,v = .int i t)\/∃x t,v = .str x t) (h : ∀b,Q b s):wpAny (model prog w) A (hashByValue 8 (.ref a)) Q E s:=by
 have Z:=U.typeIs;obtain⟨o,ho,_,n,hd⟩:=U;unfold hashByValue;refine a_ (HJ Z F.slot_tuple_hash.lookup ?_)
 show wpAny _ _ (seqItems? (.ref a) >>= _) _ _ s
 refine a_ (z_ ho hd ?_)
 dsimp only;refine a_ ?_
 rw[Jc,<- Array.forIn_toList];refine wpAny_forIn_list _ (λrest r s'=>s'=s/\(r.1=none\/r.1=some false)/\∀v∈rest,(∃i t,v = .int i t)\/∃x t,v = .str x t) _ ?_ ?_ _ _ ⟨rfl,.inl rfl,hv⟩
 .rintro v rest r s' ⟨rfl,hr,hall⟩
  obtain⟨b,e⟩:=pW 7 (hall v m9);rw[e];refine a_ (b_ ?_)
  cases b with
  | true =>
   simp only[Bool.not_true,j_,if_false];exact b_ ⟨rfl,.inl rfl,λu L=>hall u (la _ L)⟩
  | false =>
   simp only[Bool.not_false,if_true]
   first | exact b_ (b_ (h _)) | exact b_ (h _) | exact b_ (b_ (b_ (h _)))
 .rintro⟨r1,r2⟩ s' ⟨rfl,hr,_⟩
  rcases hr with hr | hr
  .simp only at hr
   subst hr;exact b_ (h _)
  .simp only at hr
   subst hr;exact b_ (h _)
def rJ (knd:KeyKind prog w K) (x:List K × Addr):Int × Value:=(t4 knd x.1,.ref x.2)
theorem vU {es:Array (Int × Value)} {l:List (List K × Addr)} (hl:es.toList=l.map (rJ knd)) (i:Nat):es[i]? =(l[i]?).map (rJ knd):=by
 rw[<- s_,hl,q_]
theorem CF {l:List α} {F:List β} {x:α} {y:β} (h1:l[i]? = some x) (h2:F[i]? = some y):(x,y)∈l.zip F:=by
 refine j7 (i:=i) ?_
 rw[List.getElem?_zip_eq_some];exact⟨h1,h2⟩
theorem nI {a b : Addr} {o:Obj} {es:Array (Int × Value)} {ep:Nat} {t:HC} {l:List (List K × Addr)} {k:List K} {N:Nat} {Q:SetFound->Shared->Prop}
    (hu:A.units < cLine) (ho:s.heap.get? a=some o) (hd:o.data = .set es ep t) (L:gX t es.toList) (hl:es.toList=l.map (rJ knd)) (hk : ∀x∈l,x_ knd s.heap x.1 x.2) (hx:x_ knd s.heap k b)
    (hN:(pat t.mask (t4 knd k) N).j∉t.place.toList) (hb : ∀n,n < N->(pat t.mask (t4 knd k) n).j∈t.place.toList) (av:N<=10 * (t.mask+13))
    (q1:(∃x∈l,x.1=k)->Q (.there none) s) (q2:(∀x∈l,x.1≠k)->Q (.free (pat t.mask (t4 knd k) N).j false) s) :
    ∀ (U n:Nat) (st:Option Pb),n<=N->N - n < U->st.getD (t.probeStart (t4 knd k))=pat t.mask (t4 knd k) n ->
      (∀(m i:Nat) (x:List K × Addr),m < n->t.place[i]? = some (pat t.mask (t4 knd k) m).j->l[i]? = some x->x.1≠k) ->
      wpAny (model prog w) A (setSearchFrom a (.ref b) (t4 knd k) true U st) Q E s
  | 0,n,st,_,h,_,_=>absurd h (not_lt_zero _)
  | U + 1, n,st,hn,hf,hst,hold=>by
    have aj:t.fits es.size=true:=by have:=L.fits;rwa [pz] at this
    have hsz:t.place.size=es.size:=by have:=L.len;rwa [pz] at this
    have a2:l.length=es.size:=by have:=congrArg w9 hl;simpa using this.symm
    have aw : ∀i j,t.place[i]? = some j->∃x,l[i]? = some x:=λi j e=>by
      have:=(v8.mp e).1
      exact⟨l[i]'(),j6 _⟩
    have ap:t.gaveWay=false:=by
      unfold SetTable.gaveWay;rcases L.T.msk with e | e | e <;> rw[e] <;> decide
    unfold setSearchFrom;refine a_ (Jr ho hd aj ?_)
    dsimp only;rw[ap,hst];simp only[j_,if_false];generalize hh:t4 knd k=h at *
    let P:Nat->Prop:=λm=>(pat t.mask h (n+m)).j∉t.place.toList\/∃x,l[mu t.place (pat t.mask h (n+m)).j]? = some x/\t4 knd x.1=h
    haveI:DecidablePred P:=λm=>I0 _
    obtain⟨m,hm,hP,ag⟩:=Al (P:=P) (N - n) (.inl (by rw[show n+(N - n)=N by omega];exact hN))
    have Z : ∀c,itr (adv t.mask) c (pat t.mask h n)=pat t.mask h (n+c):=λc=>by unfold pat;rw[dm]
    have F : ∀j,j∈t.place.toList->t.slot j = .live (mu t.place j)/\t.place[mu t.place j]? = some j:=λj hj=>by
      have h1:=xf L.T.rise hj;refine⟨?_,h1⟩
      unfold SetTable.slot;dsimp only;rw[if_pos (by rw[h1];simp)]
    have key : ∀f:Nat->Int,(∀i,f i=(es[i]?.map (·.1)).getD 0)->∀k',k' < m->∃i,t.slot (itr (adv t.mask) k' (pat t.mask h n)).j = .live i/\f i≠h:=λf hf k' ay=>by
      have h1:=ag k' ay;have h2:(pat t.mask h (n+k')).j∈t.place.toList:=by
        false_or_by_contra
        rename_i z
        exact h1 (.inl z)
      obtain⟨h3,h4⟩:=F _ h2;obtain⟨x,hx⟩:=aw _ _ h4;refine⟨_,by rw[Z];exact h3,λz=>h1 (.inr ⟨x,hx,?_⟩)⟩
      rw[hf,vU hl,hx] at z;exact z
    have pg : ∀f:Nat->Int,(∀i,f i=(es[i]?.map (·.1)).getD 0)->_:=λf hf=>rN (t:=t) f h m (10 * Ir t.mask) (pat t.mask h n) (by unfold Ir;omega) (key f hf)
    have pd:(pat t.mask h n).dummy=none:=oW ..
    by_cases hE:(pat t.mask h (n+m)).j∈t.place.toList
    . obtain ⟨h3, h4⟩:=F _ hE
      obtain⟨x,af,au⟩ : ∃x,l[mu t.place (pat t.mask h (n+m)).j]? = some x/\t4 knd x.1=h:=by
        rcases hP with z | z
        . exact absurd hE z
        . exact z
      generalize mu t.place (pat t.mask h (n+m)).j=i at h3 h4 af;have aq:n+m < N:=by
        rcases Nat.lt_or_ge (n+m) N with z | z
        . exact z
        . have:n+m=N:=()
          rw[this] at hE;exact absurd hE hN
      have ee:es[i]? = some (t4 knd x.1,.ref x.2):=by rw[vU hl,af];rfl
      have e1 : ∀f:Nat->Int,(∀i,f i=(es[i]?.map (·.1)).getD 0)->t.probe f h (pat t.mask h n)=some (.candidate (pat t.mask h (n+m)).j i (pat t.mask h (n+m+1))):=λf hf=>by
        have:=(pg f hf).2 i (by rw[Z];exact h3) (by rw[hf,ee];exact au)
        rw[Z,Z] at this;exact this
      rw[e1]
      rotate_left
      . intro i;rfl
      dsimp only;have a0:=hk x (j7 af);have am : wpAny (model prog w) A (do
          let some (_,y):=es[i]? | unsupported "internal:set-entry"
          let ad <- holding [y] (eqBool y (.ref b))
          let (es',_,t') <- setState a
          if true && ad then return .there none
          let some same:=t'.sameMemory t.moves t.mask | unsupported "set.changed-during-lookup:is-the-new-block-at-the-old-address"
          let an <- match (if same then t'.slot (pat t.mask h (n+m)).j else .empty) with
            | .live i'=>match es'[i']? with
              | some (_,y')=>do pure (if <- isSame y' y then some i' else none)
              | none=>pure none
            | _=>pure none
          match an with
          | none=>rule "set.search.anew";setSearchFrom a (.ref b) h true U none
          | some i'=>if ad then return .there (some i') else setSearchFrom a (.ref b) h true U (some (pat t.mask h (n+m+1)))) Q E s:=by
        rw[ee];dsimp only;refine a_ (m6 (wpAny_eqBool_tuple hu a0 hx ?_))
        refine a_ (Jr ho hd aj ?_)
        dsimp only
        by_cases ai:x.1=k
        . rw[decide_eq_true ai]
          simp only[Bool.and_self,if_true];exact b_ (q1 ⟨x,j7 af,ai⟩)
        . rw[decide_eq_false ai]
          simp only[Bool.and_false,j_,if_false];have az:t.sameMemory t.moves t.mask=some true:=by unfold SetTable.sameMemory;rw[if_pos (by simp)]
          rw[az];dsimp only;rw[if_pos rfl,h3];dsimp only;rw[ee];dsimp only;refine a_ (wpAny_isSame_ref_self (a_ (b_ ?_)))
          rw[if_pos rfl];dsimp only;refine nI hu ho hd L hl hk hx (by rw[hh];exact hN) (by rw[hh];exact hb) av q1 (by rw[hh];exact q2) U (n+m+1) _ () () ?_ ?_ |> λz=>by rw[hh] at z;exact z
          . rw[hh];rfl
          . intro m' i' x' a3 aa ah
            rw[hh] at aa
            by_cases c1:m' < n
            . exact hold m' i' x' c1 aa ah
            . by_cases c2:m'=n+m
              . subst c2
                obtain rfl:i'=i:=by
                  have:=L.T.rise
                  rcases Nat.lt_trichotomy i' i with z | z | z
                  . exact absurd (dn this z aa h4) (w4 _)
                  . exact z
                  . exact absurd (dn this z h4 aa) (w4 _)
                rw[af] at ah;cases ah;exact ai
              . intro z
                refine ag (m' - n) () (.inr ⟨x',?_,by rw[z,hh]⟩)
                rw[show n+(m' - n)=m' by omega]
                have ar:(pat t.mask h m').j∈t.place.toList:=hb m' ()
                have h5:=(F _ ar).2;obtain e:mu t.place (pat t.mask h m').j=i':=by
                  have:=L.T.rise
                  generalize mu t.place (pat t.mask h m').j=i2 at h5 ⊢;rcases Nat.lt_trichotomy i2 i' with z | z | z
                  . exact absurd (dn this z h5 aa) (w4 _)
                  . exact z
                  . exact absurd (dn this z aa h5) (w4 _)
                rw[e];exact ah
      refine If (λ_=>?_) (λ_=>?_)
      . refine a_ (yz hx _ (λv hv=>?_) ?_)
        . obtain⟨e,he,rfl⟩:=v9.mp hv
          have he:=(Array.mem_filter.mp (Jt.mp he)).1;have as:e∈es.toList:=Jt.mpr he
          rw[hl] at as;obtain⟨y,hy,rfl⟩:=v9.mp as;exact⟨y.1,y.2,rfl,hk y hy⟩
        . simp only[j_,if_false]
          exact am
      . exact am
    . have aq:n+m=N:=by
        rcases Nat.lt_or_ge (n+m) N with z | z
        . exact absurd (hb _ z) hE
        . omega
      have e1 : ∀f:Nat->Int,(∀i,f i=(es[i]?.map (·.1)).getD 0)->t.probe f h (pat t.mask h n)=some (.empty (pat t.mask h N).j none):=λf hf=>by
        have:=(pg f hf).1 (by rw[Z];exact uq L.T hE)
        rw[Z,pd,aq] at this;exact this
      rw[e1]
      rotate_left
      . intro i;rfl
      dsimp only;refine b_ (q2 λx hx ao=>?_)
      obtain⟨i,hi,e⟩:=IX hx;have el:l[i]? = some x:=by rw[j6 hi,e]
      have a1:i < t.place.size:=()
      have ac:t.place[i]? = some t.place[i]:=by simp[a1]
      have ee:es.toList[i]? = some (rJ knd x):=by rw[hl,q_,el];rfl
      obtain⟨n0,w1,w2⟩:=L.way t.place[i] (rJ knd x) (CF (by rw[s_];exact ac) ee)
      have eh:(rJ knd x).1=h:=by show t4 knd x.1=h;rw[ao,hh]
      rw[eh] at w1 w2;have ax:n0 < N:=by
        rcases Nat.lt_trichotomy n0 N with z | z | z
        . exact z
        . subst z
          rw[w1] at hN;exact absurd (by rw[<- s_] at ac;exact j7 ac) hN
        . exact absurd (w2 N z) hN
      by_cases c1:n0 < n
      . exact hold n0 i x c1 (by rw[w1];exact ac) el ao
      . refine ag (n0 - n) () (.inr ⟨x,?_,by rw[ao,hh]⟩)
        rw[show n+(n0 - n)=n0 by omega]
        have h5:=(F _ (hb n0 ax)).2;obtain e:mu t.place (pat t.mask h n0).j=i:=by
          have:=L.T.rise
          rw[w1] at h5 ⊢;generalize mu t.place t.place[i]=i2 at h5 ⊢;rcases Nat.lt_trichotomy i2 i with z | z | z
          . exact absurd (dn this z h5 ac) (w4 _)
          . exact z
          . exact absurd (dn this z ac h5) (w4 _)
        rw[e];exact el
end
theorem zB {f:α->β} {xs ys:List β} (h:xs.Perm ys) : ∀l:List α,ys=l.map f->∃F:List α,xs=F.map f/\F.Perm l:=by
 induction h with
 | nil=>intro l e;exact⟨l,e,.rfl⟩
 | cons x h ih =>
  intro l e;cases l with
  | nil=>cases e
  | cons a l =>
   rw[k9] at e
   injection e with e1 e2
   obtain⟨F,h1,h2⟩:=ih l e2;exact⟨a :: F,by rw[k9,<- h1,e1],h2.cons a⟩
 | swap x y l =>
  intro F e;cases F with
  | nil=>cases e
  | cons a F =>
   cases F with
   | nil=>simp at e
   | cons b F =>
    simp only[k9,List.cons.injEq] at e;obtain⟨rfl,rfl,rfl⟩:=e;exact⟨b :: a :: F,rfl,List.Perm.swap _ _ _⟩
 | trans h1 h2 U L =>
  intro l e;obtain⟨l1,Z,a2⟩:=L l e;obtain⟨l2,b1,b2⟩:=U l1 Z;exact⟨l2,b1,b2.trans a2⟩
theorem CN:SetTable.sizeAbove (Jz 5)=32:=∅
theorem Bq:SetTable.sizeAbove (Jz 19)=128:=∅
def gO {K:Type} [DecidableEq K] (ks:List K) (k:K):List K:=if k∈ks then ks else ks++[k]
section
variable {K:Type} [DecidableEq K] {knd:KeyKind prog w K} {A:Around} {E:Value->Shared->Prop} {s:Shared}
def xC (knd:KeyKind prog w K) (h:Heap) (a:Addr) (ks:List (List K)):Prop:=∃(o:Obj) (es:Array (Int × Value)) (ep:Nat) (t:HC) (l:List (List K × Addr)),h.get? a=some o/\o.ExactSet/\o.data = .set es ep t/\gX t es.toList/\es.size * 5 < t.mask * 3/\es.toList=l.map (rJ knd)/\(l.map (·.1)).Perm ks/\∀x∈l,x.2 < a/\x_ knd h x.1 x.2
theorem IsTupleKey.keepS {ks:List K} {o:Obj} {es ep t} (x:x_ knd h ks a) (ho:h.get? d=some o) (Z:o.data = .set es ep t) (hs:H_ d h h'):x_ knd h' ks a:=by
 obtain⟨o',items,n,L,hc,F,hi⟩:=x;have U:a≠d:=by
  rintro rfl
  obtain rfl:o'=o:=j9 (L.symm.trans ho)
  rw[Z] at F;exact nomatch F
 exact⟨o',items,n,(hs.2 a U).trans L,hc,F,hi⟩
theorem IsTupleKey.keepG {ks:List K} (x:x_ knd h ks a) (U : ∀o,h.get? a=some o->h'.get? a=some o):x_ knd h' ks a:=by
 obtain⟨o',items,n,F,Z,L,hi⟩:=x;exact⟨o',items,n,U _ F,Z,L,hi⟩
theorem qX {o:Obj} {es ep t} (U:h.get? a=some o) (L:o.data = .set es ep t) (F:Array (Int × Value)) (t':HC):(h.update a (Obj.putSet F t')).get? a=some { o with data:=.set F (ep+1) t' }:=by
 have:=HW (Obj.putSet F t') U (by rw[putSet_of F t' L];rfl)
 rw[putSet_of F t' L] at this;exact this
theorem mF (F : ∀k v,knd.is k v=true->(∃i t,v = .int i t)\/∃x t,v = .str x t) : ∀{ks:List K} {vs:List Value},ItemsAre knd ks vs->∀v∈vs,(∃i t,v = .int i t)\/∃x t,v = .str x t
 | _,_,.nil,v,h=>by cases h
 | _,_,.cons h1 hr,v,h=>by
  rcases i4.mp h with rfl | z
  .exact F _ _ h1
  .exact mF F hr v z
theorem Cc (hv : ∀k v,knd.is k v=true->(∃i t,v = .int i t)\/∃x t,v = .str x t) {a b:Addr} {k:List K} {ks:List (List K)} {Q:Bool->Shared->Prop} (hu:A.units < cLine) (hS:xC knd s.heap a ks) (aJ:b < a) (hx:x_ knd s.heap k b) (aM:ks.length+1<=70)
    (h : ∀r h',H_ a s.heap h'->xC knd h' a (gO ks k)->Q r { s with heap:=h' }):wpAny (model prog w) A (setAddHashed a (.ref b) (t4 knd k)) Q E s:=by
  obtain⟨o,es,ep,t,l,ho,ac,hd,L,U,hl,hp,hk⟩:=hS;have ah:t.fits es.size=true:=by have:=L.fits;rwa [pz] at this
  have a4:l.length=es.size:=by have:=congrArg w9 hl;simpa using this.symm
  have aQ:l.length=ks.length:=by have:=hp.length_eq;simpa using this
  obtain⟨N,aC,ar,az⟩:=Bx L.T (t4 knd k);have a7:t.mask<=127:=by rcases L.T.msk with e | e | e <;> omega
  unfold setAddHashed setAddHashedIn;refine m6 (a_ (Jr ho hd ah ?_))
  dsimp only;have a5:byScan (.ref b) es=false:=by simp[byScan,Value.scannable]
  rw[a5];simp only[j_,if_false];unfold setSearch;refine a_ (nI hu ho hd L hl (λx h=>(hk x h).2) hx ar az aC (λaG=>?_) (λaH=>?_) 100000 0 none (HG _) () rfl (λm i x hm=>absurd hm (not_lt_zero _)))
  . dsimp only
    obtain⟨x,aA,rfl⟩:=aG;have e:gO ks x.1=ks:=by unfold gO;rw[if_pos (hp.mem_iff.mp (HF aA))]
    have:=h false s.heap (Heap.SameBut.refl a s.heap) (by rw[e];exact⟨o,es,ep,t,l,ho,ac,hd,L,U,hl,hp,hk⟩)
    exact b_ this
  . dsimp only
    have aF:k∉ks:=λz=>by
      obtain⟨x,hx,e⟩:=v9.mp (hp.mem_iff.mpr z);exact aH x hx e
    have ek:gO ks k=ks++[k]:=by unfold gO;rw[if_neg aF]
    rw[ek] at h;refine a_ (Jr ho hd ah ?_)
    dsimp only;obtain⟨L1,em,el,aK,aw⟩:=yp (x:=.ref b) L ar az (by rcases L.T.msk with e | e | e <;> rw[e] at U ⊢ <;> omega)
    generalize aN:t.put (pat t.mask (t4 knd k) N).j=pt at *;obtain⟨Z,p⟩:=pt;dsimp only at L1 em el aK aw ⊢;have ai:(SetTable.insertAt es p (t4 knd k,i8 b)).toList=(l.take p++(k,b) :: l.drop p).map (rJ knd):=by
      rw[IW,hl,m7,k9,map_take,map_drop];rfl
    have ao:(l.take p++(k,b) :: l.drop p).Perm (l++[(k,b)]):=by
      refine perm_middle.trans ?_
      rw[Iq];exact(List.perm_append_singleton _ _).symm
    have aa:(SetTable.insertAt es p (t4 knd k,i8 b)).size=es.size+1:=by
      rw[<- pz,ai,f_,ao.length_eq,HD,a4];rfl
    generalize aO:SetTable.insertAt es p (t4 knd k,i8 b)=F at *;generalize aR:l.take p++(k,b) :: l.drop p=l1 at *;have ax : ∀{h':Heap},H_ a s.heap h'->∀x∈l1,x.2 < a/\x_ knd h' x.1 x.2:=λsb x aB=>by
      rcases t0.mp (ao.mem_iff.mp aB) with z | z
      . exact⟨(hk x z).1,(hk x z).2.keepS ho hd sb⟩
      . rw[k_] at z
        subst z;exact⟨aJ,hx.keepS ho hd sb⟩
    have av:(l1.map (·.1)).Perm (ks++[k]):=(ao.map _).trans (by rw[m7];exact hp.append_right _)
    have ad : ∀b2:Bool,wpAny (model prog w) A (do
        storeSet a F { Z with plain:=b2 }
        if (!false && ({ Z with plain:=b2 }:HC).tooFull)=true then do
            setRelay a (Jz (es.size+1))
            pure true
          else pure true) Q E s:=λb2=>by
      have L2:=L1.plain b2;have an:({ Z with plain:=b2 }:HC).fits F.size=true:=by have:=L2.fits;rwa [pz] at this
      refine a_ (wpAny_storeSet_of ho hd ?_ (by rw[aa,IQ];omega))
      have g1:=qX ho hd F { Z with plain:=b2 }
      have ag:=JL s.heap a (Obj.putSet F { Z with plain:=b2 })
      generalize s.heap.update a (Obj.putSet F { Z with plain:=b2 })=h1 at g1 ag ⊢
      have am:({ Z with plain:=b2 }:HC).tooFull=decide ((es.size+1) * 5 >= t.mask * 3):=by
        unfold SetTable.tooFull SetTable.fill
        show decide ((Z.place.size+Z.dummies.size) * 5 >= Z.mask * 3)=_
        rw[L1.T.nod,aw,em];rfl
      rw[am];refine If (λz=>?_) (λz=>?_)
      . have z:(es.size+1) * 5 >= t.mask * 3:=by simpa using z
        obtain⟨m2,a3,ap,af,a0,a6⟩ : ∃m2,m2=SetTable.sizeAbove (Jz (es.size+1)) - 1/\Msk m2/\F.size<=m2/\SetTable.sizeAbove (Jz (es.size+1))<=128/\F.size * 5 < m2 * 3:=by
          rcases L.T.msk with e | e | e
          . rw[e] at U z
            have e5:es.size+1=5:=()
            rw[aa,e5,CN];exact⟨31,rfl,.inr (.inl rfl),∅,∅,∅⟩
          . rw[e] at U z
            have a8:es.size+1=19:=()
            rw[aa,a8,Bq];exact⟨127,rfl,.inr (.inr rfl),∅,∅,∅⟩
          . rw[e] at U z
            omega
        unfold setRelay;refine a_ (a_ (Jr g1 rfl an ?_))
        dsimp only;rw[if_neg (by rw[IQ];omega)]
        obtain⟨t3,od,e3,au,L3,aP,aE⟩:=wA (m:=m2) (es:=F) (f:=Z.finger) (mv:=({ Z with plain:=b2 }:HC).movedTo m2) (led:=Z.led) (pl:=b2) ap af
        have e4:({ Z with plain:=b2 }:HC).relaid (F.map (·.1)) (Jz (es.size+1))=some (t3,od):=by
          unfold SetTable.relaid;rw[<- a3];exact e3
        rw[e4];have aj:(od.filterMap (F[·]?)).size=F.size:=by rw[<- pz,au.length_eq,pz]
        refine a_ (show wpAny _ _ (if ((od.filterMap (F[·]?)).size != F.size)=true then do { unsupported "internal:set-table-lost-an-element";pure (od.filterMap (F[·]?),t3) } else pure (od.filterMap (F[·]?),t3)) _ _ _ from ?_)
        rw[if_neg (by rw[aj];simp)]
        refine b_ ?_
        dsimp only;refine wpAny_storeSet_of g1 rfl ?_ (by rw[aj,aa,IQ];omega)
        have g2:=qX g1 rfl (od.filterMap (F[·]?)) t3;have as:=ag.trans (JL h1 a (Obj.putSet (od.filterMap (F[·]?)) t3));obtain⟨l3,a1,ay⟩:=zB au l1 ai;refine b_ (h true _ as ⟨_,_,_,t3,l3,g2,⟨ac.1,ac.2.1,ac.2.2⟩,rfl,L3,?_,a1,(ay.map _).trans av,λx a9=>ax as x (ay.mem_iff.mp a9)⟩)
        rw[aj,aE];exact a6
      . have z : ¬ (es.size+1) * 5 >= t.mask * 3:=by simpa using z
        refine b_ (h true _ ag ⟨_,F,_,_,l1,g1,⟨ac.1,ac.2.1,ac.2.2⟩,rfl,L2,?_,ai,av,ax ag⟩)
        show F.size * 5 < Z.mask * 3
        rw[aa,em];omega
    obtain⟨ob,items,nn,a2,aL,aI,aD⟩:=id hx;have aq:=mF hv aD;refine If (λz=>?_) (λz=>?_)
    . refine a_ (xB ⟨ob,a2,aL,nn,aI⟩ aq λbb=>?_)
      cases bb with
      | true =>
        have:=ad Z.plain
        simpa using this
      | false =>
        have:=ad false
        simpa using this
    . refine a_ (b_ ?_)
      have:=ad Z.plain
      simpa using this
theorem xC.keep {ks:List (List K)} (x:xC knd h a ks) (hk : ∀b o,b<=a->h.get? b=some o->h'.get? b=some o):xC knd h' a ks:=by
 obtain⟨o,es,ep,t,l,ho,U,hd,L,hf,hl,hp,F⟩:=x;exact⟨o,es,ep,t,l,hk a o (h_ _) ho,U,hd,L,hf,hl,hp,λy Z=>⟨(F y Z).1,(F y Z).2.keepG λo e=>hk _ o (pj (F y Z).1) e⟩⟩
end
section
variable {wr:List Addr} {P:Nat->Value->Prop} {St:Nat->Shared->Prop}
theorem Cg (W:WalksS prog w A.in1 I fp wr G n P St) (S:Addr) (ah:S∉fp) (Sg:Nat->Heap->Prop)
  (keep : ∀i h h',Sg i h->(∀b o,b∉wr->h.get? b=some o->h'.get? b=some o)->Sg i h')
  (ai : ∀i v (s':Shared) (Q:Bool->Shared->Prop) (E:Value->Shared->Prop),i < n->P i v->Sg i s'.heap->(∀r h' tk,H_ S s'.heap h'->Sg (i+1) h'->s'.toks<=tk->Q r { s' with heap:=h',toks:=tk })->wpAny (model prog w) A.in1 (setAdd S v) Q E s') :
  ∀ (k i:Nat) (s:Shared),n - i=k->i<=n->St i s->Sg i s.heap->(∀s',Moved (S :: wr) G s s'->Sg n s'.heap->R (.ok (.ret .none)) s') ->
   ID (model prog w) A (.builtin "set.update.loop" ⟨[.ref S,.ref I],[]⟩) R s:=by
 have ao:S∉wr:=λh=>ah (W.sub _ h)
 have L : ∀b∈wr,b∈S :: wr:=λb hb=>la _ hb
 intro k
 induction k with
 | zero =>
  intro i s hk hi U hS hR;have an:i=n:=()
  subst an;refine HK F.entry_set_update_loop ?_
  rw[Ig F.plain_set_update_loop _]
  show wpAny _ A.in1 (pyNext (.ref I) >>= _) _ _ s
  refine a_ (W.done s _ _ U λs' hm=>?_)
  show wpAny _ A.in1 (ret v_) _ _ s'
  exact b_ (hR s' (hm.mono L) (keep _ _ _ hS hm.heap))
 | succ k ih =>
  intro i s hk hi U hS hR;have Z:i < n:=()
  refine HK F.entry_set_update_loop ?_
  rw[Ig F.plain_set_update_loop _]
  show wpAny _ A.in1 (pyNext (.ref I) >>= _) _ _ s
  refine a_ (W.item i s _ _ Z U λv s' hP aa hm=>?_)
  show wpAny _ A.in1 (holding [v] (setAdd S v) >>= _) _ _ s'
  refine a_ (m6 (ai i v s' _ _ Z hP (keep _ _ _ hS hm.heap) λr h' tk af am ac=>?_))
  refine b_ ⟨JG F.plain_set_update_loop _,ih (i+1) _ () Z (W.frame _ s' _ _ aa ac λb hb o e=>?_) am λaj ag ad=>?_⟩
  .rw[af.2 b (λh:b=S=>ah (by rw[<- h];exact hb))];exact e
  .refine hR aj (Moved.trans W.gtrans ((hm.mono L).then_heap ac λb o hb e=>?_) ag) ad
   rw[af.2 b (λh:b=S=>hb (by rw[h];exact m9))];exact e
end
theorem rT {t:Addr} {its:Array Value} (hA:A.handled=none) (ht:s.heap.IsTuple t its\/s.heap.IsList t its) (Sg:Nat->Heap->Prop)
  (keep : ∀i h h',Sg i h->(∀b o,b<=s.heap.objs.size->h.get? b=some o->h'.get? b=some o)->Sg i h')
  (ar : ∀i v (s':Shared) (Q:Bool->Shared->Prop) (E:Value->Shared->Prop),i < its.size->its[i]? = some v->Sg i s'.heap->(∀r h' tk,H_ s.heap.objs.size s'.heap h'->Sg (i+1) h'->s'.toks<=tk->Q r { s' with heap:=h',toks:=tk })->wpAny (model prog w) A.in1.in1.in1 (setAdd s.heap.objs.size v) Q E s')
  (init : ∀(led:Bool) (h:Heap),h.get? s.heap.objs.size=some ⟨.type "set",none,.set #[] 0 (.fresh 0 0 led),#[]⟩->(∀b o,s.heap.get? b=some o->h.get? b=some o)->Sg 0 h)
  (aw : ∀(h':Heap) (tk:Nat),Sg its.size h'->(∀b o,b < s.heap.objs.size->s.heap.get? b=some o->h'.get? b=some o)->Q (.ref s.heap.objs.size) { s with heap:=h',toks:=tk }) :
  wpAny (model prog w) A (call (.type "set") [.ref t]) Q E s:=by
 have TC:=F.called_set;obtain⟨_,_,a1⟩:=TC.mro;have ax:=TC.made;have a2:=TC.sub;have h1:=TC.notType;have h2:=TC.canCreate;have a4:=F.typeCall_set_1 (.ref t);refine Jg (codeAny_of_tree (show wpAny _ _ (callAny (.type "set") _) _ _ _ from b_ ⟨Code.quiet_builtin _ (by decide+kernel),HK F.entry_type_call ?_⟩))
 rw[Around.under_plain (weight_type_call_type "set" [.ref t] []) rfl]
 repeat (any_goals (first | assumption | wp_step))
 refine Ib (code_set_new_1 (.ref t) (E:=E) (Q₁:=λas s₁=>∃led:Bool,as = .ref s.heap.objs.size/\s₁={ s with heap:=s.heap.push ⟨.type "set",none,.set #[] 0 (.fresh 0 0 led),#[]⟩ }) λled=>⟨led,rfl,rfl⟩) λr s₁ hr=>?_
 cases r with
 | error e=>exact hr
 | ok fl =>
  cases fl with
  | ret as =>
   obtain⟨led,rfl,rfl⟩:=hr;generalize hG:s.heap.push ⟨.type "set",none,.set #[] 0 (.fresh 0 0 led),#[]⟩=G;have af:G.objs.size=s.heap.objs.size+1:=by rw[<- hG,G2]
   have hS:G.get? s.heap.objs.size=some ⟨.type "set",none,.set #[] 0 (.fresh 0 0 led),#[]⟩:=by rw[<- hG];exact ge _ rfl
   have U : ∀b o,s.heap.get? b=some o->G.get? b=some o:=λb o e=>by rw[<- hG];exact c_ _ e
   have hT:Shared.TypeIs { s with heap:=G } (.ref s.heap.objs.size) "set" :=⟨_,hS,rfl⟩
   have a3:=TC.init.lookup;have a5:=TC.init.bind (.ref s.heap.objs.size)
   repeat (any_goals (first | assumption | wp_step))
   refine Ib (codeAny_call_builtin (R:=wants (λr ah=>r = .none/\∃h' tk,ah={ s with heap:=h',toks:=tk }/\Sg its.size h'/\(∀b o,b < s.heap.objs.size->s.heap.get? b=some o->h'.get? b=some o)) E) TC.init.plain F.entry_set_init (check_set_init_1 hT ?_)) λau ah Z=>?_
   .have hlt:t < s.heap.objs.size:=by
     rcases ht with⟨o,e,_⟩ | ⟨o,e,_⟩ <;> exact fy e
    have ai:t≠G.objs.size:=by rw[af];exact kf (Nat.lt_succ_of_lt hlt)
    have av:s.heap.objs.size≠G.objs.size:=by rw[af];exact kf (IU _)
    have an:s.heap.objs.size∉[G.objs.size,t]:=by
     intro z;rcases i4.mp z with z | z
     .exact av z
     .exact absurd (k_.mp z) (IE hlt)
    have ac : ∀i h h',Sg i h->(∀b o,b∉[G.objs.size]->h.get? b=some o->h'.get? b=some o)->Sg i h':=λi h h' a b=>keep i h h' a λc o hc e=>b c o (λz=>by rw[k_.mp z,af] at hc;omega) e
    have ag : ∀{s':Shared} {x:Obj},Moved (s.heap.objs.size :: [G.objs.size]) (λa b=>b=a) { s with heap:=G.push x } s'->Sg its.size s'.heap->s'={ s with heap:=s'.heap,toks:=s'.toks }/\∀b o,b < s.heap.objs.size->s.heap.get? b=some o->s'.heap.get? b=some o:=λ{s' x} mv L=>by
     have eq:=Moved.eq_with mv;refine⟨eq,λb o hb e=>mv.heap b o (λz=>?_) (c_ _ (U b o e))⟩
     rcases i4.mp z with z | z
     .exact absurd z (kf hb)
     .have:=k_.mp z
      rw[this,af] at hb;omega
    rcases ht with ht | ht
    .have ht1:G.IsTuple t its:=ht.at λo e=>U t o e
     obtain⟨⟨tc,td,ao,az⟩,hot,aa,nl,ad⟩:=id ht1;dsimp only at aa ad;subst aa ad;have ay:(HP "tuple" == HP "dict")=false:=∅
     have aq:=F.sub_tuple_set;have ap:=uy;unfold Builtin.«set.__init__» noKeywords Builtin.Frozenset.updateFrom;generalize aj:pyIter=PI
     wp_walk
     rw[<- aj];have Wt:=Walks.tuple (prog:=prog) (w:=w) (A:=A.in1.in1.in1) (by simp[hA]) G.objs.size t ai its
     refine B_ ht1 (a_ (wpAny_runValue ?_))
     refine Cg Wt.toS _ an Sg ac (λi v s' Q E hi hP=>ar i v s' Q E hi hP) (its.size - 0) 0 _ rfl (HG _) ⟨⟨_,ge _ rfl,rfl,rfl⟩,ht1.at λo e=>c_ _ e⟩ (init led _ (c_ _ hS) λb o e=>c_ _ (U b o e)) λs' mv L=>?_
     obtain⟨eq,hk⟩:=ag mv L;rw[eq] at L ⊢;exact b_ (show wpAny _ _ (ret v_) _ _ _ from b_ ⟨rfl,s'.heap,s'.toks,rfl,L,hk⟩)
    .have ht1:G.IsList t its:=by
      obtain⟨o,e,r⟩:=ht;exact⟨o,U t o e,r⟩
     obtain⟨⟨tc,td,ao,az⟩,hot,aa,nl,ad⟩:=id ht1;dsimp only at aa ad;subst aa ad;have ay:(HP "list" == HP "dict")=false:=∅
     have aq:=F.sub_list_set;have ap:=F.sub_list_frozenset;unfold Builtin.«set.__init__» noKeywords Builtin.Frozenset.updateFrom;generalize aj:pyIter=PI
     wp_walk
     rw[<- aj];have Wt:=Walks.list (prog:=prog) (w:=w) (A:=A.in1.in1.in1) (by simp[hA]) G.objs.size t ai its
     refine IM ht1 (a_ (wpAny_runValue ?_))
     refine Cg Wt.toS _ an Sg ac (λi v s' Q E hi hP=>ar i v s' Q E hi hP) (its.size - 0) 0 _ rfl (HG _) ⟨⟨_,ge _ rfl,rfl,rfl⟩,ht1.push _⟩ (init led _ (c_ _ hS) λb o e=>c_ _ (U b o e)) λs' mv L=>?_
     obtain⟨eq,hk⟩:=ag mv L;rw[eq] at L ⊢;exact b_ (show wpAny _ _ (ret v_) _ _ _ from b_ ⟨rfl,s'.heap,s'.toks,rfl,L,hk⟩)
   .cases au with
    | error e=>exact Z
    | ok am =>
     cases am with
     | ret r =>
      obtain⟨rfl,h',tk,rfl,L,a0⟩:=Z
      repeat (any_goals (first | assumption | wp_step))
      exact aw _ _ L a0
     | _=>exact Z.elim
  | _=>exact hr.elim
end PySem
namespace L2
open PySem PySem.Spec PyProof.Rows
section
variable {K:Type} [DecidableEq K]
def fX (ks:List K):List K:=ks.foldl gO []
theorem jG : ∀(ns σ:List K),σ.Nodup->(ns.foldl gO σ).length<=σ.length+ns.length/\((ns.foldl gO σ).length=σ.length+ns.length↔(σ++ns).Nodup)
 | [],σ,h=>by simp[h]
 | v :: ns,σ,h=>by
  rw[foldl_cons]
  by_cases F:v∈σ
  .have e:gO σ v=σ:=by unfold gO;rw[if_pos F]
   rw[e];have L:=jG ns σ h;refine⟨by simp;omega,?_⟩
   constructor
   .intro z;simp at z;omega
   .intro z
    rw[Iv] at z;exact absurd rfl (z.2.2 v F v (by simp))
  .have e:gO σ v=σ++[v]:=by unfold gO;rw[if_neg F]
   have hn:(σ++[v]).Nodup:=by
    rw[Iv];exact⟨h,by simp,λa ha b Z=>by rw[k_.mp Z];rintro rfl;exact F ha⟩
   rw[e];have L:=jG ns (σ++[v]) hn;have U:(σ++[v]).length+ns.length=σ.length+(v :: ns).length:=by simp;omega
   rw[U,append_assoc] at L;exact L
theorem sP (ns:List K):(fX ns).length=ns.length↔ns.Nodup:=by
 have:=(jG ns [] (by simp)).2
 simpa [fX] using this
theorem qk (ns:List K):(fX ns).length<=ns.length:=by
 have:=(jG ns [] (by simp)).1
 simpa [fX] using this
theorem pE {ks:List K} {k:K} (h:ks[i]? = some k):fX (ks.take (i+1))=gO (fX (ks.take i)) k:=by
 have e:ks.take (i+1)=ks.take i++[k]:=by rw[List.take_succ,h];rfl
 rw[e];unfold fX;rw[List.foldl_append];rfl
end
def SzP (a:Addr) (n:Nat) (h:Heap):Prop:=∃o es ep t,h.get? a=some o/\o.ExactSet/\o.data = .set es ep t/\t.fits es.size=true/\es.size=n/\n < 4096
def SzS (a:Addr) (n:Nat):HO:=.ext (SzP a n)
def KTs (H:Hp):List V->List (List Key)->Prop
 | [],[]=>True
 | v :: vs,k :: ks=>(∃b,v = .ref b/\H b>>(k.map kV))/\KTs H vs ks
 | _,_=>False
theorem vB {H:Hp} : ∀{vs:List V} {ks:List (List Key)},KTs H vs ks->vs.length=ks.length/\∀(i:Nat) (k:List Key),ks[i]? = some k->∃b,vs[i]? = some (.ref b)/\H b>>(k.map kV)
 | [],[],_=>⟨rfl,λi k e=>by simp at e⟩
 | v :: vs,k :: ks,h=>by
  obtain⟨⟨b,rfl,L⟩,U⟩:=h;obtain⟨h1,h2⟩:=vB U;refine⟨by simp[h1],λi F e=>?_⟩
  cases i with
  | zero=>simp at e;subst e;exact⟨b,rfl,L⟩
  | succ i=>simpa using h2 i F (by simpa using e)
 | [],_ :: _,h=>h.elim
 | _ :: _,[],h=>h.elim
theorem oX {k:Key} (h:(aR X.prog X.w).is k v=true):(∃i t,v = .int i t)\/∃x t,v = .str x t:=by
 rw[vg] at h;cases k <;> cases v <;> simp_all [hZ,Value.isInt,Value.isStrOf]
theorem rc : ∀{xs:List V} {its:List Value},aO xs its->∀(i:Nat) (x:V),xs[i]? = some x->∃u,its[i]? = some u/\aT x u
 | _,_,h,i,x,e=>by
  induction h generalizing i with
  | nil=>simp at e
  | cons h1 _ F =>
   cases i with
   | zero=>simp at e;subst e;exact⟨_,rfl,h1⟩
   | succ i=>simpa using F i (by simpa using e)
def inK (l:List Key) (k:Key):Bool:=l.any λc=>decide (c=k)
theorem mh {l:List Key} {k:Key}:inK l k=true↔k∈l:=by simp[inK]
theorem A7 (l:List Key) (k c:Key):inK (gO l k) c=(inK l c || decide (c=k)):=by
 rw[t5,Bool.or_eq_true,mh,mh,decide_eq_true_eq];unfold gO
 split
 .exact⟨.inl,λz=>z.elim id λe=>e ▸ ‹_›⟩
 .simp
theorem xW (l:List Key) (k:Key):(gO l k).length=if inK l k then l.length else l.length+1:=by
 unfold gO
 by_cases h:k∈l
 .rw[if_pos h,if_pos (mh.mpr h)]
 .rw[if_neg h,if_neg (λz=>h (mh.mp z))];simp
theorem AX {S F:Key->Bool} (U:h.SetOf (aR X.prog X.w) a S n) (e : ∀k,S k=F k) (L:n=n'):h.SetOf (aR X.prog X.w) a F n':=by
 obtain rfl:S=F:=funext e
 subst L;exact U
def E5:List V->Hp->VK->Prop:=λxs H Q=>∃p,xs=[.ref p]/\∃vs:List V,(H p>>vs\/H p*>vs)/\vs.length<=69 /\
 ((∃ks:List Key,vs=ks.map kV/\∀q,H q=none->Q (.ref q) (upd H q (SzS q (fX ks).length)))\/∃F:List (List Key),KTs H vs F/\∀q,H q=none->Q (.ref q) (upd H q (SzS q (fX F).length)))
theorem xh (hc:X.calm=true) (hu:X.A.units+100 < cLine):bP X (.type "set") E5:=by
 intro pins s σ H xs us Q I r h;obtain⟨p,rfl,vs,hp,hl,h⟩:=h;obtain⟨u,rfl,ru⟩:=cU r;cases ru;obtain⟨its,rv,pl⟩ : ∃its:List Value,aO vs its/\(s.heap.IsTuple p its.toArray\/s.heap.IsList p its.toArray):=by
  rcases hp with hp | hp
  .obtain⟨its,rv,pl,hz⟩:=I.tuple (SqT.of hp)
   exact⟨its,rv,.inl pl⟩
  .obtain⟨its,rv,pl,hz⟩:=I.list (SqL.of hp)
   exact⟨its,rv,.inr pl.isList⟩
 have Z:=rv.length;have ah : ∀(n:Nat) (h':Heap) (tk:Nat),SzP s.heap.objs.size n h'->(∀b o,b < s.heap.objs.size->s.heap.get? b=some o->h'.get? b=some o)->(∀q,H q=none->Q (.ref q) (upd H q (SzS q n)))->EP X pins σ Q (.ref s.heap.objs.size) { s with heap:=h',toks:=tk }:=by
  intro n h' tk U F q;have ac : ∃o,h'.get? s.heap.objs.size=some o:=let ⟨o,_,_,_,z,_⟩:=U;⟨o,z⟩
  exact⟨.ref s.heap.objs.size,_,I.laid (a:=s.heap.objs.size) (o:=SzS s.heap.objs.size n) (t':=tk) (λb o eb=>F b o (fy eb) eb) (h_ _) ⟨U,ac,λh1 h2 am b=>by obtain⟨o,es,ep,t,z,r⟩:=am;exact(⟨o,es,ep,t,b o z,r⟩)⟩,rfl,q _ (I.hok.fresh (h_ _))⟩
 rcases h with⟨ks,rfl,q⟩ | ⟨kss,hk,q⟩
 .rw[f_] at hl Z
  have ag : ∀(i:Nat) v,its[i]? = some v->∃k,ks[i]? = some k/\(aR X.prog X.w).is k v=true:=λi v e=>by
   have hi:i < ks.length:=by rw[Z];exact(i7.mp e).1
   obtain⟨u,e1,e2⟩:=rc rv i (kV ks[i]) (by simp[hi])
   rw[e] at e1;cases e1;exact⟨ks[i],by simp[hi],ls e2⟩
  refine rT (I.ok.hd hc) pl (λi h=>h.SetOf (aR X.prog X.w) s.heap.objs.size (inK (fX (ks.take i))) (fX (ks.take i)).length) (λi h h' U F=>?_) (λi v s' Q' E' hi hv U k'=>?_) (λled h g F=>?_) (λh' tk U F=>?_)
  .obtain⟨o,es,ep,t,ho,r⟩:=U
   exact⟨o,es,ep,t,F _ o (h_ _) ho,r⟩
  .obtain⟨k,ek,hk⟩:=ag i v (by simpa using hv)
   unfold setAdd;refine m6 (a_ ((aR X.prog X.w).pyHash (k:=k) hk ?_))
   have ao:v.scannable=true:=by rcases oX hk with⟨a,b,rfl⟩ | ⟨a,b,rfl⟩ <;> rfl
   have aa:(fX (ks.take i)).length+1 < scanBound:=by
    have h1:=qk (ks.take i);have h2:(ks.take i).length<=ks.length:=by simp;omega
    show _ < 4096
    omega
   refine wpAny_setAddHashed_of (knd:=aR X.prog X.w) (s:={ s' with toks:=s'.toks+1 }) hk ao U aa λh' ad ac=>?_
   refine k' _ h' _ ad ?_ (F_ _)
   have e:=pE ek;exact AX ac (λc=>by rw[e,A7]) (by rw[e,xW])
  .exact⟨_,#[],0,_,g,⟨rfl,rfl,rfl⟩,rfl,λe he=>by simp at he,λk=>by simp[inK,fX],∅,rfl,rfl⟩
  .refine ah (fX ks).length h' tk ?_ F q
   obtain⟨o,es,ep,t,ho,hx,hd,_,_,hb,hf,hn⟩:=U;have e0:its.toArray.size=ks.length:=by simp[Z]
   rw[e0,A_] at hn;exact⟨o,es,ep,t,ho,hx,hd,hf,hn,by rw[<- hn];exact hb⟩
 .obtain⟨hl2,hat⟩:=vB hk
  have ag : ∀(i:Nat) k,kss[i]? = some k->∃b,its[i]? = some (.ref b)/\b < s.heap.objs.size/\x_ (aR X.prog X.w) s.heap k b:=λi k e=>by
   obtain⟨b,e1,e2⟩:=hat i k e;obtain⟨u,e3,e4⟩:=rc rv i _ e1;cases e4;have hk:x_ (aR X.prog X.w) s.heap k b:=jU I.hok e2
   exact⟨b,e3,let ⟨o,_,_,z,_⟩:=hk;fy z,hk⟩
  refine rT (I.ok.hd hc) pl (λi h=>xC (aR X.prog X.w) h s.heap.objs.size (fX (kss.take i))/\∀b o,b < s.heap.objs.size->s.heap.get? b=some o->h.get? b=some o) (λi h h' U F=>?_) (λi v s' Q' E' hi hv U k'=>?_) (λled h g F=>?_) (λh' tk U F=>?_)
  .exact⟨U.1.keep F,λb o hb e=>F b o (pj hb) (U.2 b o hb e)⟩
  .have hik:i < kss.length:=by rw[<- hl2,Z];simpa using hi
   have ek:kss[i]? = some kss[i]:=by simp[hik]
   obtain⟨b,eb,aj,aq⟩:=ag i _ ek;obtain rfl:v = .ref b:=by
    have:its[i]? = some v:=by simpa using hv
    rw[eb] at this;exact(j9 this).symm
   have af:x_ (aR X.prog X.w) s'.heap kss[i] b:=aq.keepG λo e=>U.2 b o aj e
   have ai:X.A.in1.in1.in1.units < cLine:=by show X.A.units+1+1+1 < cLine;omega
   unfold setAdd;refine m6 (a_ (wpAny_pyHash_tuple ai af ?_))
   have aa:(fX (kss.take i)).length+1<=70:=by
    have h1:=qk (kss.take i);have h2:(kss.take i).length<=kss.length:=by simp;omega
    omega
   refine Cc (s:={ s' with toks:=s'.toks+(kss[i].length+1) }) (λk v=>oX) ai U.1 aj af aa λr h' ad ac=>?_
   refine k' r h' _ ad ⟨by rw[pE ek];exact ac,λc o hc e=>?_⟩ (by show s'.toks<=s'.toks+(kss[i].length+1);omega)
   rw[ad.2 c (kf hc)];exact U.2 c o hc e
  .refine⟨⟨_,#[],0,_,[],g,⟨rfl,rfl,rfl⟩,rfl,vy led,by simp[SetTable.fresh],rfl,by simp[fX],λx z=>by cases z⟩,λb o hb e=>F b o e⟩
  .refine ah (fX kss).length h' tk ?_ F q
   obtain⟨⟨o,es,ep,t,l,ho,hx,hd,L,ap,an,hp,_⟩,_⟩:=U;have e0:its.toArray.size=kss.length:=by simp[<- Z,hl2]
   rw[e0,A_] at hp;have hn:es.size=(fX kss).length:=by
    rw[<- hp.length_eq,f_,<- pz,an,f_]
   exact⟨o,es,ep,t,ho,hx,hd,by have:=L.fits;rwa [pz] at this,hn,by have:=qk kss;omega⟩
def yy:List V->Hp->VK->Prop:=λxs H Q=>∃p,xs=[.ref p]/\∃n,H p=some (SzS p n)/\Q (.int n) H
theorem uv:bP X (.builtin "len") yy:=by
 intro pins s σ H xs us Q I r h;obtain⟨p,rfl,n,hp,q⟩:=h;obtain⟨u,rfl,ru⟩:=cU r;cases ru;have U:SzP p n s.heap:=(show aX X.prog X.w H s.heap p (SzS p n) from I.hok p _ hp).1
 obtain⟨o,es,ep,t,ho,F,L,Z,hn,hb⟩:=U;refine PySem.call_len_set ho F L Z () ?_
 rw[hn];exact⟨.int n,H,I.tok _,⟨_,rfl⟩,q⟩
theorem lu {h base B:Heap} : ∀{l:List Env},h.FunFrames base l->(∀b∈frs l,B.get? b=none)->h.FunFrames B l
 | [],_,_=>trivial
 | env :: rest,hl,hB=>by
  obtain⟨hk,⟨L,o,F,hn,ho,Z⟩,hr⟩:=hl;have e:frs (env :: rest)=L :: frs rest:=by unfold frs;rw[E_,F]
  rw[e] at hB;exact⟨hk,⟨L,o,F,hB L m9,ho,Z⟩,lu hr λb U=>hB b (la _ U)⟩
theorem Inv.wide (I:Inv X pins σ H s) : ∃B:Heap,sY X.prog X.w X.K X.mg B X.A X.stack s H/\∀b o,s.heap.get? b=some o->H b=none->b∉frs X.stack->B.get? b=some o:=by
 let L:List Addr:=(range s.heap.objs.size).filter λb=>(H b).isSome || decide (b∈frs X.stack)
 have U : ∀b,b < s.heap.objs.size->(b∈L↔((H b).isSome=true\/b∈frs X.stack)):=λb Z=>by
  show b∈List.filter _ _↔_
  simp[mem_filter,Z]
 have get : ∀b o,s.heap.get? b=some o->H b=none->b∉frs X.stack->(hideAll s.heap L).get? b=some o:=λb o e n Z=>by
  refine hideAll_get _ e λz=>?_
  rcases (U b (fy e)).mp z with z | z
  .rw[n] at z;cases z
  .exact Z z
 have F:=I.env0;have aa : ∀b o,X.base.get? b=some o->b∉frs X.stack:=λb o e z=>by
  have:=(I.stack.mem z).1
  rw[e] at this;cases this
 have bk : ∀b o,X.base.get? b=some o->(hideAll s.heap L).get? b=some o:=λb o e=>get b o (I.bs b o e).1 (I.bs b o e).2 (aa b o e)
 refine⟨hideAll s.heap L,⟨F.frames,⟨F.mod.kin.keeps bk,F.mod.glob.keeps bk,?_,F.mod.nolimit.keeps bk⟩,λb o e=>?_,Jl (hideAll_size _ _),lu F.funs λb Z=>?_,F.frf,F.hok,F.bare⟩,get⟩
 .obtain⟨mb,h1,h2⟩:=F.mod.blt
  exact⟨mb,h1.keeps bk,h2⟩
 .have e1:=of_hideAll _ e
  refine⟨e1,?_⟩
  cases q:H b with
  | none=>rfl
  | some u =>
   have:b∈L:=(U b (fy e1)).mpr (.inl (by rw[q];rfl))
   rw[hideAll_none _ this] at e;cases e
 .obtain⟨_,o,ho,_⟩:=I.stack.mem Z
  exact hideAll_none _ ((U b (fy ho)).mpr (.inr Z))
theorem Inv.addPn {o:Obj} (I:Inv X pins σ H s) (h:s.heap.get? f=some o/\H f=none/\f≠X.env.locals/\f∉X.fs/\∀v,o.data≠.cell v):Inv { X with pn:=(f,o) :: X.pn } pins σ H s :=
 ⟨⟨I.ok.mod,I.ok.kind,I.ok.glob,I.ok.blt,I.ok.above,I.ok.inj,I.ok.has,I.ok.cab,I.ok.hd,I.ok.frames,I.ok.stk,I.ok.exf,I.ok.bs,I.ok.bsz,I.ok.noex,I.ok.exfs,I.ok.funs,I.ok.frf⟩,I.os,I.bare,I.base,I.loc,I.cell,I.free,I.freeC,λp hp=>(i4.mp hp).elim (λz=>by subst z;exact h) (λz=>I.pin p z),I.hok,I.len⟩
theorem Inv.dropPn {o:Obj} (I:Inv { X with pn:=(f,o) :: X.pn } pins σ H s):Inv X pins σ H s :=
 ⟨⟨I.ok.mod,I.ok.kind,I.ok.glob,I.ok.blt,I.ok.above,I.ok.inj,I.ok.has,I.ok.cab,I.ok.hd,I.ok.frames,I.ok.stk,I.ok.exf,I.ok.bs,I.ok.bsz,I.ok.noex,I.ok.exfs,I.ok.funs,I.ok.frf⟩,I.os,I.bare,I.base,I.loc,I.cell,I.free,I.freeC,λp hp=>I.pin p (la _ hp),I.hok,I.len⟩
theorem SP.dropPn {f:Addr} {o:Obj} {D:iN} {fl:Flow} {s':Shared} (h:SP { X with pn:=(f,o) :: X.pn } pins D fl s'):SP X pins D fl s':=by
 cases fl with
 | next=>obtain⟨a,b,I,q⟩:=h;exact⟨a,b,I.dropPn,q⟩
 | brk=>obtain⟨a,b,I,q⟩:=h;exact⟨a,b,I.dropPn,q⟩
 | cont=>obtain⟨a,b,I,q⟩:=h;exact⟨a,b,I.dropPn,q⟩
 | ret u=>obtain⟨v,a,b,I,r,q⟩:=h;exact⟨v,a,b,I.dropPn,r,q⟩
section
variable {c c':Addr} {y:Str} {ctv:Value}
def nL (CX:CXT) (P:Program) (w:World) (K:e_) (mg:Str->Option Value) (base:Heap) (x y:Str) (qual:Str) (scope:Scope) (f:Addr) (cd:Value) (c:Addr) (A:Around) (outer:List Env) (s:Shared) (H:Hp) (E:XK):Cx where
 prog:=P
 w:=w
 K:=K
 mg:=mg
 base:=base
 A:=A.deeper (envX qual scope s.heap.objs.size f cd [(y,c)])
 N:=[x,y]
 s₀:=s
 H₀:=H
 env:=envX qual scope s.heap.objs.size f cd [(y,c)]
 outer:=outer
 stack:=envX qual scope s.heap.objs.size f cd [(y,c)] :: outer
 ex:=[]
 calm:=true
 fn:=λz=>z != y
 pn:=[]
 xe:=λe s'=>wpAny (model P w) (A.deeper (envX qual scope s.heap.objs.size f cd [(y,c)])) (leaving (envX qual scope s.heap.objs.size f cd [(y,c)]) e) (λ_ F=>CX outer H s E e F) (λL F=>CX outer H s E L F) s'
structure yc (x y:Str) (sc:Scope):Prop where
 kind:sc.kind = .function
 co:sc.isCoroutine=false
 gen:sc.isGenerator=false
 loc:sc.names.lookup x=some .local
 fre:sc.names.lookup y=some .free
 nocell : ∀z∈sc.names,z.2≠.cell
 one : ∀z∈sc.names,z.2 = .free->z.1=y
theorem qV {y:Str} {c:Addr} (h:([(y,c)]:List (Str × Addr)).lookup z=some d):z=y/\d=c:=by
 rw[HE] at h;cases F:z == y with
 | true=>rw[F] at h;cases h;exact⟨eq_of_beq F,rfl⟩
 | false=>rw[F] at h;cases h
theorem CA {oc:Addr->Obj->Prop} {v:V} (S:yc x y scope) (hf:B.get? f=some (fnMade name qual params body scope [(y,c)] doc pm c' ctv)) (hc:B.IsCell c (some u)) (rv:aT v u)
  (len : ∀vs H Q E,sp vs H Q E->vs.length=[x].length) (ac : ∀vs H Q E,sp vs H Q E->∃oc uo,H c'=some (.frz oc uo)/\su oc qual)
  (Z : ∀(A:Around) (outer:List Env) (s:Shared) (H:Hp) (L:V) (Q:VK) (E:XK),ce k (A.deeper (envX qual scope s.heap.objs.size f (.ref c') [(y,c)]))->sp [L] H Q E ->
   ∃t,PSs (nL CX P w K mg B x y qual scope f (.ref c') c A outer s H E) body t/\t { nx:=λ_ H'=>Q .non H',rt:=Q } [some L,some v] H) :
  dY P w K mg B CX (k+1) f (fnX name qual params body scope [(y,c)] .none .none doc pm none (.ref c') ctv) [x] sp:=by
 refine⟨len,λA outer s H args us vs Q E hr F hb r ad=>?_⟩
 have hl:=len _ _ _ _ ad;obtain⟨oc,uo,am,vc,tc,aj,ah⟩:=ac _ _ _ _ ad;have an:s.heap.CodeRec (.ref c') qual:=⟨c',oc,vc,tc,rfl,(show aX P w H s.heap c' (.frz oc uo) from F.hok c' _ am).1,aj,ah⟩
 obtain⟨L,rfl⟩ : ∃L,vs=[L]:=by
  match vs,hl with
  | [L],_=>exact⟨L,rfl⟩
 obtain⟨u0,rfl,r0⟩:=cU r;have ap:s.heap.NoLimit:=F.mod.nolimit.keeps λb o e=>(F.bs b o e).1
 refine codeAny_call_function hr.depth (F.bs _ _ hf).1 rfl S.co S.gen rfl an (hb _ _ _ _ ?_)
 refine wpAny_newFunctionEnv S.nocell (λz U=>?_) (λh' aq ao=>?_) S.kind
 .rw[k_.mp U];exact S.loc
 have hk : ∀b o,s.heap.get? b=some o->h'.get? b=some o:=λb o e=>ao.extBut b o (kf (fy e)) (c_ _ e)
 refine⟨ap.keeps hk,codeAny_func ?_⟩
 obtain⟨t,ht,hq⟩:=Z A outer s H L Q E (hr.deeper _) ad;have ai:s.heap.IsCell c (some u)/\H c=none:=by
  obtain⟨o,e,d⟩:=hc;exact⟨⟨o,(F.bs _ _ e).1,d⟩,(F.bs _ _ e).2⟩
 have ag:h'.IsCell c (some u):=let ⟨o,e,d⟩:=ai.1;⟨o,hk _ _ e,d⟩
 have aa : ∀b:Addr,b∉(nL CX P w K mg B x y qual scope f (.ref c') c A outer s H E).ex:=λb z=>absurd (show b∈([]:List Addr) from z) (by simp)
 have I:Inv (nL CX P w K mg B x y qual scope f (.ref c') c A outer s H E) [] [some L,some v] H { s with heap:=h',toks:=s.toks+1 }:=by
  refine⟨⟨F.mod,S.kind,rfl,rfl,h_ _,λa b d h1 h2=>?_,λz U=>?_,λz d U h=>?_,λ_=>hr.hd,Around.frames_deeper F.frames,.inr ⟨rfl,rfl⟩,λb z=>absurd z (aa b),F.bs,F.bsz,λb _ _=>aa b,λb z=>absurd z (aa b),F.funs,F.frf⟩,
   rfl,F.bare,Un.kept hk,⟨_,aq,λi z a h1 h2 h3=>?_⟩,λz d h=>?_,F.hok.fresh (h_ _),λz d h=>?_,λp hp=>absurd (show p∈([]:List (Addr × Obj)) from hp) (by simp),F.hok.kept hk,rfl⟩
  .exact(qV h1).1.trans (qV h2).1.symm
  .have U:scope.names.lookup z=some .cell\/scope.names.lookup z=some .free:=U
   rcases U with U | U
   .exact absurd rfl (S.nocell _ (HL U))
   .have:=S.one _ (HL U) rfl
    have e:z=y:=this
    subst e;exact⟨c,by show([(z,c)]:List (Str × Addr)).lookup z=some c;simp⟩
  .have e:=(qV h).1
   subst e;simp[nL] at U
  .match i,h1,h2 with
   | 0,h1,h2 =>
    have e1:x=z:=by simpa [nL] using h1
    have e2:L=a:=by simpa using h2
    subst e1 e2;exact⟨u0,r0,.inl ⟨S.loc,by simp⟩⟩
   | 1,h1,h2 =>
    have e1:y=z:=by simpa [nL] using h1
    have e2:v=a:=by simpa using h2
    subst e1 e2;exact⟨u,rv,.inr ⟨.inr S.fre,c,by show([(y,c)]:List (Str × Addr)).lookup y=some c;simp,ag⟩⟩
   | i+2,h1,h2=>simp at h2
  .rw[(qV h).2];exact⟨_,ag⟩
  .rw[(qV h).2];exact ai.2
 refine t7 (ht [] _ [some L,some v] H _ I hq) (λfl s' hs=>?_) λe s' hs=>hs
 have af : ∀{σ':St} {H':Hp} {v:V} {u:Value},Inv (nL CX P w K mg B x y qual scope f (.ref c') c A outer s H E) [] σ' H' s'->aT v u->Q v H'->CE outer P w H s Q u s' :=
  λ{σ' H' v u} J rv q=>⟨v,H',J.os,J.bare,J.base,J.hok,rv,q⟩
 cases fl with
 | ret u =>
  obtain⟨v,σ',H',J,rv,q⟩:=hs;exact af J rv q
 | next =>
  obtain⟨σ',H',J,q⟩:=hs;exact af (v:=V.non) (u:=v_) J rfl q
 | brk =>
  obtain⟨_,_,_,q⟩:=hs;exact m_ q
 | cont =>
  obtain⟨_,_,_,q⟩:=hs;exact m_ q
end
section
def Ey (i:Nat) (pt:Addr) (q:Str) (t:Addr->Addr->TS):TS:=λD σ H=>H pt=some (.tab q)/\∀f c' oc H',ak H H'->H' f=none->H' c'=some (.frz oc (.own pt))->su oc q->t f c' D (σ.set i (-f)) H'
theorem zH {c pt:Addr} {q:Str} {t:Addr->Addr->TS} (hN:X.N.Nodup) (hi:X.N[i]? = some name) (hx:Loc X.env.scope name)
  (hq:qualnameIn X.env name name=q) (Z:X.env.code = .ref c) (hc:codeHdIn X.K c pt=true) (bm:lm X.mg X.base) (ar:closureFor scope X.env=pure clos)
  (af : ∀(f c':Addr) (doc pm ctv:Value),PSs { X with pn:=(f,fnMade name q params body scope clos doc pm c' ctv) :: X.pn } rest (t f c'))
  (a4:params.defaults=[]:=by rfl) (az:params.kw_defaults=[]:=by rfl) (ha:annTrees params none X.env=[]:=by rfl) (a2:X.fn name=true\/X.env.scope.names.lookup name=some .local:=by first | exact .inl rfl | exact .inr rfl | assumption) :
  PSs X (.FunctionDef name params body [] none [] scope none name pos :: rest) (Ey i pt q t):=by
 intro pins s σ H D I h;obtain⟨hP,h⟩:=h;obtain⟨ps,e,ht,av⟩:=(show aX X.prog X.w H s.heap pt (.tab q) from I.hok pt _ hP)
 have C:PySem.W.CodeHd s.heap c pt:=(codeHd_of_K I.mod.kin hc).keeps I.bk
 obtain⟨b,ob,b1,b2,b3,b4,b5,b6⟩:=bm;have ag:s.heap.Ns i_ X.mg:=I.mod.glob.keeps I.bk
 have a8:i_≠pt:=λz=>by
  obtain⟨o,es,ep,e',hd,_⟩:=ag;rw[z,e] at e';cases e';cases hd
 have a1:b≠pt:=λz=>by
  have:=(I.bs _ _ b3).2
  rw[z,hP] at this;cases this
 have a5:b≠i_:=λz=>by
  obtain⟨o,es,ep,e',hd,_⟩:=I.mod.glob;rw[z,e'] at b3;cases b3;rw[hd] at b6;cases b6
 have hB:s.heap.BuiltinsAt X.mg pt:=⟨b,ob,b1,b2,a5,a1,I.bk _ _ b3,b4,b5,b6⟩
 have next : ∀(f c':Addr) (oc:Obj) (doc pm ctv:Value) (s':Shared) (H':Hp),Inv X pins σ H' s'->ak H H'->s.heap.objs.size<=f->H' c'=some (.frz oc (.own pt))->su oc q->s'.heap.get? f=some (fnMade name q params body scope clos doc pm c' ctv)->H' f=none ->
   wpAny (model X.prog X.w) X.A (storeName X.env name (.ref f)) (λ_ ax=>wpAny (model X.prog X.w) X.A (execs rest X.env) (SP X pins D) X.xe ax) X.xe s':=by
  intro f c' oc doc pm ctv s' H' I' S U hw L hf F;have ai:=fy hf;refine kb I' hN hi hx (v:=.ref f) rfl (λs2 I2 aa=>?_) a2
  obtain⟨a,sb,ha⟩:=aa;have aq:f≠X.env.locals:=λz=>by
   obtain⟨m,⟨o',es,ep,au,aB,_⟩,_⟩:=I'.loc;rw[<- z,hf] at au;cases au;cases aB
  have aA:f∉X.fs:=λz=>by
   obtain⟨_,o,ho,_⟩:=I.funs.mem z;exact absurd (fy ho) (Nat.not_lt.mpr U)
  have a7:f≠a:=λz=>by
   rcases ha with ha | ha
   .exact aq (z.trans ha)
   .obtain⟨v,o,ho,hd⟩:=I'.cell _ _ ha
    rw[<- z,hf] at ho;cases ho;cases hd
  have ay:s2.heap.get? f=some (fnMade name q params body scope clos doc pm c' ctv):=(sb.2 f a7).trans hf
  have I3:=I2.addPn (f:=f) (o:=fnMade name q params body scope clos doc pm c' ctv) ⟨ay,F,aq,aA,λv z=>nomatch z⟩
  exact t7 (af f c' doc pm ctv pins s2 _ H' D I3 (h f c' oc H' S F hw L)) (λfl s3 q=>SP.dropPn q) λ_ _ q=>q
 refine JD (PySem.W.nestDef_K a4 az ha ?_)
 rw[hq];cases hf:Jd pos ps.toList with
 | some cv =>
  obtain⟨c',oc,rfl,ne,hw,L⟩:=av pos cv hf;refine PySem.W.makeFunction_hit ar I.ok.glob ag Z C e ht hf hB λctv doc h' tk hk hsz=>?_
  have k2 : ∀b o,s.heap.get? b=some o->(h'.push (fnMade name q params body scope clos doc ((X.mg "__name__").getD .none) c' ctv)).get? b=some o:=λb o e=>c_ _ (hk b o e)
  exact next _ c' oc doc _ ctv _ H (I.kept (t':=tk) k2) (ak.refl H) hsz hw L (ge _ rfl) (I.hok.fresh hsz)
 | none =>
  refine PySem.W.makeFunction_K ar I.ok.glob ag Z C e ht hf a8 hB λc' ctv doc h' tk hx U ai an a6=>?_
  have am:H c'=none:=I.hok.fresh U
  have a3:c'≠pt:=λz=>by rw[z,hP] at am;cases am
  generalize a0:fnMade name q params body scope clos doc ((X.mg "__name__").getD .none) c' ctv=fo;have k1 : ∀b o,b≠pt->s.heap.get? b=some o->(h'.push fo).get? b=some o:=λb o hb e=>c_ _ (hx b o hb e)
  have nP : ∀b,H b=none->b≠pt:=λb n z=>by rw[z,hP] at n;cases n
  have nc : ∀b o,s.heap.get? b=some o->b≠c':=λb o e=>kf (j8 (fy e) U)
  have ac:(h'.push fo).get? pt=some (tabObj (ps ++ #[HU pos.line,HU pos.col,.ref c'])):=c_ _ a6
  have ad:=an.push fo;obtain⟨cc,oc,vc,tc,a9,as,ao⟩:=id ad;cases a9;have S:ak H (upd H c' (.frz oc (.own pt))):=λb o e=>by rw[ah (aj e am)];exact e
  have un:Un X.fs [] H (upd H c' (.frz oc (.own pt))) s.heap (h'.push fo) :=
   ⟨λb o e n _ _=>k1 b o (nP b n) e,λb o e n _ _=>⟨o.slots,k1 b o (nP b n) e⟩,λb o e n _=>by rw[ah (nc b o e)];exact n,
    λb o e _=>by
     by_cases hb:b=pt
     .subst hb;exact⟨_,ac⟩
     .exact⟨o,k1 b o hb e⟩,
    λb xs e=>S _ _ e,λb o u e=>S _ _ e,λb ps e=>⟨#[],by rw[S _ _ e];simp⟩⟩
  have hok:HOk X.prog X.w (upd H c' (.frz oc (.own pt))) (h'.push fo):=λb u eb=>by
   by_cases aw:b=c'
   .subst aw
    rw[ae] at eb;cases eb;exact⟨as,oc,as⟩
   .rw[ah aw] at eb
    by_cases hb:b=pt
    .subst hb
     rw[hP] at eb;cases eb;refine⟨ps ++ #[HU pos.line,HU pos.col,.ref c'],ac,?_,λpos' cv z=>?_⟩
     .rw[Array.toList_append]
      exact PySem.W.triples_app _ ht trivial
     .rw[Array.toList_append,PySem.W.among_app _ ht] at z
      cases z1:Jd pos' ps.toList with
      | some ap =>
       rw[z1] at z;have z':ap=cv:=by simpa using z
       subst z';obtain⟨d,od,rfl,ne,hw,L⟩:=av pos' ap z1;exact⟨d,od,rfl,ne,S _ _ hw,L⟩
      | none =>
       rw[z1] at z;have z':i8 c'=cv:=by
        simp only[Option.none_or,HU,Jd] at z
        split at z
        .exact j9 z
        .cases z
       subst z';exact⟨c',oc,rfl,a3,ae,vc,tc,ao⟩
    .refine(I.hok b u eb).stay (λd v hd r=>k1 d v ?_ r) (λd r=>S _ _ r) (λd xs r=>S _ _ r) λd _ _ r=>S _ _ r
     rcases hd with rfl | hd
     .exact hb
     .exact λz=>by rw[z,hP] at hd;cases hd
  have hsz:s.heap.objs.size<=h'.objs.size:=n_ U (pj ai)
  have F:upd H c' (.frz oc (.own pt)) h'.objs.size=none:=by rw[ah (IE ai)];exact I.hok.fresh hsz
  subst a0;exact next _ c' oc doc _ ctv _ _ (I.un (t':=tk) un hok) S hsz ae ⟨vc,tc,ao⟩ (ge _ rfl) F
variable {p:Pos} {t:TA}
def zP (sp:St->Sp) (t:TA):TE:=λσ H Q=>t σ H λvs H1=>sp σ vs H1 Q E0
def yj (i:Nat) (f:Addr) (sp:Sp) (t:TA):TE:=λσ H Q=>σ[i]? = some (-f)/\t σ H λvs H1=>sp vs H1 Q E0
theorem Ao (F:dY X.prog X.w X.K X.mg X.base CX k f fd ps sp) (hf:PySem.W.FnAt f X.base) (hb:dP X.K fd ps []) (hr:ce k X.A) (hx:qe CX X E0)
  (hN:X.N[i]? = some x) (hv:Vis X.env.scope x) (ha:PA X (e :: es) t) (hd:(x ==("__debug__" : Str))=false:=by decide) (ac:(x ==("__classdict__" : Str))=false:=by decide)
  (he:i9 (e :: es) X.env=(false,eval e X.env) :: i9 es X.env:=by rfl) (aa:(HR pos (i9 es X.env)).any (·.1)=false:=by rfl) :
  PE X (.Call (.Name x p) (e :: es) [] pos) (yj i f sp t):=by
 intro pins s σ H Q I h;obtain⟨hs,h⟩:=h;have Z : ∀{σ':St} {H':Hp} {s':Shared},Inv X pins σ' H' s'->PySem.W.FnAt f s'.heap:=λI=>let ⟨oc,od,fd,sl,e⟩:=hf;⟨oc,od,fd,sl,I.bk _ _ e⟩
 refine r_ (thn (zS hN hv hd ac pins s σ H (λv H'=>v = .ref f/\H'=H) I ⟨_,hs,rfl,rfl⟩) λv s1 L=>?_)
 obtain⟨x1,H1,I1,r1,ex,eH⟩:=L;subst ex eH;cases (show v=i8 f from r1)
 exact PySem.W.callWith_F (Z I1) (thn (ha pos pins s1 σ _ _ I1 h) λus s2 U=>by obtain⟨vs,H2,I2,r,q⟩:=U;exact(⟨Z I2,uW F hr hb .nil hx I2 r (by rw[HY];exact q)⟩)) he aa
def yD:List V->Hp->VK->Prop:=λxs H Q=>∃p,xs=[.ref p]/\∃ys,(H p>>ys\/H p*>ys)/\Q (.int ys.length) H
theorem tR:bP X (.builtin "len") yD:=gy.imp λ_ _ _ F=>by obtain⟨p,e,ys,h,q⟩:=F;exact(⟨p,ys,e,h.elim (λz=>.inr (.of z)) (λz=>.inl (.of z)),q⟩)
def BX (e:JQ):Str:=match e.key with | .str x _=>x | _=>Str.empty
def EF (w:World) (K:e_) (a:Addr) (N:List Str):Prop:=∃es n,K.lookup a=some ⟨.type "dict",none,.dict es n,#[]⟩/\PySem.W.KeysLit w.params es.toList/\es.toList.map BX=N
def DT (a:Addr) (N:List Str):R2:=λx y H Q=>y = .ref a/\((x = .non/\Q (.bl false) H)\/∃s,x = .str s/\Q (.bl (N.any λy=>decide (y=s))) H)
theorem zR (TA:EF X.w X.K a N) (hs:(a == HZ)=false):OpR X (p8 .In) (DT a N):=by
 intro pins s σ H x y v u Q I rx ry h;obtain⟨rfl,h⟩:=h;cases (show u=i8 a from ry)
 obtain⟨es,n,hl,hk,hN⟩:=TA;have F : ∀e∈es.toList,∃x t,e.key = .str x t/\e.hash=PyData.keyHash X.w.params x:=hk.all
 have hm:s.heap.MapOf (qA X.prog X.w) a (λk=>findBy gE es k):=⟨_,es,n,I.kIn _ _ hl,⟨rfl,rfl,rfl⟩,rfl,λe L=>by
  obtain⟨x,t,e1,e2⟩:=F e (Jt.mpr L);exact⟨some (.inr x),by rw[e1];exact mN (iG x t),e2⟩,λ_=>rfl⟩
 have Z : ∀k:Option Key,(findBy gE es k).isSome=es.toList.any λe=>gE k e.key:=λk=>by
  unfold findBy;rw[isSome_map,<- Array.find?_toList,t5,List.find?_isSome,IP]
 rcases h with⟨rfl,q⟩ | ⟨z,rfl,q⟩
 .cases rx
  refine wpAny_in_of (knd:=qA X.prog X.w) (k:=none) rfl hs hm ?_
  have e:(findBy gE es none).isSome=false:=by
   rw[Z,List.any_eq_false];intro e L;obtain⟨x,t,e1,_⟩:=F e L;rw[e1];simp[gE]
  rw[e];exact⟨.bl false,H,I.tok _,rfl,q⟩
 .obtain⟨tk,rfl⟩:=rx
  refine wpAny_in_of (knd:=qA X.prog X.w) (k:=some (.inr z)) (mN (iG z tk)) hs hm ?_
  have e:(findBy gE es (some (.inr z))).isSome=N.any λy=>decide (y=z):=by
   rw[Z,<- hN,any_map];rw[t5,IP,IP]
   constructor
   .rintro⟨e,L,h2⟩
    obtain⟨x,t,e1,_⟩:=F e L;refine⟨e,L,?_⟩
    rw[e1] at h2;rcases cb h2 with⟨z1,U⟩ | ⟨_,_,z1,U⟩ | ⟨y,t',z1,U⟩ | ⟨_,z1,U⟩
    .cases U
    .cases U
    .cases z1;cases U;simp[BX,e1]
    .cases U
   .rintro⟨e,L,h2⟩
    obtain⟨x,t,e1,_⟩:=F e L;refine⟨e,L,?_⟩
    have h3:x=z:=by simpa [BX,e1] using h2
    rw[e1,h3];exact mN (iG z t)
  rw[e];exact⟨.bl _,H,I.tok _,rfl,q⟩
end
section
variable {k0:Nat} {p:Pos} {t:TA} {ps0:List Str} {sp0:Sp} {sp:St->Sp}
theorem xp (F0:Fn X.prog X.w X.K X.mg X.base x k0 ps0 sp0) (hr:ce k X.A) (hg:Gl X x)
  (hF : ∀(B:Heap) (pins:List (Addr × Obj)) (σ:St) (H:Hp) (s:Shared) (vs:List V) (Q:VK),Inv X pins σ H s->Mod X.K X.mg B->(∀b o,s.heap.get? b=some o->H b=none->b∉frs X.stack->B.get? b=some o)->sp σ vs H Q E0->∃sp',sp' vs H Q E0/\Fn X.prog X.w X.K X.mg B x k ps sp')
  (ha:PA X (e :: es) t) (aa:(x ==("__debug__" : Str))=false:=by decide) (he:i9 (e :: es) X.env=(false,eval e X.env) :: i9 es X.env:=by rfl) (ac:(HR pos (i9 es X.env)).any (·.1)=false:=by rfl) :
  PE X (.Call (.Name x p) (e :: es) [] pos) (zP sp t):=by
 obtain⟨g,ad,_,hm,hk,_⟩:=F0;intro pins s σ H Q I h;refine r_ (iA I hg hm ?_ aa)
 refine callWith_K (h₀:=X.base) I.ok.mod.kin hk (thn (ha pos pins s σ H _ I h) λus s1 ⟨vs,H1,I1,r,q⟩=>⟨I1.kIn,?_⟩) he ac
 obtain⟨B,e0,hB⟩:=I1.wide;obtain⟨sp',q',g',fd,F,Z,_,hb⟩:=hF B pins σ H1 s1 vs Q I1 e0.mod hB q;rw[hm] at Z;cases Z;have hl:(us++[]).length=ps.length:=by rw[HY,<- r.length];exact F.len _ _ _ _ q'
 have U:=hb s1 us I1.kIn hl;rw[HY] at U;refine Jg (Ib (F.run X.A X.stack s1 H1 ⟨us,[]⟩ us vs Q E0 hr e0 U r q') λr s' L=>?_)
 cases r with
 | error e=>exact wc pins σ H1 s1 e s' I1 L
 | ok fl =>
  cases fl with
  | ret u=>exact I1.after L
  | next=>exact m_ L
  | brk=>exact m_ L
  | cont=>exact m_ L
theorem xI {y:Str} {v:V} {c:Addr} (I:Inv X pins σ H s) (hB : ∀b o,s.heap.get? b=some o->H b=none->b∉frs X.stack->B.get? b=some o)
  (hN:X.N[i]? = some y) (Z:σ[i]? = some (some v)) (hk:X.env.scope.names.lookup y=some .cell) (U:X.env.cells.lookup y=some c) (hf:X.fn y=true) : ∃u,aT v u/\B.IsCell c (some u):=by
 obtain⟨m,hn,hl⟩:=id I.loc;obtain⟨u,r,F⟩:=hl i y v hN Z (.inr (.inl hk));refine⟨u,r,?_⟩
 rcases F with⟨L,_⟩ | ⟨_,c',hc',hcell⟩
 .rw[show X.env.kindOf y=X.env.scope.names.lookup y from rfl,hk] at L;cases L
 .rw[U] at hc'
  cases hc';obtain⟨o,ho,hd⟩:=hcell;refine⟨o,hB c o ho (I.freeC y c U) λz=>?_,hd⟩
  rcases i4.mp (I.stkSub c z) with e | e
  .obtain⟨o',es,ep,ho',hd',_⟩:=hn
   rw[<- e,ho] at ho';cases ho';rw[hd] at hd';cases hd'
  .obtain⟨_,o',ho',_⟩:=I.ok.funs.mem e
   exact absurd (fy ho') (Nat.not_lt.mpr (I.ok.cab y c hf U))
theorem yk {o:Obj} (I:Inv { X with pn:=(f,o) :: X.pn } pins σ H s) (F : ∀b o,s.heap.get? b=some o->H b=none->b∉frs X.stack->B.get? b=some o):B.get? f=some o:=by
 obtain⟨h1,h2,U,L,_⟩:=I.pin (f,o) (IB _ m9);refine F f o h1 h2 λz=>?_
 rcases i4.mp (I.dropPn.stkSub f z) with e | e
 .exact U e
 .exact L e
end
section
variable {x:Addr} {od:Option Obj}
def dh:List Value:=[.type "ValueError",.type "Exception",.type "BaseException",.type "object"]
structure XCl (K:e_) (C D:Addr):Prop where
 ga:Jb K (.ref C) "__getattribute__" = some (some (.builtin "BaseException.__getattribute__"))
 no:Jb K (.ref C) "__getattr__" = some none
 sa:Jb K (.ref C) "__setattr__" = some (some (.builtin "object.__setattr__"))
 hd:hasDictIn K C=true
 rl:(clsIn K C).map (·.mro)=some (.ref C :: .ref D :: dh)
theorem XCl.mro {K:e_} {C D:Addr} (c:XCl K C D) : ∃cd,clsIn K C=some cd/\cd.mro = .ref C :: .ref D :: dh:=by
 have:=c.rl
 cases h:clsIn K C with
 | none=>rw[h] at this;cases this
 | some cd=>rw[h] at this;exact⟨cd,rfl,j9 this⟩
theorem XCl.sub (c:XCl K C D) (b:Value) (h:(i8 C :: i8 D :: dh).contains b=true):mroIn K C b=some true:=by
 obtain⟨cd,h1,h2⟩:=c.mro;unfold mroIn;rw[h1]
 show(if cd.mro.isEmpty=true then _ else _)=_
 rw[h2];exact congrArg some h
theorem XCl.ba (c:XCl K C D):mroIn K C (.type "BaseException")=some true:=c.sub _ (by simp[dh])
theorem XCl.ob (c:XCl K C D):mroIn K C (.type "object")=some true:=c.sub _ (by simp[dh])
theorem Gv:builtinKind "BaseException.__getattribute__" = some Manifest.AttrKind.slot:=by kernel_rfl
theorem Ew:splitId "BaseException.__getattribute__" = some ("BaseException","__getattribute__"):=by kernel_rfl
theorem El (a b:Value):argsOk "BaseException.__getattribute__" { pos:=[a,b] }:=PySem.F.args_bexc_ga a b
theorem sI {L:Bool} {tk:Tok} {r:Builtin.ObjectAttr.Found} (X:K.In s.heap) (I:HV s.heap x ox C od) (c:XCl K C D) (hf:findObj K C od name=some r)
  (h:(∃u,r = .value u/\handedIn u=true/\Q u s)\/(∃g a,r = .bind g a/\ID (model prog w) A.in1 (.call g ⟨[a,.ref x,.ref C],[]⟩) (λq s'=>∃u,q = .ok (.ret u)/\handedIn u=true/\Q u s') s)):wpAny (model prog w) A (getAttrBy (.ref x) (.str name tk) L expr) Q E s:=by
 obtain⟨hh,g,d,t,os⟩:=s;have U:=λM=>PySem.W.InstAt.type (M:=M) I
 have FB:=PySem.F.attrBase_ValueError;have sub:JW (model prog w) hh (isInstance (.ref x) (.type "BaseException")) true:=PySem.W.Looks.andThen (U _) (looks_mroIn X c.ba)
 refine m6 (a_ (PySem.W.Looks.at (U _) (a_ (PySem.W.Looks.at (looks_findIn X c.ga) ?_))))
 have f3:=FB.ga.bind (i8 x);have e0:(expr && onTheHeap (Ja "BaseException.__getattribute__"))=false:=by cases expr <;> rfl
 show wpAny _ _ (if (onTheHeap (i8 C) && (Ja "BaseException.__getattribute__" == Ja "object.__getattribute__"))=true then _ else _) _ _ _
 refine mx rfl (a_ ?_)
 show wpAny _ _ (if onTheHeap (i8 C)=true then _ else _) _ _ _
 refine JA rfl (PySem.W.Looks.at (looks_findIn X c.no) (a_ (wpAny_attempt (m6 ?_))))
 show wpAny _ _ (if (expr && onTheHeap (Ja "BaseException.__getattribute__"))=true then _ else _) _ _ _
 rw[e0];refine mx rfl ?_
 show wpAny _ _ (do let (g,first) <- bindSpecial (Ja "BaseException.__getattribute__") (i8 x);call g (first++[Value.str name tk])) _ _ _
 rw[f3];refine a_ (b_ (Jg (codeAny_call_builtin FB.ga.plain PySem.F.entry_bexc_ga ?_)))
 refine check_slot (s:=⟨hh,g,d,t,os⟩) (i := "BaseException.__getattribute__") (self:=.ref x) (rest:=[.str name tk]) (kw:=[]) Gv Ew sub (El _ _) ?_
 refine a_ ?_
 unfold slotArgs;refine(mx rfl (mx rfl (b_ (a_ (b_ (a_ (PySem.W.Looks.at (U _) (a_ (PySem.W.Looks.at (PySem.W.looks_find X I hf) ?_)))))))))
 rcases h with⟨u,rfl,Z,h⟩ | ⟨g0,a,rfl,h⟩
 .refine b_ ?_
  show wpAny _ _ (handedOut u) _ _ _
  rw[handedOut_of Z];exact b_ h
 .refine a_ (m6 (Jg (Ib h λq s' z=>?_)))
  obtain⟨u,rfl,Z,z⟩:=z;refine b_ ?_
  show wpAny _ _ (handedOut u) _ _ _
  rw[handedOut_of Z];exact b_ z
theorem Hq (X:K.In s.heap) (I:HV s.heap x ox C od) (c:XCl K C D) (L:findObj K C od name=some (.value v)) (U:handedIn v=true)
  (h:Q v { s with toks:=s.toks+1 }):wpAny (model prog w) A (getAttr (.ref x) name expr) Q E s:=by
 obtain⟨F,g,d,t,os⟩:=s;exact a_ (a_ (wpAny_fresh' (b_ (sI (s:=⟨F,g,d,t+1,os⟩) X I c L (.inl ⟨v,rfl,U,h⟩)))))
theorem zX {od:Obj} (c:XCl K C D) (ha:Jb K (.ref C) "__class__" = some (some (.builtin "object.__class__")))
  (hn:specialIn K (.builtin "object.__class__") "__get__" = some (some (.builtin "getset_descriptor.__get__"))) (U:takesIn K (.builtin "object.__class__")=some true) :
  PySem.W.KitX K (.ref x) (.ref C) (λh=>HV h x ox C (some od)) where
 ty:=λ_ _ _ I=>PySem.W.InstAt.type I
 it:=λM h X _=>by
  obtain⟨cd,F,_⟩:=any_some c.hd;intro A' Q' E' s' k q;unfold clsIn at F
  split at F
  .rename_i heq
   exact a_ (wpAny_loadPart (k _ _ (X _ _ heq)) (b_ q))
  .cases F
 ne:=λh tp dd its n sl X L=>by
  obtain⟨cd,F,_⟩:=any_some c.hd;refine Bool.eq_false_iff.mpr λq=>?_
  have e:=Value.ref.inj (beq_iff_eq.mp q);subst e;unfold clsIn at F
  split at F
  .rename_i heq
   have z:=(X _ _ heq).symm.trans L;cases z
  .cases F
 ca:=λ{prog} {w} {A} {E} {Q} {s} X I h=>by
  have hf:findObj K C (some od) "__class__" = some (.bind (.builtin "getset_descriptor.__get__") (.builtin "object.__class__")):=by
   obtain⟨cd,F,_⟩:=any_some c.hd;exact PySem.W.findObj_data (by rw[F];rfl) ha hn U
  obtain⟨Z,g,d,t,os⟩:=s;refine a_ (a_ (wpAny_fresh' (b_ (a_ (wpAny_attempt ?_)))))
  refine sI (s:=⟨Z,g,d,t+1,os⟩) X I c hf (.inr ⟨_,_,rfl,?_⟩)
  exact PySem.W.class_get (s:=⟨Z,g,d,t+1,os⟩) X I c.ob ⟨_,rfl,rfl,b_ h⟩
end
section
variable {x:Addr} {od:Option Obj}
theorem oY {tk:Tok} (X:K.In s.heap) (I:HV s.heap x ox C od) (c:XCl K C D)
  (ha:Jb K (.ref C) name=some none)
  (h:wpAny (model prog w) A.in1 (Builtin.ObjectAttr.storeInOwnDict (.ref x) (.ref C) (.str name tk) name v false) (λU s'=>match U with | .done f=>R (.ok f) s' | .again c'=>c'.quiet=true/\ID (model prog w) A c' R s') (λe s'=>R (.error e) s') s) :
  ID (model prog w) A (.call (.builtin "object.__setattr__") ⟨[.ref x,.str name tk,v],[]⟩) R s:=by
 have L:=PySem.F.store_object;obtain⟨Z,g,d,t,os⟩:=s;obtain⟨cd,hc,aa⟩:=c.mro;have L0:=λM=>PySem.W.InstAt.type (M:=M) I
 have sub:JW (model prog w) Z (isInstance (.ref x) (.type "object")) true:=PySem.W.Looks.andThen (L0 _) (looks_mroIn X c.ob)
 have hm:JW (model prog w) Z (mroOf (.ref C)) cd.mro:=PySem.W.Looks.andThen (looks_clsIn X hc) PySem.W.Looks.now
 refine codeAny_call_builtin L.slot.plain L.entry ?_
 refine check_slot (s:=⟨Z,g,d,t,os⟩) (i := "object.__setattr__") (self:=.ref x) (rest:=[.str name tk,v]) (kw:=[]) L.kind L.split sub (L.args _ _ _) ?_
 rw[PySem.W.osa_eq,refuse_eq];refine a_ (a_ (PySem.W.Looks.at (L0 _) (a_ (PySem.W.Looks.at hm ?_))))
 rw[aa,refuseLoop_ref,refuseLoop_ref,show refuseLoop (.ref x) "__setattr__" dh=pure Unit.unit from PySem.F.store_ValueError.passes _]
 exact b_ (a_ (PySem.W.Looks.at (L0 _) (a_ (PySem.W.Looks.at (looks_findIn X ha) (a_ (b_ h))))))
end
def XO (C:Addr) (d:Option Addr) (tb:Value) (a:Addr):HO:=.ext λh=>∃o vs,h.get? a=some o/\o.cls = .ref C/\o.dict=d/\o.data = .fields vs/\vs[1]? = some tb
def XD (fs:List (Str × V)) (a:Addr):HO:=.ext λh=>∃mA,h.Ns1 a mA/\(∀f,gG (fs.lookup f) (mA f))/\Jv mA (fs.map (·.1))
def TB (fl:Value) (a:Addr):HO:=.ext λh=>∃o vs,h.get? a=some o/\o.data = .fields vs/\vs[3]? = some fl
section
variable {d:Option Addr} {fs:List (Str × V)}
theorem Aj {o:Obj} (e:h.get? a=some o) (h1:o.cls = .ref C) (h2:o.dict=d) (U:o.data = .fields vs) (L:vs[1]? = some tb):aX P w H h a (XO C d tb a) :=
 ⟨⟨o,vs,e,h1,h2,U,L⟩,⟨o,e⟩,λ_ _ F k=>by obtain⟨o,vs,e,r⟩:=F;exact(⟨o,vs,k o e,r⟩)⟩
theorem zd {o:Obj} (e:h.get? a=some o) (h1:o.data = .fields vs) (h2:vs[3]? = some fl):aX P w H h a (TB fl a) :=
 ⟨⟨o,vs,e,h1,h2⟩,⟨o,e⟩,λ_ _ F k=>by obtain⟨o,vs,e,r⟩:=F;exact(⟨o,vs,k o e,r⟩)⟩
theorem Ak (n:h.Ns1 a mA) (r : ∀f,gG (fs.lookup f) (mA f)) (q:Jv mA (fs.map (·.1))):aX P w H h a (XD fs a) :=
 ⟨⟨mA,n,r,q⟩,let ⟨o,_,_,e,_⟩:=n;⟨o,e⟩,λ_ _ F k=>by obtain⟨mA,n,r,q⟩:=F;exact(⟨mA,n.at k,r,q⟩)⟩
theorem iH (x:aX P w H h a (XO C d tb a)) : ∃o vs,h.get? a=some o/\o.cls = .ref C/\o.dict=d/\o.data = .fields vs/\vs[1]? = some tb:=x.1
theorem Cj (x:aX P w H h a (TB fl a)) : ∃o vs,h.get? a=some o/\o.data = .fields vs/\vs[3]? = some fl:=x.1
theorem Ax (x:aX P w H h a (XD fs a)) : ∃mA,h.Ns1 a mA/\(∀f,gG (fs.lookup f) (mA f))/\Jv mA (fs.map (·.1)):=x.1
end
section
variable {e t:Addr} {d:Option Addr} {Q:Unit->Shared->Prop}
theorem Inv.slots (I:Inv X pins σ H s) (k:Heap.SlotsOnly (frs X.stack) s.heap h'):Inv X pins σ H { s with heap:=h' }:=by
 obtain⟨k1,k2,k3⟩:=k;refine I.call (g':=s.gens) (t':=s.toks) (d':=s.drawn) (ch:=[]) ⟨λb o q _ n _=>(k2 b n).trans q,λb o q _ _ _=>k3 b o q,λ_ _ _ n _=>n,λb o q _=>let ⟨sl,q⟩:=k3 b o q;⟨_,q⟩,λ_ _ q=>q,λ_ _ _ q=>q,λ_ ps q=>⟨#[],by rw[q];simp⟩⟩ (λa o q=>?_) I.bare (λb z=>absurd z (by simp))
 have F : ∀b u,H b=some u->b∉frs X.stack:=λb u q z=>by rw[I.stkFree b z] at q;cases q
 refine(I.hok a o q).stay (λb u z r=>?_) (λ_ q=>q) (λ_ _ q=>q)
 rcases z with rfl | z
 .exact(k2 _ (F _ _ q)).trans r
 .exact(k2 _ (F _ _ z)).trans r
theorem Inv.setF {x:Addr} {ob:Obj} (I:Inv X pins σ H s) (U:Mut (H x)) (L:s.heap.get? x=some ob) (F:ob.data = .fields vs) (hi:i < vs.size)
  (new : ∀h',h'.get? x=some { ob with data:=.fields (vs.setIfInBounds i v) }->aX X.prog X.w (upd H x o) h' x o)
  (h : ∀s',Inv X pins σ (upd H x o) s'->Q Unit.unit s') {A:Around}:wpAny (model X.prog X.w) A (setField (.ref x) i v) Q E s:=by
 refine wpAny_setField L F hi (h _ ?_)
 have e1:(s.heap.update x (Obj.mapFields λy=>y.setIfInBounds i v)).get? x=some { ob with data:=.fields (vs.setIfInBounds i v) }:=by
  obtain⟨c0,d0,Z,sl⟩:=ob;obtain rfl:Z = .fields vs:=F
  rw[HW _ L (by rfl)]
  rfl
 refine I.write (x:=x) (e:=x) (t':=s.toks) U (.inl rfl) (λb u n q=>?_) ⟨_,e1⟩ (new _ e1)
 rw[Heap.get?_update_ne _ _ _ _ n];exact q
theorem sf {F:Value} {b:Bool} (I:Inv X pins σ H s) (he:H e=some (XO C d tb e)) (hs:X.stack=X.env :: X.outer) (hL:X.env.frame=some X.env.locals)
  (h : ∀t s',H t=none->Inv X pins σ (upd (upd H t (TB (HU X.env.locals) t)) e (XO C d (.ref t) e)) s'->Q Unit.unit s') :
  wpAny (model X.prog X.w) X.A (do
   let a <- frameOf X.env
   let pl <- entryPlaceOf X.env.locals b
   let c <- EntryCells.newEntry F a v_ (HU X.env.locals) v_ pl
   setField (.ref e) 1 c) Q E s:=by
 refine a_ (wpAny_frameOf_fun (base:=X.base) (by rw[I.ok.frames,hs]) (by have:=I.stack;rw[hs] at this;exact this) hL λh' k=>?_)
 have Z:Inv X pins σ H { s with heap:=h' }:=I.slots (by rw[hs];exact k)
 refine a_ (wpAny_entryPlaceOf λpl hp=>a_ ?_)
 have hn:H h'.objs.size=none:=Z.hok.fresh (h_ _)
 have U : ∀l:List Value,(l.length=6->wpAny (model X.prog X.w) X.A (newFields "traceback" ([F,.ref X.env.locals,.none,HU X.env.locals,.none]++l)) (λc s'=>wpAny (model X.prog X.w) X.A (setField (.ref e) 1 c) Q E s') E { s with heap:=h' }):=λl hl=>by
  refine mx (decide_eq_false (by show ¬ w9 _ > _;have:=IQ;simp;omega)) ?_
  refine a_ (wpAny_alloc' (b_ ?_))
  have e1:(h'.push { cls:=.type "traceback",data:=.fields ([F,.ref X.env.locals,.none,HU X.env.locals,.none]++l).toArray }).get? h'.objs.size=some _:=ge _ rfl
  have I2:=Z.laid (a:=h'.objs.size) (o:=TB (HU X.env.locals) h'.objs.size) (t':=s.toks) (λb u q=>c_ _ q) (h_ _) (zd e1 rfl (by simp))
  have L:upd H h'.objs.size (TB (HU X.env.locals) h'.objs.size) e=some (XO C d tb e):=by rw[ah (aj he hn)];exact he
  obtain⟨o,vs,h1,h2,h3,h4,h5⟩:=iH (I2.hok e _ L);have hz:1 < vs.size:=(v8.mp h5).1
  exact I2.setF (by rw[L];exact g9) h1 h4 hz (λg q=>Aj q h2 h3 rfl (by simp[hz])) λs' I3=>h _ s' hn I3
 unfold EntryCells.newEntry
 split
 .exact U _ (by simp)
 .rcases hp with rfl | ⟨a,b,c,d,c9,b10,_,rfl⟩
  .exact U _ (by simp at *)
  .exact U _ rfl
theorem zG (I:Inv X pins σ H s) (L:H e=some (XO C d .none e)) (hs:X.stack=X.env :: X.outer) (F:X.env.frame=some X.env.locals)
  (h : ∀t s',H t=none->Inv X pins σ (upd (upd H t (TB (HU X.env.locals) t)) e (XO C d (.ref t) e)) s'->Q Unit.unit s') :
  wpAny (model X.prog X.w) X.A (noteFrame (.ref e) X.env) Q E s:=by
 obtain⟨o,vs,h1,h2,h3,U,Z⟩:=iH (I.hok e _ L);unfold noteFrame;rw[F];refine a_ (o9 h1 U Z ?_)
 refine mx rfl ?_
 exact sf I L hs F h
theorem Bv (I:Inv X pins σ H s) (he:H e=some (XO C d (.ref t) e)) (ht:H t=some (TB .none t)) (Z:t≠e) (hs:X.stack=X.env :: X.outer) (hL:X.env.frame=some X.env.locals)
  (h : ∀F s',H F=none->Inv X pins σ (upd (upd (upd H t (TB .none t)) F (TB (HU X.env.locals) F)) e (XO C d (.ref F) e)) s'->Q Unit.unit s') :
  wpAny (model X.prog X.w) X.A (noteFrame (.ref e) X.env) Q E s:=by
 obtain⟨o,vs,h1,h2,h3,h4,h5⟩:=iH (I.hok e _ he);obtain⟨ot,vt,F,t2,t3⟩:=Cj (I.hok t _ ht);unfold noteFrame;rw[hL];refine a_ (o9 h1 h4 h5 ?_)
 refine JA rfl ?_
 refine a_ (o9 F t2 t3 ?_)
 refine mx rfl ?_
 have hz:3 < vt.size:=(v8.mp t3).1
 refine a_ (I.setF (o:=TB .none t) (by rw[ht];exact g9) F t2 hz (λg q=>zd q rfl (by simp[hz])) λs' I1=>?_)
 have L : ∀a,upd H t (TB .none t) a=none->H a=none:=λa q=>by
  by_cases z:a=t
  .subst z;rw[ae] at q;cases q
  .rw[ah z] at q;exact q
 exact sf I1 (by rw[ah (t6 Z)];exact he) hs hL λF U q J=>h F U (L _ q) J
theorem gK (I:Inv X pins σ H s) (Z:H e=some (XO C d (.ref t) e)) (F:H t=some (TB fl t)) (h : ∀s',Inv X pins σ (upd H t (TB .none t)) s'->Q Unit.unit s') {A:Around}:wpAny (model X.prog X.w) A (setFlight (.ref e) none) Q E s:=by
 obtain⟨o,vs,h1,h2,h3,h4,h5⟩:=iH (I.hok e _ Z);obtain⟨ot,vt,U,t2,t3⟩:=Cj (I.hok t _ F);have L:3 < vt.size:=(v8.mp t3).1
 refine a_ (o9 h1 h4 h5 ?_)
 refine JA rfl ?_
 exact I.setF (by rw[F];exact g9) U t2 L (λg q=>zd q rfl (by simp[L])) h
end
theorem sW {fs:List (Str × V)} {f:Str} {v:V} (r : ∀g,gG (fs.lookup g) (mA g)) (F:aT v u) (g:Str):gG ((kr f v fs).lookup g) (if g=f then some u else mA g):=by
 rw[lC]
 by_cases q:g=f
 .rw[if_pos q,if_pos q];exact F
 .rw[if_neg q,if_neg q];exact r g
theorem ld {fs:List (Str × V)} {f:Str} {v:V} (wi:Jv mA (fs.map (·.1))):Jv (λg=>if g=f then some u else mA g) ((kr f v fs).map (·.1)):=λg F=>by
 by_cases q:g=f
 .rw[q];exact(kW f v fs).1
 .refine(kW f v fs).2 g (wi g λz=>F ?_)
  show(if g=f then some u else mA g)=none
  rw[if_neg q];exact z
section
variable {e:Addr} {d:Option Addr} {f:Str} {v:V} {fs:List (Str × V)}
theorem wK {Q:Unit->Shared->Prop} (I:Inv X pins σ H s) (he:H e=some (XO C (some dx) tb e)) (hx:H dx=some (XD fs dx)) (c:XCl X.K C D) (n:gL X.K C f) (hl:fs.length < 1000) (r:aT v u)
  (h : ∀s',Inv X pins σ (upd H dx (XD (kr f v fs) dx)) s'->Q Unit.unit s'):wpAny (model X.prog X.w) A (setAttr (.ref e) f u) Q E s:=by
 obtain⟨ox,vs,h1,h2,h3,h4,h5⟩:=iH (I.hok e _ he);obtain⟨mA,hn,hr,hw⟩:=Ax (I.hok dx _ hx);obtain⟨od,ho,ag⟩:=iz hn;have J:HV s.heap e ox C (some od):=⟨h1,h2,by unfold notCls;rw[h4],by rw[h3];exact ho⟩
 refine set_plain I.kIn J c.sa (oY (s:={ s with toks:=s.toks+1 }) I.kIn J c n ?_)
 obtain⟨cd,hc,ad⟩:=any_some c.hd;refine a_ (b_ (mx rfl (a_ (a_ (wpAny_loadPart h1 ?_)))))
 obtain⟨oc,Z,ah,osl⟩:=ox;obtain rfl:oc = .ref C:=h2
 obtain rfl:Z=some dx:=h3
 refine a_ (PySem.W.Looks.here (s:={ s with toks:=s.toks+1 }) (looks_clsIn I.kIn hc) ?_)
 rw[ad];refine mx rfl (b_ (a:=some dx) (a_ (b_ (a_ ?_))))
 refine wpAny_nsSet1 (s:={ s with toks:=s.toks+1 }) hn λh' F ac=>?_
 obtain⟨oD,ai,af,L,U,aa⟩:=F.count (PySem.Within.cons f u hw);refine a_ (wpAny_lookBehind L (by rw[U];exact pastItsLine_dict (n_ aa (by rw[l_,f_,IQ];omega))) ?_)
 refine b_ (h _ ?_)
 exact I.write (x:=dx) (e:=dx) (t':=s.toks+2) (by rw[hx];exact g9) (.inl rfl) (λb o q z=>(ac.2 b q).trans z) ⟨_,L⟩ (Ak F (sW hr r) (ld hw))
theorem yL {Q:Unit->Shared->Prop} (I:Inv X pins σ H s) (U:H e=some (XO C none tb e)) (c:XCl X.K C D) (n:gL X.K C f) (r:aT v u)
  (h : ∀dx s',H dx=none->Inv X pins σ (upd (upd H dx (XD [(f,v)] dx)) e (XO C (some dx) tb e)) s'->Q Unit.unit s'):wpAny (model X.prog X.w) A (setAttr (.ref e) f u) Q E s:=by
 obtain⟨ox,vs,h1,h2,h3,h4,h5⟩:=iH (I.hok e _ U);have J:HV s.heap e ox C none:=⟨h1,h2,by unfold notCls;rw[h4],by rw[h3];exact g9⟩
 refine set_plain I.kIn J c.sa (oY (s:={ s with toks:=s.toks+1 }) I.kIn J c n ?_)
 obtain⟨cd,hc,af⟩:=any_some c.hd;refine a_ (b_ (mx rfl (a_ (a_ (wpAny_loadPart h1 ?_)))))
 obtain⟨oc,aa,ai,osl⟩:=ox;obtain rfl:oc = .ref C:=h2
 obtain rfl:aa=none:=h3
 obtain rfl:ai = .fields vs:=h4
 refine a_ (PySem.W.Looks.here (s:={ s with toks:=s.toks+1 }) (looks_clsIn I.kIn hc) ?_)
 rw[af];refine mx rfl (mx rfl (a_ (wpAny_alloc' (a_ ?_))))
 have e0:(s.heap.push { cls:=.type "dict",data:=.dict #[] }).get? e=some ⟨.ref C,none,.fields vs,osl⟩:=c_ _ h1
 have e1:(s.heap.push { cls:=.type "dict",data:=.dict #[] }).Ns s.heap.objs.size (λ_=>none):=⟨_,#[],_,ge s.heap rfl,rfl,(λe U=>absurd U (by simp)),λ_=>rfl⟩
 have e2:=Heap.Ns1.of_empty e1;have hn:H s.heap.objs.size=none:=I.hok.fresh (h_ _)
 have ne:s.heap.objs.size≠e:=λz=>by rw[z,U] at hn;cases hn
 refine wpAny_update' e0 (b_ (a_ (b_ (a_ ?_))))
 have e3:((s.heap.push { cls:=.type "dict",data:=.dict #[] }).update e λo=>{ o with dict:=some s.heap.objs.size }).Ns1 s.heap.objs.size (λ_=>none):=by
  refine e2.at λo q=>?_
  rw[Heap.get?_update_ne _ _ _ _ ne];exact q
 refine wpAny_nsSet1 (s:={ s with heap:=_,toks:=s.toks+1 }) e3 λh' F ad=>?_
 obtain⟨oD,am,aj,L,Z,ac⟩:=F.count (PySem.Within.cons (ns:=[]) f u λ_ z=>absurd rfl z)
 refine a_ (wpAny_lookBehind L (by rw[Z];exact pastItsLine_dict (n_ ac (by rw[IQ];show 1<=_;decide))) ?_)
 refine b_ (h s.heap.objs.size _ hn ?_)
 have I1:=I.laid (a:=s.heap.objs.size) (o:=XD [] s.heap.objs.size) (h':=s.heap.push { cls:=.type "dict",data:=.dict #[] }) (t':=s.toks) (λb u q=>c_ _ q) (h_ _) (Ak e2 (λ_=>g9) λ_ z=>absurd rfl z)
 have ag:upd H s.heap.objs.size (XD [] s.heap.objs.size) e=some (XO C none tb e):=by rw[ah (t6 ne)];exact U
 have e4:((s.heap.push { cls:=.type "dict",data:=.dict #[] }).update e λo=>{ o with dict:=some s.heap.objs.size }).get? e=some ⟨.ref C,some s.heap.objs.size,.fields vs,osl⟩:=HW _ e0 rfl
 have I2:=I1.write (x:=e) (e:=e) (o:=XO C (some s.heap.objs.size) tb e) (h':=(s.heap.push { cls:=.type "dict",data:=.dict #[] }).update e λo=>{ o with dict:=some s.heap.objs.size }) (t':=s.toks) (by rw[ag];exact g9) (.inl rfl)
  (λb o q z=>by rw[Heap.get?_update_ne _ _ _ _ q];exact z) ⟨_,e4⟩ (Aj e4 rfl rfl rfl h5)
 have I3:=I2.write (x:=s.heap.objs.size) (e:=s.heap.objs.size) (o:=XD [(f,v)] s.heap.objs.size) (h':=h') (t':=s.toks+2) (by rw[ah ne,ae];exact g9) (.inl rfl)
  (λb o q z=>(ad.2 b q).trans z) ⟨_,L⟩ (Ak F (sW (fs:=[]) (λ_=>g9) r) (ld (fs:=[]) λ_ z=>absurd rfl z))
 have q:upd (upd (upd H s.heap.objs.size (XD [] s.heap.objs.size)) e (XO C (some s.heap.objs.size) tb e)) s.heap.objs.size (XD [(f,v)] s.heap.objs.size)=upd (upd H s.heap.objs.size (XD [(f,v)] s.heap.objs.size)) e (XO C (some s.heap.objs.size) tb e):=by
  funext b
  unfold upd
  by_cases z:b=s.heap.objs.size
  .rw[if_pos z,if_neg (λy=>ne (z.symm.trans y)),if_pos z]
  .rw[if_neg z,if_neg z,if_neg z]
 rw[q] at I3;exact I3
end
section
variable {g:Array GenState} {d:Drawn} {t:Nat} {q:Str} {N fI:Addr} {bs bm:List Value} {sub:List Value} {rest:List Value}
theorem tV {Q:PySem.Fin->Shared->Prop} (T:OwnTail h dh bm) (X:K.In h) (Z:h.get? C=some (excClassObj nm q C N bs bm hdct sn sub ab col dd k0 k1 k2 k3 k5 "ValueError.__new__"))
  (hi:Jb K (.ref C) "__init__" = some (-fI)) (hf:typeIn K (.ref fI)=some (.type "function"))
  (hq : ∀(h':Heap) (e:Addr),Heap.MadeExcOf h h' e (.ref C) rest->wpAny (model prog w) A (call (.ref fI) (.ref e :: rest)) (λr s'=>r = .none/\Q (.done (.ret (.ref e))) s') E ⟨h',g,d,t,os⟩)
  (U:rest.length<=g_):wpAny (model prog w) A (Builtin.«type.__call__» { pos:=.ref C :: rest }) Q E ⟨h,g,d,t,os⟩:=by
 have F:=PySem.F.excBase_ValueError;unfold Builtin.«type.__call__»;refine mx rfl ?_
 refine a_ (a_ (a_ (wpAny_load' Z ?_)))
 refine b_ ?_
 refine b_ (mx rfl ?_)
 refine a_ (wpAny_madeBy_exc Z ?_)
 refine a_ (b_ ?_)
 refine a_ (m6 (Jg ?_))
 refine codeAny_call_builtin_code (Code.quiet_builtin { pos:=.ref C :: rest } F.toExcCallFacts.quiet) (wpAny_check_new_subT F T Z (codeAny_exc_new_subT F T Z ?_ U))
 have k : ∀b o,h.get? b=some o->((h.push { cls:=.type "tuple",data:=.seq rest.toArray }).push { cls:=.ref C,data:=.fields #[.ref h.objs.size,.none,.none,.none,.bool false,.none] }).get? b=some o:=λb o z=>c_ _ (c_ _ z)
 have L:((h.push { cls:=.type "tuple",data:=.seq rest.toArray }).push { cls:=.ref C,data:=.fields #[.ref h.objs.size,.none,.none,.none,.bool false,.none] }).get? (h.objs.size+1)=some { cls:=.ref C,data:=.fields #[.ref h.objs.size,.none,.none,.none,.bool false,.none] }:=Heap.get?_push_at (by rw[G2]) rfl
 have X1:=X.keeps k;have aa:(i8 C :: bm).contains (.ref C)=true:=by simp
 refine a_ (a_ (a_ (Im L (b_ (wpAny_isSubtype_exc (k _ _ Z) ?_)))))
 rw[aa];refine mx rfl (a_ ?_)
 refine m6 (a_ (a_ (a_ (Im L ?_))))
 refine b_ ?_
 refine PySem.W.Looks.at (looks_findIn X1 hi) (m6 (a_ (PySem.W.Looks.at (PySem.W.bind_fn X1 _ hf) (a_ ?_))))
 refine t7 (hq _ (h.objs.size+1) ⟨k,Heap.get?_none_of_le (F_ _),_,L,Heap.get?_none_of_le (h_ _),c_ _ (Heap.get?_push_at rfl rfl)⟩) (λr s' z=>?_) λ_ _ z=>z
 obtain⟨rfl,z⟩:=z;exact b_ (mx rfl (b_ z))
theorem Em (T:OwnTail h dh bm) (X:K.In h) (L:h.get? C=some (excClassObj nm q C N bs bm hdct sn sub ab col dd k0 k1 k2 k3 k5 "ValueError.__new__"))
  (hi:Jb K (.ref C) "__init__" = some (-fI)) (Z:typeIn K (.ref fI)=some (.type "function"))
  (hq : ∀(h':Heap) (e:Addr),Heap.MadeExcOf h h' e (.ref C) rest->wpAny (model prog w) (A.under (.builtin "type.__call__" ⟨.ref C :: rest,[]⟩)) (call (.ref fI) (.ref e :: rest)) (λr s'=>r = .none/\Q (.ref e) s') E ⟨h',g,d,t,os⟩)
  (F:rest.length<=g_):wpAny (model prog w) A (call (.ref C) rest) Q E ⟨h,g,d,t,os⟩:=by
 have U:Shared.TypeIs ⟨h,g,d,t,os⟩ (.ref C) "type" :=⟨_,L,rfl⟩
 refine Jg (codeAny_of_tree (a_ (wpAny_load' L (a_ (HJ U tc_lookup (a_ (wpAny_of_eq (tc_bind (.ref C)) (a_ (b_ (JA rfl (b_ ⟨rfl,?_⟩)))))))))))
 exact codeAny_call_builtin_at (Code.quiet_builtin { pos:=[i8 C]++rest } (by decide+kernel)) entry_typeCall (wpAny_check_type_call_sub L (tV T X L hi Z hq F))
theorem CO {oC:Obj} {x:Sem Value} {Q:Flow->Shared->Prop} (hh:A.handled=none) (c:XCl K C D)
  (hx:wpAny (model prog w) A x (λv s1=>∃e F vs,v = .ref e/\s1.heap.get? e=some F/\F.cls = .ref C/\F.data = .fields vs/\vs[1]? = some .none/\K.In s1.heap/\s1.heap.get? C=some oC/\oC.cls = .type "type" /\ E (.ref e) s1) E s) :
  wpAny (model prog w) A (raiseStmt env (some x) none) Q E s:=by
 refine a_ (t7 hx (λv s1 z=>?_) λ_ _ z=>z)
 obtain⟨e,F,vs,rfl,L,hc,hd,h1,X,hC,Z,hE⟩:=z;obtain⟨hp,g,d,tk,os⟩:=s1;obtain⟨oc,od,U,osl⟩:=F;obtain rfl:oc = .ref C:=hc
 obtain rfl:U = .fields vs:=hd
 obtain⟨cc,cd,aa,ac⟩:=oC;obtain rfl:cc = .type "type" := Z
 have ba : ∀M,JW M hp (isSubtype (.ref C) (.type "BaseException")) true:=λM=>looks_mroIn X c.ba
 refine a_ (b_ (a_ (m6 ?_)))
 refine a_ (a_ (a_ (Im L (b_ ?_))))
 refine mx rfl (b_ (mx rfl (a_ (a_ (a_ (Im L (b_ ?_)))))))
 refine PySem.W.Looks.at (ba _) (JA rfl (b_ (a_ (a_ (Im L (b_ ?_))))))
 refine mx rfl (a_ (a_ (a_ (Im L (b_ ?_)))))
 refine a_ (a_ (Im hC (b_ ?_)))
 refine JA rfl (b_ (a_ (a_ ?_)))
 refine o9 L rfl h1 ?_
 exact mx rfl (b_ (wpAny_raiseNew_none hh hE))
end
abbrev mI (E:XK) (x:Str) (n:Nat):Prop:=E (.str x 0) (some n) λ_=>none
structure XAt (H:Hp) (C a dx:Addr) (tb:Value) (x:Str) (n:Nat):Prop where
 o:H a=some (XO C (some dx) tb a)
 d:H dx=some (XD [("word",.str x),("at",.int n)] dx)
 ne:a≠dx
def CXh (P:Program) (w:World) (C:Addr):CXT:=λouter H s E e s'=>∃a dx t x n H',e = .ref a/\s'.os=s.os/\AllBare s'.gens/\Un (frs outer) [] H H' s.heap s'.heap/\HOk P w H' s'.heap/\ak H H' /\
 XAt H' C a dx (.ref t) x n/\H' t=some (TB .none t)/\t≠a/\t≠dx/\H a=none/\H t=none/\mI E x n
section
variable {t:Addr} {E:XK} {Q:Unit->Shared->Prop}
theorem XAt.upd {tb:Value} {b:Addr} {o:HO} (h:XAt H C a dx tb x n) (h1:b≠a) (h2:b≠dx):XAt (upd H b o) C a dx tb x n:=⟨by rw[ah (t6 h1)];exact h.o,by rw[ah (t6 h2)];exact h.d,h.ne⟩
theorem zQ (I:Inv X pins σ H s) (S:ak H1 H) (h:XAt H C a dx (.ref t) x n) (ht:H t=some (TB .none t)) (n1:t≠a) (n2:t≠dx) (g:H1 t=none/\H1 a=none) (hs:X.stack=X.env :: X.outer) (hL:X.env.frame=some X.env.locals)
  (k : ∀t' H' s',Inv X pins σ H' s'->ak H1 H'->XAt H' C a dx (.ref t') x n->H' t'=some (TB .none t')->t'≠a->t'≠dx->H1 t'=none->Q Unit.unit s') :
  wpAny (model X.prog X.w) X.A (noteFrame (.ref a) X.env) (λ_ s2=>wpAny (model X.prog X.w) X.A (setFlight (.ref a) none) Q EE s2) EE s:=by
 refine Bv I h.o ht n1 hs hL λL s2 F I2=>?_
 have Z:L≠a:=λz=>by subst z;rw[h.o] at F;cases F
 have U:L≠dx:=λz=>by subst z;rw[h.d] at F;cases F
 refine gK I2 ae (by rw[ah Z,ae]) λs3 I3=>k L _ s3 I3 (λb o q=>?_) ⟨?_,?_,h.ne⟩ ae Z U (S.free F)
 .have b1:b≠L:=λz=>by subst z;rw[S b o q] at F;cases F
  have b2:b≠a:=λz=>by subst z;rw[g.2] at q;cases q
  have b3:b≠t:=λz=>by subst z;rw[g.1] at q;cases q
  rw[ah b1,ah b2,ah b1,ah b3];exact S b o q
 .rw[ah (t6 Z),ae]
 .rw[ah (t6 U),ah (t6 h.ne),ah (t6 U),ah (t6 n2)];exact h.d
theorem yi (h:CXh X.prog X.w C X.stack H s E v s1) (I:Inv X pins σ H s) : ∃a dx t x n H',v = .ref a/\Inv X pins σ H' s1/\ak H H'/\XAt H' C a dx (.ref t) x n/\H' t=some (TB .none t)/\t≠a/\t≠dx/\H a=none/\H t=none/\mI E x n:=by
 obtain⟨a,dx,t,x,n,H',rfl,os,F,un,L,S,h,Z,U,n2,g1,g2,e⟩:=h;exact⟨a,dx,t,x,n,H',rfl,I.call' (ch:=[]) os un L F (λb z=>absurd z (by simp)),S,h,Z,U,n2,g1,g2,e⟩
theorem zF {q:Str}
  (I:Inv (ci (CXh P w C) P w K mg base N q sc f cd A outer s0 H0 E) pins σ H s) (S:ak H0 H) (h:XAt H C a dx (.ref t) x n) (U:H t=some (TB .none t)) (F:t≠a) (L:t≠dx) (g1:H0 a=none) (g2:H0 t=none) (e:mI E x n):CXh P w C outer H0 s0 E (.ref a) s :=
 ⟨a,dx,t,x,n,H,rfl,I.os,I.bare,I.base,I.hok,S,h,U,F,L,g1,g2,e⟩
theorem C9 {q:Str}
  (I:Inv (ci (CXh P w C) P w K mg base N q sc f cd A outer s0 H0 E) pins σ H s) (S:ak H0 H) (h:XAt H C a dx .none x n) (g:H0 a=none) (e:mI E x n):(ci (CXh P w C) P w K mg base N q sc f cd A outer s0 H0 E).xe (.ref a) s:=by
 refine a_ (zG I h.o rfl rfl λt s2 F I2=>?_)
 have L:t≠a:=λz=>by subst z;rw[h.o] at F;cases F
 have U:t≠dx:=λz=>by subst z;rw[h.d] at F;cases F
 refine gK I2 ae (by rw[ah L,ae]) λs3 Z=>zF Z (λb o q=>?_) (t:=t) ⟨?_,?_,h.ne⟩ ae L U g (S.free F) e
 .have b1:b≠t:=λz=>by subst z;rw[S b o q] at F;cases F
  have b2:b≠a:=λz=>by subst z;rw[g] at q;cases q
  rw[ah b1,ah b2,ah b1];exact S b o q
 .rw[ah (t6 L),ae]
 .rw[ah (t6 U),ah (t6 h.ne),ah (t6 U)];exact h.d
theorem EB {q:Str}
  (I:Inv (ci (CXh P w C) P w K mg base N q sc f cd A outer s0 H0 E) pins σ H s) (S:ak H0 H) (h:CXh P w C (ci (CXh P w C) P w K mg base N q sc f cd A outer s0 H0 E).stack H s E v s1):(ci (CXh P w C) P w K mg base N q sc f cd A outer s0 H0 E).xe v s1:=by
 obtain⟨a,dx,t,x,n,H',rfl,U,S1,h1,Z,L,n2,g1,g2,e⟩:=yi h I;exact a_ (zQ (H1:=H0) U (S.trans S1) h1 Z L n2 ⟨S.free g2,S.free g1⟩ rfl rfl λt' H2 s2 I2 S2 h2 F m1 m2 g3=>zF I2 S2 h2 F m1 m2 (S.free g1) g3 e)
theorem pA {q:Str} :
  PassesOwn (model (ci CX P w K mg base N q sc f cd A outer s0 H0 E).prog (ci CX P w K mg base N q sc f cd A outer s0 H0 E).w) (ci CX P w K mg base N q sc f cd A outer s0 H0 E).A (ci CX P w K mg base N q sc f cd A outer s0 H0 E).env (ci CX P w K mg base N q sc f cd A outer s0 H0 E).xe:=λe s' h =>
 wpAny_leaving_again (λF h=>⟨F,h,rfl,rfl⟩) h
end
def FnE (P:Program) (w:World) (K:e_) (mg:Str->Option Value) (base:Heap) (C:Addr) (x:Str) (k:Nat) (ps:List Str) (sp:Sp):Prop :=
 ∃f fd,dY P w K mg base (CXh P w C) k f fd ps sp/\mg x=some (.ref f)/\IT K (.ref f)=true/\dP K fd ps []
theorem FnL.okE (F:FnL K mg x st ps) (S:az N ps (am st)) (len : ∀vs H Q E,sp vs H Q E->vs.length=ps.length)
  (L : ∀(f:Addr) (cdv:Value) (A:Around) (outer:List Env) (s:Shared) (H:Hp) (vs:List V) (Q:VK) (E:XK),ce k (A.deeper (envOfC x (am st) s.heap.objs.size f cdv))->sp vs H Q E ->
   ∃t,PSs (ci (CXh P w C) P w K mg base N x (am st) f cdv A outer s H E) (br st) t/\t { nx:=λ_ H'=>Q .non H',rt:=Q } (fu N vs) H):FnE P w K mg base C x (k+1) ps sp:=by
 obtain⟨f,fd,F,m,b⟩:=F;refine⟨f,fd,?_,m,F.kp,b⟩
 obtain⟨oc,od,kV,doc,pm,an,cdv,ct,osl,rfl,lk,Z⟩:=F.ex;exact zT lk Z S len λA outer s H vs Q E hr U=>L f cdv A outer s H vs Q E hr U
section
variable {p:Pos} {t:TA} {E:XK} {Q:VK}
theorem Cd (F:FnE X.prog X.w X.K X.mg X.base C x k ps sp) (hr:ce k X.A) (hg:Gl X x) (ha:PA X.nox (e :: es) t) (I:Inv X pins σ H s) (h:t σ H λvs H1=>∃E,sp vs H1 Q E/\PP H1 E)
  (hx : ∀H1 E s1 v s2,Inv X pins σ H1 s1->PP H1 E->CXh X.prog X.w C X.stack H1 s1 E v s2->XE v s2) (aa:(x ==("__debug__" : Str))=false:=by decide)
  (he:i9 (e :: es) X.env=(false,eval e X.env) :: i9 es X.env:=by rfl) (ac:(HR pos (i9 es X.env)).any (·.1)=false:=by rfl) :
  wpAny (model X.prog X.w) X.A (eval (.Call (.Name x p) (e :: es) [] pos) X.env) (EP X pins σ Q) XE s:=by
 obtain⟨f,fd,F,hm,hk,hb⟩:=F;refine r_ (iA I hg hm ?_ aa)
 refine callWith_K (h₀:=X.base) I.ok.mod.kin hk (t7 (ha pos pins s σ H _ (I.wish _) h) (λus s1 z=>?_) λ_ _ z=>m_ z) he ac
 obtain⟨vs,H1,L,r,E,q,pp⟩:=z;have L:Inv X pins σ H1 s1:=L.unwish
 refine⟨L.kIn,?_⟩
 have hl:(us++[]).length=ps.length:=by rw[HY,<- r.length];exact F.len _ _ _ _ q
 have Z:=hb s1 us L.kIn hl;rw[HY] at Z;refine Jg (Ib (F.run X.A X.stack s1 H1 ⟨us,[]⟩ us vs Q E hr L.env0 Z r q) λr s' U=>?_)
 cases r with
 | error e=>exact hx H1 E s1 e s' L pp U
 | ok fl =>
  cases fl with
  | ret u=>exact L.after U
  | next=>exact m_ U
  | brk=>exact m_ U
  | cont=>exact m_ U
def yK (H0:Hp) (sp:Sp) (E:XK) (t:TA):TE:=λσ H Q=>t σ H λvs H1=>∃F,sp vs H1 Q F/\ak H0 H1/\F=E
end
theorem rV {q:Str} {E:XK} {p:Pos} {t:TA}
  (F:FnE P w K mg base C x k ps sp) (hr:ce k (ci (CXh P w C) P w K mg base N q sc f cd A outer s0 H0 E).A) (hg:Gl (ci (CXh P w C) P w K mg base N q sc f cd A outer s0 H0 E) x) (ha:PA (ci (CXh P w C) P w K mg base N q sc f cd A outer s0 H0 E).nox (e :: es) t) (L:(x ==("__debug__" : Str))=false:=by decide)
  (he:i9 (e :: es) (ci (CXh P w C) P w K mg base N q sc f cd A outer s0 H0 E).env=(false,eval e (ci (CXh P w C) P w K mg base N q sc f cd A outer s0 H0 E).env) :: i9 es (ci (CXh P w C) P w K mg base N q sc f cd A outer s0 H0 E).env:=by rfl) (U:(HR pos (i9 es (ci (CXh P w C) P w K mg base N q sc f cd A outer s0 H0 E).env)).any (·.1)=false:=by rfl) :
  PE (ci (CXh P w C) P w K mg base N q sc f cd A outer s0 H0 E) (.Call (.Name x p) (e :: es) [] pos) (yK H0 sp E t):=λpins s σ H Q I h =>
 Cd (PP:=λH1 Z=>ak H0 H1/\Z=E) F hr hg ha I h (λH1 Z s1 v s2 I1 S1 z=>EB I1 S1.1 (by rw[<- S1.2];exact z)) L he U
structure XMk (K:e_) (C D f:Addr):Prop where
 cl:XCl K C D
 ob : ∃nm q N bs hdct sn sub ab col dd k0 k1 k2 k3 k5,K.lookup C=some (excClassObj nm q C N bs (.ref D :: dh) hdct sn sub ab col dd k0 k1 k2 k3 k5 "ValueError.__new__")
 tl : ∃c0 dd cd sl o es ep,K.lookup D=some { cls:=c0,dict:=dd,data:=.cls cd,slots:=sl }/\K.lookup cd.ns=some o/\o.data = .dict es ep/\StrKeys es/\nsFind es "__init__" = none
 ini:Jb K (.ref C) "__init__" = some (-f)
 fn:isFn K (.ref f)=true
 kp:IT K (.ref C)=true
def Cn (K:e_) (ta tv:TE) (f:Str):TS:=λD σ H=>tv σ H λy H1=>ta σ H1 λx H2=>∃e C F tb,x = .ref e/\XCl K C F/\gL K C f /\
 ((H2 e=some (XO C none tb e)/\∀dx,H2 dx=none->D.nx σ (upd (upd H2 dx (XD [(f,y)] dx)) e (XO C (some dx) tb e)))\/(∃dx fs,H2 e=some (XO C (some dx) tb e)/\H2 dx=some (XD fs dx)/\fs.length < 1000/\D.nx σ (upd H2 dx (XD (kr f y fs) dx))))
theorem aX.there (x:aX P w H h a o) : ∃u,h.get? a=some u:=by
 cases o with
 | lst xs=>obtain⟨_,_,_,_,e⟩:=x;exact⟨_,e⟩
 | tup xs=>obtain⟨_,_,_,o,e,_⟩:=x;exact⟨_,e⟩
 | dK kvs=>obtain⟨_,_,_,_,o,_,_,e,_⟩:=x;exact⟨_,e⟩
 | dT kvs=>obtain⟨_,_,_,_,o,_,_,e,_⟩:=x;exact⟨_,e⟩
 | set S n=>obtain⟨o,_,_,_,e,_⟩:=x;exact⟨_,e⟩
 | ins C dx fs=>obtain⟨_,_,_,e,_⟩:=x;exact⟨_,e⟩
 | own y=>exact x
 | xd fs=>obtain⟨_,⟨_,_,_,e,_⟩,_⟩:=x;exact⟨_,e⟩
 | rng lo hi=>obtain⟨_,_,_,e⟩:=x;exact⟨_,e⟩
 | frz ob u=>obtain⟨e,_⟩:=x;exact⟨_,e⟩
 | tbl ps=>exact⟨_,x⟩
 | tab q=>obtain⟨_,e,_⟩:=x;exact⟨_,e⟩
 | met f y=>exact⟨_,x⟩
 | ext F=>exact x.2.1
theorem Inv.laidN (I:Inv X pins σ H s) (k : ∀b u,s.heap.get? b=some u->h'.get? b=some u) (hp:s.heap.get? a=none) (new:aX X.prog X.w (upd H a o) h' a o) :
  H a=none/\Inv X pins σ (upd H a o) { s with heap:=h',toks:=t' }:=by
 have F:H a=none:=by
  cases q:H a with
  | none=>rfl
  | some u=>obtain⟨ob,e⟩:=(I.hok a u q).there;rw[hp] at e;cases e
 have U : ∀b u,s.heap.get? b=some u->b≠a:=λb u q z=>by subst z;rw[hp] at q;cases q
 refine⟨F,I.un ⟨λb u q _ _ _=>k b u q,λb u q _ _ _=>⟨u.slots,k b u q⟩,λb u q n _=>by rw[ah (U b u q)];exact n,λb u q _=>⟨u,k b u q⟩,
  λb xs q=>by rw[ah (aj q F)];exact q,λb u xs q=>by rw[ah (aj q F)];exact q,λb ps q=>⟨#[],by rw[ah (aj q F),q];simp⟩⟩ λb u q=>?_⟩
 by_cases L:b=a
 .subst L;rw[ae] at q;cases q;exact new
 .rw[ah L] at q
  exact(I.hok b u q).stay (λc v _ r=>k c v r) (λc r=>by rw[ah (aj r F)];exact r) (λc xs r=>by rw[ah (aj r F)];exact r) λc _ _ r=>by rw[ah (aj r F)];exact r
section
variable {o:Expr} {f m:Str} {p:Pos} {ta:TE} {t:TA} {g:Addr}
theorem vV (ha:PE X o ta) (hv:PE X value tv) (hs:swapsWith value (some (.Attribute o f pos')) pos.line X.env=pure false):PS X (.Assign [.Attribute o f pos'] value pos) (Cn X.K ta tv f):=by
 intro pins s σ H D I h;refine plainObj_wpAny_Assign_Attribute (thn (hv pins s σ H _ I h) λu s1 ⟨y,H1,I1,ry,q⟩=>thn (ha pins s1 σ H1 _ I1 q) λov s2 F=>?_) hs
 obtain⟨x,H2,I2,rx,a,C,Dc,tb,ex,c,n,L⟩:=F;subst ex;obtain rfl:ov=i8 a:=rx
 rcases L with⟨Z,L⟩ | ⟨dx,fs,Z,hd,l,L⟩
 .exact yL I2 Z c n ry λdx s3 hn U=>⟨σ,_,U,L dx hn⟩
 .exact wK I2 Z hd c n l ry λs3 U=>⟨σ,_,U,L⟩
def EI (C:Addr) (ta:TE) (f:Str):TE:=λσ H Q=>ta σ H λx H1=>∃a,x = .ref a/\∃dx tb fs,H1 a=some (XO C (some dx) tb a)/\H1 dx=some (XD fs dx)/\∃v,fs.lookup f=some v/\Q v H1
theorem qj (c:XCl X.K C D) (n:gL X.K C f) (he:PE X e ta) (hb:attributeBase e f X.env (eval e X.env)=eval e X.env:=by rfl):PE X (.Attribute e f pos) (EI C ta f):=by
 intro pins s σ H Q I h;refine Bg hb (thn (he pins s σ H _ I h) λu s1 F=>?_)
 obtain⟨x,H1,L,rx,a,ex,dx,tb,fs,ea,ed,v,l,q⟩:=F;subst ex;obtain rfl:u=i8 a:=rx
 obtain⟨ox,vs,h1,h2,h3,h4,h5⟩:=iH (L.hok a _ ea);obtain⟨mA,hn,hr,hw⟩:=Ax (L.hok dx _ ed);obtain⟨od,ho,U⟩:=iz hn;have J:HV s1.heap a ox C (some od):=⟨h1,h2,by unfold notCls;rw[h4],by rw[h3];exact ho⟩
 obtain⟨u',hu,Z⟩:=gG.some_of (v:=v) (o:=mA f) (by rw[<- l];exact hr f)
 exact Hq L.kIn J c (PySem.W.findObj_own c.hd n rfl (by rw[U,hu])) (xw Z) ⟨v,H1,L.tok _,Z,q⟩
def uQ (C:Addr) (sp:Sp) (t:TA) (PX:Addr->Hp->Prop):TS:=λ_ σ H=>t σ H λvs H1=>∀a,H1 a=none->sp (.ref a :: vs) (upd H1 a (XO C none .none a)) (λv H2=>v = .non/\(∃d,H2 a=some (XO C d .none a))/\PX a H2) E0
theorem yJ (M:XMk X.K C D g) (F:dY X.prog X.w X.K X.mg X.base CX0 k g fd ps sp) (hr:ce (k+1) X.A) (hb:dP X.K fd ps []) (hg:Gl X x) (hm:X.mg x=-C) (ha:PA X.nox (e :: es) t)
  (ap:ps.length<=1000) (aj : ∀pins σ H s a,Inv X pins σ H s->PX a H->X.xe (.ref a) s) (ai:(x ==("__debug__" : Str))=false:=by decide)
  (he:i9 (e :: es) X.env=(false,eval e X.env) :: i9 es X.env:=by rfl) (an:(HR cpos (i9 es X.env)).any (·.1)=false:=by rfl) :
  PS X (.Raise (some (.Call (.Name x p) (e :: es) [] cpos)) none pos) (uQ C sp t PX):=by
 intro pins s σ H D0 I h;obtain⟨nm,q,N,bs,hdct,sn,sub,ab,col,dd,k0,k1,k2,k3,k5,hC⟩:=M.ob;obtain⟨c0,aq,cd,sl,oo,am,ep,hD,hN,Z,af,ao⟩:=M.tl
 show wpAny _ _ (do standAt pos;raiseStmt X.env (some (do let v <- eval (.Call (.Name x p) (e :: es) [] cpos) X.env;standAt pos;pure v)) none) _ _ _
 refine a_ (wpAny_standAt (CO hr.hd M.cl (oC:=excClassObj nm q C N bs (.ref D :: dh) hdct sn sub ab col dd k0 k1 k2 k3 k5 "ValueError.__new__") (K:=X.K) ?_))
 refine a_ (r_ (iA I hg hm ?_ ai))
 refine callWith_K (h₀:=X.base) I.ok.mod.kin M.kp (t7 (ha cpos pins s σ H _ (I.wish _) h) (λus s1 z=>?_) λ_ _ z=>m_ z) he an
 obtain⟨vs,H1,U,r,q1⟩:=z;have U:Inv X pins σ H1 s1:=U.unwish
 refine⟨U.kIn,?_⟩
 obtain⟨hp,gg,dr,tk,os⟩:=s1;have T:OwnTail hp dh (.ref D :: dh):=.own (U.kIn _ _ hD) ⟨_,am,ep,U.kIn _ _ hN,Z,af,λ_=>rfl⟩ ao .base
 have hl:vs.length<=1000:=by
  have:=F.len _ _ _ _ (q1 hp.objs.size (U.hok.fresh (h_ _)))
  rw[l_] at this;omega
 refine Em T U.kIn (U.kIn _ _ hC) M.ini (beq_iff_eq.mp M.fn) (λh' a mk=>?_) (by rw[List.nil_append,<- r.length];exact pj (aw hl))
 obtain⟨kk,aa,tt,h1,_⟩:=mk;obtain⟨hn,I2⟩:=U.laidN (o:=XO C none .none a) (t':=tk) kk aa (Aj h1 rfl rfl rfl rfl);have hq:=q1 a hn;have r2:aO (V.ref a :: vs) (i8 a :: us):=.cons rfl r
 have ad:((i8 a :: us)++[]).length=ps.length:=by rw[HY,<- r2.length];exact F.len _ _ _ _ hq
 have ac:=hb _ (i8 a :: us) I2.kIn ad;rw[HY] at ac;refine Jg (Ib (F.run _ X.stack _ _ ⟨i8 a :: us,[]⟩ (i8 a :: us) _ _ E0 (hr.make C us []) (I2.env0.make C us []) ac r2 hq) λr s' L=>?_)
 cases r with
 | error e=>exact m_ L
 | ok fl =>
  cases fl with
  | ret u =>
   obtain⟨v,H',I3,rv,ev,⟨d,ah⟩,q3⟩:=I2.after L;subst ev;obtain⟨ox,ag,o1,o2,o3,o4,o5⟩:=iH (I3.hok a _ ah);exact⟨rv,a_ (wpAny_standAt (b_ ⟨a,ox,ag,rfl,o1,o2,o4,o5,I3.kIn,I3.kIn _ _ hC,rfl,aj _ _ _ _ _ I3 q3⟩))⟩
  | next=>exact m_ L
  | brk=>exact m_ L
  | cont=>exact m_ L
end
abbrev Cx.hot (X:Cx) (v:Value):Cx:={ X with A:=X.A.mark (some v),calm:=false,xe:=λ_ _=>False }
theorem Inv.hot (I:Inv X pins σ H s) (v:Value):Inv (X.hot v) pins σ H s :=
  ⟨⟨I.ok.mod,I.ok.kind,I.ok.glob,I.ok.blt,I.ok.above,I.ok.inj,I.ok.has,I.ok.cab,(λz=>nomatch z),I.ok.frames,I.ok.stk,I.ok.exf,I.ok.bs,I.ok.bsz,I.ok.noex,I.ok.exfs,I.ok.funs,I.ok.frf⟩,
    I.os,I.bare,I.base,I.loc,I.cell,I.free,I.freeC,I.pin,I.hok,I.len⟩
theorem Inv.cool {ok:X.Ok} (I:Inv (X.hot v) pins σ H s):Inv X pins σ H s:=⟨ok,I.os,I.bare,I.base,I.loc,I.cell,I.free,I.freeC,I.pin,I.hok,I.len⟩
theorem wR {w0:V} {Q:Unit->Shared->Prop} (I:Inv X pins σ H s) (hN:X.N.Nodup) (hi:X.N[i]? = some x) (hk:X.env.scope.names.lookup x=some .local) (hv:σ[i]? = some (some w0))
  (h : ∀s',Inv X pins (σ.set i none) H s'->Q Unit.unit s'):wpAny M A (unbindName X.env x) Q E s:=by
 obtain⟨m,hn,hl⟩:=id I.loc;have Z:(X.env.scope.kind == .class || (X.env.scope.kind == .module && X.env.locals != X.env.globals))=false:=by rw[I.ok.kind];rfl
 have U:i < σ.length:=by rw[I.len];exact(i7.mp hi).1
 have cne:=I.cne;obtain⟨u0,_,hu⟩:=hl i x w0 hi hv (.inl hk);have hm:m x=some u0:=by
  rcases hu with⟨_,e⟩ | ⟨k,_⟩
  .exact e
  .rcases k with k | k <;> · rw[show X.env.kindOf x=some .local from hk] at k;cases k
 refine wpAny_unbindName_local hk hn hm Z λh' u aa hs=>?_
 have F:HOk X.prog X.w H h':=λb ob e=>by
  refine(I.hok b ob e).stay (λc w' hc q=>(hs.2 c ?_).trans q) (λ_ q=>q) λ_ _ q=>q
  rintro rfl
  rcases hc with rfl | hc
  .rw[I.free] at e;cases e
  .rw[I.free] at hc;cases hc
 refine h _ ⟨I.ok,I.os,I.bare,⟨λb o e n hb L=>?_,λb o e n hb L=>?_,I.base.free,λb o e L=>?_,I.base.tups,I.base.frzs,I.base.tbls⟩,⟨_,aa,λj y v' e1 e2 e3=>?_⟩,λy c e=>?_,I.free,I.freeC,λp hp=>?_,F,by simpa using I.len⟩
 .exact(hs.2 b (kf (j8 (fy e) I.ok.above))).trans (I.base.keep b o e n hb L)
 .obtain⟨sl,e1⟩:=I.base.slot b o e n hb L
  exact⟨sl,(hs.2 b (kf (j8 (fy e) I.ok.above))).trans e1⟩
 .obtain⟨o',e1⟩:=I.base.there b o e L
  exact⟨o',(hs.2 b (kf (j8 (fy e) I.ok.above))).trans e1⟩
 .by_cases hj:j=i
  .subst hj
   rw[Iu U] at e2;cases e2
  .rw[Ia (t6 hj)] at e2
   obtain⟨u',r',q⟩:=hl j y v' e1 e2 e3;refine⟨u',r',?_⟩
   rcases q with⟨k,e⟩ | ⟨k,c,e,z⟩
   .refine .inl ⟨k,?_⟩
    have:y≠x:=λe=>hj (mR hN e1 (e ▸ hi))
    simp[this,e]
   .exact .inr ⟨k,c,e,z.sameBut hs (cne y c e)⟩
 .obtain⟨w',z⟩:=I.cell y c e
  exact⟨w',z.sameBut hs (cne y c e)⟩
 .obtain⟨e,n,ne,nf,d⟩:=I.pin p hp
  exact⟨(hs.2 p.1 ne).trans e,n,ne,nf,d⟩
def Ci (C:Addr) (sp:Sp) (t:TA) (l j:Nat) (tb:TS):TS:=λD σ H=>t σ H λvs H1=>∃E,sp vs H1 (λv H2=>D.nx (σ.set l (some v)) H2) E /\
 ∀x n a dx L H',mI E x n->ak H1 H'->XAt H' C a dx L x n->tb { nx:=λF H2=>(∃u,F[j]? = some (some u))/\D.nx ((F.set j (some .non)).set j none) H2,rt:=λ_ _=>False } (σ.set j (-a)) H'
section
variable {l:Nat} {f y:Str} {p tp hpos xpos tpos:Pos} {b0:Stmt} {t:TA} {tb:TS}
theorem Bo (F:FnE X.prog X.w X.K X.mg X.base C f k ps sp) (c:XCl X.K C D) (hr:ce k X.A) (hg:Gl X f) (ha:PA X.nox (e :: es) t) (hs:X.stack=X.env :: X.outer) (hL:X.env.frame=some X.env.locals)
  (hN:X.N.Nodup) (hl:X.N[l]? = some x) (aa:X.env.scope.names.lookup x=some .local) (hj:X.N[j]? = some y) (L:X.env.scope.names.lookup y=some .local)
  (ad:Gl X z) (hz:X.mg z=-D) (hm:exmOne X.K (.ref C) (.ref D)=some true) (hb : ∀v,PSs (X.hot v) (b0 :: body) tb)
  (ai:swapsWith (.Call (.Name f p) (e :: es) [] pos) (some (.Name x xpos)) apos.line X.env=pure false:=by rfl) (an:(z ==("__debug__" : Str))=false:=by decide) (aj:(f ==("__debug__" : Str))=false:=by decide)
  (he:i9 (e :: es) X.env=(false,eval e X.env) :: i9 es X.env:=by rfl) (am:(HR pos (i9 es X.env)).any (·.1)=false:=by rfl) :
  PS X (.Try [.Assign [.Name x xpos] (.Call (.Name f p) (e :: es) [] pos) apos] [.ExceptHandler (some (.Name z tp)) (some y) (b0 :: body) hpos] [] [] tpos) (Ci C sp t l j tb):=by
 intro pins s σ H D0 I h;refine wpAny_Try_except (JD (wpAny_Assign_Name (Cd (PP:=λH1 E=>∀x n a dx tr H',mI E x n->ak H1 H'->XAt H' C a dx tr x n->tb { nx:=λac H2=>(∃u,ac[j]? = some (some u))/\D0.nx ((ac.set j (some .non)).set j none) H2,rt:=λ_ _=>False } (σ.set j (-a)) H') F hr hg ha I h (λH1 E s1 v s2 I1 pp hx=>?_) aj he am |> λq=>t7 q (λu s1 z=>?_) λ_ _ z=>z) ai))
 .obtain⟨w0,H1,I1,r1,q1⟩:=z
  exact il I1 hN hl (.inl aa) r1 (λs' I'=>Je (Je ⟨_,_,I',q1⟩)) (.inr aa)
 .obtain⟨a,dx,tr,x0,n,H',rfl,I2,S,h1,ht,n1,n2,g1,g2,hsay⟩:=yi hx I1
  refine zQ (H1:=H1) I2 S h1 ht n1 n2 ⟨g2,g1⟩ hs hL λt' H3 s3 U S3 h3 ag m1 m2 g3=>?_
  refine wpAny_handleBy_cons (codeAny_handlers_test ?_) (λq=>nomatch q)
  refine Calls.Name_function_global U.ok.kind ad (Calls.loadGlobal_global (by rw[U.ok.glob];exact U.mod.glob.keeps U.bk) hz ?_) an
  obtain⟨ox,vs,o1,o2,o3,o4,o5⟩:=iH (U.hok a _ h3.o);refine PySem.W.Looks.here (PySem.W.exm_one U.kIn (λA' Q' E' s' k q=>a_ (wpAny_loadPart (k _ _ o1) (by rw[o2];exact b_ q))) hm) ?_
  show ID _ _ _ _ _
  refine codeAny_handlers_suite_as (gK U h3.o ag λs4 I4=>?_)
  have h4:XAt (upd H3 t' (TB .none t')) C a dx (.ref t') x0 n:=h3.upd m1 m2
  have S4:ak H1 (upd H3 t' (TB .none t')):=λb o q=>by
   by_cases z:b=t'
   .subst z;rw[g3] at q;cases q
   .rw[ah z];exact S3 b o q
  have q3:=pp x0 n a dx _ _ hsay S4 h4;refine il I4 hN hj (.inl L) (v:=.ref a) rfl (λs5 I5=>?_) (.inr L)
  refine t7 (hb (.ref a) pins s5 _ _ _ (I5.hot (.ref a)) q3) (λfl s6 z=>?_) λ_ _ z=>m_ z
  cases fl with
  | next =>
   obtain⟨Z,H6,I6,⟨u6,ao⟩,q6⟩:=z;have I6:Inv X pins Z H6 s6:=I6.cool (ok:=U.ok)
   refine a_ (wpAny_bindName (il I6 hN hj (.inl L) (v:=.non) rfl (λs7 I7=>?_) (.inr L)))
   have af:j < Z.length:=by rw[I6.len];exact(i7.mp hj).1
   exact wpAny_onRaise (wR I7 hN hj L (w0:=.non) (by rw[Iu af]) λs8 I8=>⟨_,_,I8,q6⟩)
  | brk=>obtain⟨_,_,_,z⟩:=z;exact m_ z
  | cont=>obtain⟨_,_,_,z⟩:=z;exact m_ z
  | ret u=>obtain⟨_,_,_,_,_,z⟩:=z;exact m_ z
end
abbrev PXh (H0:Hp) (C:Addr) (E:XK):Addr->Hp->Prop:=λa H=>∃dx x n,ak H0 H/\XAt H C a dx .none x n/\H0 a=none/\mI E x n
section
variable {q:Str} {E:XK} {p:Pos} {t:TA}
theorem oV (F:FnR P w K mg base (XMk K C D) k ps sp) (hr:ce (k+1) (ci (CXh P w C) P w K mg base N q sc f cd A outer s0 H0 E).A) (hg:Gl (ci (CXh P w C) P w K mg base N q sc f cd A outer s0 H0 E) x) (hm:mg x=-C)
  (ha:PA (ci (CXh P w C) P w K mg base N q sc f cd A outer s0 H0 E).nox (e :: es) t) (Z:ps.length<=1000) (U:(x ==("__debug__" : Str))=false:=by decide)
  (he:i9 (e :: es) (ci (CXh P w C) P w K mg base N q sc f cd A outer s0 H0 E).env=(false,eval e (ci (CXh P w C) P w K mg base N q sc f cd A outer s0 H0 E).env) :: i9 es (ci (CXh P w C) P w K mg base N q sc f cd A outer s0 H0 E).env:=by rfl)
  (aa:(HR cpos (i9 es (ci (CXh P w C) P w K mg base N q sc f cd A outer s0 H0 E).env)).any (·.1)=false:=by rfl) :
  PS (ci (CXh P w C) P w K mg base N q sc f cd A outer s0 H0 E) (.Raise (some (.Call (.Name x p) (e :: es) [] cpos)) none pos) (uQ C sp t (PXh H0 C E)):=by
 obtain⟨g,fd,F,M,b⟩:=F;exact yJ M F hr b hg hm ha Z (λpins σ H s a I L=>by obtain⟨dx,y,n,S,h,g,z⟩:=L;exact(C9 I S h g z)) U he aa
end
structure XIs (K:e_) (C D:Addr):Prop where
 cl:XCl K C D
 at_:Jb K (.ref C) "__class__" = some (some (.builtin "object.__class__"))
 gt:specialIn K (.builtin "object.__class__") "__get__" = some (some (.builtin "getset_descriptor.__get__"))
 tk:takesIn K (.builtin "object.__class__")=some true
def Ha (K:e_) (C:Addr):List V->Hp->VK->Prop:=λxs H Q=>∃a y,xs=[.ref a,y]/\∃dx tb fs c b,(y = .ref c/\HM K (.ref C) (.ref c)=some b)/\H a=some (XO C (some dx) tb a)/\H dx=some (XD fs dx)/\Q (.bl b) H
def Gu (K:e_) (C:Addr):List V->Hp->VK->Prop:=λxs H Q=>∃a y,xs=[.ref a,y]/\∃dx tb fs n b,(y = .ty n/\HM K (.ref C) (.type n)=some b)/\H a=some (XO C (some dx) tb a)/\H dx=some (XD fs dx)/\Q (.bl b) H
theorem yC {Q:VK} {fs:List (Str × V)} {c:Value} {b:Bool} (h:XIs X.K C D) (I:Inv X pins σ H s) (L:H a=some (XO C (some dx) tb a)) (Z:H dx=some (XD fs dx)) (F:HM X.K (.ref C) c=some b) (q:Q (.bl b) H) :
  wpAny (model X.prog X.w) X.A (call (.builtin "isinstance") [.ref a,c]) (EP X pins σ Q) X.xe s:=by
 obtain⟨ox,vs,h1,h2,h3,h4,h5⟩:=iH (I.hok a _ L);obtain⟨mA,hn,hr,hw⟩:=Ax (I.hok dx _ Z);obtain⟨od,ho,U⟩:=iz hn;have J:HV s.heap a ox C (some od):=⟨h1,h2,by unfold notCls;rw[h4],by rw[h3];exact ho⟩
 exact I_ (zX h.cl h.at_ h.gt h.tk) I.kIn J F (λz=>nomatch z) λtk=>⟨.bl b,H,I.tok _,rfl,q⟩
theorem jH (h:XIs X.K C D):bP X (.builtin "isinstance") (Ha X.K C):=by
 intro pins s σ H xs us Q I r z;obtain⟨a,y,rfl,dx,tb,fs,c,b,⟨rfl,L⟩,U,ed,q⟩:=z;obtain⟨u,w',rfl,Z,F⟩:=jz r;cases Z;cases F;exact yC h I U ed L q
theorem xJ (h:XIs X.K C D):bP X (.builtin "isinstance") (Gu X.K C):=by
 intro pins s σ H xs us Q I r z;obtain⟨a,y,rfl,dx,tb,fs,c,b,⟨rfl,L⟩,U,ed,q⟩:=z;obtain⟨u,w',rfl,Z,F⟩:=jz r;cases Z;cases F;exact yC h I U ed L q
theorem wZ (h:JT (λi v=>∃t,v=JC (lo+i * 1) t) acc n):aO (iM lo n) acc.toList:=by
 have key : ∀(k:Nat) (us:List Value),(∀(j:Nat) v,us[j]? = some v->∃t,v=JC (lo+((k:Int)+j)) t)->aO ((range' k us.length).map λi:Nat=>V.int (lo+(i:Int))) us:=by
  intro k us
  induction us generalizing k with
  | nil=>intro _;exact .nil
  | cons u us F =>
   intro hu;rw[l_,List.range'_succ,k9];refine .cons ?_ (F (k+1) λj v e=>?_)
   .obtain⟨t,rfl⟩:=hu 0 u rfl
    exact⟨t,by simp⟩
   .obtain⟨t,rfl⟩:=hu (j+1) v (by simpa using e)
    exact⟨t,by congr 1;push_cast;omega⟩
 have:=key 0 acc.toList λj v e=>by
  obtain⟨t,rfl⟩:=h.2 j v (by simpa using e)
  exact⟨t,by simp⟩
 rw[pz,h.1,<- List.range_eq_range'] at this;exact this
def rP (ta:TA):TE:=λσ H Q=>ta σ H λvs H1=>∃i j:Int,vs=[.int i,.int j]/\0<=i/\i<=j/\j<=1000/\∀l,H1 l=none->Q (.ref l) (upd H1 l (.tup (iM i (j - i).toNat)))
section
variable {p:Pos}
theorem qQ (hc:X.calm=true) (hg:Gl X "tuple") (hm:X.mg "tuple" = none) (Z:Gl X "range") (aa:X.mg "range" = none) (ha:PA X [e1,e2] ta) (hs:i9 [e1,e2] X.env=[(false,eval e1 X.env),(false,eval e2 X.env)]:=by rfl) (F:i9 [e2] X.env=[(false,eval e2 X.env)]:=by rfl) :
  PE X (.Call (.Name "tuple" p) [.Call (.Name "range" p2) [e1,e2] [] pos2] [] pos) (rP ta):=by
 intro pins s σ H Q I h;refine r_ (dF I hg hm (by decide+kernel:G_ "tuple" = some (.type "tuple")) ?_)
 refine o6 (Jf ?_) rfl rfl
 refine r_ (dF I Z aa boot_range ?_)
 refine o6 (thn (ha pos2 pins s σ H _ I h) λus s1 ⟨vs,H1,I1,r1,q1⟩=>?_) (by rw[hs,F]) (by rw[F];rfl)
 obtain⟨i,j,e,q0,q1,q2,q⟩:=q1;subst e;obtain⟨u,u',rfl,ru,U⟩:=jz r1;obtain⟨t,rfl⟩:=ru;obtain⟨t',rfl⟩:=U;refine call_range_2 ?_
 refine Jp ?_
 have hsz:HI i j 1=(((j - i).toNat:Nat):Int):=by rw[rangeSize_one];split <;> omega
 refine fN (I.ok.hd hc) (IsRange.new ..) (small_one () () () ()) hsz () λh' tk acc hk L=>?_
 have I2:Inv X pins σ H1 { s1 with heap:=h',toks:=tk }:=I1.kept λb o e=>hk b o (c_ _ e)
 have I3:Inv X pins σ (upd H1 h'.objs.size (.tup (iM i (j - i).toNat))) { s1 with heap:=h'.push { cls:=.type "tuple",data:=.seq acc },toks:=tk } :=
  I2.laid (t':=tk) (λb o e=>c_ _ e) (h_ _) (show aX X.prog X.w _ _ _ (.tup (iM i (j - i).toNat)) from⟨by rw[aG];exact pj (aw ()),acc.toList,wZ L,IsTup.new _ _⟩)
 exact⟨.ref h'.objs.size,_,I3,rfl,q _ (I2.hok.fresh (h_ _))⟩
end
end L2
namespace Lw
open PySem L2
local macro_rules | `(tactic| ctx_has c) => `(tactic| exact ⟨rfl, rfl, rfl, by decide +kernel, rfl, by decide +kernel, by decide +kernel⟩)
local macro_rules | `(tactic| ctx_has z $S:ident) => do
  let i:=Lean.mkIdent
  let nd:=i `nd
  let hu:=i `hu
  let L:=i `L
  let vs:=i `vs
  let H:=i `H
  let Q:=i `Q
  let E:=i `E
  let h:=i `h
  let f:=i `f
  let cdv:=i `cdv
  let A:=i `A
  let outer:=i `outer
  let s:=i `s
  let hr:=i `hr
  `(tactic| (have $nd:ident:=az.nd $S;refine($L).ok $S (λ$vs $H $Q $E $h=>?_) (λ$f $cdv $A $outer $s $H $vs $Q $E $hr $h=>?_);rotate_left;have $hu:ident:=pc $hr;rotate_left))
local macro_rules
 | `(tactic| ctx_has v $ids*) => do
  let ns := "true_and aU va cxK cpK zC Bh Dq D9 Dr CP Option.join_some lU CD An CJ IsB tCT DQ Bn oB xY Bf DO sU lE cH BF tC tOp tUn mP tB Da tOr Dh yt DS yG qM tCB oZ bF dC tE nK tDG sDP EN E7 rI0 rI rU rEq rNe By Be AO Bk AH BU rD pH rIL rIT rIS rSL rSQ rST AK iL iT tML tMS uX me rCT zq tF vn iZ mZ iE Dw tDI DB tq mJ Ag G6 Hh Hm GV Hs Bi BZ qb jm As my rCL xn Dl Dx tU yx rCS ye De mn zZ mH HO.dK.injEq HO.lst.injEq HO.tup.injEq HO.ins.injEq yI tSl fj gI L2.fu List.map_cons List.map_nil List.length_cons List.length_nil List.replicate List.cons_append List.nil_append List.append_nil List.getElem?_cons_zero List.getElem?_cons_succ List.set_cons_zero List.set_cons_succ Option.some.injEq V.int.injEq V.ref.injEq V.str.injEq V.bl.injEq V.ty.injEq List.cons.injEq and_assoc and_true and_self exists_eq_left exists_eq_left' exists_eq_right exists_eq_right' exists_and_left exists_eq exists_eq' reduceCtorEq false_and and_false false_or or_false exists_false decide_eq_true_eq String.reduceEq String.reduceBEq Bool.or_true Bool.true_or Bool.or_false Bool.false_or or_true true_or if_true if_false Bool.not_eq_true' Nat.reduceAdd Nat.reduceSub Nat.zero_add List.map List.append_eq List.set Nat.add_zero".splitOn " "
  let xs : Array Lean.Ident := (ns.map fun x => Lean.mkIdent x.toName).toArray ++ ids
  let s ← `(tactic| simp only [$[$xs:ident],*])
  let d : Lean.TSyntax `tactic := ⟨((s.raw.setKind `Lean.Parser.Tactic.dsimp).setArg 0 (Lean.mkAtom "dsimp")).modifyArg 4 fun o => o.modifyArg 0 fun a => a.modifyArg 1 fun l => Lean.mkNullNode (l.getArgs.extract 0 (2 * ns.length - 1))⟩
  `(tactic| ((try $d:tactic); (try $s:tactic)))
 | `(tactic| kpf_say ($H:ident, $q:ident, $hq:ident, $hh:ident, $ss:ident) al $G:ident $o) => `(tactic| (refine ⟨by decide, λ$q $hq => ?_⟩; have $hh : upd $H $q $o $q = some $o := ae; have $ss : ak $H (upd $H $q $o) := ak.upd0 $hq; generalize upd $H $q $o = $G at $hh:ident $ss:ident ⊢))
local macro_rules | `(tactic| ctx_has o) => `(tactic| first | exact Or.inl rfl | exact Or.inr rfl)
local macro_rules | `(tactic| ctx_has m) => `(tactic| first | decide | omega)
variable {P:Program} {w:World} {K:e_} {mg:Str->Option Value} {base:Heap}
abbrev cP:Stmt:=AR (top 2) 0
abbrev ie:Stmt:=top 19
abbrev jd:Stmt:=top 20
abbrev iU:Stmt:=top 21
abbrev je:Stmt:=top 22
abbrev ip:Stmt:=top 23
abbrev bW:Stmt:=top 24
abbrev gz:Stmt:=top 25
abbrev ig:Stmt:=top 26
abbrev gc:Stmt:=top 27
abbrev ij:Stmt:=top 28
abbrev dG:Stmt:=top 29
abbrev jV:Stmt:=top 30
abbrev jY:Stmt:=top 31
abbrev eO:Stmt:=top 32
abbrev fq:Stmt:=top 33
abbrev nw:Stmt:=top 34
abbrev eD:Stmt:=top 35
abbrev iQ:Stmt:=top 36
abbrev jX:Stmt:=top 37
abbrev fw:Stmt:=top 38
abbrev iV:Stmt:=top 39
abbrev mz:Stmt:=top 40
abbrev io:Stmt:=top 41
abbrev kQ:Stmt:=top 43
abbrev cK:Stmt:=top 44
abbrev jS:Stmt:=top 45
abbrev kS:Stmt:=top 46
abbrev cC:Stmt:=top 47
abbrev iP:Stmt:=top 48
abbrev fh:Stmt:=top 51
abbrev kz:Stmt:=top 52
abbrev kO:Stmt:=top 53
abbrev fD:Stmt:=top 54
abbrev cW:Stmt:=top 55
abbrev fZ:Stmt:=top 56
abbrev fJ:Stmt:=top 57
abbrev fi:Stmt:=top 59
abbrev hU:Stmt:=top 60
abbrev dS:Stmt:=top 61
abbrev fF:Stmt:=top 62
abbrev eF:Stmt:=top 63
abbrev gQ:Stmt:=top 64
abbrev eI:Stmt:=top 65
abbrev cI:Stmt:=top 66
abbrev eK:Stmt:=top 67
abbrev cg:Stmt:=top 68
abbrev dU:Stmt:=top 69
abbrev di:Stmt:=top 70
abbrev dH:Stmt:=top 71
abbrev dL:Stmt:=top 72
abbrev gY:Stmt:=top 73
abbrev dA:Stmt:=top 74
abbrev pv:Stmt:=top 75
theorem jc:az ["self","word","at"] ["self","word","at"] (am cP):=by ctx_has c
theorem qc:az ["thing"] ["thing"] (am ie):=by ctx_has c
theorem rB:az ["thing","least","greatest"] ["thing","least","greatest"] (am jd):=by ctx_has c
theorem rG:az ["thing"] ["thing"] (am iU):=by ctx_has c
theorem tj:az ["thing"] ["thing"] (am je):=by ctx_has c
theorem tP:az ["thing"] ["thing"] (am ip):=by ctx_has c
theorem mE:az ["thing","is_one","least","most"] ["thing","is_one","least","most"] (am bW):=by ctx_has c
theorem oq:az ["things"] ["things"] (am gz):=by ctx_has c
theorem pT:az ["thing"] ["thing"] (am ig):=by ctx_has c
theorem nU:az ["thing"] ["thing"] (am gc):=by ctx_has c
theorem qE:az ["wish"] ["wish"] (am ij):=by ctx_has c
theorem kB:az ["thing"] ["thing"] (am dG):=by ctx_has c
theorem tL:az ["wish"] ["wish"] (am jV):=by ctx_has c
theorem vC:az ["thing"] ["thing"] (am jY):=by ctx_has c
theorem lI:az ["thing"] ["thing"] (am eO):=by ctx_has c
theorem pP:az ["thing"] ["thing"] (am fq):=by ctx_has c
theorem wL:az ["wish"] ["wish"] (am nw):=by ctx_has c
theorem lz:az ["thing","length","is_row"] ["thing","length"] (am eD):=by ctx_has c
theorem rp:az ["wish"] ["wish"] (am iQ):=by ctx_has c
theorem vi:az ["thing"] ["thing"] (am jX):=by ctx_has c
theorem qw:az ["thing"] ["thing"] (am fw):=by ctx_has c
theorem rq:az ["thing"] ["thing"] (am iV):=by ctx_has c
theorem xL:az ["wish"] ["wish"] (am mz):=by ctx_has c
theorem qv:az ["wish"] ["wish"] (am io):=by ctx_has c
theorem uY:az ["thing"] ["thing"] (am kQ):=by ctx_has c
theorem kI:az ["thing","sort"] ["thing"] (am cK):=by ctx_has c
theorem uT:az ["wish"] ["wish"] (am jS):=by ctx_has c
theorem uD:az ["thing"] ["thing"] (am kS):=by ctx_has c
theorem jA:az ["wish"] ["wish"] (am cC):=by ctx_has c
theorem qW:az ["wish","own","inner"] ["wish"] (am iP):=by ctx_has c
theorem pR:az ["numbers"] ["numbers"] (am fh):=by ctx_has c
theorem vd:az ["thing"] ["thing"] (am kz):=by ctx_has c
theorem vx:az ["thing"] ["thing"] (am kO):=by ctx_has c
theorem gS:az ["cells","names","number","cell"] ["cells"] (am fD):=by ctx_has c
theorem gA:az ["wishes","rooms","number","wish"] ["wishes","rooms"] (am cW):=by ctx_has c
theorem iI:az ["hall"] ["hall"] (am fZ):=by ctx_has c
theorem nb:az ["hall","rooms","cell"] ["hall"] (am fJ):=by ctx_has c
theorem qF:az ["_law_script","_law_start","_law_cells_here","_law_number_here","_law_cell"] ["_law_script","_law_start"] (am fi):=by ctx_has c
theorem qD:az ["_law_deal_here","_law_many_here","_law_number_here","_law_one","_law_other"] ["_law_deal_here","_law_many_here"] (am hU):=by ctx_has c
theorem oa:az ["_law_deal_here","_law_many_here","_law_letters","_law_names_here","_law_k","_law_word","_law_place"] ["_law_deal_here","_law_many_here"] (am dS):=by ctx_has c
theorem nN:az ["_law_deal_here","_law_most","_law_way"] ["_law_deal_here","_law_most"] (am fF):=by ctx_has c
theorem lM:az ["_law_deal_here","_law_many_here","_law_low","_law_found","_law_k"] ["_law_deal_here","_law_many_here"] (am eF):=by ctx_has c
theorem pM:az ["_law_deal_here","_law_most"] ["_law_deal_here","_law_most"] (am gQ):=by ctx_has c
theorem lS:az ["_law_deal_here","_law_some","_law_terms","_law_name","_law_a","_law_bounds"] ["_law_deal_here","_law_some"] (am eI):=by ctx_has c
theorem kJ:az ["_law_deal_here","_law_wide","_law_many_here","_law_first","_law_place","_law_rows","_law_value","_law_row"] ["_law_deal_here","_law_wide","_law_many_here"] (am cI):=by ctx_has c
theorem lF:az ["_law_deal_here","_law_some","_law_states","_law_values","_law_steps","_law_k","_law_ends"] ["_law_deal_here","_law_some"] (am eK):=by ctx_has c
theorem fL:az ["_law_deal_here","_law_names_here","_law_sort","_law_some","_law_low","_law_inner"] ["_law_deal_here","_law_names_here","_law_sort"] (am cg):=by ctx_has c
theorem on:az ["_law_deal_here","_law_names_here","_law_many_here","_law_cells_here","_law_k","_law_name","_law_room"] ["_law_deal_here","_law_names_here"] (am dU):=by ctx_has c
theorem mT:az ["_law_deal_here","_law_cells_here","_law_names_here","_law_many_here","_law_wishes_here","_law_k","_law_turn","_law_sort"] ["_law_deal_here","_law_cells_here"] (am di):=by ctx_has c
theorem ka:az ["_law_deal_here","_law_cell","_law_name","_law_room","_law_bad"] ["_law_deal_here","_law_cell"] (am dH):=by ctx_has c
theorem jO:az ["_law_deal_here","_law_wishes_here","_law_stray","_law_some","_law_wish"] ["_law_deal_here","_law_wishes_here","_law_stray"] (am dL):=by ctx_has c
theorem qr:az ["_law_hall","_law_caught","_law_told_here","e","_law_others"] ["_law_hall"] (am gY):=by ctx_has c
theorem qi:az ["_law_deal_here","_law_cells_here","_law_k","_law_name","_law_some"] ["_law_deal_here"] (am dA):=by ctx_has c
theorem zA:az ["_law_script","_law_deal_here","_law_names_here","_law_cells_here","_law_wishes_here","_law_hall","_law_rooms","_law_stray","_law_due","_law_bad","_law_place","_law_other","_law_first"] ["_law_script"] (am pv):=by ctx_has c
def mY:List V:=[.str "in",.str "from",.str "to",.str "end"]
structure Txt (w:World) (K:e_) (mg:Str->Option Value):Prop where
 b_len:mg "len" = none
 b_max:mg "max" = none
 b_min:mg "min" = none
 b_abs:mg "abs" = none
 b_sum:mg "sum" = none
 b_list:mg "list" = none
 b_reversed:mg "reversed" = none
 b_range:mg "range" = none
 b_isinstance:mg "isinstance" = none
 b_all:mg "all" = none
 b_int:mg "int" = none
 b_str:mg "str" = none
 b_bool:mg "bool" = none
 b_tuple:mg "tuple" = none
 b_set:mg "set" = none
 b_zip:mg "zip" = none
 b_enumerate:mg "enumerate" = none
 b_dict:mg "dict" = none
 b_sorted:mg "sorted" = none
 b_ValueError:mg "ValueError" = none
 c_MARKS:Au K mg "MARKS" mY
 c_MOST_IN_ROOM : ∃t,mg "MOST_IN_ROOM" = some (.int 10 t)
 c_LONGEST_NAME : ∃t,mg "LONGEST_NAME" = some (.int 8 t)
 c_MOST_CELLS : ∃t,mg "MOST_CELLS" = some (.int 12 t)
 c_MOST_TERMS : ∃t,mg "MOST_TERMS" = some (.int 6 t)
 c_MOST_VALUES : ∃t,mg "MOST_VALUES" = some (.int 60 t)
 c_MOST_ROWS : ∃t,mg "MOST_ROWS" = some (.int 60 t)
 c_MOST_STEPS : ∃t,mg "MOST_STEPS" = some (.int 60 t)
 c_GREATEST_VALUE : ∃t,mg "GREATEST_VALUE" = some (.int 1000000 t)
 c_GREATEST_STATE : ∃t,mg "GREATEST_STATE" = some (.int 20 t)
 c_GREATEST_MANY : ∃t,mg "GREATEST_MANY" = some (.int 1000000000 t)
 c_GREATEST_GAP : ∃t,mg "GREATEST_GAP" = some (.int 1000000000 t)
 c_GREATEST_BOUND : ∃t,mg "GREATEST_BOUND" = some (.int 10000000000000 t)
 at_is_name:mg "is_name" = some (.ref (aF mg "is_name"))
 at_is_value:mg "is_value" = some (.ref (aF mg "is_value"))
 at_is_state:mg "is_state" = some (.ref (aF mg "is_state"))
 at_is_term:mg "is_term" = some (.ref (aF mg "is_term"))
 at_is_step:mg "is_step" = some (.ref (aF mg "is_step"))
 at_PLAIN_FORMS:mg "PLAIN_FORMS" = some (.ref (aF mg "PLAIN_FORMS"))
 tb_PLAIN_FORMS:Cp w K (aF mg "PLAIN_FORMS")
 at_NoHall:mg "NoHall" = some (.ref (aF mg "NoHall"))
 at_HallError:mg "HallError" = some (.ref (aF mg "HallError"))
 xc:XCl K (aF mg "NoHall") (aF mg "HallError")
 xm:exmOne K (.ref (aF mg "NoHall")) (.ref (aF mg "HallError"))=some true
 no_word:gL K (aF mg "NoHall") "word"
 no_at:gL K (aF mg "NoHall") "at"
 xi:XIs K (aF mg "NoHall") (aF mg "HallError")
 at_NoText:mg "NoText" = some (.ref (aF mg "NoText"))
 ki_NoText:HM K (.ref (aF mg "NoHall")) (.ref (aF mg "NoText"))=some false
 at_NoPaper:mg "NoPaper" = some (.ref (aF mg "NoPaper"))
 ki_NoPaper:HM K (.ref (aF mg "NoHall")) (.ref (aF mg "NoPaper"))=some false
 at_NoRow:mg "NoRow" = some (.ref (aF mg "NoRow"))
 ki_NoRow:HM K (.ref (aF mg "NoHall")) (.ref (aF mg "NoRow"))=some false
 ki_NoHall:HM K (.ref (aF mg "NoHall")) (.ref (aF mg "NoHall"))=some true
 ki_VE:HM K (.ref (aF mg "NoHall")) (.type "ValueError")=some true
def bg (m F n:Int) (l:Addr):List (Key × V):=[(h9 "mixed",.int m),(h9 "seed",.int F),(h9 "number",.int n),(h9 "left",.ref l)]
structure av (H:Hp) (d l:Addr):Prop where
 ex : ∃(m sd n:Int) (xs:List Int),H d<*(bg m sd n l)/\H l*>(xs.map V.int)/\0<=n/\(∀x∈xs,0<=x)/\0<=sd/\sd < 2147483648/\xs.length<=63
def But (d l:Addr) (H H':Hp):Prop:=∀b o,b≠d->b≠l->H b=some o->H' b=some o
theorem Dm : ¬ ((h9 (d_ "mixed"):Key)=h9 (d_ "seed")):=by decide+kernel
theorem Ed : ¬ ((h9 (d_ "mixed"):Key)=h9 (d_ "number")):=by decide+kernel
theorem F9 : ¬ ((h9 (d_ "mixed"):Key)=h9 (d_ "left")):=by decide+kernel
theorem BP : ¬ ((h9 (d_ "seed"):Key)=h9 (d_ "number")):=by decide+kernel
theorem CH : ¬ ((h9 (d_ "seed"):Key)=h9 (d_ "left")):=by decide+kernel
theorem Du : ¬ ((h9 (d_ "number"):Key)=h9 (d_ "left")):=by decide+kernel
theorem oI (m F n:Int) (l:Addr):cu (bg m F n l) (h9 "mixed")=some (.int m):=by unfold bg;rw[dv rfl]
theorem tD (m F n:Int) (l:Addr):cu (bg m F n l) (h9 "seed")=some (.int F):=by unfold bg;rw[bL Dm,dv rfl]
theorem jh (m F n:Int) (l:Addr):cu (bg m F n l) (h9 "number")=some (.int n):=by unfold bg;rw[bL Ed,bL BP,dv rfl]
theorem sy (m F n:Int) (l:Addr):cu (bg m F n l) (h9 "left")=some (.ref l):=by unfold bg;rw[bL F9,bL CH,bL Du,dv rfl]
theorem nQ (m F n y:Int) (l:Addr):cL (bg m F n l) (h9 "number") (.int y)=bg m F y l:=by
 unfold cL;rw[du,jh];simp only[isSome_some,if_true,bg,k9,JI,if_neg Ed,if_neg BP,if_neg (t6 Du)]
theorem zO (m F n y:Int) (l:Addr):cL (bg m F n l) (h9 "seed") (.int y)=bg m y n l:=by
 unfold cL;rw[du,tD];simp only[isSome_some,if_true,bg,k9,JI,if_neg Dm,if_neg (t6 BP),if_neg (t6 CH)]
theorem rf (m F n:Int) (l:Addr):(bg m F n l).length < g_:=by show 4 < g_;decide
theorem cz {i j:Int} (F:0<=i) (h1:i < 4294967296):zY i j:=.inl ⟨(),()⟩
def jZ:Sp:=λvs H Q _=>∃(d l:Addr) (m:Int),vs=[.ref d,.int m]/\av H d l/\0 < m/\m < 18446744073709551616/\∀(r:Int) (H':Hp),0<=r->r < m->av H' d l->But d l H H'->Q (.int r) H'
theorem vf (m F n:Int) (l:Addr):eN [] (bg m F n l)=bg m F n l:=by
 have e1:cL ([]:List (Key × V)) (h9 (d_ "mixed")) (.int m)=[(h9 (d_ "mixed"),.int m)]:=eS _ jF
 have e2:cL [((h9 (d_ "mixed"):Key),V.int m)] (h9 (d_ "seed")) (.int F)=[(h9 (d_ "mixed"),.int m),(h9 (d_ "seed"),.int F)]:=eS _ (by rw[bL Dm,jF])
 have U:cL [((h9 (d_ "mixed"):Key),V.int m),(h9 (d_ "seed"),.int F)] (h9 (d_ "number")) (.int n)=[(h9 (d_ "mixed"),.int m),(h9 (d_ "seed"),.int F),(h9 (d_ "number"),.int n)]:=eS _ (by rw[bL Ed,bL BP,jF])
 have L:cL [((h9 (d_ "mixed"):Key),V.int m),(h9 (d_ "seed"),.int F),(h9 (d_ "number"),.int n)] (h9 (d_ "left")) (.ref l)=bg m F n l:=eS _ (by rw[bL F9,bL CH,bL Du,jF])
 show cL (cL (cL (cL ([]:List (Key × V)) (h9 (d_ "mixed")) (.int m)) (h9 (d_ "seed")) (.int F)) (h9 (d_ "number")) (.int n)) (h9 (d_ "left")) (.ref l)=_
 rw[e1,e2,U,L]
theorem tG (ns:List Int) (lo hi:Option Int) : ∃ms:List Int,dJ (ns.map V.int) lo hi=ms.map V.int/\ms.length<=ns.length:=by
 unfold dJ;refine⟨(ns.drop (HT.sIx (ns.map V.int).length 0 lo)).take (HT.sIx (ns.map V.int).length (ns.map V.int).length hi - HT.sIx (ns.map V.int).length 0 lo),by simp[map_take,map_drop],?_⟩
 rw[m8,Jk];omega
theorem yb {x:V} (h:(ms.map V.int)[i]? = some x) : ∃v,x = .int v:=by
 rw[q_] at h;cases e:ms[i]? with
 | none=>rw[e] at h;cases h
 | some z=>rw[e] at h;exact⟨z,(j9 h).symm⟩
def Dy (K:e_):Sp:=λvs H Q _=>∃(a:Addr) (ns:List Int) (st:Int),vs=[.ref a,.int st]/\SqL K H a (ns.map V.int)/\ns.length<=63/\0<=st/\st<=63/\∀(d l:Addr) (H':Hp),H d=none->H l=none->av H' d l->ak H H'->Q (.ref d) H'
theorem aI {l:Addr} {m:Int} {Q:VK} {E:XK} (D:av H d l) (L:0 < m) (F:m < 18446744073709551616) (h : ∀(r:Int) (H':Hp),0<=r->r < m->av H' d l->But d l H H'->Q (.int r) H'):jZ [.ref d,.int m] H Q E:=⟨d,l,m,rfl,D,L,F,h⟩
theorem But.refl {l:Addr} (H:Hp):But d l H H:=λ_ _ _ _ e=>e
theorem But.trans {l:Addr} (a:But d l H H1) (b:But d l H1 H2):But d l H H2:=λc o h1 h2 e=>b c o h1 h2 (a c o h1 h2 e)
theorem But.new {l:Addr} (a:But d l H H1) (hp:H1 p=none):But d l H (upd H1 p o):=λc u h1 h2 e=>by
 have e1:=a c u h1 h2 e;rw[ah (aj e1 hp)];exact e1
theorem But.same {l:Addr} (a:But d l H H1) (s:ak H1 H2):But d l H H2:=λc u h1 h2 e=>s c u (a c u h1 h2 e)
theorem av.ne {l:Addr} (D:av H d l) (hp:H p=none):p≠d/\p≠l:=by
 obtain⟨m,L,n,xs,F,hl,_⟩:=D.ex;exact⟨(aj F hp).symm,(aj hl hp).symm⟩
theorem av.same {l:Addr} (D:av H d l) (s:ak H H'):av H' d l:=by
 obtain⟨m,L,n,xs,F,hl,r⟩:=D.ex;exact⟨m,L,n,xs,s _ _ F,s _ _ hl,r⟩
theorem av.new {l:Addr} (D:av H d l) (hp:H p=none):av (upd H p o) d l:=D.same (ak.upd0 hp)
theorem av.put {l:Addr} (D:av H d l) (h1:p≠d) (h2:p≠l):av (upd H p o) d l:=by
 obtain⟨m,L,n,xs,F,hl,r⟩:=D.ex;exact⟨m,L,n,xs,by rw[ah h1.symm];exact F,by rw[ah h2.symm];exact hl,r⟩
theorem But.put {l:Addr} (a:But d l H H1) (hp:H p=none):But d l H (upd H1 p o):=λc u h1 h2 e=>by
 rw[ah (aj e hp)];exact a c u h1 h2 e
theorem But.free {l:Addr} (a:But d l H H1) (D:av H1 d l) (hp:H1 p=none):H p=none:=by
 obtain⟨h1,h2⟩:=D.ne hp;cases e:H p with
 | none=>rfl
 | some o=>rw[a p o h1 h2 e] at hp;cases hp
theorem ma {xs:List α} {i:Int} (L:0<=i) (h1:i < (xs.length:Int)) : ∃v,atI xs i=some v/\v∈xs:=by
 obtain⟨n,rfl⟩:=Int.eq_ofNat_of_zero_le L;have F:n < xs.length:=()
 exact⟨xs[n],bh (by simp[F]),List.getElem_mem F⟩
theorem pS {l:Addr} {m:Int} {vs:List V} {Q:VK} {E:XK} (D:av H d l) (hp:H p=none) (U:0 < m) (Z:m < 18446744073709551616) (hm:m=(vs.length:Int)) (h : ∀(r:Int) (v:V) (H':Hp),v∈vs->atI vs r=some v->av H' d l->But d l H H'->H' p*>vs->Q (.int r) H'):jZ [.ref d,.int m] (upd H p (.lst vs)) Q E :=
 aI (D.new hp) U Z λr H' r0 r1 D' F=>by
  obtain⟨v,e,L⟩:=ma (xs:=vs) r0 ()
  exact h r v H' L e D' (((But.refl H).new hp).trans F) (F p _ (D.ne hp).1 (D.ne hp).2 ae)
abbrev Dz0:=Fn P w K mg base "_law_draw" 1 ["_law_deal_here","_law_many_here"] (jZ)
theorem qo (T:Txt w K mg) (L:FnL K mg "_law_draw" hU ["_law_deal_here","_law_many_here"]) : @Dz0 P w K mg base:=by
 ctx_has z qD <;> obtain⟨d,l,m,rfl,D,m0,m1,k⟩:=h
 .rfl
 refine⟨_,(ai (ny PassesOwn.never (PW.pt (gV (aE bA (lD hu (pvM 0) aq) af) (gV (aE gD (ar be T.b_len (aa (lD hu (pvM 0) aq) ac)) af) (iF (aE bA (lD hu (pvM 0) aq) af))))) (ao (rY hu (pvM 0) aq (C2 PySem.F.slot_list_pop PySem.F.type_list_pop Dt (lD hu (pvM 0) aq)) rfl)))
  (ai (ay 2 (lD hu (pvM 0) aq))
  (ai (bi (aE gD (pvM 2) af) (ai (rY hu (pvM 0) aq (ax fR (pvM 2) (pvM 1)) rfl)
  (ao (aA (ax cM (pvM 2) (pvM 1))))) aK)
  (ai (ay 3 (ax cM (ax aW (ax gv (lD hu (pvM 0) aq) af) af) af))
  (ai (rY hu (pvM 0) aq (ax cM (ax aW (ax gv (pvM 3) af) af) af) rfl)
  (ai (ay 4 (ax cM (ax gv (lD hu (pvM 0) aq) (lD hu (pvM 0) aq)) af))
  (ao (aA (ax cM (ax aW (ax gv (ax cM (ax gv (pvM 3) (pvM 3)) af) af) (pvM 4)) (pvM 1)))))))))),?_⟩
 obtain⟨Z,sd,n,xs,hd,hl,n0,hx,s0,s1,aj⟩:=D.ex;have dl:d≠l:=eV hd hl (by intro z;cases z)
 refine nE (λμ σ H'=>∃(n:Int) (xs:List Int),σ=[-d,some (.int m),none,none,none]/\H' d<*(bg Z sd n l)/\H' l*>(xs.map V.int)/\0<=n/\(∀x∈xs,0<=x)/\xs.length<=63/\But d l H H'/\μ=xs.length)
  (λσ H'=>∃(n:Int) (xs:List Int),σ=[-d,some (.int m),none,none,none]/\H' d<*(bg Z sd n l)/\H' l*>(xs.map V.int)/\0<=n/\(∀x∈xs,0<=x)/\xs.length<=63/\But d l H H')
  ⟨_,n,xs,rfl,hd,hl,n0,hx,aj,λb o _ _ e=>e,rfl⟩ ?_ ?_
 .rintro R hR μ σ H1 ⟨n1,xs1,rfl,hd1,hl1,n01,hx1,hlen1,bt,rfl⟩
  have hr:=hR _ _ ⟨n1,xs1,rfl,hd1,hl1,n01,hx1,hlen1,bt⟩;ctx_has v hd1 hl1 jh sy oI
  refine bR (λh1=>?_) (λ_=>hr)
  refine bR (λh2=>?_) (λ_=>hr)
  refine bR (λh3=>?_) (λ_=>hr)
  rcases List.eq_nil_or_concat xs1 with rfl | ⟨ys,z,rfl⟩
  .simp at h2
  refine⟨λσ' H'=>σ'=[-d,some (.int m),none,none,none]/\H'=upd (upd H1 l (.lst (ys.map V.int))) d (.dK (bg Z sd z l)),?_,V.int z,by simp,bg Z sd n1 l,by rw[ah dl];exact hd1,rf _ _ _ _,by rw[nQ];simp⟩
  rintro _ _ ⟨rfl,rfl⟩
  refine⟨ys.length,by simp,rfl,z,ae,ys,by rw[ah dl.symm,ae],hx1 z (by simp),λx hx=>hx1 x (by simp[hx]),by simp at hlen1;omega,λb o h1 h2 e=>?_,rfl⟩
  rw[ah h1,ah h2];exact bt b o h1 h2 e
 .rintro σ H1 ⟨n1,xs1,rfl,hd1,hl1,n01,hx1,hlen1,bt⟩
  ctx_has v hd1 hl1 jh sy oI tD rf nQ zO ae
  have ad : ∀(r U n':Int),0<=r->r < m->0<=n'->0<=U->U < 2147483648->Q (.int r) (upd H1 d (HO.dK (bg Z U n' l))):=λr U n' r0 r1 am h0 h1 =>
   k r _ r0 r1 ⟨Z,U,n',xs1,ae,by rw[ah dl.symm];exact hl1,am,hx1,h0,h1,hlen1⟩ λb o h1 h2 e=>by rw[ah h1];exact bt b o h1 h2 e
  refine bR (λh1=>?_) (λh1=>?_)
  .exact⟨⟨m0,m1⟩,m0,ad _ _ _ (Jj _ ()) (Iz _ m0) (Int.ediv_nonneg () ()) s0 s1⟩
  .generalize hone:(sd * 48271+7919) % 2147483647=one
   have o0:0<=one:=()
   have o1:one < 2147483647:=()
   generalize an:(one * 40692+104729) % 2147483399=ag;have p0:0<=ag:=()
   have p1:ag < 2147483399:=()
   have q0:=Jj (one * one) (show(2147483629:Int)≠0 by decide)
   have q1:=Iz (one * one) (show(0:Int) < 2147483629 by decide)
   exact⟨cz s0 (),∅,cz o0 (),∅,cz p0 (),∅,cz o0 (),∅,cz q0 (),m0,
    ad _ _ _ (Jj _ ()) (Iz _ m0) n01 p0 ()⟩
abbrev Dz1:=Fn P w K mg base "_law_deal" 1 ["_law_script","_law_start"] (Dy K)
theorem pO (T:Txt w K mg) (L:FnL K mg "_law_deal" fi ["_law_script","_law_start"]) : @Dz1 P w K mg base:=by
 ctx_has z qF <;> obtain⟨a,ns,st,rfl,hS,a1,st0,a3,k⟩:=h
 .rfl
 refine⟨_,(ai (mf 2 (N:=["_law_cell"]) (nt:=1) (js:=[]) (bI ["_law_script","_law_start","_law_cells_here","_law_number_here","_law_cell"] (am fi).names) (rj K (aQ EG (pvM 0) (aV (pvM 1)) (aV af))) (aP 0) bN cr (ar (wD rfl) T.b_max (aa (pvM 0) (aa (ax fW af (pvM 0)) ac))))
  (ai (ay 3 (ax aW af (pvM 1)))
  (ai (da (rj K (pvM 2)) (aP 4) (ao (ay 3 (ax cM (ax aW (ax gv (pvM 3) af) (pvM 4)) af))))
  (ao (aA (AZ (jC aq (ax cM (ar (tH rfl) T.b_sum (aa (aQ EG (pvM 0) bv (aV af)) ac)) af) (jC aq (pvM 3) (jC aq af (jC aq (tS rfl rfl T.b_list rfl T.b_reversed (pvM 2)) Bb)))) rfl rfl (by nofun) ∅)))))),?_⟩
 ctx_has v
 refine⟨_,hS,λp hp=>⟨_,ae,λD hD=>?_⟩⟩
 have pD:D≠p:=by rintro rfl;rw[ae] at hD;cases hD
 obtain⟨ms,av,a2⟩:=tG ns (some st) (some 63);rw[av] at hD ⊢;rw[ah pD] at hD;refine eR jn (λi ys H2=>∃cs:List Int,ys=cs.map V.int/\cs.length=i/\(∀x∈cs,0<=x)/\H2 p*>(ms.map V.int)/\H2 D*>ys/\ak H H2)
  ⟨[],rfl,rfl,by simp,by rw[ah pD.symm,ae],ae,(ak.upd0 hp).upd_new (by rw[ah pD];exact hD)⟩ (λi ys H2 ag=>by obtain⟨_,_,_,_,h,_⟩:=ag;exact(.of h)) ?_ ?_
 .rintro i x ys H2 hi U ⟨cs,rfl,rfl,hc,h1,h2,sm⟩
  obtain⟨v,rfl⟩:=yb U;ctx_has v h2
  have hi:cs.length < 63:=by simp at hi;omega
  refine⟨by simp;exact aw (),cs++[if 0 - v > v then 0 - v else v],by simp,by simp,λx U=>?_,by rw[ah pD.symm];exact h1,ae,λb o e=>?_⟩
  .rcases t0.mp U with q | q
   .exact hc x q
   .rw[k_.mp q];split <;> omega
  .rw[ah (aj e hD)];exact sm b o e
 .rintro ys H2 ⟨cs,rfl,hc,hpos,h1,h2,sm⟩
  have as:cs.length<=63:=by simp at hc;omega
  ctx_has v h2
  refine gJ jn (λi σ H3=>∃(z:Int) (v:Option V),σ=[-a,some (.int st),-D,some (.int z),v]/\0<=z/\z < 2147483648/\H3=H2)
   ⟨_,_,rfl,(),(),rfl⟩ (λi σ H3 ap=>by obtain⟨_,_,_,_,_,h⟩:=ap;exact(by rw[h];exact .of h2)) ?_ ?_
  .rintro i x σ H3 hi U ⟨z,v,rfl,z0,z1,rfl⟩
   obtain⟨y,rfl⟩:=yb U;ctx_has v
   exact⟨cz z0 (),∅,(),()⟩
  .rintro σ H3 ⟨z,v,rfl,z0,z1,rfl⟩
   ctx_has v h2 Bn
   intro d hd;refine⟨_,(sm.upd_new hd).seq hS,λp2 ad=>?_⟩
   have Z:p2≠d:=by rintro rfl;rw[ae] at ad;cases ad
   have F:H3 p2=none:=by rwa [ah Z] at ad
   obtain⟨xs,a0,_⟩:=tG ns none (some 1);rw[a0];have az:D≠p2:=aj h2 F
   have au:D≠d:=aj h2 hd
   refine⟨xs,.of ae,∅,_,by rw[ah az,ah au];exact h2,λl hl=>?_⟩
   have l1:l≠p2:=by rintro rfl;rw[ae] at hl;cases hl
   have l2:l≠d:=by rintro rfl;rw[ah Z.symm,ae] at hl;cases hl
   have an:H3 l=none:=by rwa [ah l1,ah l2] at hl
   refine⟨by rw[ah l2.symm,ah Z.symm,ae],bg (xs.sum % 2) z 0 l,rfl,by show 4<=15;decide,?_⟩
   rw[vf];refine k d l _ (sm.free hd) (sm.free an) ⟨_,z,0,cs.reverse,ae,by rw[ah l2,ae,List.map_reverse],(),λx U=>hpos x (List.mem_reverse.mp U),z0,z1,by simpa using as⟩ λb o e=>?_
   have e3:=sm b o e;rw[ah (aj e3 hd),ah (aj e3 an),ah (aj e3 F),ah (aj e3 hd)];exact e3
def AW:Sp:=λvs H Q _=>∃(d l:Addr) (m:Int),vs=[.ref d,.int m]/\av H d l/\0<=m/\m<=20/\∀(p:Addr) (ws:List Str) (H':Hp),H p=none->dZ ws->ws.length=m.toNat->H' p*>(ws.map V.str)->av H' d l->But d l H H'->Q (.ref p) H'
theorem zv {F:Str} (U:fK F) {P:Str->Prop} (h:P (mr F)):F.length<=g_/\∃c,atI F.cps.toList 0=some c/\∃i rest,IZ (d_ "abcdefghijklmnopqrstuvwxyz") { cps := #[c] } 0 (d_ "abcdefghijklmnopqrstuvwxyz").length 1=i :: rest/\(0:Int) < 26 /\
  (d_ "abcdefghijklmnopqrstuvwxyz").length<=g_/\∃c,atI (d_ "abcdefghijklmnopqrstuvwxyz").cps.toList (((i:Nat)+1:Int) % 26)=some c/\F.length<=g_/\(Str.mk #[c]).length+(Ip F (some 1) none).length<=g_/\P ((Str.mk #[c])++Ip F (some 1) none):=by
 obtain⟨c,cs,e,hc,ac,hl⟩:=U.cons;have L:F.length<=g_:=pj (aw (n_ U.le ∅))
 have hs:=Ix F (some 1) none;have hw:=U.le;refine⟨L,c,by rw[e];exact ib _ _,_,_,nW hc,∅,eX,_,gd () (),L,pj (aw (by show 1+_<=1000;omega)),?_⟩
 have Z:=hc;simp only[bV,fx,decide_eq_true_eq] at Z;have aa:F.length=cs.length+1:=by rw[<- eW,e];rfl
 have key:(Str.mk #[97+((((c - 97:Nat):Int)+1) % 26).toNat])++Ip F (some 1) none=mr F:=by
  apply qy
  rw[cx,kK,e,aa];have e1:97+((((c - 97:Nat):Int)+1) % 26).toNat=sO c:=by unfold sO;omega
  have e2:HT.sIx (cs.length+1) 0 (some 1)=1:=by
   show(if (1:Int) < 0 then((1:Int)+((cs.length+1:Nat):Int)).toNat else min (1:Int).toNat (cs.length+1))=1
   rw[if_neg ∅]
   show min 1 (cs.length+1)=1
   omega
  rw[e1,e2,HT.sIx_none];simp[mr,e,Bs]
 rw[key];exact h
theorem gZ {Z vk U:Option V} {wd:Str} (hw:fK wd) (ah:ws.length<=20) (hp:H p*>(ws.map V.str))
  (ac : ∀(L:Str) (H':Hp),fK L->L∉ws->L∉de->ak H H'->Dn.nx [-d,Z,some (.str (d_ "abcdefghijklmnopqrstuvwxyz")),-p,vk,some (.str L),U] H') :
  uC
   (tOr (mP (tOp (xn false) (aU 5) (aU 3)))
    (mP (tOp (xn false) (aU 5) (tE (bF (tC (V.str "in")) (bF (tC (V.str "from")) (bF (tC (V.str "to")) (bF (tC (V.str "end")) dC))))))))
   (lE (tOp rCS (tOp rIS (aU 2) (tOp (rI (λx j=>0 < j) λi j=>V.int (i % j)) (tOp (rI0 λi j=>V.int (i+j)) (tMS me (aU 2) (bF (tOp rIS (aU 5) (tC (V.int 0))) dC)) (tC (V.int 1))) (tC (V.int 26))))
     (tSl AK (aU 5) (gI (tC (V.int 1))) fj)) (cH 5))
   Dn [-d,Z,some (.str (d_ "abcdefghijklmnopqrstuvwxyz")),-p,vk,some (.str wd),U] H:=by
 obtain⟨ad,h0⟩:=xq hw (F:=ws++de) (by simp[de];omega)
 refine nE (λμ σ H'=>∃L:Str,σ=[-d,Z,some (.str (d_ "abcdefghijklmnopqrstuvwxyz")),-p,vk,some (.str L),U]/\fK L/\mG μ L∉ws++de/\ak H H')
  (λσ H'=>∃L:Str,σ=[-d,Z,some (.str (d_ "abcdefghijklmnopqrstuvwxyz")),-p,vk,some (.str L),U]/\fK L/\L∉ws/\L∉de/\ak H H')
  ⟨ad,wd,rfl,hw,h0,ak.refl _⟩ ?_ ?_
 .rintro R hR μ σ H1 ⟨w1,rfl,n1,f1,sm⟩
  have af:=sm _ _ hp;have step : ∀H2,ak H H2->w1∈ws++de->∀ σ' H',(σ'=[-d,Z,some (.str (d_ "abcdefghijklmnopqrstuvwxyz")),-p,vk,some (.str (mr w1)),U]/\H'=H2)->∃m',m' < μ/\∃L:Str,σ'=[-d,Z,some (.str (d_ "abcdefghijklmnopqrstuvwxyz")),-p,vk,some (.str L),U]/\fK L/\mG m' L∉ws++de/\ak H H':=λH2 aa ag=>by
   rintro _ _ ⟨rfl,rfl⟩
   cases μ with
   | zero=>exact absurd ag f1
   | succ μ=>exact⟨μ,IU _,mr w1,rfl,Bt n1,f1,aa⟩
  ctx_has v af
  refine⟨rfl,kX _,?_⟩
  rw[ik];refine bR (λh=>?_) (λh=>?_)
  .exact⟨_,step H1 sm (IB _ (by simpa using h)),zv n1 (P:=λz=>[some (V.ref d),Z,some (.str (d_ "abcdefghijklmnopqrstuvwxyz")),-p,vk,some (.str z),U]=[some (V.ref d),Z,some (.str (d_ "abcdefghijklmnopqrstuvwxyz")),-p,vk,some (.str (mr w1)),U]/\H1=H1) ⟨rfl,rfl⟩⟩
  .refine⟨∅,λq hq=>⟨_,ae,rfl,by decide+kernel,?_⟩⟩
   have aa:ak H (upd H1 q (.lst (de.map V.str))):=sm.upd_new hq
   show(if inV (V.str w1) (de.map V.str)=true then _ else _)
   rw[ik];refine bR (λh2=>?_) (λh2=>?_)
   .exact⟨_,step _ aa (n9 _ (by simpa using h2)),zv n1 (P:=λz=>[some (V.ref d),Z,some (.str (d_ "abcdefghijklmnopqrstuvwxyz")),-p,vk,some (.str z),U]=[some (V.ref d),Z,some (.str (d_ "abcdefghijklmnopqrstuvwxyz")),-p,vk,some (.str (mr w1)),U]/\_=_) ⟨rfl,rfl⟩⟩
   .exact hR _ _ ⟨w1,rfl,n1,by simpa using h,by simpa using h2,aa⟩
 .rintro σ H1 ⟨w1,rfl,n1,f1,f2,sm⟩
  exact ac w1 H1 n1 f1 f2 sm
abbrev Dz2:=Fn P w K mg base "_law_names" 2 ["_law_deal_here","_law_many_here"] (AW)
theorem nV (T:Txt w K mg) (L:FnL K mg "_law_names" dS ["_law_deal_here","_law_many_here"]) (Fa : @Dz0 P w K mg base) : @Dz2 P w K mg base:=by
 ctx_has z oa <;> obtain⟨d,l,m,rfl,D,m0,m1,k⟩:=h
 .rfl
 refine⟨_,(ai (ay 2 aq)
  (ai (ay 3 (bu ac))
  (ai (da (ck rfl T.b_range (aa (pvM 1) ac)) (aP 4) (ai (ay 5 (Cl PySem.F.slot_str_join PySem.F.type_str_join BR aq (aa (dj (N:=["_law_j","_law_letters","_law_deal_here"]) (nt:=1) (js:=[2,0]) (bI ["_law_deal_here","_law_many_here","_law_letters","_law_names_here","_law_k","_law_word","_law_place"] (am dS).names) (ck rfl T.b_range (aa (ax aW af (ag Fa (aa (pvM 0) (aa af ac)))) ac)) (aP 0) bN cr (aB qS (pvM 1) (ag Fa (aa (pvM 2) (aa af ac))))) ac)))
  (ai (bi (PW.pt (gV (aE gD (pvM 4) af) (iF (aE bA (ag Fa (aa (pvM 0) (aa af ac))) af)))) (ai (ay 6 (ag Fa (aa (pvM 0) (aa (ar pF T.b_len (aa (aB dI (pvM 3) (dz cy af)) ac)) ac))))
  (ao (ay 5 (ax dX (ax dX (aQ nB (aB dI (pvM 3) (dz cy af)) bv (aV (pvM 6))) (aB qS (pvM 5) af)) (aQ nB (aB dI (pvM 3) (dz cy af)) (aV (ax aW (pvM 6) af)) bv))))) aK)
  (ai (ny PassesOwn.never (PW.pt (lh (aE uP (pvM 5) (pvM 3)) (iS (aE uP (pvM 5) (bu (aa aq (aa aq (aa aq (aa aq ac))))))))) (ao (ay 5 (ax dX (aB qS (pvM 2) (ax cM (ax aW (Cl PySem.F.slot_str_index PySem.F.type_str_index yM (pvM 2) (aa (aB qS (pvM 5) af) ac)) af) af)) (aQ nB (pvM 5) (aV af) bv)))))
  (ao (bY (fe t9 t_ cB (pvM 3) (aa (pvM 5) ac))))))))
  (ao (aA (pvM 3)))))),?_⟩
 ctx_has v
 refine⟨∅,λp hp=>⟨(),(),?_⟩⟩
 have np:=D.ne hp;refine gJ cm (λi σ H'=>∃(ws:List Str) (vk vw vp:Option V),σ=[-d,some (.int m),some (.str (d_ "abcdefghijklmnopqrstuvwxyz")),-p,vk,vw,vp]/\dZ ws/\ws.length=i/\H' p*>(ws.map V.str)/\av H' d l/\But d l H H')
  ⟨[],_,_,_,rfl,.nil,rfl,ae,D.new hp,(But.refl H).new hp⟩ (λ_ _ _ _=>g9) ?_ ?_
 .rintro i x σ H2 hi hx ⟨ws,vk,vw,vp,rfl,ok,hlen,h2,D2,B2⟩
  rw[aG] at hi;rw[eQ hi] at hx;obtain rfl:=j9 hx
  ctx_has v
  refine aI D2 ∅ ∅ λr H3 r0 r1 D3 B3=>?_
  ctx_has v
  refine⟨(),(),λq hq=>?_⟩
  have h3:=B3 p _ np.1 np.2 h2;have nq:=D3.ne hq;have az:p≠q:=aj h3 hq
  refine eR cm (λj ys H4=>∃cs:List Nat,ys=cs.map (λc=>V.str ⟨#[c]⟩)/\cs.length=j/\(∀c∈cs,bV c=true)/\H4 q*>ys/\H4 p*>(ws.map V.str)/\av H4 d l/\But d l H H4)
   ⟨[],rfl,rfl,by simp,ae,by rw[ah az];exact h3,D3.new hq,(B2.trans B3).new hq⟩ (λ_ _ _ _=>g9) ?_ ?_
  .rintro j x ys H4 hj hx ⟨cs,rfl,hcl,hcs,h4,h4p,D4,B4⟩
   ctx_has v
   rw[aG] at hj;refine aI D4 ∅ ∅ λr5 H5 a3 a0 D5 B5=>?_
   have h5:=B5 q _ nq.1 nq.2 h4;have a6:=B5 p _ np.1 np.2 h4p;refine⟨r5,rfl,eX,_,gd a3 a0,h5,by simp;exact aw (),cs++[97+r5.toNat],by simp,by simp;omega,λc hc=>?_,ae,by rw[ah az];exact a6,D5.put nq.1 nq.2,(B4.trans B5).put (B2.free D2 ((B3.free D3 hq)))⟩
   rcases t0.mp hc with z | z
   .exact hcs c z
   .rw[k_.mp z]
    unfold bV;rw[fx,decide_eq_true_eq,decide_eq_true_eq];omega
  .rintro ys H4 ⟨cs,rfl,hcl,hcs,h4,h4p,D4,B4⟩
   rw[aG] at hcl;ctx_has v
   refine⟨cs.map λc=>⟨#[c]⟩,by rw[h4];simp,by rw[xU,show(d_ "").length=0 by decide+kernel];omega,?_⟩
   have hj:=uI cs;generalize Txt.join (d_ "") (cs.map λc=>Str.mk #[c])=wd at hj ⊢
   obtain⟨c0,a2,rfl⟩ : ∃c0 a2,cs=c0 :: a2:=by
    cases cs with
    | nil=>simp at hcl;omega
    | cons a b=>exact⟨a,b,rfl⟩
   have ap:fK wd:=.of hj (hcs c0 (by simp)) (λx hx=>hcs x (by simp[hx])) (by simp at hcl;omega)
   have ad : ∀{w:Str},fK w->w.length<=g_:=λh=>pj (aw (n_ h.le ∅))
   have au:ws.length<=20:=()
   have an : ∀(U:Str) (H5 H6:Hp),av H5 d l->But d l H H5->ak H5 H6->fK U->U∉ws->U∉de->∃as,dZ as/\as.length=i+1/\upd H6 p (HO.lst (ws.map V.str++[V.str U])) p=some (HO.lst (as.map V.str))/\av (upd H6 p (HO.lst (ws.map V.str++[V.str U]))) d l/\But d l H (upd H6 p (HO.lst (ws.map V.str++[V.str U]))) :=
    λU H5 H6 D5 B5 Z n f1 f2=>⟨ws++[U],ok.snoc n f1 f2,by simp[hlen],by rw[ae];simp,(D5.same Z).put np.1 np.2,(B5.same Z).put hp⟩
   refine bR (λh=>?_) (λh=>?_)
   .refine aI D4 ∅ ∅ λr5 H5 a3 a0 D5 B5=>?_
    ctx_has v
    have h5:=B5 p _ np.1 np.2 h4p;refine bR (λh6=>?_) (λh6=>?_)
    .rcases List.eq_nil_or_concat ws with rfl | ⟨ws0,z,rfl⟩
     .simp at hlen;omega
     have nz:fK z:=ok.nm z (by simp)
     refine⟨_,h5,_,by rw[List.concat_eq_append,m7];exact jL _ _,z,rfl,ad nz,?_⟩
     refine aI D5 (by have:=nz.pos;omega) (by have:=nz.le;omega) λr7 H7 a5 a4 D7 B7=>?_
     have h7:=B7 p _ np.1 np.2 h5;ctx_has v h7
     have a1:atI (List.map V.str (ws0.concat z)) (-1)=some (V.str z):=by rw[List.concat_eq_append,m7];exact jL _ _
     have l1:=Ix z none (some r7);have l2:=Ix z (some (r7+1)) none;have l3:=nz.le;refine⟨_,a1,z,rfl,ad nz,ad ap,c0,by rw[hj];exact ib _ _,pj (aw (by show _+1<=1000;omega)),_,a1,z,rfl,ad nz,pj (aw (by rw[mS];show _+1+_<=1000;omega)),?_⟩
     refine gZ (A3 nz (hcs c0 (by simp)) a5 a4) au h7 λU H8 n f1 f2 Z=>?_
     have h8:=Z _ _ h7;ctx_has v h8
     exact⟨by simp only[f_];exact aw (),an U H7 H8 D7 ((B4.trans B5).trans B7) Z n f1 f2⟩
    .refine gZ ap au h5 λU H6 n f1 f2 Z=>?_
     have h6:=Z _ _ h5;ctx_has v h6
     exact⟨by simp;exact aw (),an U H5 H6 D5 (B4.trans B5) Z n f1 f2⟩
   .refine gZ ap au h4p λU H6 n f1 f2 Z=>?_
    have h6:=Z _ _ h4p;ctx_has v h6
    exact⟨by simp;exact aw (),an U H4 H6 D4 B4 Z n f1 f2⟩
 .rintro σ H2 ⟨ws,vk,vw,vp,rfl,ok,hlen,h2,D2,B2⟩
  ctx_has v
  rw[aG] at hlen;exact k p ws H2 hp ok hlen h2 D2 B2
def Ap:Sp:=λvs H Q _=>∃(d l:Addr) (m:Int),vs=[.ref d,.int m]/\av H d l/\4<=m/\m<=10000000000000/\∀(i:Int) (H':Hp),Neg.neg m<=i->i<=m->av H' d l->But d l H H'->Q (.int i) H'
def wC:Sp:=λvs H Q _=>∃(d l:Addr) (m:Int),vs=[.ref d,.int m]/\av H d l/\0<=m/\m<=60/\∀(p:Addr) (ns:List Int) (H':Hp),H p=none->ns.length=m.toNat->ns.Nodup->(∀x∈ns,-1000000<=x/\x<=1000000)->H' p>>(ns.map V.int)->av H' d l->But d l H H'->Q (.ref p) H'
def DP:Sp:=λvs H Q _=>∃(d l:Addr) (m:Int),vs=[.ref d,.int m]/\av H d l/\0<=m/\m<=60/\∀(i:Int) (H':Hp),0<=i->i<=m->av H' d l->But d l H H'->Q (.int i) H'
theorem xK {ns:List Int} {x:Int} (n:Nat) (h:ns.Nodup) (F:x∉ns):(ns.take n++x :: ns.drop n).Nodup:=by
 have e:(ns.take n++x :: ns.drop n).Perm (x :: ns):=by
  refine perm_middle.trans ?_
  rw[Iq]
 exact e.nodup_iff.mpr (D_.mpr ⟨F,h⟩)
theorem AY {ns:List α} {x y:α} (n:Nat) (h:y∈ns.take n++x :: ns.drop n):y=x\/y∈ns:=by
 rcases t0.mp h with q | q
 .exact .inr (G3 q)
 .rcases i4.mp q with q | q
  .exact .inl q
  .exact .inr (List.mem_of_mem_drop q)
abbrev Dz3:=Fn P w K mg base "_law_number" 2 ["_law_deal_here","_law_most"] (Ap)
theorem mD (T:Txt w K mg) (L:FnL K mg "_law_number" fF ["_law_deal_here","_law_most"]) (Z : @Dz0 P w K mg base) : @Dz3 P w K mg base:=by
 ctx_has z nN <;> obtain⟨d,l,m,rfl,D,m0,m1,k⟩:=h
 .rfl
 refine⟨_,(ai (ay 2 (ag Z (aa (pvM 0) (aa af ac))))
  (ai (bi (aE bA (pvM 2) af) (ao (aA (ax fW (ag Z (aa (pvM 0) (aa af ac))) af))) aK)
  (ai (bi (aE bA (pvM 2) af) (ao (aA (aB dI (bu (aa (pvM 1) (aa (dz cy (pvM 1)) (aa (ax fW (pvM 1) af) (aa (ax fW af (pvM 1)) ac))))) (ag Z (aa (pvM 0) (aa af ac)))))) aK)
  (ao (aA (ax fW (ag Z (aa (pvM 0) (aa (ax aW (ax gv af (pvM 1)) af) ac))) (pvM 1))))))),?_⟩
 ctx_has v
 refine aI D ∅ ∅ λr H1 r0 r1 D1 B1=>?_
 ctx_has v
 refine bR (λh=>?_) (λh=>?_)
 .refine aI D1 ∅ ∅ λr2 H2 ad ah F U=>?_
  exact⟨_,rfl,k _ H2 () () F (B1.trans U)⟩
 refine bR (λh=>?_) (λh=>?_)
 .refine⟨∅,λp hp=>?_⟩
  refine pS D1 hp ∅ ∅ rfl λr2 v H2 hv ha F U h2=>?_
  refine⟨_,rfl,_,h2,_,ha,?_⟩
  simp only[i4,md,or_false] at hv;rcases hv with rfl | rfl | rfl | rfl
  all_goals exact k _ H2 () () F (B1.trans U)
 .refine⟨cz ∅ ∅,?_⟩
  refine aI D1 () () λr2 H2 ad ah F U=>?_
  exact⟨_,rfl,k _ H2 () () F (B1.trans U)⟩
abbrev Dz4:=Fn P w K mg base "_law_numbers" 3 ["_law_deal_here","_law_many_here"] (wC)
theorem lG (T:Txt w K mg) (L:FnL K mg "_law_numbers" eF ["_law_deal_here","_law_many_here"]) (Fa : @Dz0 P w K mg base) (Fb : @Dz3 P w K mg base) : @Dz4 P w K mg base:=by
 ctx_has z lM <;> obtain⟨d,l,m,rfl,D,m0,m1,k⟩:=h
 .rfl
 refine⟨_,(ai (ay 2 (ag Fb (aa (pvM 0) (aa af ac))))
  (ai (ay 3 (bu ac))
  (ai (da (ck rfl T.b_range (aa (pvM 1) ac)) (aP 4) (ai (bY (fe Ih Ii fT (pvM 3) (aa (ag Fa (aa (pvM 0) (aa (ax aW (ar be T.b_len (aa (pvM 3) ac)) af) ac))) (aa (pvM 2) ac))))
  (ao (ay 2 (ax aW (ax aW (pvM 2) af) (aB dI (bu (aa af (aa af (aa (ag Fa (aa (pvM 0) (aa af ac))) ac)))) (ag Fa (aa (pvM 0) (aa af ac)))))))))
  (ao (aA (aM bo T.b_tuple (aa (pvM 3) ac))))))),?_⟩
 ctx_has v
 refine⟨d,l,_,rfl,D,∅,∅,λlo H1 ap aq D1 B1=>?_⟩
 ctx_has v
 refine⟨∅,λp hp=>⟨(),(),?_⟩⟩
 have np:=D1.ne hp;refine gJ cm (λi σ H'=>∃(ns:List Int) (U:Int) (vk:Option V),σ=[-d,some (.int m),some (.int U),-p,vk]/\ns.length=i/\ns.Nodup/\(∀x∈ns,-999000<=x/\x < U)/\-999000<=U/\U<=999000+16 * i/\H' p*>(ns.map V.int)/\av H' d l/\But d l H H')
  ⟨[],_,_,rfl,rfl,by simp,by simp,ap,(),ae,D1.new hp,B1.new hp⟩ (λ_ _ _ _=>g9) ?_ ?_
 .rintro i x σ H2 hi hx ⟨ns,U,vk,rfl,hlen,hnd,hall,l0,l1,h2,D2,B2⟩
  rw[aG] at hi;ctx_has v h2
  refine aI D2 (by rw[f_];omega) (by rw[f_];omega) λr3 H3 an aj D3 B3=>?_
  have h3:=B3 p _ np.1 np.2 h2;ctx_has v h3
  simp only[f_] at aj;refine⟨an,by simp;omega,by simp;exact aw (),?_⟩
  have fr:H p=none:=B1.free D1 hp
  refine aI (D3.put np.1 np.2) ∅ ∅ λr4 H4 ah ad D4 B4=>?_
  refine⟨∅,λp2 Z=>?_⟩
  refine pS D4 Z ∅ ∅ rfl λr5 v H5 hv ha D5 B5 h5=>?_
  have am:=B5 p _ np.1 np.2 (B4 p _ np.1 np.2 ae);obtain⟨y,rfl,y0,y1⟩ : ∃y:Int,v = .int y/\0<=y/\y < 16:=by
   simp only[i4,md,or_false] at hv;rcases hv with rfl | rfl | rfl
   .exact⟨0,rfl,∅,∅⟩
   .exact⟨0,rfl,∅,∅⟩
   .exact⟨r4,rfl,ah,ad⟩
  ctx_has v h5 ha
  refine⟨ns.take r3.toNat++U :: ns.drop r3.toNat,by simp;omega,xK _ hnd (λq=>by have:=hall U q;omega),λz hz=>?_,(),(),by rw[am];simp,D5,((B2.trans B3).put fr).trans (B4.trans B5)⟩
  rcases AY _ hz with rfl | q
  .omega
  .have:=hall z q;omega
 .rintro σ H2 ⟨ns,U,vk,rfl,hlen,hnd,hall,l0,l1,h2,D2,B2⟩
  rw[aG] at hlen l1;ctx_has v h2
  intro p2 Z;exact k p2 ns _ (B2.free D2 Z) hlen hnd (λx hx=>by have:=hall x hx;omega) ae (D2.new Z) (B2.new Z)
abbrev Dz5:=Fn P w K mg base "_law_many" 2 ["_law_deal_here","_law_most"] (DP)
theorem qu (T:Txt w K mg) (L:FnL K mg "_law_many" gQ ["_law_deal_here","_law_most"]) (Fa : @Dz0 P w K mg base) : @Dz5 P w K mg base:=by
 ctx_has z pM <;> obtain⟨d,l,m,rfl,D,m0,m1,k⟩:=h
 .rfl
 refine⟨_,(ao (aA (aB dI (bu (aa (ag Fa (aa (pvM 0) (aa (ax aW (ar (iy rfl) T.b_min (aa (pvM 1) (aa af ac))) af) ac))) (aa (ag Fa (aa (pvM 0) (aa (ax aW (pvM 1) af) ac))) (aa (pvM 1) ac)))) (ax fR (ag Fa (aa (pvM 0) (aa af ac))) af)))),?_⟩
 ctx_has v
 refine aI D (by split <;> omega) (by split <;> omega) λr H1 r0 r1 D1 B1=>?_
 refine aI D1 () () λr2 H2 F ai U B2=>?_
 refine⟨∅,λp hp=>?_⟩
 refine aI (U.new hp) ∅ ∅ λr3 Z ah ad D3 B3=>?_
 have h3:=B3 p _ (U.ne hp).1 (U.ne hp).2 ae;obtain⟨v,ha,hv⟩:=ma (xs:=[V.int r,V.int r2,V.int m]) (i:=r3 / 3) () (by simp;omega)
 refine⟨_,rfl,⟨∅,∅⟩,_,h3,_,ha,?_⟩
 have BB:=((B1.trans B2).new (o:=.lst [V.int r,V.int r2,V.int m]) hp).trans B3;simp only[i4,md,or_false] at hv;rcases hv with rfl | rfl | rfl
 .exact k _ Z r0 (by split at r1 <;> omega) D3 BB
 .exact k _ Z F () D3 BB
 .exact k _ Z m0 () D3 BB
def bz (H H':Hp):Prop:=∀a vs,H a>>vs->H' a>>vs
theorem bz.trans (a:bz H H1) (b:bz H1 H2):bz H H2:=λp vs h=>b p vs (a p vs h)
theorem ak.keepT (a:ak H H1):bz H H1:=λp vs h=>a p _ h
theorem But.keepT {l:Addr} (a:But d l H H1) (D:av H d l):bz H H1:=λp vs h=>by
 obtain⟨m,L,n,xs,F,hl,_⟩:=D.ex;exact a p _ (eV h F (by intro z;cases z)) (eV h hl (by intro z;cases z)) h
theorem bc (h:H p*>ys):bz H (upd H p o):=λb vs e=>by
 rw[ah (eV e h (by intro z;cases z))];exact e
inductive Tr where
 | non | bl (b:Bool) | int (i:Int) | str (s:Str) | tup (l:List Tr)
mutual
def TV (H:Hp) (v:V):Tr->Prop
 | .non=>v = .non
 | .bl b=>v = .bl b
 | .int i=>v = .int i
 | .str s=>v = .str s/\s.length<=20
 | .tup l=>∃a xs,v = .ref a/\H a>>xs/\TVs H xs l
def TVs (H:Hp) (xs:List V):List Tr->Prop
 | []=>xs=[]
 | t :: l=>∃x ys,xs=x :: ys/\TV H x t/\TVs H ys l
end
mutual
theorem TV.keep {H H':Hp} (k:bz H H') : ∀(t:Tr) {v:V},TV H v t->TV H' v t
 | .non,_,h=>h
 | .bl _,_,h=>h
 | .int _,_,h=>h
 | .str _,_,h=>h
 | .tup l,_,h=>by
  obtain⟨a,xs,e,F,r⟩:=h;exact⟨a,xs,e,k _ _ F,TVs.keep k l r⟩
theorem TVs.keep {H H':Hp} (k:bz H H') : ∀(l:List Tr) {xs:List V},TVs H xs l->TVs H' xs l
 | [],_,h=>h
 | t :: l,_,h=>by
  obtain⟨x,ys,e,a,b⟩:=h;exact⟨x,ys,e,TV.keep k t a,TVs.keep k l b⟩
end
theorem TVs.len {H:Hp} : ∀{l:List Tr} {xs:List V},TVs H xs l->xs.length=l.length
 | [],_,h=>by rw[show _=[] from h];rfl
 | t :: l,_,h=>by obtain⟨x,ys,rfl,_,b⟩:=h;simp[TVs.len b]
theorem TVs.at {H:Hp} : ∀{l:List Tr} {xs:List V} {i:Nat} {x:V},TVs H xs l->xs[i]? = some x->∃t,l[i]? = some t/\TV H x t
 | [],_,i,x,h,e=>by rw[show _=[] from h] at e;simp at e
 | t :: l,_,i,x,h,e=>by
  obtain⟨y,ys,rfl,a,b⟩:=h;cases i with
  | zero=>simp at e;subst e;exact⟨t,rfl,a⟩
  | succ i=>simpa using TVs.at b (by simpa using e)
theorem TVs.get {H:Hp} : ∀{l:List Tr} {xs:List V} {i:Nat} {t:Tr},TVs H xs l->l[i]? = some t->∃x,xs[i]? = some x/\TV H x t
 | [],_,i,t,h,e=>by simp at e
 | t :: l,_,i,t',h,e=>by
  obtain⟨y,ys,rfl,a,b⟩:=h;cases i with
  | zero=>simp at e;subst e;exact⟨y,rfl,a⟩
  | succ i=>simpa using TVs.get b (by simpa using e)
theorem TVs.app {H:Hp} : ∀{l m:List Tr} {xs ys:List V},TVs H xs l->TVs H ys m->TVs H (xs++ys) (l++m)
 | [],_,_,_,h,h2=>by rw[show _=[] from h];exact h2
 | t :: l,_,_,_,h,h2=>by
  obtain⟨y,zs,rfl,a,b⟩:=h;exact⟨y,_,rfl,a,TVs.app b h2⟩
theorem TVs.one {x:V} {t:Tr} (h:TV H x t):TVs H [x] [t]:=⟨x,[],rfl,h,rfl⟩
def trK:Key->Tr
 | .inl i=>.int i
 | .inr s=>.str s
theorem pQ {a b:Key} (h:trK a=trK b):a=b:=by cases a <;> cases b <;> cases h <;> rfl
theorem tvK {v:V} {k:Key} (h:TV H v (trK k)):v=kV k:=by
 cases k with
 | inl i=>exact h
 | inr s=>exact h.1
theorem yB {H:Hp} : ∀{ks:List Key} {xs:List V},TVs H xs (ks.map trK)->xs=ks.map kV
 | [],_,h=>h
 | k :: ks,_,h=>by
  obtain⟨y,zs,rfl,a,b⟩:=h;rw[tvK a,yB b];rfl
theorem zg {H:Hp} : ∀{F:List (List Key)} {xs:List V},TVs H xs (F.map λks=>.tup (ks.map trK))->KTs H xs F
 | [],_,h=>by rw[show _=[] from h];trivial
 | ks :: F,_,h=>by
  obtain⟨y,zs,rfl,⟨a,us,rfl,L,hu⟩,b⟩:=h;rw[yB hu] at L;exact⟨⟨a,rfl,L⟩,zg b⟩
theorem cn {α β:Type} {f:α->β} (U : ∀a b,f a=f b->a=b) : ∀{l:List α},(l.map f).Nodup↔l.Nodup
 | []=>by simp
 | a :: l=>by
  rw[k9,D_,D_,cn U]
  constructor
  .exact λF=>by obtain⟨h1,h2⟩:=F;exact(⟨λz=>h1 (HF z),h2⟩)
  .exact λL=>by obtain⟨h1,h2⟩:=L;exact(⟨λz=>h1 (by obtain⟨b,Z,e⟩:=v9.mp z;rwa [<- U _ _ e]),h2⟩)
theorem sC {a b:List Key} (h:Tr.tup (a.map trK)=Tr.tup (b.map trK)):a=b:=by
 injection h with h
 induction a generalizing b with
 | nil=>cases b with
  | nil=>rfl
  | cons _ _=>cases h
 | cons x a F=>cases b with
  | nil=>cases h
  | cons y b=>injection h with h1 h2;rw[pQ h1,F h2]
noncomputable def dec (p:Prop):Bool:=@decide p (I0 p)
theorem dw {p:Prop} (h:p):dec p=true:=by unfold dec;exact @decide_eq_true p (I0 p) h
theorem iB {p:Prop} (h : ¬ p):dec p=false:=by unfold dec;exact @decide_eq_false p (I0 p) h
theorem mj {p q:Prop} (h:p↔q):dec p=dec q:=by rw[propext h]
theorem Cz {p:Prop} (h:dec p=true):p:=by
 by_cases z:p
 .exact z
 .rw[iB z] at h;cases h
noncomputable def unT (l:List Tr):Bool:=dec l.Nodup
def R0:Hp->Prop:=λ_=>True
def spB (R:Hp->Prop) (g:Tr->Bool):Sp:=λvs H Q _=>∃(v:V) (t:Tr),vs=[v]/\TV H v t/\R H/\∀H',ak H H'->Q (.bl (g t)) H'
def pK:Tr->Bool
 | .int _=>true
 | _=>false
def bO (lo hi:Int):Tr->Bool
 | .int i=>decide (lo<=i) && decide (i<=hi)
 | _=>false
def dD:Tr->Bool:=bO (-1000000) 1000000
def stT:Tr->Bool:=bO 0 20
def nmB (s:Str):Bool:=decide (1<=s.length) && decide (s.length<=8) && !inV (.str s) mY && s.cps.toList.all bV
def bU:Tr->Bool
 | .str s=>nmB s
 | _=>false
def GO:Sp:=λvs H Q _=>∃(v:V) (t:Tr) (lo hi:Int),vs=[v,.int lo,.int hi]/\TV H v t/\∀H',ak H H'->Q (.bl (bO lo hi t)) H'
def bq (g:Tr->Bool) (lo hi:Int):Tr->Bool
 | .tup l=>decide (lo<=(l.length:Int)) && (decide ((l.length:Int)<=hi) && l.all g)
 | _=>false
def jK (f:Addr) (R:Hp->Prop) (g:Tr->Bool):Sp:=λvs H Q _=>∃(v:V) (t:Tr) (lo hi:Int),vs=[v,.ref f,.int lo,.int hi]/\TV H v t/\R H/\hi<=69/\∀H',ak H H'->Q (.bl (bq g lo hi t)) H'
theorem wu {C:Hp->Prop} (w:Wlk J xs C) {te:TE} {σ0:St} {Q:VK} {H1:Hp} {D:Addr} {l:List Tr} (f:Tr->V) (hl:TVs H1 xs l) (L:H1 D=none) (hC : ∀H',ak H1 H'->C H') (hn:xs.length<=1000)
  (he : ∀(x:V) (t:Tr) (H2:Hp) (Z:VK),t∈l->TV H2 x t->ak H1 H2->(∀H3,ak H2 H3->Z (f t) H3)->te (σ0.set 0 (some x)) H2 Z)
  (F : ∀H2,ak H1 H2->H2 D*>(l.map f)->Q (.ref D) H2):lq J σ0 (cH 0) lU te Q H1 D:=by
 refine eR w (λi ys H=>ys=(l.take i).map f/\i<=xs.length/\ak H1 H/\H D*>ys) ⟨by simp,HG _,ak.upd0 L,ae⟩ (λi ys H h=>hC _ h.2.2.1) ?_ ?_
 .rintro i x ys H hi hx ⟨rfl,hle,sm,F⟩
  simp only[cH,lU,if_true];obtain⟨t,et,tv⟩:=hl.at hx;refine he x t H _ (j7 et) (TV.keep (ak.keepT sm) t tv) sm λH4 U=>⟨U _ _ F,by simp;exact aw (),?_,hi,?_,ae⟩
  .rw[w5,et];simp
  .exact λb o e=>by rw[ah (aj e L)];exact U _ _ (sm b o e)
 .rintro ys H ⟨rfl,_,sm,hD2⟩
  refine F H sm ?_
  rw[hD2,hl.len,A_]
def xR:Sp:=λvs H Q _=>∃(p:Addr) (xs:List V),vs=[.ref p]/\(H p>>xs\/H p*>xs)/\xs.length<=69/\((∃ks:List Key,xs=ks.map kV/\∀H',ak H H'->Q (.bl (dec ks.Nodup)) H')\/∃F:List (List Key),KTs H xs F/\∀H',ak H H'->Q (.bl (dec F.Nodup)) H')
theorem jo (T:Txt w K mg) (L:FnL K mg "is_number" ie ["thing"]):Fn P w K mg base "is_number" 1 ["thing"] (spB R0 pK):=by
 ctx_has z qc <;> obtain⟨v,t,rfl,F,Z,k⟩:=h
 .rfl
 refine⟨_,(ao (aA (aN (ar cG T.b_isinstance (aa (pvM 0) (aa (gU (T := "int") rfl T.b_int (by decide+kernel)) ac))) (bT (CC (ar cG T.b_isinstance (aa (pvM 0) (aa (gU (T := "bool") rfl T.b_bool (by decide+kernel)) ac)))))))),?_⟩
 cases t with
 | non=>cases (show v=_ from F);ctx_has v pK;exact k _ (ak.refl _)
 | bl b=>cases (show v=_ from F);ctx_has v pK Bool.not_true;exact k _ (ak.refl _)
 | int i=>cases (show v=_ from F);ctx_has v pK;exact k _ (ak.refl _)
 | str s=>obtain⟨rfl,hs⟩:=F;ctx_has v pK;exact k _ (ak.refl _)
 | tup l =>
  obtain⟨a,xs,rfl,U,hl⟩:=F;ctx_has v pK U;exact k _ (ak.refl _)
abbrev Dz6:=Fn P w K mg base "is_whole" 2 ["thing","least","greatest"] (GO)
theorem ll (T:Txt w K mg) (L:FnL K mg "is_whole" jd ["thing","least","greatest"]) (U:Fn P w K mg base "is_number" 1 ["thing"] (spB R0 pK)) : @Dz6 P w K mg base:=by
 ctx_has z rB <;> obtain⟨v,t,lo,hi,rfl,F,k⟩:=h
 .rfl
 refine⟨_,(ao (aA (aN (ag U (aa (pvM 0) ac)) (bT (mU pI pI (pvM 1) (pvM 0) (pvM 2)))))),?_⟩
 ctx_has v
 refine⟨v,t,rfl,F,g9,λH1 s1=>?_⟩
 cases t with
 | int i =>
  cases (show v=_ from F)
  ctx_has v pK reduceIte j_
  have k:=k H1 s1;simp only[bO] at k;refine bR (λh=>?_) (λh=>?_)
  .rw[decide_eq_true h,o7] at k;exact k
  .rw[decide_eq_false h,p_] at k;exact k
 | _=>ctx_has v pK j_ if_false bO;exact k H1 s1
abbrev Dz7:=Fn P w K mg base "is_value" 3 ["thing"] (spB R0 dD)
theorem lA (T:Txt w K mg) (L:FnL K mg "is_value" iU ["thing"]) (F : @Dz6 P w K mg base) : @Dz7 P w K mg base:=by
 ctx_has z rG <;> obtain⟨v,t,rfl,U,Z,k⟩:=h
 .rfl
 refine⟨_,(ao (aA (ag F (aa (pvM 0) (aa (dz cy (dN T.c_GREATEST_VALUE rfl)) (aa (dN T.c_GREATEST_VALUE rfl) ac)))))),?_⟩
 ctx_has v
 exact⟨v,t,_,_,rfl,U,k⟩
theorem sF (T:Txt w K mg) (L:FnL K mg "is_state" je ["thing"]) (F : @Dz6 P w K mg base):Fn P w K mg base "is_state" 3 ["thing"] (spB R0 stT):=by
 ctx_has z tj <;> obtain⟨v,t,rfl,U,Z,k⟩:=h
 .rfl
 refine⟨_,(ao (aA (ag F (aa (pvM 0) (aa af (aa (dN T.c_GREATEST_STATE rfl) ac)))))),?_⟩
 ctx_has v
 exact⟨v,t,_,_,rfl,U,k⟩
abbrev Dz8:=Fn P w K mg base "is_name" 1 ["thing"] (spB R0 bU)
theorem ub (T : Txt w K mg) (L:FnL K mg "is_name" ip ["thing"]) : @Dz8 P w K mg base:=by
  ctx_has z tP <;> obtain⟨v,t,rfl,F,hR,k⟩:=h
  . rfl
  refine⟨_,(ai (bi (PW.pt (lh (jg (gq (ar cG T.b_isinstance (aa (pvM 0) (aa (gU (T := "str") rfl T.b_str (by decide+kernel)) ac))))) (iS (jg (At pI pI af (ar pF T.b_len (aa (pvM 0) ac)) (dN T.c_LONGEST_NAME rfl)))))) (ao (aA nA)) aK)
    (ao (aA (aN (bH xM (pvM 0) (Gc T.c_MARKS rfl)) (bT (ar (ir rfl) T.b_all (aa (dj (N:=["sign"]) (nt:=1) (js:=[]) (bI ["thing"] (am ip).names) (C1 (pvM 0)) (aP 0) bN cr (mU Am Am aq (pvM 0) aq)) ac))))))),?_⟩
  cases t with
  | str z =>
    obtain⟨rfl,hz⟩:=F;ctx_has v bU
    simp only[bU,nmB] at k;refine⟨pj (aw ()),?_⟩
    refine bR (λh1=>?_) (λh1=>?_)
    . refine bR (λh2=>?_) (λh2=>?_)
      . have h2 : ¬ ((z.length:Int)<=8):=of_decide_eq_false h2
        rw[decide_eq_false (show ¬ z.length<=8 by omega)] at k
        simpa using k H (ak.refl _)
      . have h2:((z.length:Int)<=8):=by simpa using h2
        rw[decide_eq_true (show 1<=z.length by omega),decide_eq_true (show z.length<=8 by omega)] at k
        intro a Z;refine⟨_,Z,rfl,by decide+kernel,?_⟩
        refine bR (λU=>?_) (λU=>?_)
        . intro D hD
          refine Ai AA (f:=λv=>match v with | .str x=>.bl (bV (x.cps.getD 0 0)) | _=>.non) hD (λ_ _=>g9) (by simp[wW];show z.length<=1000;omega) ?_ ?_
          . intro x H2 Q2 hx sm q
            obtain⟨c,hc,rfl⟩:=v9.mp hx;ctx_has v
            rw[GE,GH];exact yT (Q:=λb=>Q2 (.bl b) H2) q
          . intro H2 sm h2
            refine⟨D,rfl,z.cps.toList.map bV,?_,?_⟩
            . rw[h2];simp[wW]
            . rw[U] at k
              have:=k H2 sm
              simpa using this
        . have U:inV (.str z) mY=true:=by simpa using U
          rw[U] at k;simpa using k H (ak.refl _)
    . rw[decide_eq_false (show ¬ 1<=z.length by omega)] at k
      simpa using k H (ak.refl _)
  | int i=>cases (show v=_ from F);ctx_has v bU;exact k _ (ak.refl _)
  | bl s=>cases (show v=_ from F);ctx_has v bU;exact k _ (ak.refl _)
  | non=>cases (show v=_ from F);ctx_has v bU;exact k _ (ak.refl _)
  | tup l =>
    obtain⟨a,xs,rfl,Z,hl⟩:=F;ctx_has v bU Z;exact k _ (ak.refl _)
theorem gW {fH:Addr} {aH:Str} {R:Hp->Prop} {gT:Tr->Bool} {kH:Nat} (Z : ∀H H1,ak H H1->R H->R H1) (af:PySem.W.FnAt fH base) (ad:dP K fdH [aH] []) (FH:dY P w K mg base CX0 kH fH fdH [aH] (spB R gT)) (T:Txt w K mg) (L:FnL K mg "is_tuple_of" bW ["thing","is_one","least","most"]):Fn P w K mg base "is_tuple_of" (kH+3) ["thing","is_one","least","most"] (jK fH R gT):=by
 ctx_has z mE <;> obtain⟨v,t,lo,hi,rfl,F,hR,ag,k⟩:=h
 .rfl
 refine⟨_,(ao (aA (aN (ar cG T.b_isinstance (aa (pvM 0) (aa (gU (T := "tuple") rfl T.b_tuple (by decide+kernel)) ac))) (aN (mU pI pI (pvM 2) (ar bf T.b_len (aa (pvM 0) ac)) (pvM 3)) (bT (ar (ir rfl) T.b_all (aa (dj (N:=["one","is_one"]) (nt:=1) (js:=[1]) (bI ["thing","is_one","least","most"] (am bW).names) (kZ K (pvM 0)) (aP 0) bN cr (Ao (i:=1) FH af ad (hr.mono (by ctx_has m)) wc rfl (by first | exact Or.inl rfl | exact Or.inr (Or.inl rfl) | exact Or.inr (Or.inr rfl)) (aa (pvM 0) ac))) ac))))))),?_⟩
 cases t with
 | tup l =>
  obtain⟨a,xs,rfl,ha,hl⟩:=F;have U:=hl.len;simp only[bq] at k;ctx_has v ha U
  refine bR (λh1=>?_) (λh1=>?_)
  .refine bR (λh2=>?_) (λh2=>?_)
   .rw[decide_eq_true h1,decide_eq_true h2,o7,o7] at k
    intro D hD;refine wu eU (λt=>V.bl (gT t)) hl hD (λH' s=>.of (s _ _ ha)) () ?_ ?_
    .intro x t H2 Q2 _ tv sm q2
     ctx_has v yj
     exact⟨x,t,rfl,tv,Z _ _ sm hR,q2⟩
    .intro H2 sm h2
     ctx_has v
     refine⟨l.map gT,by rw[h2,Ij];rfl,?_⟩
     have:=k H2 sm
     rw[all_map];exact this
   .rw[decide_eq_false h2,p_,Bool.and_false] at k
    exact k _ (ak.refl _)
  .rw[decide_eq_false h1,p_] at k
   exact k _ (ak.refl _)
 | int i=>cases (show v=_ from F);ctx_has v bq;exact k _ (ak.refl _)
 | bl s=>cases (show v=_ from F);ctx_has v bq;exact k _ (ak.refl _)
 | non=>cases (show v=_ from F);ctx_has v bq;exact k _ (ak.refl _)
 | str s=>obtain⟨rfl,hs⟩:=F;ctx_has v bq;exact k _ (ak.refl _)
abbrev Dz9:=Fn P w K mg base "are_unlike" 1 ["things"] (xR)
theorem oA (T:Txt w K mg) (L:FnL K mg "are_unlike" gz ["things"]) : @Dz9 P w K mg base:=by
 ctx_has z oq <;> obtain⟨p,xs,rfl,hp,ad,hk⟩:=h
 .rfl
 refine⟨_,(ao (aA (bH bA (ar uv T.b_len (aa (aM (xh rfl (sG hr)) T.b_set (aa (pvM 0) ac)) ac)) (ar tR T.b_len (aa (pvM 0) ac))))),?_⟩
 ctx_has v
 refine⟨p,rfl,xs,hp,ad,?_⟩
 have U : ∀(n m:Nat) (c:Prop),(n=m↔c)->(∀H',ak H H'->Q (.bl (dec c)) H')->xs.length=m->∀q,H q=none->yy [V.ref q] (upd H q (SzS q n)) (λx H1=>yD [V.ref p] H1 λy H2=>qL x y=true/\Q (V.bl (decide (x=y))) H2):=by
  intro n m c hc k hm q F;have Z : ∀ys,H p=some ys->p≠q:=λys e=>aj e F
  refine⟨q,rfl,n,ae,p,rfl,xs,?_,rfl,?_⟩
  .rcases hp with hp | hp
   .exact .inl (by rw[ah (Z _ hp)];exact hp)
   .exact .inr (by rw[ah (Z _ hp)];exact hp)
  .have e:decide (V.int (n:Int)=V.int (xs.length:Int))=dec c:=by
    by_cases z:c
    .rw[dw z,hm];exact decide_eq_true (by rw[hc.mpr z])
    .rw[iB z,hm];exact decide_eq_false (λe=>z (hc.mp (by injection e with e;omega)))
   rw[e];exact k _ (ak.upd0 F)
 rcases hk with⟨ks,rfl,k⟩ | ⟨kss,ht,k⟩
 .exact .inl ⟨ks,rfl,λq F=>U _ _ _ (sP ks) k (by simp) q F⟩
 .exact .inr ⟨kss,ht,λq F=>U _ _ _ (sP kss) k (vB ht).1 q F⟩
noncomputable def unX:Tr->Bool
 | .tup l=>unT l
 | _=>false
theorem lY {g:Tr->Bool} (F : ∀t,g t=true->∃k,t=trK k) : ∀{l:List Tr},l.all g=true->∃ks:List Key,l=ks.map trK
 | [],_=>⟨[],rfl⟩
 | t :: l,h=>by
  rw[IR,fx] at h;obtain⟨k,rfl⟩:=F t h.1;obtain⟨ks,rfl⟩:=lY F h.2;exact⟨k :: ks,rfl⟩
theorem qg {g:Tr->Bool} (L : ∀t,g t=true->∃ks:List Key,t = .tup (ks.map trK)) : ∀{l:List Tr},l.all g=true->∃F:List (List Key),l=F.map λks=>.tup (ks.map trK)
 | [],_=>⟨[],rfl⟩
 | t :: l,h=>by
  rw[IR,fx] at h;obtain⟨k,rfl⟩:=L t h.1;obtain⟨ks,rfl⟩:=qg L h.2;exact⟨k :: ks,rfl⟩
theorem cA {g:Tr->Bool} {t:Tr} (h:bq g lo hi t=true) : ∃l,t = .tup l/\lo<=l.length/\(l.length:Int)<=hi/\l.all g=true:=by
 cases t with
 | tup l =>
  simp only[bq,fx,decide_eq_true_eq] at h;exact⟨l,rfl,h.1,h.2.1,h.2.2⟩
 | _=>cases h
theorem A0 {v:V} {Q:VK} {E:XK} (U:TV H v (.tup (ks.map trK))) (hl:ks.length<=69) (k : ∀H',ak H H'->Q (.bl (unT (ks.map trK))) H'):xR [v] H Q E:=by
 obtain⟨a,xs,rfl,L,F⟩:=U;have e:=yB F;subst e;refine⟨a,_,rfl,.inl L,by simpa using hl,.inl ⟨ks,rfl,λH' s=>?_⟩⟩
 have:=k H' s
 unfold unT at this
 rwa [mj (cn λa b=>pQ)] at this
theorem tO {g:Tr->Bool} (L : ∀t,g t=true->∃k,t=trK k) {H:Hp} {v:V} {t:Tr} {lo hi:Int} {Q:VK} {E:XK} (U:TV H v t) (Z:bq g lo hi t=true) (F:hi<=69) (k : ∀H',ak H H'->Q (.bl (unX t)) H'):xR [v] H Q E:=by
 obtain⟨l,rfl,h1,h2,h3⟩:=cA Z;obtain⟨ks,rfl⟩:=lY L h3;rw[f_] at h2;exact A0 U () k
theorem DW {g:Tr->Bool} (hg : ∀t,g t=true->∃ks:List Key,t = .tup (ks.map trK)) {H:Hp} {v:V} {t:Tr} {lo hi:Int} {Q:VK} {E:XK} (ht:TV H v t) (hb:bq g lo hi t=true) (U:hi<=69) (k : ∀H',ak H H'->Q (.bl (unX t)) H'):xR [v] H Q E:=by
 obtain⟨l,rfl,h1,h2,h3⟩:=cA hb;obtain⟨F,rfl⟩:=qg hg h3;rw[f_] at h2;obtain⟨a,xs,rfl,Z,L⟩:=ht;refine⟨a,_,rfl,.inl Z,by rw[L.len,f_];omega,.inr ⟨F,zg L,λH' s=>?_⟩⟩
 have this:Q (.bl (dec (F.map λks=>Tr.tup (ks.map trK)).Nodup)) H':=k H' s
 rwa [mj (cn λa b=>sC)] at this
theorem kF : ∀t,bO lo hi t=true->∃k,t=trK k
 | .int i,_=>⟨.inl i,rfl⟩
theorem nR : ∀t,bU t=true->∃k,t=trK k
 | .str s,_=>⟨.inr s,rfl⟩
noncomputable def cF (t:Tr):Bool:=bq bU 1 12 t && unX t
noncomputable def fV (t:Tr):Bool:=bq dD 0 60 t && unX t
noncomputable def mK (t:Tr):Bool:=bq stT 0 21 t && unX t
abbrev xz:=Fn P w K mg base "are_names" 5 ["thing"] (spB R0 cF)
theorem qJ (T:Txt w K mg) (L:FnL K mg "are_names" ig ["thing"]) (Fg:Fn P w K mg base "is_tuple_of" 4 ["thing","is_one","least","most"] (jK (aF mg "is_name") R0 bU)) (Z : @Dz9 P w K mg base) : @xz P w K mg base:=by
 ctx_has z pT <;> obtain⟨v,t,rfl,U,hR,k⟩:=h
 .rfl
 refine⟨_,(ao (aA (aN (ag Fg (aa (pvM 0) (aa (cq (v:=.ref (aF mg "is_name")) rfl T.at_is_name rfl) (aa af (aa (dN T.c_MOST_CELLS rfl) ac))))) (bT (ag Z (aa (pvM 0) ac)))))),?_⟩
 ctx_has v
 refine⟨v,t,_,_,rfl,U,g9,∅,λH1 s1=>?_⟩
 cases F:bq bU 1 12 t with
 | false =>
  ctx_has v j_ if_false
  have:=k H1 s1
  simp only[cF,F,p_] at this;exact this
 | true =>
  ctx_has v if_true
  refine tO nR (TV.keep (ak.keepT s1) t U) F ∅ λH2 s2=>?_
  have:=k H2 (s1.trans s2)
  simp only[cF,F,o7] at this;exact this
abbrev EL:=Fn P w K mg base "is_tuple_of" 6 ["thing","is_one","least","most"] (jK (aF mg "is_value") R0 dD)
abbrev CG:=Fn P w K mg base "are_values" 7 ["thing"] (spB R0 fV)
theorem oF (T:Txt w K mg) (L:FnL K mg "are_values" gc ["thing"]) (Fg : @EL P w K mg base) (Z : @Dz9 P w K mg base) : @CG P w K mg base:=by
 ctx_has z nU <;> obtain⟨v,t,rfl,U,hR,k⟩:=h
 .rfl
 refine⟨_,(ao (aA (aN (ag Fg (aa (pvM 0) (aa (cq (v:=.ref (aF mg "is_value")) rfl T.at_is_value rfl) (aa af (aa (dN T.c_MOST_VALUES rfl) ac))))) (bT (ag Z (aa (pvM 0) ac)))))),?_⟩
 ctx_has v
 refine⟨v,t,_,_,rfl,U,g9,∅,λH1 s1=>?_⟩
 cases F:bq dD 0 60 t with
 | false =>
  ctx_has v j_ if_false
  have:=k H1 s1
  simp only[fV,F,p_] at this;exact this
 | true =>
  ctx_has v if_true
  refine tO kF (TV.keep (ak.keepT s1) t U) F ∅ λH2 s2=>?_
  have:=k H2 (s1.trans s2)
  simp only[fV,F,o7] at this;exact this
theorem sD (T:Txt w K mg) (L:FnL K mg "are_ends" iV ["thing"]) (Fg:Fn P w K mg base "is_tuple_of" 6 ["thing","is_one","least","most"] (jK (aF mg "is_state") R0 stT)) (Z : @Dz9 P w K mg base):Fn P w K mg base "are_ends" 7 ["thing"] (spB R0 mK):=by
 ctx_has z rq <;> obtain⟨v,t,rfl,U,hR,k⟩:=h
 .rfl
 refine⟨_,(ao (aA (aN (ag Fg (aa (pvM 0) (aa (cq (v:=.ref (aF mg "is_state")) rfl T.at_is_state rfl) (aa af (aa (ax aW (dN T.c_GREATEST_STATE rfl) af) ac))))) (bT (ag Z (aa (pvM 0) ac)))))),?_⟩
 ctx_has v
 refine⟨v,t,_,_,rfl,U,g9,∅,λH1 s1=>?_⟩
 rw[show((20:Int)+1)=21 from rfl]
 cases F:bq stT 0 21 t with
 | false =>
  ctx_has v j_ if_false
  have:=k H1 s1
  simp only[mK,F,p_] at this;exact this
 | true =>
  ctx_has v if_true
  refine tO kF (TV.keep (ak.keepT s1) t U) F ∅ λH2 s2=>?_
  have:=k H2 (s1.trans s2)
  simp only[mK,F,o7] at this;exact this
theorem jM {l:List Tr} (h:TVs H xs l) (i:Nat) (hi:i < l.length) : ∃x,atI xs (i:Int)=some x/\TV H x (l.getD i .non):=by
 obtain⟨x,e,t⟩:=h.get (i:=i) (t:=l.getD i .non) (by simp[zc,hi])
 exact⟨x,bh e,t⟩
def gF (R:Hp->Prop) (g:List Tr->Bool):Sp:=λvs H Q _=>∃(v:V) (l:List Tr),vs=[v]/\TV H v (.tup l)/\R H/\∀H',ak H H'->Q (.bl (g l)) H'
def mbT:Tr->Bool:=bO 0 1000000000
def sbT:Tr->Bool
 | .non=>true
 | t=>bO (-10000000000000) 10000000000000 t
def gpT:Tr->Bool:=bO (-1000000000) 1000000000
noncomputable def cV (l:List Tr):Bool:=decide (l.length=2) && cF (l.getD 1 .non)
noncomputable def jq (l:List Tr):Bool:=decide (l.length=5) && (fV (l.getD 1 .non) && (cF (l.getD 2 .non) && (mbT (l.getD 3 .non) && mbT (l.getD 4 .non))))
noncomputable def dk (l:List Tr):Bool:=decide (l.length=3) && (cF (l.getD 1 .non) && gpT (l.getD 2 .non))
theorem fG {l:List Tr} {c:Bool} {Q:VK} {A:Prop} (k : ∀H',ak H H'->Q (.bl (decide (l.length=n) && c)) H') (nx:l.length=n->(∀H',ak H H'->Q (.bl c) H')->A):if (l.length:Int)=(n:Int) then A else Q (.bl false) H:=by
 by_cases h:l.length=n
 .rw[if_pos ()]
  exact nx h λH' s=>by have:=k H' s;rwa [decide_eq_true h,o7] at this
 .rw[if_neg ()]
  have:=k H (ak.refl _)
  rwa [decide_eq_false h,p_] at this
theorem DJ {R:Hp->Prop} {g:Tr->Bool} {x:V} {t:Tr} {c:Bool} {Q:VK} {A:Hp->Prop} (tv:TV H x t) (L:R H) (k : ∀H',ak H H'->Q (.bl (g t && c)) H') (nx : ∀H',ak H H'->g t=true->(∀H2,ak H' H2->Q (.bl c) H2)->A H') :
  spB R g [x] H (λy H1=>∃b,y=V.bl b/\if b=true then A H1 else Q (V.bl false) H1) E0:=by
 refine⟨x,t,rfl,tv,L,λH1 s1=>⟨_,rfl,?_⟩⟩
 cases F:g t with
 | false =>
  have:=k H1 s1
  rw[F,p_] at this;rw[if_neg i6];exact this
 | true =>
  rw[if_pos rfl];refine nx H1 s1 F λH2 U=>?_
  have:=k H2 (s1.trans U)
  rwa [F,o7] at this
theorem bX {R:Hp->Prop} {g:Tr->Bool} {l:List Tr} {c:Bool} {Q:VK} {A:Hp->Prop} (i:Nat) (hl:TVs H xs l) (hi:i < l.length) (F:R H) (k : ∀H',ak H H'->Q (.bl (g (l.getD i .non) && c)) H') (nx : ∀H',ak H H'->g (l.getD i .non)=true->(∀H2,ak H' H2->Q (.bl c) H2)->A H') :
  ∃v,atI xs (i:Int)=some v/\spB R g [v] H (λy H1=>∃b,y=V.bl b/\if b=true then A H1 else Q (V.bl false) H1) E0:=by
 obtain⟨x,e,tv⟩:=jM hl i hi;exact⟨x,e,DJ tv F k nx⟩
theorem gk {R:Hp->Prop} {g:Tr->Bool} {l:List Tr} {Q:VK} (i:Nat) (hl:TVs H xs l) (hi:i < l.length) (F:R H) (k : ∀H',ak H H'->Q (.bl (g (l.getD i .non))) H') : ∃v,atI xs (i:Int)=some v/\spB R g [v] H Q E0:=by
 obtain⟨x,e,tv⟩:=jM hl i hi;exact⟨x,e,x,_,rfl,tv,F,k⟩
theorem jR (T:Txt w K mg) (L:FnL K mg "is_many_bound" dG ["thing"]) (F : @Dz6 P w K mg base):Fn P w K mg base "is_many_bound" 3 ["thing"] (spB R0 mbT):=by
 ctx_has z kB <;> obtain⟨v,t,rfl,U,Z,k⟩:=h
 .rfl
 refine⟨_,(ao (aA (ag F (aa (pvM 0) (aa af (aa (dN T.c_GREATEST_MANY rfl) ac)))))),?_⟩
 ctx_has v
 exact⟨v,t,_,_,rfl,U,k⟩
theorem lQ (T:Txt w K mg) (L:FnL K mg "is_sum_bound" eO ["thing"]) (U : @Dz6 P w K mg base):Fn P w K mg base "is_sum_bound" 3 ["thing"] (spB R0 sbT):=by
 ctx_has z lI <;> obtain⟨v,t,rfl,F,hR,k⟩:=h
 .rfl
 refine⟨_,(ao (aA (E8 (tN (vo (pvM 0))) (bT (ag U (aa (pvM 0) (aa (dz cy (dN T.c_GREATEST_BOUND rfl)) (aa (dN T.c_GREATEST_BOUND rfl) ac)))))))),?_⟩
 cases t with
 | non=>cases (show v=_ from F);ctx_has v sbT;exact k _ (ak.refl _)
 | bl b=>cases (show v=_ from F);ctx_has v sbT;exact⟨_,.bl b,_,_,rfl,rfl,k⟩
 | int i=>cases (show v=_ from F);ctx_has v sbT;exact⟨_,.int i,_,_,rfl,rfl,k⟩
 | str s=>obtain⟨rfl,hs⟩:=F;ctx_has v sbT;exact⟨_,.str s,_,_,rfl,⟨rfl,hs⟩,k⟩
 | tup l =>
  obtain⟨a,xs,rfl,Z,hl⟩:=F;ctx_has v sbT;exact⟨_,.tup l,_,_,rfl,⟨a,xs,rfl,Z,hl⟩,k⟩
theorem qf (T:Txt w K mg) (L:FnL K mg "is_unlike" ij ["wish"]) (U : @xz P w K mg base):Fn P w K mg base "is_unlike" 6 ["wish"] (gF R0 cV):=by
 ctx_has z qE <;> obtain⟨v,l,rfl,ht,hR,k⟩:=h
 .rfl
 refine⟨_,(ao (aA (aN (bH bA (ar bf T.b_len (aa (pvM 0) ac)) af) (bT (ag U (aa (aB bB (pvM 0) af) ac)))))),?_⟩
 obtain⟨a,xs,rfl,Z,hl⟩:=ht;have F:=hl.len;ctx_has v Z F
 refine fG (n:=2) k λh0 k=>?_
 exact gk 1 hl () g9 k
theorem uV (T:Txt w K mg) (L:FnL K mg "is_many" jV ["wish"]) (Fe : @xz P w K mg base) (Fq : @CG P w K mg base) (Z:Fn P w K mg base "is_many_bound" 3 ["thing"] (spB R0 mbT)):Fn P w K mg base "is_many" 8 ["wish"] (gF R0 jq):=by
 ctx_has z tL <;> obtain⟨v,l,rfl,ht,hR,k⟩:=h
 .rfl
 refine⟨_,(ao (aA (aN (bH bA (ar bf T.b_len (aa (pvM 0) ac)) af) (aN (ag Fq (aa (aB bB (pvM 0) af) ac)) (aN (ag Fe (aa (aB bB (pvM 0) af) ac)) (aN (ag Z (aa (aB bB (pvM 0) af) ac)) (bT (ag Z (aa (aB bB (pvM 0) af) ac))))))))),?_⟩
 obtain⟨a,xs,rfl,F,hl⟩:=ht;have U:=hl.len;ctx_has v F U
 refine fG (n:=5) k λh0 k=>?_
 refine bX 1 hl () g9 k λH1 s1 ai k=>?_
 replace F:=s1 _ _ F
 replace hl:=TVs.keep (ak.keepT s1) l hl
 refine⟨xs,F,bX 2 hl () g9 k λH1 s1 ad k=>?_⟩
 replace F:=s1 _ _ F
 replace hl:=TVs.keep (ak.keepT s1) l hl
 refine⟨xs,F,bX 3 hl () g9 k λH1 s1 ah k=>?_⟩
 replace F:=s1 _ _ F
 replace hl:=TVs.keep (ak.keepT s1) l hl
 exact⟨xs,F,gk 4 hl () g9 k⟩
theorem ql (T:Txt w K mg) (L:FnL K mg "is_behind" io ["wish"]) (Z : @xz P w K mg base) (Ff : @Dz6 P w K mg base):Fn P w K mg base "is_behind" 6 ["wish"] (gF R0 dk):=by
 ctx_has z qv <;> obtain⟨v,l,rfl,ht,hR,k⟩:=h
 .rfl
 refine⟨_,(ao (aA (aN (bH bA (ar bf T.b_len (aa (pvM 0) ac)) af) (aN (ag Z (aa (aB bB (pvM 0) af) ac)) (bT (ag Ff (aa (aB bB (pvM 0) af) (aa (dz cy (dN T.c_GREATEST_GAP rfl)) (aa (dN T.c_GREATEST_GAP rfl) ac))))))))),?_⟩
 obtain⟨a,xs,rfl,U,hl⟩:=ht;have F:=hl.len;ctx_has v U F
 refine fG (n:=3) k λh0 k=>?_
 refine bX 1 hl () g9 k λH1 s1 ad k=>?_
 replace U:=s1 _ _ U
 replace hl:=TVs.keep (ak.keepT s1) l hl
 obtain⟨x,e,tv⟩:=jM hl 2 ()
 exact⟨xs,U,x,e,x,_,_,_,rfl,tv,k⟩
def nzT:Tr->Bool
 | .int i=>!decide (i=0)
 | _=>true
def cY:Tr->Bool
 | .tup l=>decide (l.length=2) && (dD (l.getD 0 .non) && (nzT (l.getD 0 .non) && bU (l.getD 1 .non)))
 | _=>false
def cZ:Tr->Bool
 | .tup l=>decide (l.length=3) && (stT (l.getD 0 .non) && (dD (l.getD 1 .non) && stT (l.getD 2 .non)))
 | _=>false
def itT:Tr->List Tr
 | .tup l=>l
 | _=>[]
noncomputable def ia (t:Tr):Bool:=bq cY 1 6 t && unT ((itT t).map λt=>(itT t).getD 1 .non)
noncomputable def jQ (t:Tr):Bool:=bq cZ 0 60 t && unT ((itT t).map λt=>.tup ((itT t).take 2))
noncomputable def rR (l:List Tr):Bool:=decide (l.length=4) && (ia (l.getD 1 .non) && (sbT (l.getD 2 .non) && sbT (l.getD 3 .non)))
noncomputable def so (l:List Tr):Bool:=decide (l.length=4) && (cF (l.getD 1 .non) && (jQ (l.getD 2 .non) && mK (l.getD 3 .non)))
theorem tW (T:Txt w K mg) (L:FnL K mg "is_term" jY ["thing"]) (Fr : @Dz7 P w K mg base) (Fo : @Dz8 P w K mg base):Fn P w K mg base "is_term" 4 ["thing"] (spB R0 cY):=by
 ctx_has z vC <;> obtain⟨v,t,rfl,Z,hR,k⟩:=h
 .rfl
 refine⟨_,(ao (aA (aN (ar cG T.b_isinstance (aa (pvM 0) (aa (gU (T := "tuple") rfl T.b_tuple (by decide+kernel)) ac))) (aN (bH bA (ar bf T.b_len (aa (pvM 0) ac)) af) (aN (ag Fr (aa (aB bB (pvM 0) af) ac)) (aN (bH Ck (aB bB (pvM 0) af) af) (bT (ag Fo (aa (aB bB (pvM 0) af) ac))))))))),?_⟩
 cases t with
 | tup l =>
  simp only[cY] at k;obtain⟨a,xs,rfl,U,hl⟩:=Z;have ad:=hl.len;ctx_has v U ad
  refine fG (n:=2) k λh0 k=>?_
  refine bX 0 hl () g9 k λH1 s1 F k=>?_
  replace U:=s1 _ _ U
  replace hl:=TVs.keep (ak.keepT s1) l hl
  obtain⟨x,e,tv⟩:=jM hl 0 ()
  obtain⟨i,ei⟩ : ∃i,l.getD 0 .non = .int i:=by
   cases hx:l.getD 0 .non with
   | int i=>exact⟨i,rfl⟩
   | _=>rw[hx] at F;cases F
  rw[ei] at tv k;cases (show x=_ from tv)
  refine⟨xs,U,_,e,rfl,?_⟩
  by_cases hz:i=0
  .subst hz
   rw[if_neg (by simp)]
   have:=k H1 (ak.refl _)
   simpa [nzT] using this
  .rw[if_pos (by simp[hz])]
   refine⟨xs,U,gk 1 hl () g9 λH2 s2=>?_⟩
   have:=k H2 s2
   simpa [nzT,hz] using this
 | int i=>cases (show v=_ from Z);ctx_has v cY;exact k _ (ak.refl _)
 | bl s=>cases (show v=_ from Z);ctx_has v cY;exact k _ (ak.refl _)
 | non=>cases (show v=_ from Z);ctx_has v cY;exact k _ (ak.refl _)
 | str s=>obtain⟨rfl,hs⟩:=Z;ctx_has v cY;exact k _ (ak.refl _)
theorem vq (T:Txt w K mg) (L:FnL K mg "is_step" jX ["thing"]) (Fr : @Dz7 P w K mg base) (FA:Fn P w K mg base "is_state" 3 ["thing"] (spB R0 stT)):Fn P w K mg base "is_step" 4 ["thing"] (spB R0 cZ):=by
 ctx_has z vi <;> obtain⟨v,t,rfl,U,hR,k⟩:=h
 .rfl
 refine⟨_,(ao (aA (aN (ar cG T.b_isinstance (aa (pvM 0) (aa (gU (T := "tuple") rfl T.b_tuple (by decide+kernel)) ac))) (aN (bH bA (ar bf T.b_len (aa (pvM 0) ac)) af) (aN (ag FA (aa (aB bB (pvM 0) af) ac)) (aN (ag Fr (aa (aB bB (pvM 0) af) ac)) (bT (ag FA (aa (aB bB (pvM 0) af) ac))))))))),?_⟩
 cases t with
 | tup l =>
  simp only[cZ] at k;obtain⟨a,xs,rfl,F,hl⟩:=U;have Z:=hl.len;ctx_has v F Z
  refine fG (n:=3) k λh0 k=>?_
  refine bX 0 hl () g9 k λH1 s1 ad k=>?_
  replace F:=s1 _ _ F
  replace hl:=TVs.keep (ak.keepT s1) l hl
  refine⟨xs,F,bX 1 hl () g9 k λH1 s1 ah k=>?_⟩
  replace F:=s1 _ _ F
  replace hl:=TVs.keep (ak.keepT s1) l hl
  exact⟨xs,F,gk 2 hl () g9 k⟩
 | int i=>cases (show v=_ from U);ctx_has v cZ;exact k _ (ak.refl _)
 | bl s=>cases (show v=_ from U);ctx_has v cZ;exact k _ (ak.refl _)
 | non=>cases (show v=_ from U);ctx_has v cZ;exact k _ (ak.refl _)
 | str s=>obtain⟨rfl,hs⟩:=U;ctx_has v cZ;exact k _ (ak.refl _)
def vK:Tr->V
 | .int i=>.int i
 | .str s=>.str s
 | _=>.non
theorem Cr (k:Key):vK (trK k)=kV k:=by cases k <;> rfl
theorem CS {m:List Tr} {Q:VK} {E:XK} {g:Tr->Bool} (L : ∀t,g t=true->∃k,t=trK k) (U:m.all g=true) (F:H D*>(m.map vK)) (hl:m.length<=69) (k : ∀H',ak H H'->Q (.bl (unT m)) H'):xR [.ref D] H Q E:=by
 obtain⟨ks,rfl⟩:=lY L U;refine⟨D,_,rfl,.inr F,by simpa using hl,.inl ⟨ks,by rw[Ij];exact List.map_congr_left λk _=>Cr k,λH' s=>?_⟩⟩
 have:=k H' s
 unfold unT at this
 rwa [mj (cn λa b=>pQ)] at this
theorem AE {m:List Tr} {Q:VK} {E:XK} {g:Tr->Bool} (Z : ∀t,g t=true->∃ks:List Key,t = .tup (ks.map trK)) (hm:m.all g=true) (U:H D*>ys) (L:TVs H ys m) (hl:m.length<=69) (k : ∀H',ak H H'->Q (.bl (unT m)) H'):xR [.ref D] H Q E:=by
 obtain⟨F,rfl⟩:=qg Z hm;refine⟨D,_,rfl,.inr U,by rw[L.len];exact hl,.inr ⟨F,zg L,λH' s=>?_⟩⟩
 have this:Q (.bl (dec (F.map λks=>Tr.tup (ks.map trK)).Nodup)) H':=k H' s
 rwa [mj (cn λa b=>sC)] at this
theorem pZ {t:Tr} (h:cY t=true) : ∃l,t = .tup l/\l.length=2/\bU (l.getD 1 .non)=true:=by
 cases t with
 | tup l=>simp only[cY,fx,decide_eq_true_eq] at h;exact⟨l,rfl,h.1,h.2.2.2⟩
 | _=>cases h
theorem wy {t:Tr} (h:cZ t=true) : ∃i j k,t = .tup [.int i,.int j,.int k]:=by
 cases t with
 | tup l =>
  simp only[cZ,fx,decide_eq_true_eq] at h;obtain⟨L,h1,h2,F⟩:=h
  match l,L,h1,h2,F with
  | [a,b,c],_,h1,h2,F =>
   obtain⟨i,rfl⟩ : ∃i,a = .int i:=by cases a with | int i=>exact⟨i,rfl⟩ | _=>cases h1
   obtain⟨j,rfl⟩ : ∃i,b = .int i:=by cases b with | int i=>exact⟨i,rfl⟩ | _=>cases h2
   obtain⟨k,rfl⟩ : ∃i,c = .int i:=by cases c with | int i=>exact⟨i,rfl⟩ | _=>cases F
   exact⟨i,j,k,rfl⟩
 | _=>cases h
theorem sh {f:α->β} {p:β->Bool} {q:α->Bool} (F : ∀a,q a=true->p (f a)=true) {l:List α} (h:l.all q=true):(l.map f).all p=true:=by
 rw[all_map,l9];rw[l9] at h;exact λa L=>F a (h a L)
def prT:Tr->Bool
 | .tup [.int _,.int _]=>true
 | _=>false
theorem DH : ∀t,prT t=true->∃ks:List Key,t = .tup (ks.map trK)
 | .tup [.int i,.int j],_=>⟨[.inl i,.inl j],rfl⟩
theorem qa (T:Txt w K mg) (L:FnL K mg "are_terms" fq ["thing"]) (Fg:Fn P w K mg base "is_tuple_of" 7 ["thing","is_one","least","most"] (jK (aF mg "is_term") R0 cY)) (Fd : @Dz9 P w K mg base):Fn P w K mg base "are_terms" 8 ["thing"] (spB R0 ia):=by
 ctx_has z pP <;> obtain⟨v,t,rfl,ht,hR,k⟩:=h
 .rfl
 refine⟨_,(ao (aA (aN (ag Fg (aa (pvM 0) (aa (cq (v:=.ref (aF mg "is_term")) rfl T.at_is_term rfl) (aa af (aa (dN T.c_MOST_TERMS rfl) ac))))) (bT (ag Fd (aa (dj (N:=["term"]) (nt:=1) (js:=[]) (bI ["thing"] (am fq).names) (kZ K (pvM 0)) (aP 0) bN cr (aB bB (pvM 0) af)) ac)))))),?_⟩
 ctx_has v
 refine⟨v,t,_,_,rfl,ht,g9,∅,λH1 s1=>?_⟩
 cases U:bq cY 1 6 t with
 | false =>
  ctx_has v j_ if_false
  have:=k H1 s1
  simp only[ia,U,p_] at this;exact this
 | true =>
  ctx_has v if_true
  obtain⟨l,rfl,h1,h2,h3⟩:=cA U;obtain⟨a,xs,rfl,F,hl⟩:=ht
  replace F:=s1 _ _ F
  replace hl:=TVs.keep (ak.keepT s1) l hl
  ctx_has v F
  intro D hD;refine wu eU (λt=>vK ((itT t).getD 1 .non)) hl hD (λH' s=>.of (s _ _ F)) (by rw[hl.len];omega) ?_ ?_
  .intro x t H2 Q2 hm tv sm q2
   obtain⟨m,rfl,ad,hn⟩:=pZ (l9.mp h3 t hm);obtain⟨b,ys,rfl,Z,hy⟩:=tv;obtain⟨y,e,ty⟩:=jM hy 1 ()
   ctx_has v Z
   refine⟨y,e,?_⟩
   have ey:y=vK ((itT (.tup m)).getD 1 .non):=by
    show y=vK (m.getD 1 .non)
    obtain⟨k,ek⟩:=nR _ hn;rw[ek] at ty ⊢;rw[Cr];exact tvK ty
   rw[ey];exact q2 H2 (ak.refl _)
  .intro H2 sm hD2
   refine CS (m:=l.map λt=>(itT t).getD 1 .non) nR (sh (λt h=>by obtain⟨m,rfl,_,hn⟩:=pZ h;exact hn) h3) (by rw[hD2,Ij];rfl) (by rw[f_];omega) λH3 s3=>?_
   have:=k H3 (s1.trans (sm.trans s3))
   simp only[ia,U,o7] at this;exact this
theorem qP (T:Txt w K mg) (L:FnL K mg "are_steps" fw ["thing"]) (Fg:Fn P w K mg base "is_tuple_of" 7 ["thing","is_one","least","most"] (jK (aF mg "is_step") R0 cZ)) (Fd : @Dz9 P w K mg base):Fn P w K mg base "are_steps" 8 ["thing"] (spB R0 jQ):=by
 ctx_has z qw <;> obtain⟨v,t,rfl,ht,hR,k⟩:=h
 .rfl
 refine⟨_,(ao (aA (aN (ag Fg (aa (pvM 0) (aa (cq (v:=.ref (aF mg "is_step")) rfl T.at_is_step rfl) (aa af (aa (dN T.c_MOST_STEPS rfl) ac))))) (bT (ag Fd (aa (dj (N:=["step"]) (nt:=1) (js:=[]) (bI ["thing"] (am fw).names) (kZ K (pvM 0)) (aP 0) bN cr (aQ hV (pvM 0) bv (aV af))) ac)))))),?_⟩
 ctx_has v
 refine⟨v,t,_,_,rfl,ht,g9,∅,λH1 s1=>?_⟩
 cases hb:bq cZ 0 60 t with
 | false =>
  ctx_has v j_ if_false
  have:=k H1 s1
  simp only[jQ,hb,p_] at this;exact this
 | true =>
  ctx_has v if_true
  obtain⟨l,rfl,h1,h2,h3⟩:=cA hb;obtain⟨a,xs,rfl,Z,hl⟩:=ht
  replace Z:=s1 _ _ Z
  replace hl:=TVs.keep (ak.keepT s1) l hl
  ctx_has v Z
  intro D hD;refine eR eU (λi ys H2=>TVs H2 ys ((l.take i).map λt=>.tup ((itT t).take 2))/\H2 D*>ys/\ak H1 H2/\i<=l.length)
   ⟨by simp[TVs],ae,ak.upd0 hD,HG _⟩ (λi ys H2 h=>.of (h.2.2.1 _ _ Z)) ?_ ?_
  .rintro i x ys H2 hi hx ⟨hys,hD2,sm,hle⟩
   obtain⟨t,et,tv⟩:=hl.at hx;obtain⟨i1,i2,i3,rfl⟩:=wy (l9.mp h3 t (j7 et));have an:i < l.length:=(i7.mp et).1
   have ar:=TV.keep (ak.keepT sm) _ tv;obtain⟨b,us,rfl,aq,ad⟩:=ar;ctx_has v aq
   have ai:us=[V.int i1,V.int i2,V.int i3]:=yB (ks:=[.inl i1,.inl i2,.inl i3]) ad
   subst ai;have ap:(l.take (i+1)).map (λt=>Tr.tup ((itT t).take 2))=(l.take i).map (λt=>Tr.tup ((itT t).take 2))++[.tup [.int i1,.int i2]]:=by rw[w5,et];simp[itT]
   intro p H3 hp U;have F:=U _ _ hD2;have kp:bz H2 (upd H3 D (.lst (ys++[.ref p]))):=(ak.keepT U).trans (bc F)
   refine⟨F,by rw[hys.len,f_,m8];exact aw (),?_,ae,λc o e=>?_,an⟩
   .rw[ap]
    exact(TVs.keep kp _ hys).app (TVs.one ⟨p,[V.int i1,V.int i2],rfl,bc F _ _ hp,_,_,rfl,rfl,_,_,rfl,rfl,rfl⟩)
   .rw[ah (aj e hD)];exact U _ _ (sm c o e)
  .rintro ys H2 ⟨hys,hD2,sm,_⟩
   rw[hl.len,A_] at hys;refine AE DH (sh (λt h=>by obtain⟨i,j,k,rfl⟩:=wy h;rfl) h3) hD2 hys (by rw[f_];omega) λH3 U=>?_
   have:=k H3 (s1.trans (sm.trans U))
   simp only[jQ,hb,o7] at this;exact this
theorem wE (T:Txt w K mg) (L:FnL K mg "is_sum" nw ["wish"]) (FM:Fn P w K mg base "are_terms" 8 ["thing"] (spB R0 ia)) (Z:Fn P w K mg base "is_sum_bound" 3 ["thing"] (spB R0 sbT)):Fn P w K mg base "is_sum" 9 ["wish"] (gF R0 rR):=by
 ctx_has z wL <;> obtain⟨v,l,rfl,ht,hR,k⟩:=h
 .rfl
 refine⟨_,(ao (aA (aN (bH bA (ar bf T.b_len (aa (pvM 0) ac)) af) (aN (ag FM (aa (aB bB (pvM 0) af) ac)) (aN (ag Z (aa (aB bB (pvM 0) af) ac)) (bT (ag Z (aa (aB bB (pvM 0) af) ac)))))))),?_⟩
 obtain⟨a,xs,rfl,F,hl⟩:=ht;have U:=hl.len;ctx_has v F U
 refine fG (n:=4) k λh0 k=>?_
 refine bX 1 hl () g9 k λH1 s1 ah k=>?_
 replace F:=s1 _ _ F
 replace hl:=TVs.keep (ak.keepT s1) l hl
 refine⟨xs,F,bX 2 hl () g9 k λH1 s1 ad k=>?_⟩
 replace F:=s1 _ _ F
 replace hl:=TVs.keep (ak.keepT s1) l hl
 exact⟨xs,F,gk 3 hl () g9 k⟩
theorem wB (T:Txt w K mg) (L:FnL K mg "is_way" mz ["wish"]) (Fe : @xz P w K mg base) (Z:Fn P w K mg base "are_steps" 8 ["thing"] (spB R0 jQ)) (FR:Fn P w K mg base "are_ends" 7 ["thing"] (spB R0 mK)):Fn P w K mg base "is_way" 9 ["wish"] (gF R0 so):=by
 ctx_has z xL <;> obtain⟨v,l,rfl,ht,hR,k⟩:=h
 .rfl
 refine⟨_,(ao (aA (aN (bH bA (ar bf T.b_len (aa (pvM 0) ac)) af) (aN (ag Fe (aa (aB bB (pvM 0) af) ac)) (aN (ag Z (aa (aB bB (pvM 0) af) ac)) (bT (ag FR (aa (aB bB (pvM 0) af) ac)))))))),?_⟩
 obtain⟨a,xs,rfl,F,hl⟩:=ht;have U:=hl.len;ctx_has v F U
 refine fG (n:=4) k λh0 k=>?_
 refine bX 1 hl () g9 k λH1 s1 ah k=>?_
 replace F:=s1 _ _ F
 replace hl:=TVs.keep (ak.keepT s1) l hl
 refine⟨xs,F,bX 2 hl () g9 k λH1 s1 ad k=>?_⟩
 replace F:=s1 _ _ F
 replace hl:=TVs.keep (ak.keepT s1) l hl
 exact⟨xs,F,gk 3 hl () g9 k⟩
def fQ:Tr->V
 | .tup (.str s :: _)=>.str s
 | _=>.non
def DN:Sp:=λvs H Q _=>∃(v:V) (t:Tr),vs=[v]/\TV H v t/\Q (fQ t) H
abbrev DC:=Fn P w K mg base "sort_of" 1 ["thing"] (DN)
theorem tX (T:Txt w K mg) (L:FnL K mg "sort_of" kQ ["thing"]) : @DC P w K mg base:=by
 ctx_has z uY <;> obtain⟨v,t,rfl,U,k⟩:=h
 .rfl
 refine⟨_,(ai (bi (PW.pt (gV (gq (ar cG T.b_isinstance (aa (pvM 0) (aa (gU (T := "tuple") rfl T.b_tuple (by decide+kernel)) ac)))) (gV (aE gD (ar bf T.b_len (aa (pvM 0) ac)) af) (iF (gq (ar cG T.b_isinstance (aa (aB bB (pvM 0) af) (aa (gU (T := "str") rfl T.b_str (by decide+kernel)) ac)))))))) (ao (aA (aB bB (pvM 0) af))) aK)
  (ao (aA fB))),?_⟩
 cases t with
 | tup l =>
  obtain⟨a,xs,rfl,F,hl⟩:=U;have ad:=hl.len;cases l with
  | nil =>
   have e:xs=[]:=hl
   subst e;ctx_has v F fQ
   exact k
  | cons t l =>
   obtain⟨x,ys,rfl,Z,hy⟩:=hl;cases t with
   | str s =>
    obtain⟨rfl,hs⟩:=Z;ctx_has v F fQ
    rw[if_pos ()]
    exact k
   | int i =>
    cases (show x=_ from Z)
    ctx_has v F fQ
    rw[if_pos ()]
    exact k
   | bl i =>
    cases (show x=_ from Z)
    ctx_has v F fQ
    rw[if_pos ()]
    exact k
   | non =>
    cases (show x=_ from Z)
    ctx_has v F fQ
    rw[if_pos ()]
    exact k
   | tup m =>
    obtain⟨b,us,rfl,hb,ag⟩:=Z;ctx_has v F hb fQ
    rw[if_pos ()]
    exact k
 | int i=>cases (show v=_ from U);ctx_has v fQ;exact k
 | bl s=>cases (show v=_ from U);ctx_has v fQ;exact k
 | non=>cases (show v=_ from U);ctx_has v fQ;exact k
 | str s=>obtain⟨rfl,hs⟩:=U;ctx_has v fQ;exact k
def wS:Str := "are_rows.<locals>.is_row"
def RT (pt:Addr):Hp->Prop:=λH=>H pt=some (.tab wS)
theorem RT.same {pt:Addr} (h:RT pt H) (s:ak H H'):RT pt H':=s _ _ h
def RC (pt c:Addr):Hp->Prop:=λH=>∃oc,H c=some (.frz oc (.own pt))/\su oc wS
theorem RC.same {pt c:Addr} (h:RC pt c H) (s:ak H H'):RC pt c H':=let ⟨oc,a,b⟩:=h;⟨oc,s _ _ a,b⟩
def qd (n:Int):Tr->Bool:=bq dD n n
noncomputable def sZ (n:Int) (t:Tr):Bool:=bq (qd n) 0 60 t && unX t
theorem BY {n:Int} (t:Tr) (h:qd n t=true) : ∃ks:List Key,t = .tup (ks.map trK):=by
 obtain⟨l,rfl,_,_,F⟩:=cA h;obtain⟨ks,rfl⟩:=lY kF F;exact⟨ks,rfl⟩
def pJ (pt:Addr):Sp:=λvs H Q _=>∃(v:V) (t:Tr) (n:Int),vs=[v,.int n]/\TV H v t/\RT pt H/\n<=60/\∀H',ak H H'->Q (.bl (sZ n t)) H'
def mL:Stmt:=(br eD).getD 0 (.Pass ⟨0,0,0,0⟩)
def E4 (pt g c':Addr):St->Sp:=λσ vs H Q E=>∃n:Int,σ[1]? = some (some (.int n))/\n<=60/\jK g (RC pt c') (qd n) vs H Q E
theorem rm {pt:Addr} (bm:lm mg base) (T:Txt w K mg) (L:yY K mg "are_rows" eD ["thing","length"] pt) (Fd : @Dz9 P w K mg base)
  (LT:FnL K mg "is_tuple_of" bW ["thing","is_one","least","most"]) (FV : ∀B:Heap,K.In B->Fn P w K mg B "is_tuple_of" 6 ["thing","is_one","least","most"] (jK (aF mg "is_value") R0 dD)) (KB:K.In base) :
  Fn P w K mg base "are_rows" 12 ["thing","length"] (pJ pt):=by
 have nd:=lz.nd;refine L.ok lz (λvs H Q E h=>?_) (λf c hc A outer s H vs Q E Z h=>?_)
 .obtain⟨v,t,n,rfl,ht,hR,n1,k⟩:=h
  rfl
 .obtain⟨v,t,n,rfl,ht,hR,n1,k⟩:=h
  have hu:=pc Z;refine⟨_,zH (i:=2) (pt:=pt) (q:=wS) (clos:=[("length",s.heap.objs.size+1)]) nd rfl (.inl rfl) rfl rfl hc bm rfl (λg c' doc pm ctv=>ao (aA (aN (xp (ps:=["thing","is_one","least","most"]) (sp:=E4 pt g c') (k:=10) (FV base KB) (Z.mono ∅) rfl
   (λB pins σ H1 s1 ah Q1 I M hB F=>?_) (aa (pvM 0) (aa (pvM 2) (aa af (aa (dN T.c_MOST_ROWS rfl) ac))))) (ag Fd (aa (pvM 0) ac))))),?_⟩
  .obtain⟨n,hσ,hn,F⟩:=F
   have hf:=yk I hB;obtain⟨u,ru,U⟩:=xI (i:=1) (y := "length") I hB rfl hσ rfl rfl rfl;have FH:dY P w K mg B CX0 7 g (fnX "is_row" wS (bQ mL) (br mL) (am mL) [("length",s.heap.objs.size+1)] .none .none doc pm none (.ref c') ctv) ["one"] (spB (RC pt c') (qd n)):=by
    refine CA (oc:=λ_ _=>True) (k:=6) ⟨rfl,rfl,rfl,rfl,rfl,by decide+kernel,by decide+kernel⟩ hf U ru (λvs H Q E h=>?_) (λvs H Q E h=>?_) (λA outer s H v0 Q E Z h=>?_)
    .obtain⟨v,t,rfl,_⟩:=h
     rfl
    .obtain⟨v,t,rfl,_,⟨oc,h1,h2⟩,_⟩:=h
     exact⟨oc,_,h1,h2⟩
    .obtain⟨v,t,e,tv,_,k⟩:=h
     refine⟨_,ao (aA (ag (hr:=Z.mono ∅) (FV B M.kin) (aa (pvM 0) (aa (cq (v:=.ref (aF mg "is_value")) rfl T.at_is_value rfl) (aa (pvM 1) (aa (pvM 1) ac)))))),?_⟩
     cases e;ctx_has v
     exact⟨_,t,_,_,rfl,tv,g9,(),k⟩
   exact⟨_,F,gW (λ_ _ s h=>h.same s) ⟨_,_,_,_,hf⟩ (dP.all λus hl=>match us,hl with | [_],_=>rfl) FH T LT⟩
  .refine⟨hR,λg c' oc H1 s1 hg ad ho=>?_⟩
   ctx_has v zP
   refine⟨n,rfl,n1,v,t,_,_,rfl,TV.keep (ak.keepT s1) t ht,⟨oc,ad,ho⟩,∅,λH2 s2=>?_⟩
   cases hb:bq (qd n) 0 60 t with
   | false =>
    ctx_has v j_ if_false
    have:=k H2 (s1.trans s2)
    simp only[sZ,hb,p_] at this;exact this
   | true =>
    ctx_has v if_true
    refine DW BY (TV.keep (ak.keepT (s1.trans s2)) t ht) hb ∅ λH3 s3=>?_
    have:=k H3 ((s1.trans s2).trans s3)
    simp only[sZ,hb,o7] at this;exact this
def kL (H:Hp) (x:V) (nm:Str):Prop:=∃p c,x = .ref p/\H p>>[.int c,.str nm]
def gN (H:Hp) (v:V) (cells:List Str):Prop:=∃p,v = .ref p /\
  ((∃(s:Str) (t:Addr) (rest:List V),(s = "unlike" \/ s = "table" \/ s = "way" \/ s = "behind")/\H p>>(.str s :: .ref t :: rest)/\H t>>(cells.map V.str)) \/
   (∃(x:V) (t:Addr) (rest:List V),H p>>(.str "many" :: x :: .ref t :: rest)/\H t>>(cells.map V.str)) \/
   (∃(t:Addr) (rest ts:List V),H p>>(.str "sum" :: .ref t :: rest)/\H t>>ts/\ts.length=cells.length/\∀(i:Nat) x,ts[i]? = some x->∃nm,cells[i]? = some nm/\kL H x nm))
theorem kL.keep {x:V} (k:bz H H') (h:kL H x nm):kL H' x nm:=by
 obtain⟨p,c,rfl,h⟩:=h;exact⟨p,c,rfl,k _ _ h⟩
theorem gN.keep {H H':Hp} {v:V} {cells:List Str} (k:bz H H') (h:gN H v cells):gN H' v cells:=by
 obtain⟨p,rfl,h⟩:=h;refine⟨p,rfl,?_⟩
 rcases h with⟨s,t,rest,hs,h1,h2⟩ | ⟨x,t,rest,h1,h2⟩ | ⟨t,rest,ts,h1,h2,h3,h4⟩
 .exact .inl ⟨s,t,rest,hs,k _ _ h1,k _ _ h2⟩
 .exact .inr (.inl ⟨x,t,rest,k _ _ h1,k _ _ h2⟩)
 .exact .inr (.inr ⟨t,rest,ts,k _ _ h1,k _ _ h2,h3,λi x e=>by obtain⟨nm,a,b⟩:=h4 i x e;exact⟨nm,a,b.keep k⟩⟩)
def uO (H:Hp) (v:V) (cells:List Str):Prop:=gN H v cells\/∃(p:Addr) (own:Str) (x bG:V) (cs:List Str),v = .ref p/\H p>>[.str "same",.str own,x,bG]/\gN H bG cs/\cells=own :: cs
def si:Sp:=λvs H Q _=>∃(v:V) (cells:List Str),vs=[v]/\gN H v cells/\cells.length<=15/\∀(p:Addr) (H':Hp),H' p>>(cells.map V.str)->ak H H'->Q (.ref p) H'
def Bp:Sp:=λvs H Q _=>∃(v:V) (cells:List Str),vs=[v]/\uO H v cells/\cells.length<=15/\∀(p:Addr) (H':Hp),H' p>>(cells.map V.str)->ak H H'->Q (.ref p) H'
noncomputable def gi (l:List Tr):Bool:=decide (l.length=3) && (cF (l.getD 1 .non) && sZ ((itT (l.getD 1 .non)).length:Int) (l.getD 2 .non))
theorem uA {n:Tr} (h:cF n=true) : ∃ws:List Str,n = .tup (ws.map Tr.str)/\1<=ws.length/\ws.length<=12/\ws.Nodup/\∀w∈ws,nmB w=true:=by
 unfold cF at h;rw[fx] at h;obtain⟨l,rfl,h1,h2,Z⟩:=cA h.1;have all : ∀{l:List Tr},l.all bU=true->∃ws:List Str,l=ws.map Tr.str/\∀w∈ws,nmB w=true:=by
  intro l
  induction l with
  | nil=>exact λ_=>⟨[],rfl,by simp⟩
  | cons t l U =>
   intro h;rw[IR,fx] at h;obtain⟨ws,rfl,L⟩:=U h.2;cases t with
   | str s=>exact⟨s :: ws,rfl,λw F=>(i4.mp F).elim (λe=>by rw[e];exact h.1) (L w)⟩
   | _=>cases h.1
 obtain⟨ws,rfl,L⟩:=all Z;rw[f_] at h1 h2;have:=Cz (show dec (ws.map Tr.str).Nodup=true from h.2)
 rw[cn λa b e=>by injection e] at this
 exact⟨ws,rfl,(),(),this,L⟩
theorem vP {H:Hp} : ∀{ws:List Str} {xs:List V},TVs H xs (ws.map Tr.str)->xs=ws.map V.str
 | [],_,h=>h
 | w :: ws,_,h=>by
  obtain⟨y,zs,rfl,a,b⟩:=h;rw[a.1,vP b];rfl
theorem nM {v:V} {n:Tr} (tv:TV H v n) (h:cF n=true) : ∃(ws:List Str) (a:Addr),v = .ref a/\H a>>(ws.map V.str)/\n = .tup (ws.map Tr.str)/\1<=ws.length/\ws.length<=12:=by
 obtain⟨ws,rfl,h1,h2,_⟩:=uA h;obtain⟨a,xs,rfl,F,L⟩:=tv;rw[vP L] at F;exact⟨ws,a,rfl,F,rfl,h1,h2⟩
theorem tw {pt:Addr} (T:Txt w K mg) (L:FnL K mg "is_table" iQ ["wish"]) (Fe : @xz P w K mg base) (FQ:Fn P w K mg base "are_rows" 12 ["thing","length"] (pJ pt)):Fn P w K mg base "is_table" 13 ["wish"] (gF (RT pt) gi):=by
 ctx_has z rp <;> obtain⟨v,l,rfl,ht,Z,k⟩:=h
 .rfl
 refine⟨_,(ao (aA (aN (bH bA (ar bf T.b_len (aa (pvM 0) ac)) af) (aN (ag Fe (aa (aB bB (pvM 0) af) ac)) (bT (ag FQ (aa (aB bB (pvM 0) af) (aa (ar bf T.b_len (aa (aB bB (pvM 0) af) ac)) ac)))))))),?_⟩
 obtain⟨a,xs,rfl,F,hl⟩:=ht;have U:=hl.len;ctx_has v F U
 refine fG (n:=3) k λh0 k=>?_
 refine bX 1 hl () g9 k λH1 s1 ad k=>?_
 replace F:=s1 _ _ F
 replace hl:=TVs.keep (ak.keepT s1) l hl
 replace Z:=Z.same s1
 obtain⟨y,e1,t1⟩:=jM hl 1 ()
 obtain⟨x,e2,t2⟩:=jM hl 2 ()
 obtain⟨ws,b,rfl,hb,en,n1,n2⟩:=nM t1 ad;rw[en] at k;refine⟨xs,F,x,e2,xs,F,_,e1,_,rfl,_,hb,?_⟩
 refine⟨x,_,_,rfl,t2,Z,by rw[f_];omega,λH2 s2=>?_⟩
 have:=k H2 s2
 simp only[itT,f_] at this;rw[f_];exact this
theorem jE (T:Txt w K mg) (L:FnL K mg "plain_cells_of" cC ["wish"]):Fn P w K mg base "plain_cells_of" 1 ["wish"] (si):=by
 ctx_has z jA <;> obtain⟨v,cells,rfl,hp,hl,k⟩:=h
 .rfl
 refine⟨_,(ai (bi (aE bA (aB bB (pvM 0) af) aq) (ao (aA (aM bo T.b_tuple (aa (dj (N:=["term"]) (nt:=1) (js:=[]) (bI ["wish"] (am cC).names) (kZ K (aB bB (pvM 0) af)) (aP 0) bN cr (aB bB (pvM 0) af)) ac)))) aK)
  (ai (bi (aE bA (aB bB (pvM 0) af) aq) (ao (aA (aB bB (pvM 0) af))) aK)
  (ao (aA (aB bB (pvM 0) af))))),?_⟩
 obtain⟨p,rfl,⟨s',t,rest,hs,h1,h2⟩ | ⟨x,t,rest,h1,h2⟩ | ⟨t,rest,ts,h1,h2,h3,h4⟩⟩:=hp
 .rcases hs with rfl | rfl | rfl | rfl
  all_goals
   ctx_has v h1
   exact k t H h2 (ak.refl _)
 .ctx_has v h1
  exact k t H h2 (ak.refl _)
 .ctx_has v h1 h2
  intro q hq;refine eR eU (λi ys H'=>ys=(cells.take i).map V.str/\H' q*>ys/\ak H H')
   ⟨by simp,ae,ak.upd0 hq⟩ (λi ys H' U=>by obtain⟨_,_,F⟩:=U;exact(.of (F _ _ h2))) ?_ ?_
  .rintro i x ys H' hi hx ⟨rfl,h5,F⟩
   obtain⟨nm,ag,g,c,rfl,hg⟩:=h4 i x hx;have ad:=F _ _ hg;ctx_has v ad
   refine⟨h5,by simp;exact aw (),?_,ae,?_⟩
   .rw[w5,ag];simp
   .exact λb o e=>by rw[ah (aj e hq)];exact F b o e
  .rintro ys H' ⟨rfl,h5,F⟩
   rw[h3,A_] at h5;ctx_has v h5
   exact λu Z=>k u _ ae (F.upd_new Z)
abbrev DU:=Fn P w K mg base "cells_of" 2 ["wish"] (Bp)
theorem sS (T:Txt w K mg) (L:FnL K mg "cells_of" iP ["wish"]) (Fy:Fn P w K mg base "plain_cells_of" 1 ["wish"] (si)) : @DU P w K mg base:=by
 ctx_has z qW <;> obtain⟨v,cells,rfl,hp,hl,k⟩:=h
 .rfl
 refine⟨_,(ai (ay 1 (bu ac))
  (ai (ay 2 (pvM 0))
  (ai (ny PassesOwn.never (aE bA (aB bB (pvM 2) af) aq) (ai (bY (fe t9 t_ cB (pvM 1) (aa (aB bB (pvM 2) af) ac)))
  (ao (ay 2 (aB bB (pvM 2) af)))))
  (ao (aA (ax cQ (aM bo T.b_tuple (aa (pvM 1) ac)) (ag Fy (aa (pvM 2) ac)))))))),?_⟩
 ctx_has v
 refine⟨∅,λg hg=>?_⟩
 refine nE (λμ σ H'=>∃(ow U:List Str) (w:V),σ=[some v,-g,some w]/\H' g*>(ow.map V.str)/\ak H H'/\cells=ow++U/\((μ=0/\gN H w U)\/(μ=1/\∃(p:Addr) (own:Str) (x bG:V) (cs:List Str),w = .ref p/\H p>>[.str "same",.str own,x,bG]/\gN H bG cs/\U=own :: cs)))
  (λσ H'=>∃(ow U:List Str) (w:V),σ=[some v,-g,some w]/\H' g*>(ow.map V.str)/\ak H H'/\cells=ow++U/\gN H w U) ?_ ?_ ?_
 .rcases hp with hp | ⟨p,own,x,bG,cs,rfl,h1,h2,rfl⟩
  .exact⟨0,[],cells,v,rfl,ae,ak.upd0 hg,rfl,.inl ⟨rfl,hp⟩⟩
  .exact⟨1,[],_,_,rfl,ae,ak.upd0 hg,rfl,.inr ⟨rfl,p,own,x,bG,cs,rfl,h1,h2,rfl⟩⟩
 .rintro R hR μ σ H1 ⟨ow,U,w',rfl,h1,sm,rfl,⟨rfl,hp1⟩ | ⟨rfl,p,own,x,bG,cs,rfl,hp1,hp2,rfl⟩⟩
  .have hr:=hR _ _ ⟨ow,U,w',rfl,h1,sm,rfl,hp1⟩
   obtain⟨p,rfl,⟨s',t,rest,hs,h2,h3⟩ | ⟨x,t,rest,h2,h3⟩ | ⟨t,rest,ts,h2,h3,h4,h5⟩⟩:=hp1
   .have h2':=sm _ _ h2
    rcases hs with rfl | rfl | rfl | rfl
    all_goals
     ctx_has v h2'
     exact hr
   .have h2':=sm _ _ h2
    ctx_has v h2'
    exact hr
   .have h2':=sm _ _ h2
    ctx_has v h2'
    exact hr
  .have h2':=sm _ _ hp1
   ctx_has v h2' h1
   refine⟨λσ' H'=>σ'=[some v,-g,some bG]/\H'=upd H1 g (.lst ((ow++[own]).map V.str)),?_,?_⟩
   .rintro _ _ ⟨rfl,rfl⟩
    exact⟨0,Nat.zero_lt_one,ow++[own],cs,bG,rfl,ae,λb o e=>by rw[ah (aj e hg)];exact sm b o e,by simp,.inl ⟨rfl,hp2⟩⟩
   .refine⟨by simp at hl ⊢;exact aw (),_,by rw[ah (eV h2' h1 (by intro z;cases z))];exact h2',?_⟩
    ctx_has v
    simp
 .rintro σ H1 ⟨ow,U,w',rfl,h1,sm,rfl,hp1⟩
  ctx_has v h1
  intro u am;have s1:=sm.upd_new (o:=.tup (ow.map V.str)) am;refine⟨w',U,rfl,hp1.keep (ak.keepT s1),by simp at hl;omega,λq H2 hq Z=>?_⟩
  refine⟨q,rfl,_,Z _ _ ae,_,hq,pj (aw (by simp at hl ⊢;omega)),λy H3 hy ad=>?_⟩
  exact k y H3 (by rw[hy];simp) ((s1.trans Z).trans ad)
def six:List Str:=["unlike","many","sum","table","way","behind"]
noncomputable def bp (s:Str) (l:List Tr):Bool:=if s = "unlike" then cV l else if s = "many" then jq l else if s = "sum" then rR l else if s = "table" then gi l else if s = "way" then so l else if s = "behind" then dk l else false
theorem iK {s:Str} {l:List Tr} (h:bp s l=true):(s = "unlike" /\ cV l=true)\/(s = "many" /\ jq l=true)\/(s = "sum" /\ rR l=true)\/(s = "table" /\ gi l=true)\/(s = "way" /\ so l=true)\/(s = "behind" /\ dk l=true):=by
 unfold bp at h
 by_cases h1:s = "unlike"
 .rw[if_pos h1] at h;exact .inl ⟨h1,h⟩
 rw[if_neg h1] at h
 by_cases h2:s = "many"
 .rw[if_pos h2] at h;exact .inr (.inl ⟨h2,h⟩)
 rw[if_neg h2] at h
 by_cases U:s = "sum"
 .rw[if_pos U] at h;exact .inr (.inr (.inl ⟨U,h⟩))
 rw[if_neg U] at h
 by_cases L:s = "table"
 .rw[if_pos L] at h;exact .inr (.inr (.inr (.inl ⟨L,h⟩)))
 rw[if_neg L] at h
 by_cases Z:s = "way"
 .rw[if_pos Z] at h;exact .inr (.inr (.inr (.inr (.inl ⟨Z,h⟩))))
 rw[if_neg Z] at h
 by_cases F:s = "behind"
 .rw[if_pos F] at h;exact .inr (.inr (.inr (.inr (.inr ⟨F,h⟩))))
 rw[if_neg F] at h;cases h
theorem ju {s:Str} {l:List Tr} (h:s∉six):bp s l=false:=by
 cases e:bp s l with
 | false=>rfl
 | true=>rcases iK e with⟨rfl,_⟩ | ⟨rfl,_⟩ | ⟨rfl,_⟩ | ⟨rfl,_⟩ | ⟨rfl,_⟩ | ⟨rfl,_⟩ <;> exact absurd (by simp[six]) h
noncomputable def cN:Tr->Bool
 | .tup (.str s :: l)=>bp s (.str s :: l)
 | _=>false
def Az:Tr->Option Str
 | .str s=>some s
 | _=>none
def cE (l:List Tr):List Str:=l.filterMap Az
theorem cO : ∀ws:List Str,cE (ws.map Tr.str)=ws
 | []=>rfl
 | w :: ws=>by
  show w :: cE (ws.map Tr.str)=w :: ws
  rw[cO ws]
def aS:Tr->List Str
 | .tup (.str s :: l)=>if s = "sum" then cE ((itT (l.getD 0 .non)).map λt=>(itT t).getD 1 .non) else if s = "many" then cE (itT (l.getD 1 .non)) else cE (itT (l.getD 0 .non))
 | _=>[]
theorem iW {t:Tr} (h:cN t=true) : ∃s l,t = .tup (.str s :: l)/\bp s (.str s :: l)=true:=by
 unfold cN at h
 split at h
 .exact⟨_,_,rfl,h⟩
 .cases h
theorem Af {v:V} {t:Tr} (tv:TV H v t) (h:ia t=true) : ∃(a:Addr) (ts:List V) (cs:List Str),v = .ref a/\H a>>ts/\ts.length=cs.length/\cs.length<=6/\cs=cE ((itT t).map λt=>(itT t).getD 1 .non)/\∀(i:Nat) x,ts[i]? = some x->∃nm,cs[i]? = some nm/\kL H x nm:=by
 unfold ia at h;rw[fx] at h;obtain⟨l,rfl,h1,h2,h3⟩:=cA h.1;obtain⟨a,xs,rfl,Z,F⟩:=tv;have key : ∀{l:List Tr} {xs:List V},TVs H xs l->l.all cY=true->∃cs:List Str,l.map (λt=>(itT t).getD 1 .non)=cs.map Tr.str/\∀(i:Nat) x,xs[i]? = some x->∃nm,cs[i]? = some nm/\kL H x nm:=by
  intro l
  induction l with
  | nil=>exact λF _=>⟨[],rfl,λi x e=>by rw[show _=[] from F] at e;simp at e⟩
  | cons t l ih =>
   intro xs F h;obtain⟨y,ys,rfl,ty,hy⟩:=F;rw[IR,fx] at h;obtain⟨cs,e,L⟩:=ih hy h.2;obtain⟨m,rfl,hm,U⟩:=pZ h.1
   match m,hm,U with
   | [p, q],_,U =>
    have hp:dD p=true:=by
     have:=h.1
     simp only[cY,fx] at this;exact this.2.1
    cases q with
    | str nm =>
     cases p with
     | int c =>
      obtain⟨b,us,rfl,hb,hu⟩:=ty;have eu:us=[V.int c,V.str nm]:=yB (ks:=[.inl c,.inr nm]) hu
      subst eu;refine⟨nm :: cs,by rw[k9,e];rfl,λi x ex=>?_⟩
      cases i with
      | zero=>simp at ex;subst ex;exact⟨nm,rfl,b,c,rfl,hb⟩
      | succ i=>simpa using L i x (by simpa using ex)
     | _=>cases hp
    | _=>cases U
 obtain⟨cs,e,L⟩:=key F h3;have hl:l.length=cs.length:=by have:=congrArg w9 e;simpa using this
 refine⟨a,xs,cs,rfl,Z,by rw[F.len,hl],(),?_,L⟩
 show cs=cE (l.map λt=>(itT t).getD 1 .non)
 rw[e,cO]
theorem mQ {v:V} {t:Tr} (tv:TV H v t) (h:cN t=true):gN H v (aS t)/\(aS t).length<=12:=by
 obtain⟨s,l,rfl,hf⟩:=iW h;obtain⟨a,xs,rfl,ha,y,ys,rfl,⟨rfl,_⟩,L⟩:=tv;have F : ∀{rest:List Tr},(s = "unlike" \/ s = "table" \/ s = "way" \/ s = "behind")->cF (l.getD 0 .non)=true->0 < l.length->aS (.tup (.str s :: l))=cE (itT (l.getD 0 .non))->gN H (.ref a) (aS (.tup (.str s :: l)))/\(aS (.tup (.str s :: l))).length<=12:=by
  intro _ hs hn hl hc
  match l,hl,hn,L,hc with
  | n :: l,_,hn,L,hc =>
   obtain⟨x,us,rfl,tx,hu⟩:=L;obtain⟨ws,b,rfl,Z,en,n1,U⟩:=nM tx hn;have e:cE (itT ((n :: l).getD 0 .non))=ws:=by
    show cE (itT n)=ws
    rw[en];exact cO ws
   rw[hc,e];exact⟨⟨a,rfl,.inl ⟨s,b,us,hs,ha,Z⟩⟩,U⟩
 rcases iK hf with⟨rfl,h⟩ | ⟨rfl,h⟩ | ⟨rfl,h⟩ | ⟨rfl,h⟩ | ⟨rfl,h⟩ | ⟨rfl,h⟩
 .simp only[cV,fx,decide_eq_true_eq,l_] at h
  exact F (rest:=[]) (.inl rfl) h.2 () rfl
 .simp only[jq,fx,decide_eq_true_eq,l_] at h
  match l,h,L with
  | [n1,U,n3,n4],h,L =>
   obtain⟨x1,u1,rfl,t1,x2,u2,rfl,t2,hu⟩:=L;obtain⟨ws,b,rfl,Z,en,_,m2⟩:=nM t2 h.2.2.1;have e:aS (.tup [.str "many",n1,U,n3,n4])=ws:=by
    show cE (itT U)=ws
    rw[en];exact cO ws
   rw[e];exact⟨⟨a,rfl,.inr (.inl ⟨x1,b,u2,ha,Z⟩)⟩,m2⟩
 .simp only[rR,fx,decide_eq_true_eq,l_] at h
  match l,h,L with
  | [n1,U,n3],h,L =>
   obtain⟨x1,u1,rfl,t1,hu⟩:=L;obtain⟨b,ts,cs,rfl,Z,aa,ac,e,ht⟩:=Af t1 h.2.1;have e2:aS (.tup [.str "sum",n1,U,n3])=cs:=e.symm
   rw[e2];exact⟨⟨a,rfl,.inr (.inr ⟨b,u1,ts,ha,Z,aa,ht⟩)⟩,()⟩
 .simp only[gi,fx,decide_eq_true_eq,l_] at h
  exact F (rest:=[]) (.inr (.inl rfl)) h.2.1 () rfl
 .simp only[so,fx,decide_eq_true_eq,l_] at h
  exact F (rest:=[]) (.inr (.inr (.inl rfl))) h.2.1 () rfl
 .simp only[dk,fx,decide_eq_true_eq,l_] at h
  exact F (rest:=[]) (.inr (.inr (.inr rfl))) h.2.1 () rfl
noncomputable def eY (l:List Tr):Bool:=decide (l.length=4) && (bU (l.getD 1 .non) && (fV (l.getD 2 .non) && (cN (l.getD 3 .non) && !(dec (l.getD 1 .non∈(aS (l.getD 3 .non)).map Tr.str)))))
noncomputable def cD:Tr->Bool
 | .tup (.str s :: l)=>if s = "same" then eY (.str s :: l) else bp s (.str s :: l)
 | _=>false
theorem fY : ∀t:Tr,(∃s l,t = .tup (.str s :: l))\/(fQ t = .non/\cD t=false/\cN t=false)
 | .tup (.str s :: l)=>.inl ⟨s,l,rfl⟩
 | .tup []=>.inr ⟨rfl,rfl,rfl⟩
 | .tup (.non :: _)=>.inr ⟨rfl,rfl,rfl⟩
 | .tup (.bl _ :: _)=>.inr ⟨rfl,rfl,rfl⟩
 | .tup (.int _ :: _)=>.inr ⟨rfl,rfl,rfl⟩
 | .tup (.tup _ :: _)=>.inr ⟨rfl,rfl,rfl⟩
 | .non=>.inr ⟨rfl,rfl,rfl⟩
 | .bl _=>.inr ⟨rfl,rfl,rfl⟩
 | .int _=>.inr ⟨rfl,rfl,rfl⟩
 | .str _=>.inr ⟨rfl,rfl,rfl⟩
theorem ky {pt:Addr} (TN:EF w K (aF mg "PLAIN_FORMS") six) (HS:(aF mg "PLAIN_FORMS" == HZ)=false) (F : ∀y∈six,FnT P w K mg base (aF mg "PLAIN_FORMS") y 13 ["wish"] (gF (RT pt) (bp y))) (T:Txt w K mg) (L:FnL K mg "is_plain_wish" cK ["thing"]) (Fz : @DC P w K mg base) : Fn P w K mg base "is_plain_wish" 14 ["thing"] (spB (RT pt) cN):=by
 ctx_has z kI <;> obtain⟨v,t,rfl,Z,hR,k⟩:=h
 .rfl
 refine⟨_,(ai (ay 1 (ag Fz (aa (pvM 0) ac)))
  (ao (aA (aN (bH (zR TN HS) (pvM 1) (cq (v:=.ref (aF mg "PLAIN_FORMS")) rfl T.at_PLAIN_FORMS rfl)) (bT (Ae T.tb_PLAIN_FORMS F T.at_PLAIN_FORMS (pvM 1) (aa (pvM 0) ac))))))),?_⟩
 ctx_has v
 refine⟨v,t,rfl,Z,?_⟩
 rcases fY t with⟨s,l,rfl⟩ | ⟨e,_,ep⟩
 .ctx_has v fQ
  refine⟨rfl,.inr ⟨s,rfl,?_⟩⟩
  cases hb:six.any λy=>decide (y=s) with
  | false =>
   ctx_has v j_ if_false
   have hs:s∉six:=λz=>by
    have:=List.any_eq_false.mp hb s z
    simp at this
   have:=k H (ak.refl _)
   rw[show cN (.tup (.str s :: l))=bp s (.str s :: l) from rfl,ju hs] at this
   exact this
  | true =>
   obtain⟨y,hy,U⟩:=IP.mp hb;have U:y=s:=of_decide_eq_true U
   subst U;ctx_has v if_true yZ
   exact⟨hy,v,_,rfl,Z,hR,k⟩
 .rw[e]
  ctx_has v
  refine⟨rfl,.inl ⟨rfl,?_⟩⟩
  ctx_has v j_ if_false
  have:=k H (ak.refl _)
  rw[ep] at this;exact this
theorem uK {pt:Addr} (T:Txt w K mg) (L:FnL K mg "is_same" jS ["wish"]) (Fo : @Dz8 P w K mg base) (Fq : @CG P w K mg base) (Fi : Fn P w K mg base "is_plain_wish" 14 ["thing"] (spB (RT pt) cN)) (Fx : @DU P w K mg base):Fn P w K mg base "is_same" 15 ["wish"] (gF (RT pt) eY):=by
 ctx_has z uT <;> obtain⟨v,l,rfl,ht,U,k⟩:=h
 .rfl
 refine⟨_,(ao (aA (aN (bH bA (ar bf T.b_len (aa (pvM 0) ac)) af) (aN (ag Fo (aa (aB bB (pvM 0) af) ac)) (aN (ag Fq (aa (aB bB (pvM 0) af) ac)) (aN (ag Fi (aa (aB bB (pvM 0) af) ac)) (bT (bH xQ (aB bB (pvM 0) af) (ag Fx (aa (aB bB (pvM 0) af) ac)))))))))),?_⟩
 obtain⟨a,xs,rfl,F,hl⟩:=ht;have ad:=hl.len;ctx_has v F ad
 refine fG (n:=4) k λh0 k=>?_
 refine bX 1 hl () g9 k λH1 s1 Z k=>?_
 replace F:=s1 _ _ F
 replace hl:=TVs.keep (ak.keepT s1) l hl
 replace U:=U.same s1
 refine⟨xs,F,bX 2 hl () g9 k λH1 s1 aj k=>?_⟩
 replace F:=s1 _ _ F
 replace hl:=TVs.keep (ak.keepT s1) l hl
 replace U:=U.same s1
 refine⟨xs,F,bX 3 hl () U k λH1 s1 ai k=>?_⟩
 replace F:=s1 _ _ F
 replace hl:=TVs.keep (ak.keepT s1) l hl
 replace U:=U.same s1
 obtain⟨y,e1,t1⟩:=jM hl 1 ()
 obtain⟨x,e3,t3⟩:=jM hl 3 ()
 obtain⟨hp,hc⟩:=mQ t3 ai;obtain⟨nm,en⟩ : ∃nm,l.getD 1 .non = .str nm:=by
  cases hx:l.getD 1 .non with
  | str nm=>exact⟨nm,rfl⟩
  | _=>rw[hx] at Z;cases Z
 rw[en] at t1 k;obtain⟨rfl,_⟩:=t1;refine⟨xs,F,_,e1,xs,F,x,e3,x,_,rfl,.inl hp,(),λp H2 ah s2=>⟨p,rfl,_,ah,rfl,kX _,?_⟩⟩
 have:=k H2 s2
 rw[ik];have e:dec (Tr.str nm∈(aS (l.getD 3 .non)).map Tr.str)=decide (nm∈aS (l.getD 3 .non)):=by
  by_cases z:nm∈aS (l.getD 3 .non)
  .rw[dw (HF z),decide_eq_true z]
  .rw[iB (λw=>z (by obtain⟨b,hb,eb⟩:=v9.mp w;injection eb with eb;rw[<- eb];exact hb)),decide_eq_false z]
 rw[e] at this;exact this
theorem uu {pt:Addr} (T:Txt w K mg) (L:FnL K mg "is_wish" kS ["thing"]) (Fz : @DC P w K mg base) (Fi : Fn P w K mg base "is_plain_wish" 14 ["thing"] (spB (RT pt) cN)) (FS:Fn P w K mg base "is_same" 15 ["wish"] (gF (RT pt) eY)):Fn P w K mg base "is_wish" 16 ["thing"] (spB (RT pt) cD):=by
 ctx_has z uD <;> obtain⟨v,t,rfl,U,Z,k⟩:=h
 .rfl
 refine⟨_,(ai (bi (aE bA (ag Fz (aa (pvM 0) ac)) aq) (ao (aA (ag FS (aa (pvM 0) ac)))) aK)
  (ao (aA (ag Fi (aa (pvM 0) ac))))),?_⟩
 ctx_has v
 refine⟨v,t,rfl,U,?_⟩
 rcases fY t with⟨s,l,rfl⟩ | ⟨e,ew,ep⟩
 .have k : ∀H',ak H H'->Q (.bl (if s = "same" then eY (.str s :: l) else bp s (.str s :: l))) H':=k
  refine⟨rfl,?_⟩
  by_cases hs:s = "same"
  .rw[if_pos (by show V.str s=_;rw[hs])]
   exact⟨v,_,rfl,U,Z,λH' F=>by have:=k H' F;rwa [if_pos hs] at this⟩
  .rw[if_neg (by show ¬ V.str s=_;intro z;injection z with z;exact hs z)]
   exact⟨v,_,rfl,U,Z,λH' F=>by have:=k H' F;rwa [if_neg hs] at this⟩
 .rw[e]
  refine⟨rfl,?_⟩
  rw[if_neg (by intro z;cases z)]
  exact⟨v,t,rfl,U,Z,λH' F=>by have:=k H' F;rwa [ew,<- ep] at this⟩
def eP (ws:List Str):Prop:=ws.Nodup/\∀w∈ws,nmB w=true
theorem kN {w:Str} (h:nmB w=true):w.length<=20:=by
 simp only[nmB,fx,decide_eq_true_eq] at h;omega
theorem eP.sub {us:List Str} (h:eP ws) (s:us.Sublist ws):eP us:=⟨h.1.sublist s,λw F=>h.2 w (s.subset F)⟩
theorem xZ (h : ∀w∈ws,nmB w=true):(ws.map Tr.str).all bU=true:=by
 rw[all_map,l9];exact h
theorem mB:(ws.map Tr.str).Nodup↔ws.Nodup:=cn λa b e=>by injection e
theorem nh {ns:List Int}:(ns.map Tr.int).Nodup↔ns.Nodup:=cn λa b e=>by injection e
theorem iq (h:eP ws) (h1:1<=ws.length) (h2:ws.length<=12):cF (.tup (ws.map Tr.str))=true:=by
 simp only[cF,bq,unX,unT,f_,xZ h.2,dw (mB.mpr h.1),IL,fx,decide_eq_true_eq];omega
theorem oU {H:Hp} : ∀{ws:List Str},(∀w∈ws,nmB w=true)->TVs H (ws.map V.str) (ws.map Tr.str)
 | [],_=>rfl
 | w :: ws,h=>⟨_,_,rfl,⟨rfl,kN (h w (by simp))⟩,oU λx F=>h x (by simp[F])⟩
theorem cS (h:H a>>(ws.map V.str)) (F : ∀w∈ws,nmB w=true):TV H (.ref a) (.tup (ws.map Tr.str)):=⟨a,_,rfl,h,oU F⟩
theorem rS {H:Hp} : ∀{ns:List Int},TVs H (ns.map V.int) (ns.map Tr.int)
 | []=>rfl
 | n :: ns=>⟨_,_,rfl,rfl,rS⟩
theorem eZ {ns:List Int} (h:H a>>(ns.map V.int)):TV H (.ref a) (.tup (ns.map Tr.int)):=⟨a,_,rfl,h,rS⟩
theorem jl {ns:List Int} (h : ∀x∈ns,lo<=x/\x<=hi):(ns.map Tr.int).all (bO lo hi)=true:=by
 rw[all_map,l9];intro x F;simp only[Function.comp,bO,fx,decide_eq_true_eq];exact h x F
theorem jf {ns:List Int} (h:ns.Nodup) (h1:ns.length<=60) (h2 : ∀x∈ns,-1000000<=x/\x<=1000000):fV (.tup (ns.map Tr.int))=true:=by
 have:=jl h2
 simp only[fV,bq,unX,unT,f_,dD,this,dw (nh.mpr h),IL,fx,decide_eq_true_eq];omega
theorem BK {c:Int} (F:c≠0) (h1 : -1000000<=c) (h2:c<=1000000) (L:nmB nm=true):cY (.tup [.int c,.str nm])=true:=by
 simp[cY,dD,bO,nzT,bU,F,h1,h2,L]
theorem cj {s:Str} {cs:List Tr} (h:s ≠ "sum") (h2:s ≠ "many"):aS (.tup (.str s :: .tup (ws.map Tr.str) :: cs))=ws:=by
 show(if s = "sum" then _ else if s = "many" then _ else cE (ws.map Tr.str))=ws
 rw[if_neg h,if_neg h2,cO]
theorem eB (l:List Tr):bp "unlike" l=cV l:=by unfold bp;rw[if_pos rfl]
theorem lW (l:List Tr):bp "many" l=jq l:=by unfold bp;rw[if_neg (by decide+kernel),if_pos rfl]
theorem uf (l:List Tr):bp "sum" l=rR l:=by unfold bp;rw[if_neg (by decide+kernel),if_neg (by decide+kernel),if_pos rfl]
theorem jD (l:List Tr):bp "table" l=gi l:=by unfold bp;rw[if_neg (by decide+kernel),if_neg (by decide+kernel),if_neg (by decide+kernel),if_pos rfl]
theorem tJ (l:List Tr):bp "way" l=so l:=by unfold bp;rw[if_neg (by decide+kernel),if_neg (by decide+kernel),if_neg (by decide+kernel),if_neg (by decide+kernel),if_pos rfl]
theorem fS (l:List Tr):bp "behind" l=dk l:=by unfold bp;rw[if_neg (by decide+kernel),if_neg (by decide+kernel),if_neg (by decide+kernel),if_neg (by decide+kernel),if_neg (by decide+kernel),if_pos rfl]
def rM:Sp:=λvs H Q _=>∃(d l t:Addr) (cells:List Str),vs=[.ref d,.ref t]/\av H d l/\H t>>(cells.map V.str)/\1<=cells.length/\cells.length<=12/\eP cells/\∀(v:V) (F:Tr) (H':Hp),TV H' v F->cN F=true->(∀c∈aS F,c∈cells)->av H' d l->But d l H H'->Q v H'
def Dz:Sp:=λvs H Q _=>∃(d l:Addr) (wide F:Int),vs=[.ref d,.int wide,.int F]/\av H d l/\0 < wide/\wide<=14/\0<=F/\F<=60/\∀(v:V) (L:Tr) (H':Hp),TV H' v L->sZ wide L=true->av H' d l->But d l H H'->Q v H'
theorem Cv {x:V} {a b:Int} (L : -10000000000000<=a/\a<=10000000000000) (F : -10000000000000<=b/\b<=10000000000000) (h:x∈[V.int a,V.non,V.int b]) : ∃t,(∀H,TV H x t)/\sbT t=true:=by
 simp only[i4,md,or_false] at h;rcases h with rfl | rfl | rfl
 .exact⟨.int a,λ_=>rfl,by simp[sbT,bO,L]⟩
 .exact⟨.non,λ_=>rfl,rfl⟩
 .exact⟨.int b,λ_=>rfl,by simp[sbT,bO,F]⟩
abbrev Ec:=Fn P w K mg base "_law_big_sum" 3 ["_law_deal_here","_law_some"] (rM)
theorem lL (T:Txt w K mg) (L:FnL K mg "_law_big_sum" eI ["_law_deal_here","_law_some"]) (Fa : @Dz0 P w K mg base) (Fb : @Dz3 P w K mg base) : @Ec P w K mg base:=by
 ctx_has z lS <;> obtain⟨d,l,t,cells,rfl,D,ht,aJ,aF,a3,k⟩:=h
 .rfl
 refine⟨_,(ai (ay 2 (bu ac))
  (ai (da (kZ K (aQ hV (pvM 1) bv (aV af))) (aP 3) (ai (ay 4 (ag Fb (aa (pvM 0) (aa (ax dE af af) ac))))
  (ao (bY (fe t9 t_ cB (pvM 2) (aa (au (aa (ax aW (pvM 4) (aM ix T.b_int (aa (bH bA (pvM 4) af) ac))) (aa (pvM 3) ac))) ac))))))
  (ai (ay 5 (bu (aa (ag Fb (aa (pvM 0) (aa (ax dE af af) ac))) (aa fB (aa (ag Fb (aa (pvM 0) (aa (ax dE af af) ac))) ac)))))
  (ao (aA (au (aa aq (aa (aM bo T.b_tuple (aa (pvM 2) ac)) (aa (aB dI (pvM 5) (ag Fa (aa (pvM 0) (aa af ac)))) (aa (aB dI (pvM 5) (ax aW af (ag Fa (aa (pvM 0) (aa af ac))))) ac)))))))))),?_⟩
 ctx_has v ht
 refine⟨∅,λp hp=>?_⟩
 have np:=D.ne hp;have tp:t≠p:=aj ht hp
 refine⟨_,by rw[ah tp];exact ht,λq H1 h1 am=>⟨_,h1,?_⟩⟩
 rw[show((6:Int))=((6:Nat):Int) from rfl,gb] at h1
 have D1:=(D.new (o:=.lst []) hp).same am;have B1:=((But.refl H).new (d:=d) (l:=l) (o:=.lst []) hp).same am;have a5:=am _ _ (ae (H:=H) (a:=p) (o:=.lst []));have a2:eP (cells.take 6):=a3.sub (IS _ _)
 refine gJ eU (λi σ H'=>∃(ts:List V) (ms:List Tr) (v3 v4:Option V),σ=[-d,-t,-p,v3,v4,none]/\TVs H' ts ms/\ms.all cY=true/\ms.map (λt=>(itT t).getD 1 .non)=((cells.take 6).take i).map Tr.str/\H' p*>ts/\H' q>>((cells.take 6).map V.str)/\av H' d l/\But d l H H')
  ⟨[],[],_,_,rfl,rfl,rfl,by simp,a5,h1,D1,B1⟩ (λi σ H' az=>by obtain⟨_,_,_,_,_,_,_,_,_,h,_⟩:=az;exact(.of h)) ?_ ?_
 .rintro i x σ H2 hi hx ⟨ts,ms,v3,v4,rfl,hts,hall,hnm',h2,h2q,D2,B2⟩
  rw[f_] at hi;rw[q_] at hx;ctx_has v
  obtain⟨nm,ap,rfl⟩ : ∃nm,(cells.take 6)[i]? = some nm/\V.str nm=x:=by
   cases e:(cells.take 6)[i]? with
   | none=>rw[e] at hx;cases hx
   | some nm=>rw[e] at hx;exact⟨nm,rfl,j9 hx⟩
  refine⟨⟨∅,∅,∅⟩,d,l,_,rfl,D2,∅,∅,λa H3 a0 a1 D3 B3=>?_⟩
  replace a0 : -1000000<=a:=a0
  replace a1:a<=1000000:=a1
  have h3:=B3 p _ np.1 np.2 h2;have an:=B3.keepT D2 _ _ h2q;ctx_has v h3
  refine⟨∅,λr ad=>?_⟩
  have pr:p≠r:=aj h3 ad
  have hb:=a2.2 nm (j7 ap);have kp:bz H3 (upd (upd H3 r (HO.tup [V.int (a+if a=0 then 1 else 0),V.str nm])) p (HO.lst (ts++[.ref r]))):=(ak.keepT (ak.upd0 ad)).trans (bc (ys:=ts) (by rw[ah pr];exact h3))
  have aK:ts.length=i:=by
   rw[hts.len];have:=congrArg w9 hnm'
   simp only[f_,m8] at this;rw[m8] at hi;omega
  refine⟨ts,by rw[ah pr];exact h3,aw (by rw[m8] at hi;omega),ts++[.ref r],ms++[.tup [.int (a+if a=0 then 1 else 0),.str nm]],?_,?_,?_,ae,?_,(D3.new ad).put np.1 np.2,((B2.trans B3).new ad).put hp⟩
  .exact(TVs.keep kp _ (TVs.keep (B3.keepT D2) _ hts)).app (TVs.one ⟨r,_,rfl,by rw[ah pr.symm];exact ae,_,_,rfl,rfl,_,_,rfl,⟨rfl,kN hb⟩,rfl⟩)
  .rw[all_append,hall,IR,all_nil,BK (by split <;> omega) (by split <;> omega) (by split <;> omega) hb];rfl
  .rw[m7,hnm',w5 (l:=cells.take 6),ap];simp[itT]
  .rw[ah (eV an h3 (by intro z;cases z)),ah (aj an ad)]
   exact an
 .rintro σ H2 ⟨ts,ms,v3,v4,rfl,hts,hall,hnm',h2,h2q,D2,B2⟩
  rw[f_,A_] at hnm';ctx_has v h2
  refine⟨⟨∅,∅,∅⟩,d,l,_,rfl,D2,∅,∅,λx H3 x0 x1 D3 B3=>?_⟩
  replace x0 : -10000000000000<=x:=x0
  replace x1:x<=10000000000000:=x1
  refine⟨⟨∅,∅,∅⟩,d,l,_,rfl,D3,∅,∅,λy H4 y0 y1 D4 B4=>?_⟩
  replace y0 : -10000000000000<=y:=y0
  replace y1:y<=10000000000000:=y1
  have h4:=B4 p _ np.1 np.2 (B3 p _ np.1 np.2 h2);refine⟨∅,λr U=>⟨ts,by rw[ah (aj h4 U)];exact h4,λu Z=>?_⟩⟩
  have D5:=(D4.new (o:=.lst [V.int x,V.non,V.int y]) U).new (o:=.tup ts) Z;have B5:=(((B2.trans B3).trans B4).new (o:=.lst [V.int x,V.non,V.int y]) U).new (o:=.tup ts) Z;have ur:u≠r:=by rintro rfl;rw[ae] at Z;cases Z
  have nr:=D4.ne U;have nu:=(D4.new (o:=.lst [V.int x,V.non,V.int y]) U).ne Z;have k5:bz H2 (upd (upd H4 r (HO.lst [V.int x,V.non,V.int y])) u (HO.tup ts)):=((B3.keepT D2).trans (B4.keepT D3)).trans (ak.keepT ((ak.upd0 U).upd_new Z))
  refine aI D5 ∅ ∅ λr6 H6 a4 aL D6 B6=>?_
  have h6:=B6 r _ nr.1 nr.2 (by rw[ah ur.symm];exact ae)
  obtain⟨v,ha,hv⟩:=ma (xs:=[V.int x,V.non,V.int y]) (i:=r6) a4 (by simp;omega)
  refine⟨_,rfl,_,h6,_,ha,?_⟩
  refine aI D6 ∅ ∅ λr7 H7 aH aG D7 B7=>?_
  have h7:=B7 r _ nr.1 nr.2 h6;obtain⟨v2,a7,a9⟩:=ma (xs:=[V.int x,V.non,V.int y]) (i:=1+r7) () (by simp;omega)
  refine⟨_,rfl,_,h7,_,a7,∅,λg hg=>?_⟩
  have k7:bz H2 (upd H7 g (HO.tup [V.str "sum",V.ref u,v,v2])):=((k5.trans (B6.keepT D5)).trans (B7.keepT D6)).trans (ak.keepT (ak.upd0 hg))
  have ar:=B7.keepT D6 _ _ (B6.keepT D5 _ _ (ae (H:=upd H4 r (HO.lst [V.int x,V.non,V.int y])) (a:=u) (o:=.tup ts)));obtain⟨b1,aD,a8⟩:=Cv ⟨x0,x1⟩ ⟨y0,y1⟩ hv;obtain⟨b2,aE,a6⟩:=Cv ⟨x0,x1⟩ ⟨y0,y1⟩ a9;have as:ms.length=(cells.take 6).length:=by have:=congrArg w9 hnm';simpa using this
  have aC:ia (.tup ms)=true:=by
   have e1:unT (ms.map λt=>(itT t).getD 1 .non)=true:=by rw[hnm'];exact dw (mB.mpr a2.1)
   rw[m8] at as
   show(bq cY 1 6 (.tup ms) && unT (ms.map λt=>(itT t).getD 1 .non))=true
   rw[e1];simp only[bq,hall,IL,fx,decide_eq_true_eq];omega
  refine k _ (.tup [.str "sum",.tup ms,b1,b2]) _ ⟨g,_,rfl,ae,_,_,rfl,⟨rfl,∅⟩,_,_,rfl,⟨u,ts,rfl,by rw[ah (aj ar hg)];exact ar,TVs.keep k7 _ hts⟩,_,_,rfl,aD _,_,_,rfl,aE _,rfl⟩ ?_ (λc hc=>?_) (D7.new hg) (((B5.trans B6).trans B7).new hg)
  .show bp "sum" _=true
   rw[uf];simp[rR,aC,a8,a6]
  .have e:aS (.tup [.str "sum",.tup ms,b1,b2])=cells.take 6:=by
    show cE (ms.map λt=>(itT t).getD 1 .non)=_
    rw[hnm',cO]
   rw[e] at hc;exact G3 hc
theorem jt {α β:Type} {f:α->β} : ∀{l:List α},(l.map f).Nodup->l.Nodup
 | [],_=>by simp
 | a :: l,h=>by
  rw[k9,D_] at h;rw[D_];exact⟨λz=>h.1 (HF z),jt h.2⟩
theorem ln : ∀{a b:List Int},a.map Tr.int=b.map Tr.int->a=b
 | [],[],_=>rfl
 | [],_ :: _,h=>by cases h
 | _ :: _,[],h=>by cases h
 | x :: a,y :: b,h=>by
  rw[k9,k9] at h
  injection h with h1 h2
  injection h1 with h1
  rw[h1,ln h2]
abbrev Eg:=Fn P w K mg base "_law_big_rows" 4 ["_law_deal_here","_law_wide","_law_many_here"] (Dz)
theorem jP (T:Txt w K mg) (L:FnL K mg "_law_big_rows" cI ["_law_deal_here","_law_wide","_law_many_here"]) (Fa : @Dz0 P w K mg base) (Fb : @Dz3 P w K mg base) (Fc : @Dz4 P w K mg base) : @Eg P w K mg base:=by
 ctx_has z kJ <;> obtain⟨d,l,wide,ar,rfl,D,w0,w1,m0,m1,k⟩:=h
 .rfl
 refine⟨_,(ai (ay 3 (ag Fc (aa (pvM 0) (aa (pvM 2) ac))))
  (ai (ay 4 (ag Fa (aa (pvM 0) (aa (pvM 1) ac))))
  (ai (ay 5 (bu ac))
  (ai (da (kZ K (pvM 3)) (aP 6) (ai (mf 7 (N:=["_law_k","_law_deal_here"]) (nt:=1) (js:=[0]) (bI ["_law_deal_here","_law_wide","_law_many_here","_law_first","_law_place","_law_rows","_law_value","_law_row"] (am cI).names) (ck rfl T.b_range (aa (pvM 1) ac)) (aP 0) bN cr (ag Fb (aa (pvM 1) (aa (ax dE af af) ac))))
  (ai (kh (pvM 6) (nO (pvM 7) (pvM 4) wl))
  (ao (bY (fe t9 t_ cB (pvM 5) (aa (aM bo T.b_tuple (aa (pvM 7) ac)) ac)))))))
  (ao (aA (aM bo T.b_tuple (aa (pvM 5) ac)))))))),?_⟩
 ctx_has v
 refine⟨d,l,_,rfl,D,m0,m1,λq ns H1 _ a6 a3 a2 h1 D1 B1=>?_⟩
 refine aI D1 w0 () λr H2 r0 r1 D2 B2=>?_
 refine⟨∅,λp hp=>?_⟩
 have ad:=B2.keepT D1 _ _ h1;have np:=D2.ne hp;refine⟨q,rfl,_,by rw[ah (aj ad hp)];exact ad,?_⟩
 have fr:H p=none:=(B1.trans B2).free D2 hp
 refine gJ eU (λi σ H'=>∃(ts:List V) (Z:List (List Int)) (v6 v7:Option V),σ=[-d,some (.int wide),some (.int ar),-q,some (.int r),-p,v6,v7]/\TVs H' ts (Z.map λx=>.tup (x.map Tr.int))/\(∀x∈Z,(x.length:Int)=wide/\∀y∈x,-1000000<=y/\y<=1000000)/\Z.map (λx=>x.getD r.toNat 0)=ns.take i/\H' p*>ts/\H' q>>(ns.map V.int)/\av H' d l/\But d l H H')
  ⟨[],[],_,_,rfl,rfl,by simp,by simp,ae,by rw[ah (aj ad hp)];exact ad,D2.new hp,(B1.trans B2).new hp⟩ (λi σ H' ap=>by obtain⟨_,_,_,_,_,_,_,_,_,h,_⟩:=ap;exact(.of h)) ?_ ?_
 .rintro i x σ H3 hi hx ⟨ts,Z,v6,v7,rfl,hts,hrs,hcol,h3,h3q,D3,B3⟩
  rw[f_] at hi;rw[q_] at hx;obtain⟨nv,aq,rfl⟩ : ∃nv,ns[i]? = some nv/\V.int nv=x:=by
   cases e:ns[i]? with
   | none=>rw[e] at hx;cases hx
   | some nm=>rw[e] at hx;exact⟨nm,rfl,j9 hx⟩
  have hl:ts.length=i:=by
   rw[hts.len,f_];have:=congrArg w9 hcol
   simp only[f_,m8] at this;omega
  ctx_has v
  refine⟨(),(),λg hg=>?_⟩
  have ng:=D3.ne hg;have pg:p≠g:=aj h3 hg
  have fg:H g=none:=B3.free D3 hg
  refine eR cm (λj ys H4=>∃zs:List Int,ys=zs.map V.int/\zs.length=j/\(∀y∈zs,-1000000<=y/\y<=1000000)/\H4 g*>ys/\H4 p*>ts/\bz H3 H4/\av H4 d l/\But d l H H4)
   ⟨[],rfl,rfl,by simp,ae,by rw[ah pg];exact h3,ak.keepT (ak.upd0 hg),D3.new hg,B3.new hg⟩ (λ_ _ _ _=>g9) ?_ ?_
  .rintro j y ys H4 hj hy ⟨zs,rfl,hyl,hzr,h4,h4p,k4,D4,B4⟩
   rw[aG] at hj;ctx_has v
   refine⟨⟨∅,∅,∅⟩,d,l,_,rfl,D4,∅,∅,λa H5 a0 a1 D5 B5=>?_⟩
   replace a0 : -1000000<=a:=a0
   replace a1:a<=1000000:=a1
   have h5:=B5 g _ ng.1 ng.2 h4;refine⟨h5,by rw[f_];exact aw (),zs++[a],by simp,by simp;omega,λy hy=>?_,ae,by rw[ah pg];exact B5 p _ np.1 np.2 h4p,(k4.trans (B5.keepT D4)).trans (bc h5),D5.put ng.1 ng.2,(B4.trans B5).put fg⟩
   rcases t0.mp hy with z | z
   .exact hzr y z
   .rw[k_.mp z];exact⟨a0,a1⟩
  .rintro ys H4 ⟨zs,rfl,hyl,hzr,h4,h4p,k4,D4,B4⟩
   rw[aG] at hyl;ctx_has v h4 h4p
   refine⟨r0,by rw[f_];omega,by simp[ah pg,h4p],?_⟩
   refine⟨_,ae,λu U=>?_⟩
   have gu:g≠u:=by rintro rfl;rw[ae] at U;cases U
   have an:H4 u=none:=by rwa [ah gu.symm] at U
   have pu:p≠u:=aj h4p an
   have az:(zs.map V.int).set r.toNat (V.int nv)=(zs.set r.toNat nv).map V.int:=by rw[List.map_set]
   rw[az] at U ⊢;have kk:bz H4 (upd (upd (upd H4 g (.lst ((zs.set r.toNat nv).map V.int))) u (.tup ((zs.set r.toNat nv).map V.int))) p (.lst (ts++[.ref u]))):=λb vs e=>by
    rw[ah (eV e h4p (by intro z;cases z)),ah (aj e an),ah (eV e h4 (by intro z;cases z))];exact e
   refine⟨ts,by rw[ah pu,ah pg];exact h4p,aw (),ts++[.ref u],Z++[zs.set r.toNat nv],?_,λx hx=>?_,?_,ae,kk _ _ (k4 _ _ h3q),?_,?_⟩
   .rw[m7]
    exact(TVs.keep kk _ (TVs.keep k4 _ hts)).app (TVs.one (eZ (by rw[ah pu.symm];exact ae)))
   .rcases t0.mp hx with z | z
    .exact hrs x z
    .rw[k_.mp z]
     refine⟨by rw[length_set];omega,λy hy=>?_⟩
     rcases List.mem_or_eq_of_mem_set hy with z | z
     .exact hzr y z
     .rw[z];exact a2 nv (j7 aq)
   .rw[m7,hcol,w5,aq,k9,JI]
    have a4:r.toNat < zs.length:=()
    simp[zc,a4]
   .exact(((D4.put ng.1 ng.2).new U)).put np.1 np.2
   .exact((B4.put fg).new U).put fr
 .rintro σ H3 ⟨ts,Z,v6,v7,rfl,hts,hrs,hcol,h3,h3q,D3,B3⟩
  rw[f_,A_] at hcol;ctx_has v h3
  intro u U;have a5:Z.length=ns.length:=by have:=congrArg w9 hcol;simpa using this
  refine k _ (.tup (Z.map λx=>.tup (x.map Tr.int))) _ ⟨u,ts,rfl,ae,TVs.keep (ak.keepT (ak.upd0 U)) _ hts⟩ ?_ (D3.new U) (B3.new U)
  have au:(Z.map λx=>Tr.tup (x.map Tr.int)).all (qd wide)=true:=by
   rw[all_map,l9];intro x hx;obtain⟨h1,h2⟩:=hrs x hx;have h4:=jl h2
   show qd wide (.tup (x.map Tr.int))=true
   simp only[qd,bq,f_,dD,h4,IL,fx,decide_eq_true_eq];omega
  have as:(Z.map λx=>Tr.tup (x.map Tr.int)).Nodup:=by
   have h5:Z.Nodup:=by
    refine jt (f:=λx=>x.getD r.toNat 0) ?_
    rw[hcol];exact a3
   refine(cn λa b e=>?_).mpr h5
   injection e with e
   exact ln e
  show(bq (qd wide) 0 60 (.tup (Z.map λx=>.tup (x.map Tr.int))) && unT (Z.map λx=>.tup (x.map Tr.int)))=true
  rw[show unT (Z.map λx=>Tr.tup (x.map Tr.int))=true from dw as]
  simp only[bq,au,IL,fx,decide_eq_true_eq,f_];omega
def prW (S:Int) (ns:List Int) (k:Nat):Int × Int:=(((k:Int)+(k:Int) / S) % S,ns.getD ((k:Int) / S).toNat 0)
theorem BN {S:Int} {ns:List Int} (hS:0 < S) (U:ns.Nodup) (hl:ns.length=60) {a b:Nat} (ha:a < 60) (hb:b < 60) (h:prW S ns a=prW S ns b):a=b:=by
 have q0:0<=(a:Int) / S:=Int.ediv_nonneg () ()
 have q1:0<=(b:Int) / S:=Int.ediv_nonneg () ()
 have q2:(a:Int) / S<=a:=Int.ediv_le_self _ ()
 have q3:(b:Int) / S<=b:=Int.ediv_le_self _ ()
 have e1:((a:Int)+(a:Int) / S) % S=((b:Int)+(b:Int) / S) % S:=congrArg Prod.fst h
 have e2:ns.getD ((a:Int) / S).toNat 0=ns.getD ((b:Int) / S).toNat 0:=congrArg Prod.snd h
 have Z:((a:Int) / S).toNat < ns.length:=()
 have L:((b:Int) / S).toNat < ns.length:=()
 have e3:((a:Int) / S).toNat=((b:Int) / S).toNat:=by
  rw[zc,zc,j6 Z,j6 L,Jc,Jc] at e2;exact(List.getElem_inj U).mp e2
 have F:(a:Int) / S=(b:Int) / S:=()
 rw[F] at e1
 replace e1:(a:Int) % S=(b:Int) % S:=(Int.emod_add_cancel_right _).mp e1
 have h1:=Int.mul_ediv_add_emod (a:Int) S;have h2:=Int.mul_ediv_add_emod (b:Int) S;rw[F,e1] at h1;omega
theorem wU {S:Int} {ns:List Int} (L:0 < S) (F:ns.Nodup) (hl:ns.length=60) {n:Nat} (h:n<=60):((range n).map (prW S ns)).Nodup:=by
 rw[List.Nodup,Js];refine List.Pairwise.imp_of_mem (λ{a b} ha hb hab e=>?_) (nodup_range (n:=n))
 exact hab (BN L F hl (by have:=x5.mp ha;omega) (by have:=x5.mp hb;omega) e)
def enW (k:Nat):Int:=((k:Int) * 8) % 21
theorem wH (h:n<=21):((range n).map enW).Nodup:=by
 have:((range 21).map enW).Nodup:=by decide+kernel
 exact this.sublist ((List.range_sublist.mpr h).map enW)
def lO (x:Int × Int × Int):Tr:=.tup [.int x.1,.int x.2.1,.int x.2.2]
theorem CU {x:Int × Int × Int} (h1:0<=x.1/\x.1<=20) (h2 : -1000000<=x.2.1/\x.2.1<=1000000) (F:0<=x.2.2/\x.2.2<=20):cZ (lO x)=true:=by
 simp[cZ,lO,stT,dD,bO,h1,h2,F]
theorem xN {S:Int} {ns:List Int} (hS:0 < S) (Z:ns.Nodup) (hl:ns.length=60) (h:n<=60) (e:sts.map (λx=>(x.1,x.2.1))=(range n).map (prW S ns)) (L : ∀x∈sts,cZ (lO x)=true):jQ (.tup (sts.map lO))=true:=by
 have F:sts.length=n:=by have:=congrArg w9 e;simpa using this
 have h1:(sts.map lO).all cZ=true:=by rw[all_map,l9];exact L
 have h2:unT ((sts.map lO).map λt=>.tup ((itT t).take 2))=true:=by
  refine dw ?_
  have h3:(sts.map λx=>(x.1,x.2.1)).Nodup:=by rw[e];exact wU hS Z hl h
  have U:(sts.map lO).map (λt=>Tr.tup ((itT t).take 2))=(sts.map λx=>(x.1,x.2.1)).map λy=>Tr.tup [.int y.1,.int y.2]:=by
   rw[Ij,Ij];rfl
  rw[U];refine(cn λa b e=>?_).mpr h3
  injection e with e
  injection e with e1 e2
  injection e1 with e1
  injection e2 with e2 _
  injection e2 with e2
  exact Prod.ext e1 e2
 show(bq cZ 0 60 (.tup (sts.map lO)) && unT ((sts.map lO).map λt=>.tup ((itT t).take 2)))=true
 rw[h2];simp only[bq,h1,IL,fx,decide_eq_true_eq,f_];omega
theorem zo {es:List Int} (h:n<=21) (p:es.Perm ((range n).map enW)):mK (.tup (es.map Tr.int))=true:=by
 have h1 : ∀x∈es,0<=x/\x<=20:=λx L=>by
  obtain⟨k,_,rfl⟩:=v9.mp (p.mem_iff.mp L);unfold enW;omega
 have h2:es.Nodup:=p.nodup_iff.mpr (wH h)
 have U:es.length=n:=by have:=p.length_eq;simpa using this
 have F:=jl h1;simp only[mK,bq,unX,unT,f_,stT,F,dw (nh.mpr h2),IL,fx,decide_eq_true_eq];omega
abbrev Cw:=Fn P w K mg base "_law_big_way" 4 ["_law_deal_here","_law_some"] (rM)
theorem lJ (T:Txt w K mg) (L:FnL K mg "_law_big_way" eK ["_law_deal_here","_law_some"]) (Fa : @Dz0 P w K mg base) (Fc : @Dz4 P w K mg base) (Fh : @Dz5 P w K mg base) : @Cw P w K mg base:=by
 ctx_has z lF <;> obtain⟨d,l,t,cells,rfl,D,ht,a4,a0,ap,k⟩:=h
 .rfl
 refine⟨_,(ai (ay 2 (ax aW af (ag Fa (aa (pvM 0) (aa af ac)))))
  (ai (ay 3 (ag Fc (aa (pvM 0) (aa af ac))))
  (ai (ay 4 (bu ac))
  (ai (da (ck rfl T.b_range (aa (ag Fh (aa (pvM 0) (aa af ac))) ac)) (aP 5) (ao (bY (fe t9 t_ cB (pvM 4) (aa (au (aa (ax cM (ax aW (pvM 5) (ax fR (pvM 5) (pvM 2))) (pvM 2)) (aa (aB bB (pvM 3) (ax fR (pvM 5) (pvM 2))) (aa (ag Fa (aa (pvM 0) (aa af ac))) ac)))) ac)))))
  (ai (ay 6 (bu ac))
  (ai (da (ck rfl T.b_range (aa (ag Fh (aa (pvM 0) (aa af ac))) ac)) (aP 5) (ao (bY (fe Ih Ii fT (pvM 6) (aa (ag Fa (aa (pvM 0) (aa (ax aW (ar be T.b_len (aa (pvM 6) ac)) af) ac))) (aa (ax cM (ax gv (pvM 5) af) af) ac))))))
  (ao (aA (au (aa aq (aa (pvM 1) (aa (aM bo T.b_tuple (aa (pvM 4) ac)) (aa (aM bo T.b_tuple (aa (pvM 6) ac)) ac))))))))))))),?_⟩
 ctx_has v ht
 refine aI D ∅ ∅ λr H1 r0 r1 D1 B1=>?_
 refine⟨_,rfl,d,l,_,rfl,D1,∅,∅,λq ns H2 _ an a9 a5 h2 D2 B2=>?_⟩
 replace an:ns.length=60:=an
 refine⟨∅,λp hp=>?_⟩
 have np:=D2.ne hp;have fp:H p=none:=(B1.trans B2).free D2 hp
 refine⟨d,l,_,rfl,D2.new hp,∅,∅,λj H3 j0 j1 D3 B3=>?_⟩
 refine⟨_,rfl,(),(),?_⟩
 have h3:=B3 p _ np.1 np.2 ae;have k3:bz H2 H3:=(ak.keepT (ak.upd0 (o:=.lst []) hp)).trans (B3.keepT (D2.new hp))
 have a6:=k3 _ _ h2;have aC:=k3 _ _ (B2.keepT D1 _ _ (B1.keepT D _ _ ht));have aF:=((B1.trans B2).new (o:=.lst []) hp).trans B3;refine gJ cm (λi σ H'=>∃(ts:List V) (sts:List (Int × Int × Int)) (v5:Option V),σ=[-d,-t,some (.int (1+r)),-q,-p,v5,none]/\TVs H' ts (sts.map lO)/\sts.map (λx=>(x.1,x.2.1))=(range i).map (prW (1+r) ns)/\(∀x∈sts,cZ (lO x)=true)/\H' p*>ts/\bz H3 H'/\av H' d l/\But d l H H')
  ⟨[],[],_,rfl,rfl,rfl,by simp,h3,λ_ _ e=>e,D3,aF⟩ (λ_ _ _ _=>g9) ?_ ?_
 .rintro i x σ H4 hi hx ⟨ts,sts,v5,rfl,hts,hpr,hst,h4,k4,D4,B4⟩
  rw[aG] at hi;rw[eQ hi] at hx;obtain rfl:=j9 hx
  have hl:ts.length=i:=by
   rw[hts.len,f_];have:=congrArg w9 hpr
   simpa using this
  have a8:=k4 _ _ a6;ctx_has v h4 a8
  have aH:(0+(i:Int)) / (1+r) < 60:=by
   have:(0+(i:Int)) / (1+r)<=0+(i:Int):=Int.ediv_le_self _ ()
   omega
  have am:0<=(0+(i:Int)) / (1+r):=Int.ediv_nonneg () ()
  have ad:((0+(i:Int)) / (1+r)).toNat < ns.length:=()
  have ha:atI (ns.map V.int) ((0+(i:Int)) / (1+r))=some (V.int (ns.getD ((0+(i:Int)) / (1+r)).toNat 0)):=by
   obtain⟨m,hm⟩ : ∃m:Nat,(0+(i:Int)) / (1+r)=(m:Int):=⟨_,(Int.toNat_of_nonneg am).symm⟩;rw[hm] at ad ⊢;rw[Int.toNat_natCast] at ad ⊢;exact bh (by simp[zc,ad])
  refine⟨⟨(),()⟩,(),⟨(),()⟩,_,ha,?_⟩
  refine aI D4 ∅ ∅ λr5 H5 aE aL D5 B5=>?_
  have h5:=B5 p _ np.1 np.2 h4;refine⟨∅,λu U=>?_⟩
  have pu:p≠u:=aj h5 U
  have kk:bz H5 (upd (upd H5 u (.tup [V.int ((0+(i:Int)+(0+(i:Int)) / (1+r)) % (1+r)),V.int (ns.getD ((0+(i:Int)) / (1+r)).toNat 0),V.int r5])) p (.lst (ts++[.ref u]))):=(ak.keepT (ak.upd0 U)).trans (bc (ys:=ts) (by rw[ah pu];exact h5))
  have m0:=Jj (0+(i:Int)+(0+(i:Int)) / (1+r)) (show(1+r)≠0 by omega)
  have m1:=Iz (0+(i:Int)+(0+(i:Int)) / (1+r)) (show 0 < 1+r by omega)
  have az:ns.getD ((0+(i:Int)) / (1+r)).toNat 0∈ns:=by
   rw[zc,j6 ad,Jc];exact List.getElem_mem ad
  refine⟨ts,by rw[ah pu];exact h5,aw (),ts++[.ref u],sts++[((0+(i:Int)+(0+(i:Int)) / (1+r)) % (1+r),ns.getD ((0+(i:Int)) / (1+r)).toNat 0,r5)],?_,?_,λx hx=>?_,ae,(k4.trans (B5.keepT D4)).trans kk,(D5.new U).put np.1 np.2,((B4.trans B5).new U).put fp⟩
  .rw[m7]
   exact(TVs.keep kk _ (TVs.keep (B5.keepT D4) _ hts)).app (TVs.one ⟨u,_,rfl,by rw[ah pu.symm];exact ae,_,_,rfl,rfl,_,_,rfl,rfl,_,_,rfl,rfl,rfl⟩)
  .rw[m7,hpr,range_succ,m7,k9,JI,k9,JI]
   unfold prW;rw[Int.zero_add]
  .rcases t0.mp hx with z | z
   .exact hst x z
   .rw[k_.mp z]
    exact CU ⟨m0,by show _ % _<=20;omega⟩ (a5 _ az) ⟨aE,by show r5<=20;omega⟩
 .rintro σ H4 ⟨ts,sts,v5,rfl,hts,hpr,hst,h4,k4,D4,B4⟩
  rw[aG] at hpr;ctx_has v
  refine⟨∅,λg hg=>?_⟩
  have ng:=D4.ne hg;have fg:H g=none:=B4.free D4 hg
  have gp:p≠g:=aj h4 hg
  refine⟨d,l,_,rfl,D4.new hg,∅,∅,λj2 H5 aK aJ D5 B5=>?_⟩
  refine⟨_,rfl,(),(),?_⟩
  have a7:bz H4 H5:=(ak.keepT (ak.upd0 (o:=.lst []) hg)).trans (B5.keepT (D4.new hg))
  refine gJ cm (λi σ H'=>∃(es:List Int) (v5:Option V),σ=[-d,-t,some (.int (1+r)),-q,-p,v5,-g]/\es.Perm ((range i).map enW)/\H' p*>ts/\H' g*>(es.map V.int)/\bz H4 H'/\av H' d l/\But d l H H')
   ⟨[],_,rfl,by simp,B5 p _ np.1 np.2 (by rw[ah gp];exact h4),B5 g _ ng.1 ng.2 ae,a7,D5,(B4.new hg).trans B5⟩ (λ_ _ _ _=>g9) ?_ ?_
  .rintro i x σ H6 hi hx ⟨es,v6,rfl,hpe,h6p,h6,k6,D6,B6⟩
   rw[aG] at hi;rw[eQ hi] at hx;obtain rfl:=j9 hx
   have aN:es.length=i:=by have:=hpe.length_eq;simpa using this
   ctx_has v h6
   refine aI D6 (by rw[f_];omega) (by rw[f_];omega) λr7 H7 a3 a2 D7 B7=>?_
   rw[f_] at a2;have h7:=B7 g _ ng.1 ng.2 h6;ctx_has v h7
   refine⟨cz () (),∅,a3,by rw[f_];omega,by rw[f_];exact aw (),es.take r7.toNat++enW i :: es.drop r7.toNat,?_,by rw[ah gp];exact B7 p _ np.1 np.2 h6p,?_,(k6.trans (B7.keepT D6)).trans (bc h7),D7.put ng.1 ng.2,(B6.trans B7).put fg⟩
   .rw[range_succ,m7]
    refine perm_middle.trans ?_
    rw[Iq];exact(hpe.cons _).trans (List.perm_append_singleton _ _).symm
   .rw[ae,m7,k9,map_take,map_drop]
    unfold enW;rw[Int.zero_add]
  .rintro σ H6 ⟨es,v6,rfl,hpe,h6p,h6,k6,D6,B6⟩
   rw[aG] at hpe;ctx_has v h6p
   intro u U;refine⟨es.map V.int,by rw[ah (aj h6 U)];exact h6,λu2 Z=>⟨∅,λw hw=>?_⟩⟩
   have sA:=ak.upd_new ((ak.upd0 (o:=.tup ts) U).upd_new (o:=.tup (es.map V.int)) Z) (o:=.tup [V.str "way",V.ref t,V.ref u,V.ref u2]) hw;have kA:bz H4 (upd (upd (upd H6 u (.tup ts)) u2 (.tup (es.map V.int))) w (.tup [V.str "way",V.ref t,V.ref u,V.ref u2])):=k6.trans (ak.keepT sA)
   have as:u≠u2:=by rintro rfl;rw[ae] at Z;cases Z
   have uw:u≠w:=by rintro rfl;rw[ah as,ae] at hw;cases hw
   have aD:u2≠w:=by rintro rfl;rw[ae] at hw;cases hw
   have a1:TV (upd (upd (upd H6 u (.tup ts)) u2 (.tup (es.map V.int))) w (.tup [V.str "way",V.ref t,V.ref u,V.ref u2])) (.ref t) (.tup (cells.map Tr.str)):=cS (kA _ _ (k4 _ _ aC)) ap.2
   refine k _ (.tup [.str "way",.tup (cells.map Tr.str),.tup (sts.map lO),.tup (es.map Tr.int)]) _ ⟨w,_,rfl,ae,_,_,rfl,⟨rfl,∅⟩,_,_,rfl,a1,_,_,rfl,⟨u,ts,rfl,by rw[ah uw,ah as];exact ae,TVs.keep kA _ hts⟩,_,_,rfl,eZ (by rw[ah aD];exact ae),rfl⟩ ?_ (λc hc=>?_) (((D6.new U).new Z).new hw) (((B6.new U).new Z).new hw)
   .show bp "way" _=true
    rw[tJ];have e1:=xN () a9 an () hpr hst
    have e2:=zo () hpe
    simp[so,iq ap a4 a0,e1,e2]
   .rwa [cj (by decide+kernel) (by decide+kernel)] at hc
def gr:List Str:=["unlike","many","sum","table","way","behind"]
def CL:Sp:=λvs H Q _=>∃(d l t:Addr) (cells:List Str) (F:Str),vs=[.ref d,.ref t,.str F]/\av H d l/\H t*>(cells.map V.str)/\1<=cells.length/\cells.length<=40/\eP cells/\F∈gr/\∀(v:V) (L:Tr) (H':Hp),TV H' v L->cN L=true->(∀c∈aS L,c∈cells)->av H' d l->But d l H H'->Q v H'
def fC:Tr->List Str
 | .tup (.str s :: l)=>if s = "same" then cE [l.getD 0 .non]++aS (l.getD 2 .non) else aS (.tup (.str s :: l))
 | _=>[]
theorem gm {t:Tr} (h:cN t=true):fC t=aS t:=by
 obtain⟨s,l,rfl,F⟩:=iW h
 show(if s = "same" then _ else _)=_
 rw[if_neg];rintro rfl
 rw[ju (by decide+kernel)] at F
 cases F
def F8:Sp:=λvs H Q _=>∃(d l t:Addr) (cells:List Str) (F:Str),vs=[.ref d,.ref t,.str F]/\av H d l/\H t*>(cells.map V.str)/\1<=cells.length/\cells.length<=40/\eP cells/\(F∈gr\/(F = "same" /\ 2<=cells.length))/\∀(v:V) (L:Tr) (H':Hp),TV H' v L->cD L=true->(∀c∈fC L,c∈cells)->av H' d l->But d l H H'->Q v H'
theorem ni {t:Tr} (h:cN t=true):cD t=true:=by
 obtain⟨s,l,rfl,F⟩:=iW h
 show(if s = "same" then eY (.str s :: l) else bp s (.str s :: l))=true
 rw[if_neg,F];rintro rfl
 rw[ju (by decide+kernel)] at F
 cases F
theorem qN {a m:Int} (h1 : Neg.neg m<=a) (h2:a<=m):0<=(if a < 0 then Neg.neg a else a)/\(if a < 0 then Neg.neg a else a)<=m:=by split <;> omega
abbrev E9:=Fn P w K mg base "_law_big_wish" 5 ["_law_deal_here","_law_names_here","_law_sort"] (CL)
theorem jk (T:Txt w K mg) (L:FnL K mg "_law_big_wish" cg ["_law_deal_here","_law_names_here","_law_sort"]) (Fa : @Dz0 P w K mg base) (Fb : @Dz3 P w K mg base) (Fc : @Dz4 P w K mg base) (Fh : @Dz5 P w K mg base) (Fm : @Ec P w K mg base) (Fj : @Eg P w K mg base) (Fl : @Cw P w K mg base) : @E9 P w K mg base:=by
 ctx_has z fL <;> obtain⟨d,l,t,cells,aD,rfl,D,ht,l0,l1,a5,hs,k⟩:=h
 .rfl
 refine⟨_,(ai (ay 3 (aM bo T.b_tuple (aa (aQ wI (pvM 1) bv (aV (ax aW af (ag Fa (aa (pvM 0) (aa (ar (iy rfl) T.b_min (aa af (aa (ar be T.b_len (aa (pvM 1) ac)) ac))) ac)))))) ac)))
  (ai (bi (aE bA (pvM 2) aq) (ao (aA (au (aa aq (aa (pvM 3) ac))))) aK)
  (ai (bi (aE bA (pvM 2) aq) (ai (ay 4 (ar jJ T.b_abs (aa (ag Fb (aa (pvM 0) (aa (ax dE af af) ac))) ac)))
  (ao (aA (au (aa aq (aa (ag Fc (aa (pvM 0) (aa (ag Fh (aa (pvM 0) (aa af ac))) ac))) (aa (pvM 3) (aa (pvM 4) (aa (ar jJ T.b_abs (aa (ag Fb (aa (pvM 0) (aa (ax dE af af) ac))) ac)) ac))))))))) aK)
  (ai (bi (aE bA (pvM 2) aq) (ao (aA (ag Fm (aa (pvM 0) (aa (pvM 3) ac))))) aK)
  (ai (bi (aE bA (pvM 2) aq) (ao (aA (au (aa aq (aa (pvM 3) (aa (ag Fj (aa (pvM 0) (aa (ar bf T.b_len (aa (pvM 3) ac)) (aa (ag Fh (aa (pvM 0) (aa af ac))) ac)))) ac)))))) aK)
  (ai (bi (aE bA (pvM 2) aq) (ao (aA (ag Fl (aa (pvM 0) (aa (pvM 3) ac))))) aK)
  (ai (bi (aE bA (pvM 2) aq) (ao (aA (au (aa aq (aa (pvM 3) (aa (ag Fb (aa (pvM 0) (aa (ax dE af af) ac))) ac)))))) aK)
  (ai (ay 5 (aB dI (bu (aa aq (aa aq (aa aq (aa aq (aa aq (aa aq ac))))))) (ag Fa (aa (pvM 0) (aa af ac)))))
  (ao yQ))))))))),?_⟩
 ctx_has v ht
 have am:=k;have td:t≠d:=by
  obtain⟨m,sd,n,xs,hd,hl,_⟩:=D.ex;exact eV ht hd (by intro z;cases z)
 have tl:t≠l:=by
  rintro rfl
  obtain⟨m,sd,n,xs,hd,hl,_⟩:=D.ex;rw[ht] at hl;cases cells with
  | nil=>simp at l0
  | cons a b=>cases xs with
   | nil=>cases hl
   | cons c e=>cases hl
 refine aI D (by rw[f_];split <;> omega) (by rw[f_];split <;> omega) λr H1 r0 r1 D1 B1=>?_
 have az:=B1 t _ td tl ht;rw[f_] at r1;obtain⟨n,hn⟩ : ∃n:Nat,1+r=(n:Int):=⟨(1+r).toNat,()⟩
 refine⟨_,rfl,_,az,?_⟩
 rw[hn,gb];have ad:(cells.take n).length<=12/\1<=(cells.take n).length:=by
  rw[m8]
  split at r1 <;> omega
 have F : ∀c∈cells.take n,c∈cells:=λc Z=>G3 Z
 have U:eP (cells.take n):=a5.sub (IS _ _)
 generalize cells.take n=cs at ad F U ⊢;have an:=iq U ad.2 ad.1;intro p hp;refine⟨_,ae,λu av=>?_⟩
 have h3:upd (upd H1 p (HO.lst (cs.map V.str))) u (HO.tup (cs.map V.str)) u=some (HO.tup (cs.map V.str)):=ae
 have D3:=(D1.new (o:=HO.lst (cs.map V.str)) hp).new (o:=HO.tup (cs.map V.str)) av;have B3:=(B1.new (o:=HO.lst (cs.map V.str)) hp).new (o:=HO.tup (cs.map V.str)) av;have a8:upd (upd H1 p (HO.lst (cs.map V.str))) u (HO.tup (cs.map V.str)) t=some (HO.lst (cells.map V.str)):=ak.upd_new (ak.upd0 hp) av _ _ az
 generalize upd (upd H1 p (HO.lst (cs.map V.str))) u (HO.tup (cs.map V.str))=H3 at h3 D3 B3 a8 ⊢;refine bR (λe1=>?_) (λe1=>?_)
 .refine⟨∅,λw hw=>am _ (.tup [.str "unlike",.tup (cs.map Tr.str)]) _ ⟨w,_,rfl,ae,_,_,rfl,⟨rfl,∅⟩,_,_,rfl,cS (by rw[ah (aj h3 hw)];exact h3) U.2,rfl⟩ ?_ (λc Z=>?_) (D3.new hw) (B3.new hw)⟩
  .show bp "unlike" _=true
   rw[eB];simp[cV,an]
  .rw[cj (by decide+kernel) (by decide+kernel)] at Z;exact F c Z
 refine bR (λe2=>?_) (λe2=>?_)
 .refine⟨⟨∅,∅,∅⟩,d,l,_,rfl,D3,∅,∅,λa H4 a0 a1 D4 B4=>⟨_,rfl,?_⟩⟩
  refine⟨d,l,_,rfl,D4,∅,∅,λb H5 b0 b1 D5 B5=>?_⟩
  refine⟨d,l,_,rfl,D5,b0,b1,λg ns H6 _ aF a7 a6 a9 D6 B6=>?_⟩
  refine⟨⟨∅,∅,∅⟩,d,l,_,rfl,D6,∅,∅,λa2 H7 c0 c1 D7 B7=>⟨_,rfl,∅,λw hw=>?_⟩⟩
  have h7:=B7.keepT D6 _ _ (B6.keepT D5 _ _ (B5.keepT D4 _ _ (B4.keepT D3 _ _ h3)));have a3:=B7.keepT D6 _ _ a9;refine am _ (.tup [.str "many",.tup (ns.map Tr.int),.tup (cs.map Tr.str),.int _,.int _]) _ ⟨w,_,rfl,ae,_,_,rfl,⟨rfl,∅⟩,_,_,rfl,eZ (by rw[ah (aj a3 hw)];exact a3),_,_,rfl,cS (by rw[ah (aj h7 hw)];exact h7) U.2,_,_,rfl,rfl,_,_,rfl,rfl,rfl⟩ ?_ (λc Z=>?_) (D7.new hw) (((((B3.trans B4).trans B5).trans B6).trans B7).new hw)
  .show bp "many" _=true
   rw[lW];have e3:=jf a7 () a6
   have e4:=qN (m:=1000000000) a0 a1;have e5:=qN (m:=1000000000) c0 c1;simp[jq,mbT,bO,an,e3]
   exact⟨e4,e5⟩
  .have e : ∀x y,aS (.tup [.str "many",.tup (ns.map Tr.int),.tup (cs.map Tr.str),x,y])=cs:=λ_ _=>cO cs
   rw[e] at Z;exact F c Z
 refine bR (λe3=>?_) (λe3=>?_)
 .exact⟨d,l,u,cs,rfl,D3,h3,ad.2,ad.1,U,λv tr H4 as aw ap D4 B4=>am v tr H4 as aw (λc Z=>F c (ap c Z)) D4 (B3.trans B4)⟩
 refine bR (λe4=>?_) (λe4=>?_)
 .refine⟨_,h3,d,l,_,rfl,D3,∅,∅,λb H5 b0 b1 D5 B5=>?_⟩
  refine⟨d,l,_,_,rfl,D5,by rw[f_];omega,by rw[f_];omega,b0,b1,λv tr H6 aC a4 D6 B6=>⟨∅,λw hw=>?_⟩⟩
  rw[f_] at a4;have h6:=B6.keepT D5 _ _ (B5.keepT D3 _ _ h3);refine am _ (.tup [.str "table",.tup (cs.map Tr.str),tr]) _ ⟨w,_,rfl,ae,_,_,rfl,⟨rfl,∅⟩,_,_,rfl,cS (by rw[ah (aj h6 hw)];exact h6) U.2,_,_,rfl,TV.keep (ak.keepT (ak.upd0 hw)) _ aC,rfl⟩ ?_ (λc Z=>?_) (D6.new hw) (((B3.trans B5).trans B6).new hw)
  .show bp "table" _=true
   rw[jD];simp[gi,itT,an,a4]
  .rw[cj (by decide+kernel) (by decide+kernel)] at Z;exact F c Z
 refine bR (λe5=>?_) (λe5=>?_)
 .exact⟨d,l,u,cs,rfl,D3,h3,ad.2,ad.1,U,λv tr H4 as aw ap D4 B4=>am v tr H4 as aw (λc Z=>F c (ap c Z)) D4 (B3.trans B4)⟩
 refine bR (λe6=>?_) (λe6=>?_)
 .refine⟨⟨∅,∅,∅⟩,d,l,_,rfl,D3,∅,∅,λa H4 a0 a1 D4 B4=>⟨∅,λw hw=>?_⟩⟩
  replace a0 : -1000000000<=a:=a0
  replace a1:a<=1000000000:=a1
  have h4:=B4.keepT D3 _ _ h3;refine am _ (.tup [.str "behind",.tup (cs.map Tr.str),.int a]) _ ⟨w,_,rfl,ae,_,_,rfl,⟨rfl,∅⟩,_,_,rfl,cS (by rw[ah (aj h4 hw)];exact h4) U.2,_,_,rfl,rfl,rfl⟩ ?_ (λc Z=>?_) (D4.new hw) ((B3.trans B4).new hw)
  .show bp "behind" _=true
   rw[fS];simp[dk,gpT,bO,an,a0,a1]
  .rw[cj (by decide+kernel) (by decide+kernel)] at Z;exact F c Z
 exfalso
 simp only[gr,i4,md,or_false] at hs;rcases hs with h | h | h | h | h | h
 .exact e1 h
 .exact e2 h
 .exact e3 h
 .exact e4 h
 .exact e5 h
 .exact e6 h
abbrev Eu:=Fn P w K mg base "_law_big_wish" 6 ["_law_deal_here","_law_names_here","_law_sort"] (F8)
theorem kt (T:Txt w K mg) (L:FnL K mg "_law_big_wish" cg ["_law_deal_here","_law_names_here","_law_sort"]) (Fa : @Dz0 P w K mg base) (Fb : @Dz3 P w K mg base) (Fc : @Dz4 P w K mg base) (Fh : @Dz5 P w K mg base) (Fm : @Ec P w K mg base) (Fj : @Eg P w K mg base) (Fl : @Cw P w K mg base) (Fp : @E9 P w K mg base) : @Eu P w K mg base:=by
 ctx_has z fL <;> obtain⟨d,l,t,cells,bc,rfl,D,ht,l0,l1,aw,hs,k⟩:=h
 .rfl
 refine⟨_,(ai (ay 3 (aM bo T.b_tuple (aa (aQ wI (pvM 1) bv (aV (ax aW af (ag Fa (aa (pvM 0) (aa (ar (iy rfl) T.b_min (aa af (aa (ar be T.b_len (aa (pvM 1) ac)) ac))) ac)))))) ac)))
  (ai (bi (aE bA (pvM 2) aq) (ao (aA (au (aa aq (aa (pvM 3) ac))))) aK)
  (ai (bi (aE bA (pvM 2) aq) (ai (ay 4 (ar jJ T.b_abs (aa (ag Fb (aa (pvM 0) (aa (ax dE af af) ac))) ac)))
  (ao (aA (au (aa aq (aa (ag Fc (aa (pvM 0) (aa (ag Fh (aa (pvM 0) (aa af ac))) ac))) (aa (pvM 3) (aa (pvM 4) (aa (ar jJ T.b_abs (aa (ag Fb (aa (pvM 0) (aa (ax dE af af) ac))) ac)) ac))))))))) aK)
  (ai (bi (aE bA (pvM 2) aq) (ao (aA (ag Fm (aa (pvM 0) (aa (pvM 3) ac))))) aK)
  (ai (bi (aE bA (pvM 2) aq) (ao (aA (au (aa aq (aa (pvM 3) (aa (ag Fj (aa (pvM 0) (aa (ar bf T.b_len (aa (pvM 3) ac)) (aa (ag Fh (aa (pvM 0) (aa af ac))) ac)))) ac)))))) aK)
  (ai (bi (aE bA (pvM 2) aq) (ao (aA (ag Fl (aa (pvM 0) (aa (pvM 3) ac))))) aK)
  (ai (bi (aE bA (pvM 2) aq) (ao (aA (au (aa aq (aa (pvM 3) (aa (ag Fb (aa (pvM 0) (aa (ax dE af af) ac))) ac)))))) aK)
  (ai (ay 5 (aB dI (bu (aa aq (aa aq (aa aq (aa aq (aa aq (aa aq ac))))))) (ag Fa (aa (pvM 0) (aa af ac)))))
  (ao (aA (au (aa aq (aa (aB dI (pvM 1) (dz cy af)) (aa (ag Fc (aa (pvM 0) (aa (ag Fh (aa (pvM 0) (aa af ac))) ac))) (aa (ag Fp (aa (pvM 0) (aa (aQ wI (pvM 1) bv (aV (dz cy af))) (aa (pvM 5) ac)))) ac))))))))))))))),?_⟩
 ctx_has v ht
 have an : ∀(v:V) (tr:Tr) (H':Hp),TV H' v tr->cN tr=true->(∀c∈aS tr,c∈cells)->av H' d l->But d l H H'->Q v H':=λv tr H' h1 h2 h3 h4 h5=>k v tr H' h1 (ni h2) (by rw[gm h2];exact h3) h4 h5
 have td:t≠d:=by
  obtain⟨m,sd,n,xs,hd,hl,_⟩:=D.ex;exact eV ht hd (by intro z;cases z)
 have tl:t≠l:=by
  rintro rfl
  obtain⟨m,sd,n,xs,hd,hl,_⟩:=D.ex;rw[ht] at hl;cases cells with
  | nil=>simp at l0
  | cons a b=>cases xs with
   | nil=>cases hl
   | cons c e=>cases hl
 refine aI D (by rw[f_];split <;> omega) (by rw[f_];split <;> omega) λr H1 r0 r1 D1 B1=>?_
 have aD:=B1 t _ td tl ht;rw[f_] at r1;obtain⟨n,hn⟩ : ∃n:Nat,1+r=(n:Int):=⟨(1+r).toNat,()⟩
 refine⟨_,rfl,_,aD,?_⟩
 rw[hn,gb];have am:(cells.take n).length<=12/\1<=(cells.take n).length:=by
  rw[m8]
  split at r1 <;> omega
 have U : ∀c∈cells.take n,c∈cells:=λc F=>G3 F
 have ad:eP (cells.take n):=aw.sub (IS _ _)
 generalize cells.take n=cs at am U ad ⊢;have az:=iq ad am.2 am.1;intro p hp;refine⟨_,ae,λu a5=>?_⟩
 have h3:upd (upd H1 p (HO.lst (cs.map V.str))) u (HO.tup (cs.map V.str)) u=some (HO.tup (cs.map V.str)):=ae
 have D3:=(D1.new (o:=HO.lst (cs.map V.str)) hp).new (o:=HO.tup (cs.map V.str)) a5;have B3:=(B1.new (o:=HO.lst (cs.map V.str)) hp).new (o:=HO.tup (cs.map V.str)) a5;have aF:upd (upd H1 p (HO.lst (cs.map V.str))) u (HO.tup (cs.map V.str)) t=some (HO.lst (cells.map V.str)):=ak.upd_new (ak.upd0 hp) a5 _ _ aD
 generalize upd (upd H1 p (HO.lst (cs.map V.str))) u (HO.tup (cs.map V.str))=H3 at h3 D3 B3 aF ⊢;refine bR (λe1=>?_) (λe1=>?_)
 .refine⟨∅,λw Z=>an _ (.tup [.str "unlike",.tup (cs.map Tr.str)]) _ ⟨w,_,rfl,ae,_,_,rfl,⟨rfl,∅⟩,_,_,rfl,cS (by rw[ah (aj h3 Z)];exact h3) ad.2,rfl⟩ ?_ (λc F=>?_) (D3.new Z) (B3.new Z)⟩
  .show bp "unlike" _=true
   rw[eB];simp[cV,az]
  .rw[cj (by decide+kernel) (by decide+kernel)] at F;exact U c F
 refine bR (λe2=>?_) (λe2=>?_)
 .refine⟨⟨∅,∅,∅⟩,d,l,_,rfl,D3,∅,∅,λa H4 a0 a1 D4 B4=>⟨_,rfl,?_⟩⟩
  refine⟨d,l,_,rfl,D4,∅,∅,λb H5 b0 b1 D5 B5=>?_⟩
  refine⟨d,l,_,rfl,D5,b0,b1,λg ns H6 _ aX a8 a6 aR D6 B6=>?_⟩
  refine⟨⟨∅,∅,∅⟩,d,l,_,rfl,D6,∅,∅,λa2 H7 c0 c1 D7 B7=>⟨_,rfl,∅,λw Z=>?_⟩⟩
  have h7:=B7.keepT D6 _ _ (B6.keepT D5 _ _ (B5.keepT D4 _ _ (B4.keepT D3 _ _ h3)));have aH:=B7.keepT D6 _ _ aR;refine an _ (.tup [.str "many",.tup (ns.map Tr.int),.tup (cs.map Tr.str),.int _,.int _]) _ ⟨w,_,rfl,ae,_,_,rfl,⟨rfl,∅⟩,_,_,rfl,eZ (by rw[ah (aj aH Z)];exact aH),_,_,rfl,cS (by rw[ah (aj h7 Z)];exact h7) ad.2,_,_,rfl,rfl,_,_,rfl,rfl,rfl⟩ ?_ (λc F=>?_) (D7.new Z) (((((B3.trans B4).trans B5).trans B6).trans B7).new Z)
  .show bp "many" _=true
   rw[lW];have e3:=jf a8 () a6
   have e4:=qN (m:=1000000000) a0 a1;have e5:=qN (m:=1000000000) c0 c1;simp[jq,mbT,bO,az,e3]
   exact⟨e4,e5⟩
  .have e : ∀x y,aS (.tup [.str "many",.tup (ns.map Tr.int),.tup (cs.map Tr.str),x,y])=cs:=λ_ _=>cO cs
   rw[e] at F;exact U c F
 refine bR (λe3=>?_) (λe3=>?_)
 .exact⟨d,l,u,cs,rfl,D3,h3,am.2,am.1,ad,λv tr H4 a4 a7 a3 D4 B4=>an v tr H4 a4 a7 (λc F=>U c (a3 c F)) D4 (B3.trans B4)⟩
 refine bR (λe4=>?_) (λe4=>?_)
 .refine⟨_,h3,d,l,_,rfl,D3,∅,∅,λb H5 b0 b1 D5 B5=>?_⟩
  refine⟨d,l,_,_,rfl,D5,by rw[f_];omega,by rw[f_];omega,b0,b1,λv tr H6 aZ aJ D6 B6=>⟨∅,λw Z=>?_⟩⟩
  rw[f_] at aJ;have h6:=B6.keepT D5 _ _ (B5.keepT D3 _ _ h3);refine an _ (.tup [.str "table",.tup (cs.map Tr.str),tr]) _ ⟨w,_,rfl,ae,_,_,rfl,⟨rfl,∅⟩,_,_,rfl,cS (by rw[ah (aj h6 Z)];exact h6) ad.2,_,_,rfl,TV.keep (ak.keepT (ak.upd0 Z)) _ aZ,rfl⟩ ?_ (λc F=>?_) (D6.new Z) (((B3.trans B5).trans B6).new Z)
  .show bp "table" _=true
   rw[jD];simp[gi,itT,az,aJ]
  .rw[cj (by decide+kernel) (by decide+kernel)] at F;exact U c F
 refine bR (λe5=>?_) (λe5=>?_)
 .exact⟨d,l,u,cs,rfl,D3,h3,am.2,am.1,ad,λv tr H4 a4 a7 a3 D4 B4=>an v tr H4 a4 a7 (λc F=>U c (a3 c F)) D4 (B3.trans B4)⟩
 refine bR (λe6=>?_) (λe6=>?_)
 .refine⟨⟨∅,∅,∅⟩,d,l,_,rfl,D3,∅,∅,λa H4 a0 a1 D4 B4=>⟨∅,λw Z=>?_⟩⟩
  replace a0 : -1000000000<=a:=a0
  replace a1:a<=1000000000:=a1
  have h4:=B4.keepT D3 _ _ h3;refine an _ (.tup [.str "behind",.tup (cs.map Tr.str),.int a]) _ ⟨w,_,rfl,ae,_,_,rfl,⟨rfl,∅⟩,_,_,rfl,cS (by rw[ah (aj h4 Z)];exact h4) ad.2,_,_,rfl,rfl,rfl⟩ ?_ (λc F=>?_) (D4.new Z) ((B3.trans B4).new Z)
  .show bp "behind" _=true
   rw[fS];simp[dk,gpT,bO,az,a0,a1]
  .rw[cj (by decide+kernel) (by decide+kernel)] at F;exact U c F
 have l0:2<=cells.length:=by
  rcases hs with h | h
  .exfalso
   simp only[gr,i4,md,or_false] at h;rcases h with h | h | h | h | h | h
   .exact e1 h
   .exact e2 h
   .exact e3 h
   .exact e4 h
   .exact e5 h
   .exact e6 h
  .exact h.2
 refine⟨∅,λg hg=>?_⟩
 refine pS D3 hg ∅ ∅ rfl λr4 v H4 hv ha D4 B4 h4=>?_
 have aG:=B4 t _ td tl aF;obtain⟨ap,z,rfl⟩ : ∃ap z,cells=ap++[z]:=by
  rcases List.eq_nil_or_concat cells with h | ⟨a,b,h⟩
  .rw[h] at l0;simp at l0
  .exact⟨a,b,by rw[h,List.concat_eq_append]⟩
 have aT:atI (List.map V.str (ap++[z])) (-1)=some (V.str z):=by rw[m7];exact jL _ _
 obtain⟨sv,rfl,aP⟩ : ∃sv,v=V.str sv/\sv∈gr:=by
  obtain⟨sv,h1,h2⟩:=v9.mp (show v∈gr.map V.str from hv)
  exact⟨sv,h2.symm,h1⟩
 refine⟨_,rfl,_,h4,_,ha,_,aG,_,aT,?_⟩
 refine⟨d,l,_,rfl,D4,∅,∅,λb H5 b0 b1 D5 B5=>?_⟩
 refine⟨d,l,_,rfl,D5,b0,b1,λf2 ns H6 _ aX a8 a6 aN D6 B6=>?_⟩
 have aY:=B6 t _ td tl (B5 t _ td tl aG);refine⟨_,aY,λy hy=>?_⟩
 rw[gM,List.dropLast_concat];have hz:z∉ap:=λw=>by
  have:=aw.1
  rw[Iv] at this;exact this.2.2 z w z (by simp) rfl
 refine⟨d,l,y,ap,sv,rfl,D6.new hy,ae,by simp at l0;omega,by simp at l1;omega,aw.sub (List.sublist_append_left _ _),aP,λv2 as H7 aO ba a9 D7 B7=>⟨∅,λw Z=>?_⟩⟩
 have aL:nmB z=true:=aw.2 z (by simp)
 have aC:=B7.keepT (D6.new hy) _ _ (ak.keepT (ak.upd0 hy) _ _ aN);refine k _ (.tup [.str "same",.str z,.tup (ns.map Tr.int),as]) _ ⟨w,_,rfl,ae,_,_,rfl,⟨rfl,∅⟩,_,_,rfl,⟨rfl,kN aL⟩,_,_,rfl,eZ (by rw[ah (aj aC Z)];exact aC),_,_,rfl,TV.keep (ak.keepT (ak.upd0 Z)) _ aO,rfl⟩ ?_ (λc F=>?_) (D7.new Z) (((((((B3.trans B4).trans B5).trans B6).new hy).trans B7)).new Z)
 .show(if (d_ "same") = "same" then eY [.str "same",.str z,.tup (ns.map Tr.int),as] else bp "same" [.str "same",.str z,.tup (ns.map Tr.int),as])=true
  rw[if_pos rfl];have e3:=jf a8 () a6
  have e4:dec (Tr.str z∈(aS as).map Tr.str)=false:=iB λF=>by
   obtain⟨c,bb,e⟩:=v9.mp F
   injection e with e
   rw[<- e] at hz;exact hz (a9 c bb)
  simp only[eY,l_,length_nil,getD_cons_succ,getD_cons_zero,bU,aL,e3,ba,e4,Nat.reduceAdd,decide_true,o7,Bool.not_false]
 .replace F:c∈(if d_ "same" = "same" then[z]++aS as else[]):=F
  rw[if_pos rfl] at F;rcases t0.mp F with q | q
  .rw[k_.mp q];simp
  .exact IB _ (a9 c q)
def nF (ns:List Int):Bool:=(zipWith (λa b=>decide (a < b)) ns (ns.drop 1)).all id
def Cq:Sp:=λvs H Q _=>∃(a:Addr) (ns:List Int),vs=[.ref a]/\H a>>(ns.map V.int)/\ns.length<=100/\∀H',ak H H'->Q (.bl (nF ns)) H'
def GS:Tr->Option Int
 | .int i=>some i
 | _=>none
def yN (l:List Tr):List Int:=l.filterMap GS
theorem fM : ∀ns:List Int,yN (ns.map Tr.int)=ns
 | []=>rfl
 | n :: ns=>by
  show n :: yN (ns.map Tr.int)=n :: ns
  rw[fM ns]
def bS (t:Tr):Bool:=bq dD 1 10 t && nF (yN (itT t))
def aC:Tr->Bool
 | .tup l=>decide (l.length=2) && (bU (l.getD 0 .non) && bS (l.getD 1 .non))
 | _=>false
theorem pL : ∀{l:List Tr},l.all dD=true->∃ns:List Int,l=ns.map Tr.int/\∀x∈ns,-1000000<=x/\x<=1000000
 | [],_=>⟨[],rfl,by simp⟩
 | t :: l,h=>by
  rw[IR,fx] at h;obtain⟨ns,rfl,F⟩:=pL h.2;cases t with
  | int i =>
   have h1:=h.1;simp only[dD,bO,fx,decide_eq_true_eq] at h1;exact⟨i :: ns,rfl,λx L=>(i4.mp L).elim (λe=>by rw[e];exact h1) (F x)⟩
  | _=>exact absurd h.1 (by simp[dD,bO])
theorem qB {H:Hp} : ∀{ns:List Int} {xs:List V},TVs H xs (ns.map Tr.int)->xs=ns.map V.int
 | [],_,h=>h
 | n :: ns,_,h=>by
  obtain⟨y,zs,rfl,a,b⟩:=h;rw[show y = .int n from a,qB b];rfl
theorem AU {v:V} {t:Tr} (tv:TV H v t) (h:bq dD lo hi t=true) : ∃(a:Addr) (ns:List Int),v = .ref a/\H a>>(ns.map V.int)/\t = .tup (ns.map Tr.int)/\lo<=ns.length/\(ns.length:Int)<=hi/\∀x∈ns,-1000000<=x/\x<=1000000:=by
 obtain⟨l,rfl,h1,h2,Z⟩:=cA h;obtain⟨ns,rfl,U⟩:=pL Z;obtain⟨a,xs,rfl,F,L⟩:=tv;rw[qB L] at F;rw[f_] at h1 h2;exact⟨a,ns,rfl,F,rfl,h1,h2,U⟩
theorem pV (T:Txt w K mg) (L:FnL K mg "is_rising" fh ["numbers"]):Fn P w K mg base "is_rising" 1 ["numbers"] (Cq):=by
 ctx_has z pR <;> obtain⟨a,ns,rfl,F,hl,k⟩:=h
 .rfl
 refine⟨_,(ao (aA (ar (ir rfl) T.b_all (aa (dj (N:=["earlier","later"]) (nt:=2) (js:=[]) (bI ["numbers"] (am fh).names) (CM (K:=K) rfl rfl T.b_zip (aa (pvM 0) (aa (aQ hV (pvM 0) (aV af) bv) ac))) (mi (n:=2) rfl (dB (aP 0) (dB (aP 1) ml))) uc cr (bH Ch (pvM 0) (pvM 1))) ac)))),?_⟩
 ctx_has v F
 intro p2 H2 e2 U;rw[show dJ (ns.map V.int) (some 1) none=(ns.drop 1).map V.int from gn V.int ns 1] at e2
 have h2:=U _ _ F;ctx_has v e2 h2
 intro q Z;refine xj (λx y=>match x,y with | .int a,.int b=>.bl (decide (a < b)) | _,_=>.non) Z h2 e2 (by simp;omega) ?_ ?_
 .intro x y H3 Q3 hx hy sm q3
  obtain⟨x,_,rfl⟩:=v9.mp hx;obtain⟨y,_,rfl⟩:=v9.mp hy;ctx_has v
  exact q3 H3 (ak.refl _)
 .intro H3 sm h3
  ctx_has v
  refine⟨zipWith (λa b=>decide (a < b)) ns (ns.drop 1),?_,k H3 (U.trans sm)⟩
  rw[h3,List.map_zipWith,List.zipWith_map]
theorem tI (T:Txt w K mg) (L:FnL K mg "is_room" kz ["thing"]) (Fg : @EL P w K mg base) (FK:Fn P w K mg base "is_rising" 1 ["numbers"] (Cq)):Fn P w K mg base "is_room" 7 ["thing"] (spB R0 bS):=by
 ctx_has z vd <;> obtain⟨v,t,rfl,U,hR,k⟩:=h
 .rfl
 refine⟨_,(ao (aA (aN (ag Fg (aa (pvM 0) (aa (cq (v:=.ref (aF mg "is_value")) rfl T.at_is_value rfl) (aa af (aa (dN T.c_MOST_IN_ROOM rfl) ac))))) (bT (ag FK (aa (pvM 0) ac)))))),?_⟩
 ctx_has v
 refine⟨v,t,_,_,rfl,U,g9,∅,λH1 s1=>?_⟩
 cases F:bq dD 1 10 t with
 | false =>
  ctx_has v j_ if_false
  have:=k H1 s1
  simp only[bS,F,p_] at this;exact this
 | true =>
  ctx_has v if_true
  obtain⟨a,ns,rfl,Z,rfl,l1,l2,_⟩:=AU (TV.keep (ak.keepT s1) t U) F;refine⟨a,ns,rfl,Z,(),λH2 s2=>?_⟩
  have:=k H2 (s1.trans s2)
  simp only[bS,F,o7,itT,fM] at this;exact this
theorem ut (T:Txt w K mg) (L:FnL K mg "is_cell" kO ["thing"]) (Fo : @Dz8 P w K mg base) (FU:Fn P w K mg base "is_room" 7 ["thing"] (spB R0 bS)):Fn P w K mg base "is_cell" 8 ["thing"] (spB R0 aC):=by
 ctx_has z vx <;> obtain⟨v,t,rfl,F,hR,k⟩:=h
 .rfl
 refine⟨_,(ao (aA (aN (ar cG T.b_isinstance (aa (pvM 0) (aa (gU (T := "tuple") rfl T.b_tuple (by decide+kernel)) ac))) (aN (bH bA (ar bf T.b_len (aa (pvM 0) ac)) af) (aN (ag Fo (aa (aB bB (pvM 0) af) ac)) (bT (ag FU (aa (aB bB (pvM 0) af) ac)))))))),?_⟩
 cases t with
 | tup l =>
  simp only[aC] at k;obtain⟨a,xs,rfl,Z,hl⟩:=F;have U:=hl.len;ctx_has v Z U
  refine fG (n:=2) k λh0 k=>?_
  refine bX 0 hl () g9 k λH1 s1 ad k=>?_
  replace Z:=s1 _ _ Z
  replace hl:=TVs.keep (ak.keepT s1) l hl
  exact⟨xs,Z,gk 1 hl () g9 k⟩
 | int i=>cases (show v=_ from F);ctx_has v aC;exact k _ (ak.refl _)
 | bl s=>cases (show v=_ from F);ctx_has v aC;exact k _ (ak.refl _)
 | non=>cases (show v=_ from F);ctx_has v aC;exact k _ (ak.refl _)
 | str s=>obtain⟨rfl,hs⟩:=F;ctx_has v aC;exact k _ (ak.refl _)
open L2.Irr
def lV (C:Addr):Sp:=λvs H Q _=>∃(e:Addr) (x y:V),vs=[.ref e,x,y]/\H e=some (XO C none .none e)/\∀(dx:Addr) (H':Hp),H dx=none->e≠dx->H' e=some (XO C (some dx) .none e)->H' dx=some (XD [("word",x),("at",y)] dx)->(∀b o,b≠e->H b=some o->H' b=some o)->Q .non H'
theorem jx {E:XK} {Z U L:Option V} {D:iN} (S:ak H0 H) (e:mI E x i):uQ C (lV C) (bF (tC (V.str x)) (bF (aU 2) dC)) (PXh H0 C E) D [Z,U,some (.int (i:Int)),L] H:=λa F =>
 ⟨a,_,_,rfl,ae,λdx H' hd ne h1 h2 kp=>⟨rfl,⟨_,h1⟩,dx,x,i,λb o q=>kp b o (aj (S b o q) F) (by rw[ah (aj (S b o q) F)];exact S b o q),⟨h1,h2,ne⟩,S.free F,e⟩⟩
theorem wm:(cu (ns.map λs=>((h9 s:Key),V.bl true)) (h9 nm)).isSome=true↔nm∈ns:=by
 rw[<- du,any_map,IP]
 constructor
 .rintro⟨s,hs,e⟩
  have:=of_decide_eq_true e
  injection this with e
  rw[<- e];exact hs
 .exact λh=>⟨nm,h,decide_eq_true rfl⟩
def bJ (t:Tr):Str:=(Az ((itT t).getD 0 .non)).getD ""
def dR:List Str->Nat->List Tr->Option Nat
 | _,_,[]=>none
 | ns,i,t :: l=>if (aC t && decide (bJ t∉ns))=true then dR (ns++[bJ t]) (i+1) l else some i
def EU:Sp:=λvs H Q E=>∃(v:V) (l:List Tr),vs=[v]/\TV H v (.tup l)/\l.length<=60/\(dR [] 0 l=none->∀H',ak H H'->Q .non H')/\(∀n,dR [] 0 l=some n->mI E "cell" n)
theorem eA {t:Tr} (h:aC t=true) : ∃(s:Str) (ns:List Int),t = .tup [.str s,.tup (ns.map Tr.int)]/\nmB s=true/\1<=ns.length/\ns.length<=10/\(∀x∈ns,-1000000<=x/\x<=1000000)/\nF ns=true:=by
 cases t with
 | tup l =>
  simp only[aC,fx,decide_eq_true_eq] at h;obtain⟨L,h1,h2⟩:=h
  match l,L,h1,h2 with
  | [a,b],_,h1,h2 =>
   obtain⟨s,rfl⟩ : ∃s,a = .str s:=by cases a with | str s=>exact⟨s,rfl⟩ | _=>cases h1
   simp only[bS,fx,getD_cons_succ,getD_cons_zero] at h2;obtain⟨l,rfl,Z,l2,F⟩:=cA h2.1;obtain⟨ns,rfl,U⟩:=pL F;rw[f_] at Z l2;refine⟨s,ns,rfl,h1,(),(),U,?_⟩
   have:=h2.2
   rwa [show itT (.tup (ns.map Tr.int))=ns.map Tr.int from rfl,fM] at this
 | _=>cases h
theorem ji (T:Txt w K mg) (L:Ay K (XMk K (aF mg "NoHall") (aF mg "HallError")) "__init__" "NoHall.__init__" cP ["self","word","at"]):FnR P w K mg base (XMk K (aF mg "NoHall") (aF mg "HallError")) 2 ["self","word","at"] (lV (aF mg "NoHall")):=by
 ctx_has z jc <;> obtain⟨e,x,y,rfl,U,k⟩:=h
 .rfl
 refine⟨_,(ai (vV (pvM 0) (pvM 1) rfl)
  (ao (vV (pvM 0) (pvM 2) rfl))),?_⟩
 ctx_has v Cn
 refine⟨_,_,T.xc,T.no_word,_,Or.inl ⟨U,λdx F=>?_⟩⟩
 have ne:e≠dx:=aj U F
 refine⟨_,_,T.xc,T.no_at,_,Or.inr ⟨dx,ae,[("word",x)],by rw[ah (t6 ne),ae],by show 1 < 1000;decide,?_⟩⟩
 refine k dx _ F ne (by rw[ah ne,ae]) ae λb o hb q=>?_
 have Z:b≠dx:=aj q F
 rw[ah Z,ah hb,ah Z];exact q
theorem nJ (T:Txt w K mg) (L:FnL K mg "check_cells" fD ["cells"]) (FT:Fn P w K mg base "is_cell" 8 ["thing"] (spB R0 aC)) (F:FnR P w K mg base (XMk K (aF mg "NoHall") (aF mg "HallError")) 2 ["self","word","at"] (lV (aF mg "NoHall"))):FnE P w K mg base (aF mg "NoHall") "check_cells" 9 ["cells"] (EU):=by
 have nd:=gS.nd;refine L.okE gS (λvs H Q E h=>?_) (λf cdv A outer s H vs Q E hr h=>?_) <;> obtain⟨v,l,rfl,ht,hl,k1,k2⟩:=h
 .rfl
 have hu:=pc hr;refine⟨_,(ai (ay 1 rW)
  (ao (da (sM (K:=K) rfl rfl T.b_enumerate (aa (pvM 0) ac)) (mi (n:=2) rfl (dB (aP 2) (dB (aP 3) ml))) (ai (bi (PW.pt (lh (jg (gq (ag FT (aa (pvM 3) ac)))) (iS (qK (qO hu (aB bB (pvM 3) af) (pvM 1)))))) (ao (oV F (hr.mono (by ctx_has m)) rfl T.at_NoHall (aa aq (aa (pvM 2) ac)) ∅)) aK)
  (ao (rY hu (pvM 1) (aB bB (pvM 3) af) nA rfl))) (hp:=pA)))),?_⟩
 ctx_has v
 intro p hp;obtain⟨a,xs,rfl,ha,hx⟩:=ht;have pa:a≠p:=aj ha hp
 refine⟨a,rfl,xs,by rw[ah pa];exact ha,?_⟩
 refine zy (xs:=xs) (λi σ H'=>∃(ns:List Str) (v2 v3:Option V),σ=[-a,-p,v2,v3]/\ak H H'/\H' p<*(ns.map λs=>((h9 s:Key),V.bl true))/\ns.length=i/\dR [] 0 l=dR ns i (l.drop i)) ⟨[],none,none,rfl,ak.upd0 hp,ae,rfl,rfl⟩ (λi σ H' ad=>by obtain⟨_,_,_,_,S,_⟩:=ad;exact(.of (S _ _ ha))) ?_ ?_
 .rintro i x σ H1 t hxi ⟨ns,v2,v3,rfl,S,hd,hn,hb⟩ ht0
  obtain⟨y,hy,ty⟩:=hx.at hxi;have S1:ak H1 (upd H1 t (.tup [.int (i:Int),x])):=ak.upd0 ht0
  ctx_has v
  refine⟨_,ae,rfl,_,_,rfl,_,_,rfl,rfl,x,y,rfl,TV.keep (ak.keepT (S.trans S1)) _ ty,g9,λH2 s2=>⟨_,rfl,?_⟩⟩
  have S2:=(S.trans S1).trans s2;have an:=s2 _ _ (S1 _ _ hd);have U:l.drop i=y :: l.drop (i+1):=by
   obtain⟨hi,e⟩:=i7.mp hy;rw[<- e];exact List.drop_eq_getElem_cons hi
  rw[U] at hb;refine bR (λhc=>jx S2 (k2 _ ?_)) (λhc=>?_)
  .rw[hb];unfold dR;rw[if_neg];simp[hc]
  obtain⟨nm,rs,rfl,au,r1,r2,r3,r4⟩:=eA (by simpa using hc)
  obtain⟨a2,as,rfl,ar,h0,z2,rfl,⟨rfl,av⟩,_⟩:=TV.keep (ak.keepT S2) _ ty;ctx_has v ar an
  refine bR (λZ=>jx S2 (k2 _ ?_)) (λZ=>?_)
  .rw[hb];unfold dR;rw[if_neg]
   rw[wm] at Z
   show ¬ (aC (.tup [.str nm,.tup (rs.map Tr.int)]) && decide (nm∉ns))=true
   simp[Z]
  have hv:cu (ns.map λs=>((h9 s:Key),V.bl true)) (h9 nm)=none:=by
   cases e:cu (ns.map λs=>((h9 s:Key),V.bl true)) (h9 nm) with
   | none=>rfl
   | some v=>rw[e] at Z;exact absurd rfl Z
  have hi:=(i7.mp hy).1;have ap : ∀b o,H b=some o->b≠p:=λb o q=>aj q hp
  refine⟨by rw[f_];exact aw (),λb o q=>by rw[ah (ap b o q)];exact S2 b o q,ns++[nm],?_,by simp[hn],?_⟩
  .rw[ae,eS _ hv,m7];rfl
  .rw[hb]
   conv=>lhs;unfold dR
   rw[if_pos];rfl;rw[wm] at Z;have am:aC (.tup [.str nm,.tup (rs.map Tr.int)])=true:=by simpa using hc
   show(aC (.tup [.str nm,.tup (rs.map Tr.int)]) && decide (nm∉ns))=true
   rw[am];simpa using Z
 .rintro σ H1 ⟨ns,v2,v3,rfl,S,hd,hn,hb⟩
  rw[hx.len,List.drop_length] at hb;exact k1 hb H1 S
def cT (H:Hp) (xs:List V) (cs:List (Str × Addr × List Int)):Prop:=Paired (λx c=>∃a,x=V.ref a/\H a>>[.str c.1,.ref c.2.1]/\H c.2.1>>(c.2.2.map V.int)) xs cs
theorem cT.keep (k:bz H H') {xs:List V} {cs:List (Str × Addr × List Int)} (h:cT H xs cs):cT H' xs cs:=Paired.mapP h λ_ _ F=>by obtain⟨a,e,h1,h2⟩:=F;exact(⟨a,e,k _ _ h1,k _ _ h2⟩)
theorem qU {α β:Type} {F:α->β->Prop} : ∀{xs:List α} {ys:List β} {i:Nat} {x:α},Paired F xs ys->xs[i]? = some x->∃y,ys[i]? = some y/\F x y
 | _,_,_,_,.nil,e=>by simp at e
 | _,_,0,_,.cons r _,e=>by simp at e;subst e;exact⟨_,rfl,r⟩
 | _,_,i+1,x,.cons _ t,e=>by
  obtain⟨y,h1,h2⟩:=qU (i:=i) t (by simpa using e)
  exact⟨y,by simpa using h1,h2⟩
def Hr:Sp:=λvs H Q _=>∃(a b:Addr) (w:V) (xs:List V) (cs:List (Str × Addr × List Int)),vs=[.ref a]/\H a>>[.ref b,w]/\H b>>xs/\cT H xs cs/\cs.length<=60/\(cs.map (·.1)).Nodup/\∀(p:Addr) (H':Hp),H p=none->ak H H'->H' p<*(cs.map λc=>((h9 c.1:Key),V.ref c.2.1))->Q (.ref p) H'
theorem gj : ∀{l:List Tr} {ns:List Str} {i:Nat} {xs:List V} {H:Hp},dR ns i l=none->TVs H xs l->∃cs:List (Str × Addr × List Int),cT H xs cs/\cs.map (·.1)=l.map bJ/\(∀c∈cs,c.1∉ns)/\(cs.map (·.1)).Nodup
 | [],ns,i,xs,H,_,h=>by rw[show xs=[] from h];exact⟨[],.nil,rfl,by simp,by simp⟩
 | t :: l,ns,i,_,H,hb,⟨x,ys,rfl,tx,hy⟩=>by
  unfold dR at hb
  by_cases L:(aC t && decide (bJ t∉ns))=true
  .rw[if_pos L] at hb
   obtain⟨cs,h1,h2,h3,h4⟩:=gj hb hy;rw[fx,decide_eq_true_eq] at L;obtain⟨s,zs,rfl,_⟩:=eA L.1;obtain⟨a,us,rfl,ha,y1,v1,rfl,⟨rfl,_⟩,y2,v2,rfl,⟨r,ws,rfl,hr,hw⟩,rfl⟩:=tx;rw[qB hw] at hr;refine⟨(s,r,zs) :: cs,.cons ⟨a,rfl,ha,hr⟩ h1,by rw[k9,h2];rfl,λc F=>?_,?_⟩
   .rcases i4.mp F with rfl | F
    .exact L.2
    .exact λz=>h3 c F (IB _ z)
   .rw[k9,D_]
    refine⟨λz=>?_,h4⟩
    obtain⟨c,U,Z⟩:=v9.mp z;exact h3 c U (by rw[Z];exact n9 _ (by simp[bJ,itT,Az]))
  .rw[if_neg L] at hb;cases hb
abbrev Ef:=Fn P w K mg base "first_rooms" 1 ["hall"] (Hr)
theorem nC (T:Txt w K mg) (L:FnL K mg "first_rooms" fJ ["hall"]) : @Ef P w K mg base:=by
 ctx_has z nb <;> obtain⟨a,b,w,xs,cs,rfl,ha,hb,hc,hl,hn,k⟩:=h
 .rfl
 refine⟨_,(ai (ay 1 rW)
  (ai (da (kZ K (aB bB (pvM 0) af)) (aP 2) (ao (rY hu (pvM 1) (aB bB (pvM 2) af) (aB bB (pvM 2) af) rfl)))
  (ao (aA (pvM 1))))),?_⟩
 ctx_has v ha
 intro p hp;have pa:a≠p:=aj ha hp
 have pb:b≠p:=aj hb hp
 have lx:xs.length=cs.length:=Paired.length hc
 refine⟨_,by rw[ah pa];exact ha,_,rfl,b,rfl,xs,by rw[ah pb];exact hb,?_⟩
 refine gJ eU (λi σ H'=>∃Z,σ=[-a,-p,Z]/\ak H H'/\H' p<*((cs.take i).map λc=>((h9 c.1:Key),V.ref c.2.1))) ⟨none,rfl,ak.upd0 hp,ae⟩ (λi σ H' U=>by obtain⟨_,_,S,_⟩:=U;exact(.of (S _ _ hb))) ?_ ?_
 .rintro i x σ H2 hi hx ⟨Z,rfl,S,hd⟩
  obtain⟨c,F,y,rfl,h1,h2⟩:=qU hc hx;have h3:=S _ _ h1;ctx_has v h3 hd
  refine⟨by rw[f_,m8];exact aw (),λb o q=>by rw[ah (aj q hp)];exact S b o q,?_⟩
  have hv:cu ((cs.take i).map λc=>((h9 c.1:Key),V.ref c.2.1)) (h9 c.1)=none:=by
   cases e:cu ((cs.take i).map λc=>((h9 c.1:Key),V.ref c.2.1)) (h9 c.1) with
   | none=>rfl
   | some v =>
    have q:=wz e;rw[Ij] at q;obtain⟨c',ac,e'⟩:=v9.mp q
    injection e' with e'
    obtain⟨j,hj,ej⟩:=List.mem_iff_getElem.mp ac;rw[m8] at hj;rw[List.getElem_take] at ej;have aa:i < cs.length:=()
    have ei:cs[i]=c:=by rw[j6 aa] at F;exact j9 F
    have:=(List.getElem_inj (i:=j) (j:=i) (h₀:=by rw[f_];omega) (h₁:=by rw[f_];omega) hn).mp (by rw[List.getElem_map,List.getElem_map,ej,ei];exact e')
    omega
  rw[ae,eS _ hv,w5,F,m7];rfl
 .rintro σ H2 ⟨Z,rfl,S,hd⟩
  ctx_has v
  rw[lx,A_] at hd;exact k p H2 hp S hd
theorem AM {v:V} {t:Tr} (tv:TV H v t) (h:cD t=true):uO H v (fC t)/\(fC t).length<=15:=by
 rcases fY t with⟨s,l,rfl⟩ | ⟨_,e,_⟩
 .replace h:(if s = "same" then eY (.str s :: l) else bp s (.str s :: l))=true:=h
  by_cases hs:s = "same"
  .rw[if_pos hs] at h
   subst hs;simp only[eY,fx,decide_eq_true_eq,l_] at h;obtain⟨h0,h1,h2,L,h4⟩:=h
   match l,h0,h1,h2,L with
   | [a,b,c],_,h1,h2,L =>
    obtain⟨z,rfl⟩ : ∃z,a = .str z:=by cases a with | str z=>exact⟨z,rfl⟩ | _=>cases h1
    obtain⟨p,xs,rfl,hp,x0,u0,rfl,⟨rfl,_⟩,x1,u1,rfl,⟨rfl,_⟩,U,u2,rfl,t2,x3,u3,rfl,t3,rfl⟩:=tv;obtain⟨F,Z⟩:=mQ t3 L
    show uO H _ (if d_ "same" = "same" then[z]++aS c else[])/\(if d_ "same" = "same" then[z]++aS c else[]).length<=15
    rw[if_pos rfl];exact⟨.inr ⟨p,z,U,x3,aS c,rfl,hp,F,rfl⟩,by simp;omega⟩
  .rw[if_neg hs] at h
   have h':cN (.tup (.str s :: l))=true:=h
   rw[gm h'];obtain⟨F,Z⟩:=mQ tv h';exact⟨.inl F,()⟩
 .rw[e] at h;cases h
noncomputable def okW (ns:List Str) (t:Tr):Bool:=cD t && (fC t).all λc=>decide (c∈ns)
noncomputable def fA (ns:List Str):Nat->List Tr->Option Nat
 | _,[]=>none
 | i,t :: l=>if okW ns t=true then fA ns (i+1) l else some i
def Gs (pt:Addr):Sp:=λvs H Q E=>∃(v:V) (r:Addr) (l:List Tr) (ns:List Str) (kvs:List (Key × V)),vs=[v,.ref r]/\TV H v (.tup l)/\RT pt H/\l.length<=60/\H r<*kvs/\(∀s,(cu kvs (h9 s)).isSome=decide (s∈ns))/\(fA ns 0 l=none->∀H',ak H H'->Q .non H')/\(∀n,fA ns 0 l=some n->mI E "wish" n)
theorem xP {l:List α} {y:α} (F:l[i]? = some y):l.drop i=y :: l.drop (i+1):=by
 obtain⟨hi,e⟩:=i7.mp F;rw[<- e];exact List.drop_eq_getElem_cons hi
theorem lR {pt:Addr} (T:Txt w K mg) (L:FnL K mg "check_wishes" cW ["wishes","rooms"]) (FW:Fn P w K mg base "is_wish" 16 ["thing"] (spB (RT pt) cD)) (Fx : @DU P w K mg base) (F:FnR P w K mg base (XMk K (aF mg "NoHall") (aF mg "HallError")) 2 ["self","word","at"] (lV (aF mg "NoHall"))):FnE P w K mg base (aF mg "NoHall") "check_wishes" 17 ["wishes","rooms"] (Gs pt):=by
 have nd:=gA.nd;refine L.okE gA (λvs H Q E h=>?_) (λf cdv A outer s H vs Q E hr h=>?_) <;> obtain⟨v,r,l,ns,kvs,rfl,ht,hR,hl,hd,hk,k1,k2⟩:=h
 .rfl
 have hu:=pc hr;refine⟨_,(ao (da (sM (K:=K) rfl rfl T.b_enumerate (aa (pvM 0) ac)) (mi (n:=2) rfl (dB (aP 2) (dB (aP 3) ml))) (ao (bi (PW.pt (lh (jg (gq (ag FW (aa (pvM 3) ac)))) (iS (jg (gq (ar (ir rfl) T.b_all (aa (dj (N:=["name","rooms"]) (nt:=1) (js:=[1]) (bI ["wishes","rooms","number","wish"] (am cW).names) (kZ K (ag Fx (aa (pvM 3) ac))) (aP 0) bN cr (tN (qO hu (pvM 0) (pvM 1)))) ac))))))) (ao (oV F (hr.mono (by ctx_has m)) rfl T.at_NoHall (aa aq (aa (pvM 2) ac)) ∅)) aK)) (hp:=pA))),?_⟩
 obtain⟨a,xs,rfl,ha,hx⟩:=ht;ctx_has v
 refine⟨xs,ha,?_⟩
 refine zy (xs:=xs) (λi σ H'=>∃(v2 v3:Option V),σ=[-a,-r,v2,v3]/\ak H H'/\fA ns 0 l=fA ns i (l.drop i)) ⟨none,none,rfl,ak.refl _,rfl⟩ (λi σ H' Z=>by obtain⟨_,_,_,S,_⟩:=Z;exact(.of (S _ _ ha))) ?_ ?_
 .rintro i x σ H1 t hxi ⟨v2,v3,rfl,S,hb⟩ ht0
  obtain⟨y,hy,ty⟩:=hx.at hxi;have S1:ak H1 (upd H1 t (.tup [.int (i:Int),x])):=ak.upd0 ht0
  have hi:=(i7.mp hy).1;rw[xP hy] at hb;ctx_has v
  refine⟨_,ae,rfl,_,_,rfl,_,_,rfl,rfl,x,y,rfl,TV.keep (ak.keepT (S.trans S1)) _ ty,hR.same (S.trans S1),λH2 s2=>⟨_,rfl,?_⟩⟩
  have S2:=(S.trans S1).trans s2;have ad : ∀{z},okW ns y=false->z=some i->fA ns 0 l=z:=λh e=>by
   rw[hb,e];unfold fA;rw[if_neg];rw[h];simp
  refine bR (λhc=>jx S2 (k2 _ (ad (by unfold okW;rw[hc];rfl) rfl))) (λhc=>?_)
  have hw:cD y=true:=by simpa using hc
  obtain⟨w1,w2⟩:=AM (TV.keep (ak.keepT S2) _ ty) hw;refine⟨x,fC y,rfl,w1,w2,λq H3 h3 s3=>⟨q,rfl,_,h3,λD hD=>?_⟩⟩
  have S3:=S2.trans s3;have ah:=S3 _ _ hd;refine xy eU (λv=>match v with | .str c=>.bl (decide (c∈ns)) | _=>.non) hD (λH' s=>.of (s _ _ h3)) (by rw[f_];omega) ?_ ?_
  .intro z H4 Q4 hz s4 q4
   obtain⟨z,_,rfl⟩:=v9.mp hz;have af:=s4 _ _ ah;ctx_has v af
   rw[hk];exact q4 H4 (ak.refl _)
  .intro H4 s4 h4
   refine⟨D,rfl,(fC y).map λc=>decide (c∈ns),by rw[h4,Ij,Ij];rfl,?_⟩
   rw[all_map];refine bR (λU=>jx (S3.trans s4) (k2 _ (ad (by unfold okW;rw[hw,o7];exact U) rfl))) (λU=>⟨S3.trans s4,?_⟩)
   rw[hb]
   conv=>lhs;unfold fA
   rw[if_pos];unfold okW;rw[hw,o7];simpa using U
 .rintro σ H1 ⟨v2,v3,rfl,S,hb⟩
  rw[hx.len,List.drop_length] at hb;exact k1 hb H1 S
noncomputable def fb (cs ws:List Tr):Option (Str × Nat):=match dR [] 0 cs with
 | some n=>some ("cell",n)
 | none=>(fA (cs.map bJ) 0 ws).map λn=>("wish",n)
def Gw (pt:Addr):Sp:=λvs H Q E=>∃(v:V) (cs ws:List Tr),vs=[v]/\TV H v (.tup [.tup cs,.tup ws])/\RT pt H/\cs.length<=60/\ws.length<=60/\(fb cs ws=none->∀H',ak H H'->Q .non H')/\(∀x n,fb cs ws=some (x,n)->mI E x n)
theorem oO {cs:List (Str × Addr × List Int)} {s:Str}:(cu (cs.map λc=>((h9 c.1:Key),V.ref c.2.1)) (h9 s)).isSome=decide (s∈cs.map (·.1)):=by
 rw[<- du,any_map];rw[t5,IP,decide_eq_true_eq,v9]
 constructor
 .rintro⟨c,L,e⟩
  have:=of_decide_eq_true e
  injection this with e
  exact⟨c,L,e⟩
 .exact λF=>by obtain⟨c,L,e⟩:=F;exact(⟨c,L,decide_eq_true (by show(h9 c.1:Key)=_;rw[e])⟩)
noncomputable def fE (cs ws:List Tr):List V:=match fb cs ws with
 | some (x,n)=>[.str x,.int (n:Int)]
 | none=>[.str "sound"]
def zn (pt:Addr):Sp:=λvs H Q _=>∃(v:V) (cs ws:List Tr),vs=[v]/\TV H v (.tup [.tup cs,.tup ws])/\RT pt H/\cs.length<=60/\ws.length<=60/\∀(p:Addr) (H':Hp),ak H H'->H' p>>(fE cs ws)->Q (.ref p) H'
theorem oh {pt:Addr} (T:Txt w K mg) (L:FnL K mg "check_hall" fZ ["hall"]) (FF:FnE P w K mg base (aF mg "NoHall") "check_cells" 9 ["cells"] (EU)) (FC:FnE P w K mg base (aF mg "NoHall") "check_wishes" 17 ["wishes","rooms"] (Gs pt)) (Fk : @Ef P w K mg base):FnE P w K mg base (aF mg "NoHall") "check_hall" 18 ["hall"] (Gw pt):=by
 have nd:=iI.nd;refine L.okE iI (λvs H Q E h=>?_) (λf cdv A outer s H vs Q E hr h=>?_) <;> obtain⟨v,cs,ws,rfl,ht,hR,l1,l2,k1,k2⟩:=h
 .rfl
 have hu:=pc hr;refine⟨_,(ai (bY (rV FF (hr.mono (by ctx_has m)) rfl (aa (aB bB (pvM 0) af) ac)))
  (ao (bY (rV FC (hr.mono (by ctx_has m)) rfl (aa (aB bB (pvM 0) af) (aa (ag Fk (aa (pvM 0) ac)) ac)))))),?_⟩
 obtain⟨a,xs,rfl,ha,x1,u1,rfl,t1,x2,u2,rfl,t2,hu⟩:=ht;cases hu;ctx_has v ha yK
 obtain⟨ca,xs,rfl,Z,U⟩:=t1;refine⟨E,⟨_,cs,rfl,⟨ca,xs,rfl,Z,U⟩,l1,λhb H1 s1=>?_,λn hn=>k2 _ _ ?_⟩,ak.refl _,rfl⟩
 .obtain⟨cc,g1,g2,g3,g4⟩:=gj hb U
  have F:=s1 _ _ ha;have lc:cc.length=cs.length:=by have:=congrArg w9 g2;simpa using this
  refine⟨_,F,_,rfl,a,ca,x2,xs,cc,rfl,F,s1 _ _ Z,g1.keep (ak.keepT s1),(),g4,λp H2 hp s2 hd=>?_⟩
  refine⟨E,⟨x2,p,ws,cs.map bJ,_,rfl,TV.keep (ak.keepT (s1.trans s2)) _ t2,hR.same (s1.trans s2),l2,hd,λs=>?_,λhw H3 s3=>?_,λn hn=>?_⟩,s1.trans s2,rfl⟩
  .rw[oO,g2]
  .exact k1 (by unfold fb;rw[hb];show(fA _ _ _).map _=none;rw[hw];rfl) H3 ((s1.trans s2).trans s3)
  .exact k2 _ _ (by unfold fb;rw[hb];show(fA _ _ _).map _=_;rw[hn];rfl)
 .unfold fb;rw[hn]
theorem qt {pt:Addr} (T:Txt w K mg) (L:FnL K mg "_law_told" gY ["_law_hall"]) (FJ:FnE P w K mg base (aF mg "NoHall") "check_hall" 18 ["hall"] (Gw pt)):Fn P w K mg base "_law_told" 19 ["_law_hall"] (zn pt):=by
 ctx_has z qr <;> obtain⟨v,cs,ws,rfl,ht,hR,l1,l2,k⟩:=h
 .rfl
 refine⟨_,(ai (ay 1 fB)
  (ai (Bo (l:=2) (j:=3) FJ T.xc (hr.mono (by ctx_has m)) rfl (aa (pvM 0) ac) rfl rfl nd rfl rfl rfl rfl rfl T.at_HallError T.xm (λv=>(ao (ay 1 (pvM 3)))))
  (ai (bi (qK (vo (pvM 1))) (ao (aA (aB dI (bu (aa (au (aa aq ac)) (aa (au (aa aq ac)) ac))) (aM ix T.b_int (aa (tN (vo (pvM 2))) ac))))) aK)
  (ai (ay 4 (bu (aa (ar (jH T.xi) T.b_isinstance (aa (pvM 1) (aa (cq (v:=.ref (aF mg "NoText")) rfl T.at_NoText rfl) ac))) (aa (ar (jH T.xi) T.b_isinstance (aa (pvM 1) (aa (cq (v:=.ref (aF mg "NoPaper")) rfl T.at_NoPaper rfl) ac))) (aa (ar (jH T.xi) T.b_isinstance (aa (pvM 1) (aa (cq (v:=.ref (aF mg "NoRow")) rfl T.at_NoRow rfl) ac))) ac)))))
  (ai (bi (PW.pt (lh (jg (gq (ar (jH T.xi) T.b_isinstance (aa (pvM 1) (aa (cq (v:=.ref (aF mg "NoHall")) rfl T.at_NoHall rfl) ac))))) (lh (jg (gq (ar (xJ T.xi) T.b_isinstance (aa (pvM 1) (aa (gU (T := "ValueError") rfl T.b_ValueError (by decide+kernel)) ac))))) (iS (aE uP nA (pvM 4)))))) (ao (aA (au (aa aq ac)))) aK)
  (ai (bi (gq (ar cG T.b_isinstance (aa (qj T.xc T.no_at (pvM 1)) (aa (gU (T := "bool") rfl T.b_bool (by decide+kernel)) ac)))) (ao (aA (au (aa aq ac)))) aK)
  (ao (aA (au (aa (qj T.xc T.no_word (pvM 1)) (aa (qj T.xc T.no_at (pvM 1)) ac))))))))))),?_⟩
 ctx_has v Ci
 refine⟨λv d _=>∀x n,v = .str x 0->d=some n->fb cs ws=some (x,n),⟨v,cs,ws,rfl,ht,hR,l1,l2,λU H1 s1=>?_,λx n hx y m e1 e2=>?_⟩,λx n a dx F H1 hs s1 h1=>?_⟩
 .refine⟨∅,λp hp=>⟨∅,λp1 af=>⟨∅,λp2 Z=>⟨_,ae,.ref p1,by rw[if_pos rfl];rfl,k _ _ (s1.trans ((ak.upd0 hp).trans ((ak.upd0 af).trans (ak.upd0 Z)))) ?_⟩⟩⟩⟩
  have ag:p1≠p2:=by rintro rfl;rw[ae] at Z;cases Z
  rw[ah ag,ae];unfold fE;rw[U]
 .injection e1 with e1
  injection e2 with e2
  rw[<- e1,<- e2];exact hx
 .have U:=hs x n rfl rfl
  refine⟨a,_,rfl,dx,F,_,_,false,⟨rfl,T.ki_NoText⟩,h1.o,h1.d,a,_,rfl,dx,F,_,_,false,⟨rfl,T.ki_NoPaper⟩,h1.o,h1.d,a,_,rfl,dx,F,_,_,false,⟨rfl,T.ki_NoRow⟩,h1.o,h1.d,∅,λp hp=>?_⟩
  have o2:upd H1 p (.lst [.bl false,.bl false,.bl false]) a=some (XO (aF mg "NoHall") (some dx) F a):=by rw[ah (aj h1.o hp)];exact h1.o
  have d2:upd H1 p (.lst [.bl false,.bl false,.bl false]) dx=some (XD [("word",.str x),("at",.int n)] dx):=by rw[ah (aj h1.d hp)];exact h1.d
  refine⟨a,_,rfl,dx,F,_,_,true,⟨rfl,T.ki_NoHall⟩,o2,d2,true,rfl,?_⟩
  rw[if_neg ∅]
  refine⟨a,_,rfl,dx,F,_,_,true,⟨rfl,T.ki_VE⟩,o2,d2,true,rfl,?_⟩
  rw[if_neg ∅]
  refine⟨_,ae,rfl,rfl,?_⟩
  rw[if_neg ∅]
  refine⟨a,rfl,dx,F,_,o2,d2,.int n,rfl,false,rfl,?_⟩
  rw[if_neg ∅]
  refine⟨a,rfl,dx,F,_,o2,d2,.str x,rfl,a,rfl,dx,F,_,o2,d2,.int n,rfl,∅,λp3 ad=>k _ _ (s1.trans ((ak.upd0 hp).trans (ak.upd0 ad))) ?_⟩
  rw[ae];unfold fE;rw[U]
theorem jB : ∀ns:List Int,nF ns=true↔ns.Pairwise (· < ·)
 | []=>by simp[nF]
 | [a]=>by simp[nF]
 | a :: b :: l=>by
  have L:=jB (b :: l);have e:nF (a :: b :: l)=(decide (a < b) && nF (b :: l)):=by simp[nF]
  rw[e,fx,L,decide_eq_true_eq]
  constructor
  .rintro⟨h1,h2⟩
   refine Io.mpr ⟨λx F=>?_,h2⟩
   rcases i4.mp F with rfl | F
   .exact h1
   .have:=(Io.mp h2).1 x F
    omega
  .intro h
   exact⟨(Io.mp h).1 b m9,(Io.mp h).2⟩
theorem kM : ∀{cs:List Tr} {ns:List Str} {i:Nat},cs.all aC=true->(cs.map bJ).Nodup->(∀t∈cs,bJ t∉ns)->dR ns i cs=none
 | [],_,_,_,_,_=>rfl
 | t :: cs,ns,i,h1,h2,h3=>by
  rw[IR,fx] at h1;rw[k9,D_] at h2;unfold dR;rw[if_pos (by rw[h1.1,o7];exact decide_eq_true (h3 t m9))]
  refine kM h1.2 h2.2 λu hu z=>?_
  rcases t0.mp z with z | z
  .exact h3 u (la _ hu) z
  .exact h2.1 (by rw[<- k_.mp z];exact HF hu)
theorem jT {ns:List Str} : ∀{ws:List Tr} {i:Nat},(∀t∈ws,okW ns t=true)->fA ns i ws=none
 | [],_,_=>rfl
 | t :: ws,i,h=>by
  unfold fA;rw[if_pos (h t m9)];exact jT λu hu=>h u (la _ hu)
theorem vF {s:Str} {ns:List Int} (h:nmB s=true) (h1:1<=ns.length) (h2:ns.length<=10) (L : ∀x∈ns,-1000000<=x/\x<=1000000) (F:ns.Pairwise (· < ·)):aC (.tup [.str s,.tup (ns.map Tr.int)])=true:=by
 have e1:=jl L;have e2:bq dD 1 10 (.tup (ns.map Tr.int))=true:=by
  simp only[bq,f_,dD,e1,IL,fx,decide_eq_true_eq];omega
 simp only[aC,bS,l_,length_nil,getD_cons_zero,getD_cons_succ,bU,h,e2,itT,fM,(jB ns).mpr F];rfl
def nmK (k:Nat):Str:=⟨#[97+k % 26,120+k / 26]⟩
theorem Gf (h:k < 40):atI (d_ "xy").cps.toList ((k:Int) / 26)=some (120+k / 26):=by
 rw[show(d_ "xy").cps.toList=[120,121] by decide+kernel,show(k:Int) / 26=((k / 26:Nat):Int) by omega]
 refine bh ?_
 have:k / 26=0\/k / 26=1:=()
 rcases this with e | e <;> rw[e] <;> rfl
theorem Ca (k:Nat):(Str.mk #[97+(((k:Int) % 26).toNat)])++(Str.mk #[120+k / 26])=nmK k:=by
 apply qy
 rw[cx];have:((k:Int) % 26).toNat=k % 26:=()
 rw[this];simp[nmK]
theorem uS (h:k < 40):nmB (nmK k)=true:=by
 have:(range 40).all (λk=>nmB (nmK k))=true:=by decide+kernel
 exact l9.mp this k (x5.mpr h)
theorem Cy:((range 40).map nmK).Nodup:=by decide+kernel
def hW (i:Int) (n:Nat):List Int:=(range n).map λ(j:Nat)=>i+(j:Int)
theorem zi (i:Int) (n:Nat):iM i n=(hW i n).map V.int:=by unfold iM hW;rw[Ij];rfl
theorem BO (i:Int) (n:Nat):(hW i n).Pairwise (· < ·):=by
 unfold hW;rw[Js];exact(List.pairwise_lt_range (n:=n)).imp λ{a b} h=>by omega
theorem Bu {i:Int} {x:Int} (h:x∈hW i n):i<=x/\x < i+n:=by
 obtain⟨j,F,rfl⟩:=v9.mp h;have:=x5.mp F
 omega
theorem mt (i:Int) (n:Nat):(hW i n).length=n:=by simp[hW]
theorem wT {s:Str} (h:nmB s=true) (hs:s∈ns):okW ns (.tup [.str "unlike",.tup [.str s]])=true:=by
 have e:cF (.tup [.str s])=true:=iq (ws:=[s]) ⟨by simp,by simpa using h⟩ (by simp) (by simp)
 have p:cN (.tup [.str "unlike",.tup [.str s]])=true:=by
  show bp "unlike" _=true
  rw[eB];simp[cV,e]
 unfold okW;rw[ni p,gm p,o7];rw[show aS (.tup [.str "unlike",.tup [.str s]])=[s] from cj (ws:=[s]) (cs:=[]) (by decide+kernel) (by decide+kernel)]
 simpa using hs
def zh:Sp:=λvs H Q _=>∃(d l:Addr),vs=[.ref d]/\av H d l/\∀(v:V) (cs ws:List Tr) (H':Hp),TV H' v (.tup [.tup cs,.tup ws])->cs.length=40->ws.length<=60->fb cs ws=none->av H' d l->But d l H H'->Q v H'
abbrev nz0:List Str:=["_law_deal_here","_law_cells_here","_law_k","_law_name","_law_some"]
theorem pU (T:Txt w K mg) (L:FnL K mg "_law_full" dA ["_law_deal_here"]) (Fa : @Dz0 P w K mg base):Fn P w K mg base "_law_full" 2 ["_law_deal_here"] (zh):=by
 ctx_has z qi <;> obtain⟨d,l,rfl,D,k⟩:=h
 .rfl
 refine⟨_,(ai (ay 1 (bu ac))
  (ai (da (ck rfl T.b_range (aa af ac)) (aP 2) (ai (ay 3 (ax dX (aB qS aq (ax cM (pvM 2) af)) (aB qS aq (ax fR (pvM 2) af))))
  (ao (bY (fe t9 t_ cB (pvM 1) (aa (au (aa (pvM 3) (aa (qQ rfl rfl T.b_tuple rfl T.b_range (aa (pvM 2) (aa (ax aW (ax aW (pvM 2) af) (ag Fa (aa (pvM 0) (aa af ac)))) ac))) ac))) ac))))))
  (ai (mf 4 (N:=["_law_k","_law_cells_here","_law_deal_here"]) (nt:=1) (js:=[1,0]) (bI nz0 (am dA).names) (ck rfl T.b_range (aa af ac)) (aP 0) bN cr (aB bB (aB dI (pvM 1) (ag Fa (aa (pvM 2) (aa af ac)))) af))
  (ao (aA (au (aa (aM bo T.b_tuple (aa (pvM 1) ac)) (aa (aM bo T.b_tuple (aa (dj (N:=["_law_name"]) (nt:=1) (js:=[]) (bI nz0 (am dA).names) (rj K (pvM 4)) (aP 0) bN cr (au (aa aq (aa (au (aa (pvM 0) ac)) ac)))) ac)) ac)))))))),?_⟩
 ctx_has v
 refine⟨∅,λp hp=>⟨∅,∅,?_⟩⟩
 have np:=D.ne hp;refine gJ cm (λi σ H'=>∃(bs:List V) (cs:List Tr) (v2 v3 v4:Option V),σ=[-d,-p,v2,v3,v4]/\TVs H' bs cs/\cs.all aC=true/\cs.map bJ=(range i).map nmK/\H' p*>bs/\av H' d l/\But d l H H') ⟨[],[],none,none,none,rfl,rfl,rfl,rfl,ae,D.new hp,(But.refl H).new hp⟩ (λ_ _ _ _=>g9) ?_ ?_
 .rintro i x σ H1 hi hx ⟨bs,cs,v2,v3,v4,rfl,hb,hc,hn,h1,D1,B1⟩
  rw[aG] at hi;rw[eQ hi] at hx;cases hx;have hl:bs.length=i:=by rw[hb.len];have:=congrArg w9 hn;simpa using this
  ctx_has v rP Int.zero_add
  refine⟨∅,eX,_,gd () (),?_,∅,_,Gf hi,by show 1+1<=_;decide,⟨_,h1⟩,?_⟩
  .exact⟨∅,∅⟩
  rw[Ca];refine aI D1 ∅ ∅ λr H2 r0 r1 D2 B2=>?_
  have h2:=B2 p _ np.1 np.2 h1;refine⟨r,rfl,(),(),(),λq hq=>?_⟩
  rw[zi,show((i:Int)+1+r - i).toNat=1+r.toNat by omega]
  refine⟨∅,λq2 ap=>?_⟩
  have pq:p≠q:=aj h2 hq
  have h3:upd H2 q (.tup ((hW i (1+r.toNat)).map V.int)) p*>bs:=by rw[ah pq];exact h2
  have aH:p≠q2:=aj h3 ap
  have a7:q≠q2:=by rintro rfl;rw[ae] at ap;cases ap
  have D3:=(D2.new (o:=.tup ((hW i (1+r.toNat)).map V.int)) hq).new (o:=.tup [.str (nmK i),.ref q]) ap;have B3:=((B1.trans B2).new (o:=.tup ((hW i (1+r.toNat)).map V.int)) hq).new (o:=.tup [.str (nmK i),.ref q]) ap;have S3:ak H2 (upd (upd H2 q (.tup ((hW i (1+r.toNat)).map V.int))) q2 (.tup [.str (nmK i),.ref q])):=(ak.upd0 hq).trans (ak.upd0 ap)
  have e1:upd (upd H2 q (.tup ((hW i (1+r.toNat)).map V.int))) q2 (.tup [.str (nmK i),.ref q]) q>>((hW i (1+r.toNat)).map V.int):=by rw[ah a7,ae]
  have e2:upd (upd H2 q (.tup ((hW i (1+r.toNat)).map V.int))) q2 (.tup [.str (nmK i),.ref q]) q2>>[.str (nmK i),.ref q]:=ae
  have e3:=S3 _ _ h2;generalize upd (upd H2 q (.tup ((hW i (1+r.toNat)).map V.int))) q2 (.tup [.str (nmK i),.ref q])=H3 at D3 B3 S3 e1 e2 e3 ⊢;have kp:bz H3 (upd H3 p (.lst (bs++[.ref q2]))):=bc e3
  have a3:=uS hi;refine⟨bs,e3,aw (),bs++[.ref q2],cs++[.tup [.str (nmK i),.tup ((hW i (1+r.toNat)).map Tr.int)]],?_,?_,?_,ae,D3.put np.1 np.2,B3.put hp⟩
  .exact(TVs.keep kp _ (TVs.keep (ak.keepT S3) _ (TVs.keep (B2.keepT D1) _ hb))).app (TVs.one ⟨q2,_,rfl,kp _ _ e2,_,_,rfl,⟨rfl,kN a3⟩,_,_,rfl,eZ (kp _ _ e1),rfl⟩)
  .rw[all_append,hc,IR,all_nil,vF a3 (by rw[mt];omega) (by rw[mt];omega) (λx hx=>by have:=Bu hx;omega) (BO _ _)];rfl
  .rw[m7,hn,range_succ,m7];rfl
 .rintro σ H1 ⟨bs,cs,v2,v3,v4,rfl,hb,hc,hn,h1,D1,B1⟩
  rw[aG] at hn;ctx_has v h1
  refine⟨∅,∅,λD0 an=>?_⟩
  have as:=D1.ne an;have a1:p≠D0:=aj h1 an
  have hl:bs.length=40:=by rw[hb.len];have:=congrArg w9 hn;simpa using this
  refine eR cm (λj ys H2=>∃ss:List Str,ys=ss.map V.str/\ss.length=j/\(∀s∈ss,∃k,k < 40/\s=nmK k)/\H2 D0*>ys/\H2 p*>bs/\TVs H2 bs cs/\av H2 d l/\But d l H H2) ⟨[],rfl,rfl,by simp,ae,by rw[ah a1];exact h1,TVs.keep (ak.keepT (ak.upd0 an)) _ hb,D1.new an,B1.new an⟩ (λ_ _ _ _=>g9) ?_ ?_
  .rintro j y ys H2 hj hy ⟨ss,rfl,hsl,hss,h2,h2p,hb2,D2,B2⟩
   ctx_has v
   refine aI D2 ∅ ∅ λr H3 r0 r1 D3 B3=>?_
   have h3:=B3 D0 _ as.1 as.2 h2;have a4:=B3 p _ np.1 np.2 h2p;have a5:=TVs.keep (B3.keepT D2) _ hb2;obtain⟨x,hx⟩ : ∃x,bs[r.toNat]? = some x:=⟨bs[r.toNat]'(),j6 ()⟩
   obtain⟨y,hy,ty⟩:=a5.at hx;have aE:bJ y=nmK r.toNat:=by
    have e:(cs.map bJ)[r.toNat]? = some (bJ y):=by rw[q_,hy];rfl
    rw[hn,q_,List.getElem?_range ()] at e
    exact(j9 e).symm
   obtain⟨s,zs,rfl,_⟩:=eA (l9.mp hc y (j7 hy));obtain⟨a,us,rfl,ha,y1,u1,rfl,⟨rfl,_⟩,_⟩:=ty;have az:s=nmK r.toNat:=aE
   have aD:atI bs r=some (.ref a):=by rw[show r=((r.toNat:Nat):Int) by omega];exact bh hx
   refine⟨r,rfl,bs,a4,_,aD,a,rfl,_,ha,_,ib _ _,h3,by rw[f_];exact aw (by rw[aG] at hj;simp at hj;omega),ss++[s],by simp,by simp;omega,λz hz=>?_,ae,by rw[ah a1];exact a4,TVs.keep (bc h3) _ a5,D3.put as.1 as.2,(B2.trans B3).put (B1.free D1 an)⟩
   rcases t0.mp hz with q | q
   .exact hss z q
   .exact⟨r.toNat,(),by rw[k_.mp q];exact az⟩
  .rintro ys H2 ⟨ss,rfl,hsl,hss,h2,h2p,hb2,D2,B2⟩
   rw[aG] at hsl;ctx_has v h2p
   intro q hq;have pq:D0≠q:=aj h2 hq
   refine⟨_,by rw[ah pq];exact h2,λD3 U=>?_⟩
   have S3:ak H2 (upd (upd H2 q (.tup bs)) D3 (.lst [])):=(ak.upd0 hq).trans (ak.upd0 U)
   have e1:upd (upd H2 q (.tup bs)) D3 (.lst []) q>>bs:=by rw[ah (by rintro rfl;rw[ae] at U;cases U),ae]
   have a8:H D3=none:=(B2.new (o:=.tup bs) hq).free (D2.new (o:=.tup bs) hq) U
   have a2:=(D2.new (o:=.tup bs) hq).ne U;have a6:D0≠D3:=aj (show upd H2 q (.tup bs) D0=_ by rw[ah pq];exact h2) U
   refine eR jn (λj ys Z=>∃ws:List Tr,TVs Z ys ws/\ws=(ss.take j).map (λs=>.tup [.str "unlike",.tup [.str s]])/\Z D3*>ys/\Z q>>bs/\Z D0*>(ss.map V.str)/\TVs Z bs cs/\av Z d l/\But d l H Z)
    ⟨[],rfl,rfl,ae,e1,S3 _ _ h2,TVs.keep (ak.keepT S3) _ hb2,(D2.new hq).new U,(B2.new hq).new U⟩ (λ_ _ _ a0=>by obtain⟨_,_,_,_,_,h,_⟩:=a0;exact(.of h)) ?_ ?_
   .rintro j y ys Z hj hy ⟨ws,hw,hws,h4,h4q,h4d,hb4,D4,B4⟩
    rw[q_] at hy;rw[f_] at hj;obtain⟨s,hs,rfl⟩ : ∃s,ss[j]? = some s/\V.str s=y:=by
     cases e:ss[j]? with
     | none=>rw[e] at hy;cases hy
     | some s=>rw[e] at hy;exact⟨s,rfl,j9 hy⟩
    have aF:ys.length=j:=by rw[hw.len,hws,f_,m8];omega
    ctx_has v
    refine⟨∅,λu ad=>⟨∅,λz hz=>?_⟩⟩
    have uz:u≠z:=by rintro rfl;rw[ae] at hz;cases hz
    have S5:ak Z (upd (upd Z u (.tup [.str s])) z (.tup [.str "unlike",.ref u])):=(ak.upd0 ad).trans (ak.upd0 hz)
    have e5:upd (upd Z u (.tup [.str s])) z (.tup [.str "unlike",.ref u]) u>>[.str s]:=by rw[ah uz,ae]
    have e6:upd (upd Z u (.tup [.str s])) z (.tup [.str "unlike",.ref u]) z>>[.str "unlike",.ref u]:=ae
    have D5:=(D4.new (o:=.tup [.str s]) ad).new (o:=.tup [.str "unlike",.ref u]) hz;have B5:=(B4.new (o:=.tup [.str s]) ad).new (o:=.tup [.str "unlike",.ref u]) hz;have e4:=S5 _ _ h4;generalize upd (upd Z u (.tup [.str s])) z (.tup [.str "unlike",.ref u])=H5 at S5 e5 e6 D5 B5 e4 ⊢;have kp:bz H5 (upd H5 D3 (.lst (ys++[.ref z]))):=bc e4
    obtain⟨kk,ar,a9⟩:=hss s (j7 hs);have az:s.length<=20:=kN (by rw[a9];exact uS ar)
    refine⟨e4,aw (),ws++[.tup [.str "unlike",.tup [.str s]]],?_,?_,ae,kp _ _ (S5 _ _ h4q),by rw[ah a6];exact S5 _ _ h4d,TVs.keep kp _ (TVs.keep (ak.keepT S5) _ hb4),D5.put a2.1 a2.2,B5.put a8⟩
    .exact(TVs.keep kp _ (TVs.keep (ak.keepT S5) _ hw)).app (TVs.one ⟨z,_,rfl,kp _ _ e6,_,_,rfl,⟨rfl,∅⟩,_,_,rfl,⟨u,_,rfl,kp _ _ e5,_,_,rfl,⟨rfl,az⟩,rfl⟩,rfl⟩)
    .rw[hws,w5,hs,m7];rfl
   .rintro ys Z ⟨ws,hw,hws,h4,h4q,h4d,hb4,D4,B4⟩
    rw[f_,x6 (h_ _)] at hws;ctx_has v h4
    intro u ad;refine⟨∅,λz hz=>?_⟩
    have uz:u≠z:=by rintro rfl;rw[ae] at hz;cases hz
    have S5:ak Z (upd (upd Z u (.tup ys)) z (.tup [.ref q,.ref u])):=(ak.upd0 ad).trans (ak.upd0 hz)
    refine k _ cs ws _ ⟨z,_,rfl,ae,_,_,rfl,⟨q,bs,rfl,S5 _ _ h4q,TVs.keep (ak.keepT S5) _ hb4⟩,_,_,rfl,⟨u,ys,rfl,by rw[ah uz,ae],TVs.keep (ak.keepT S5) _ hw⟩,rfl⟩ (by rw[<- hb.len];exact hl) (by rw[hws,f_];simp at hsl;omega) ?_ ((D4.new ad).new hz) ((B4.new ad).new hz)
    unfold fb;rw[kM hc (by rw[hn];exact Cy) (by simp)]
    show(fA _ _ _).map _=none
    rw[jT λt ht=>?_]
    .rfl
    .rw[hws] at ht
     obtain⟨s,hs,rfl⟩:=v9.mp ht;obtain⟨kk,ar,rfl⟩:=hss s hs;exact wT (uS ar) (by rw[hn];exact HF (x5.mpr ar))
def yV (t u:TS):TS:=λD σ H=>∃R:St->Hp->Prop,t { D with nx:=R } σ H/\∀ σ H,R σ H->u D σ H
theorem cX {t u:TS} (h1:PS X st t) (h2:PSs X rest u):PSs X (st :: rest) (yV t u):=by
 unfold PS at h1;unfold PSs at h2 ⊢;intro pins s σ H D I h;obtain⟨R,h,F⟩:=h;refine JD (thn (h1 pins s σ H { D with nx:=R } I h) λf s1 q=>?_)
 cases f with
 | next =>
  obtain⟨σ',H',L,q⟩:=q;exact h2 pins s1 σ' H' D L (F _ _ q)
 | ret v=>exact q
 | brk=>exact q
 | cont=>exact q
def nmQ (k:Nat):Str:=⟨#[97+k % 26,113,97+k / 26,113]⟩
theorem DK (h:k < 39):nmB (nmQ k)=true:=by
 have:(range 39).all (λk=>nmB (nmQ k))=true:=by decide+kernel
 exact l9.mp this k (x5.mpr h)
theorem jI (a b:Str):(a++b).length=a.length+b.length:=by rw[<- eW,cx,HD,eW,eW]
theorem Cf:(d_ "q").length=1:=by decide+kernel
theorem A6 (k:Nat):(Str.mk #[97+(((k:Int) % 26).toNat)])++d_ "q" ++(Str.mk #[97+k / 26])++d_ "q" = nmQ k:=by
 apply qy
 rw[cx,cx,cx,show(d_ "q").cps.toList=[113] by decide+kernel]
 have:((k:Int) % 26).toNat=k % 26:=()
 rw[this];simp[nmQ]
theorem Gx (h:k < 39):atI (d_ "abcdefgh").cps.toList ((k:Int) / 26)=some (97+k / 26):=by
 rw[show(d_ "abcdefgh").cps.toList=[97,98,99,100,101,102,103,104] by decide+kernel,show(k:Int) / 26=((k / 26:Nat):Int) by omega]
 refine bh ?_
 have:k / 26=0\/k / 26=1:=()
 rcases this with e | e <;> rw[e] <;> rfl
theorem mW {bs:List V} {cs:List Tr} {Q:VK} (hp:H p*>bs) (L:TVs H bs cs) (hc:cs.all aC=true) (hl:bs.length<=60) (Z:H D=none) (h : ∀H',ak H H'->H' D*>(cs.map λt=>V.str (bJ t))->Q (.ref D) H') :
  lq (Itl K p) [none] (cH 0) lU (tOp rIT (aU 0) (tC (V.int 0))) Q H D:=by
 refine eR jn (λj ys H'=>ys=(cs.take j).map (λt=>V.str (bJ t))/\ak H H'/\H' D*>ys) ⟨rfl,ak.upd0 Z,ae⟩ (λ_ _ _ F=>by obtain⟨_,S,_⟩:=F;exact(.of (S _ _ hp))) ?_ ?_
 .rintro j y ys H2 hj hy ⟨rfl,S,h2⟩
  obtain⟨t,ht,ty⟩:=L.at hy;obtain⟨s,zs,rfl,_⟩:=eA (l9.mp hc t (j7 ht));obtain⟨a,us,rfl,ha,y1,u1,rfl,⟨rfl,_⟩,_⟩:=ty;have U:=S _ _ ha;have aa:=L.len;ctx_has v U
  refine⟨h2,by rw[f_,m8];exact aw (),?_,λb o q=>?_,ae⟩
  .rw[w5,ht,m7];rfl
  .rw[ah (aj q Z)];exact S b o q
 .rintro ys H2 ⟨rfl,S,h2⟩
  rw[L.len,A_] at h2;exact h H2 S h2
def GL:Sp:=λvs H Q _=>∃(d l n:Addr) (ws:List Str),vs=[.ref d,.ref n]/\av H d l/\H n*>(ws.map V.str)/\ws.length=7/\eP ws/\∀(p:Addr) (bs:List V) (cs:List Tr) (H':Hp),H p=none->TVs H' bs cs->cs.all aC=true->(cs.map bJ).Nodup->cs.length<=38->H' p*>bs->av H' d l->But d l H H'->Q (.ref p) H'
abbrev ED:=Fn P w K mg base "_law_cells" 4 ["_law_deal_here","_law_names_here"] (GL)
theorem om (T:Txt w K mg) (L:FnL K mg "_law_cells" dU ["_law_deal_here","_law_names_here"]) (Fa : @Dz0 P w K mg base) (Fc : @Dz4 P w K mg base) : @ED P w K mg base:=by
 ctx_has z on <;> obtain⟨d,l,n,ws,rfl,D,hn,aJ,aO,k⟩:=h
 .rfl
 refine⟨_,(ai (ay 2 (ag Fa (aa (pvM 0) (aa af ac))))
  (cX (bi (aE bA (ag Fa (aa (pvM 0) (aa af ac))) af) (ao (ay 2 (ag Fa (aa (pvM 0) (aa af ac))))) aK)
  (ai (ay 3 (bu ac))
  (ai (da (ck rfl T.b_range (aa (pvM 2) ac)) (aP 4) (ai (ay 5 (aB dI (pvM 1) (ax cM (pvM 4) af)))
  (cX (bi (aE Et (pvM 4) af) (ao (ay 5 (ax dX (ax dX (ax dX (aB qS aq (ax cM (pvM 4) af)) aq) (aB qS aq (ax fR (pvM 4) af))) aq))) aK)
  (ai (ay 6 (ar qH T.b_sorted (aa (ag Fc (aa (pvM 0) (aa (ax aW af (ag Fa (aa (pvM 0) (aa af ac)))) ac))) ac)))
  (ao (bi (aE xv (pvM 5) (dj (N:=["_law_cell"]) (nt:=1) (js:=[]) (bI ["_law_deal_here","_law_names_here","_law_many_here","_law_cells_here","_law_k","_law_name","_law_room"] (am dU).names) (rj K (pvM 3)) (aP 0) bN cr (aB bB (pvM 0) af))) (ao (bY (fe t9 t_ cB (pvM 3) (aa (au (aa (pvM 5) (aa (aM bo T.b_tuple (aa (pvM 6) ac)) ac))) ac)))) aK))))))
  (ao (aA (pvM 3))))))),?_⟩
 have an:n≠d:=by
  obtain⟨m,sd,z,xs,hd,hl,_⟩:=D.ex;exact eV hn hd (by intro z;cases z)
 have ad:n≠l:=by
  rintro rfl
  obtain⟨m,sd,z,xs,hd,hl,_⟩:=D.ex;rw[hn] at hl;cases ws with
  | nil=>simp at aJ
  | cons a b=>cases xs with
   | nil=>cases hl
   | cons c e=>cases hl
 ctx_has v
 refine aI D ∅ ∅ λr H1 r0 r1 D1 B1=>?_
 ctx_has v yV
 refine⟨λσ H'=>∃(U:Int) (v3 v4 v5 v6:Option V),σ=[-d,-n,some (.int U),v3,v4,v5,v6]/\0<=U/\U<=38/\H' n*>(ws.map V.str)/\av H' d l/\But d l H H',?_,?_⟩
 .refine aI D1 ∅ ∅ λr2 H2 _ _ D2 B2=>⟨rfl,?_⟩
  have Z:=B2 n _ an ad (B1 n _ an ad hn);refine bR (λ_=>?_) (λ_=>⟨r,_,_,_,_,rfl,r0,(),Z,D2,B1.trans B2⟩)
  exact aI D2 ∅ ∅ λr3 H3 aQ bf D3 B3=>⟨r3,_,_,_,_,rfl,aQ,(),B3 n _ an ad Z,D3,(B1.trans B2).trans B3⟩
 rintro σ H2 ⟨U,v3,v4,v5,v6,rfl,m0,m1,Z,D2,B2⟩
 ctx_has v
 refine⟨∅,λp hp=>⟨(),(),?_⟩⟩
 have np:=D2.ne hp;have fp:H p=none:=B2.free D2 hp
 have pn:n≠p:=aj Z hp
 refine gJ cm (λi σ H'=>∃(bs:List V) (cs:List Tr) (v4 v5 v6:Option V),σ=[-d,-n,some (.int U),-p,v4,v5,v6]/\TVs H' bs cs/\cs.all aC=true/\(cs.map bJ).Nodup/\cs.length<=i/\H' p*>bs/\H' n*>(ws.map V.str)/\av H' d l/\But d l H H') ⟨[],[],_,_,_,rfl,rfl,rfl,by simp,by simp,ae,by rw[ah pn];exact Z,D2.new hp,B2.new hp⟩ (λ_ _ _ _=>g9) ?_ ?_
 .rintro i x σ H3 hi hx ⟨bs,cs,v4,v5,v6,rfl,hb,hc,hnd,hl,h3,h3n,D3,B3⟩
  rw[aG] at hi;rw[eQ hi] at hx;cases hx;have aZ:i < 38:=()
  have bb:bs.length<=i:=by rw[hb.len];exact hl
  ctx_has v yV Int.zero_add
  obtain⟨w7,a6⟩ : ∃w7,ws[((i:Int) % 7).toNat]? = some w7:=⟨ws[((i:Int) % 7).toNat]'(),j6 ()⟩
  have aT:atI (ws.map V.str) ((i:Int) % 7)=some (.str w7):=by
   rw[show(i:Int) % 7=((((i:Int) % 7).toNat:Nat):Int) by omega]
   exact bh (by rw[q_,a6];rfl)
  refine⟨∅,_,h3n,_,aT,λσ H'=>∃(nm:Str) (v6:Option V),σ=[-d,-n,some (.int U),-p,some (.int i),some (.str nm),v6]/\nmB nm=true/\H'=H3,?_,?_⟩
  .refine bR (λh7=>?_) (λh7=>⟨w7,_,rfl,aO.2 _ (j7 a6),rfl⟩)
   refine⟨∅,eX,_,gd () (),by show 1+1<=_;decide,⟨∅,∅⟩,∅,_,Gx (),?_,?_,nmQ i,v6,by rw[A6],DK (),rfl⟩
   .rw[jI,Cf];show 1+1+1<=g_;decide
   .rw[jI,jI,Cf];show 1+1+1+1<=g_;decide
  rintro σ _ ⟨nm,v6,rfl,a2,rfl⟩
  ctx_has v
  refine aI D3 ∅ ∅ λr4 H4 ba be D4 B4=>⟨r4,rfl,d,l,_,rfl,D4,(),(),λq ns H5 _ bg a4 aR h5 D5 B5=>⟨q,rfl,ns,h5,(),λq2 ms a1 ap aX=>?_⟩⟩
  have as:=B5 p _ np.1 np.2 (B4 p _ np.1 np.2 h3);have aS:=B5 n _ an ad (B4 n _ an ad h3n);have a8:=TVs.keep (B5.keepT D4) _ (TVs.keep (B4.keepT D3) _ hb);have S6:ak H5 (upd H5 q2 (.lst (ms.map V.int))):=ak.upd0 a1
  have e6:upd H5 q2 (.lst (ms.map V.int)) q2*>(ms.map V.int):=ae
  have D6:=D5.new (o:=.lst (ms.map V.int)) a1;have B6:=((B3.trans B4).trans B5).new (o:=.lst (ms.map V.int)) a1;generalize upd H5 q2 (.lst (ms.map V.int))=H6 at S6 e6 D6 B6 ⊢;have bd:=hb.len;refine⟨bs,S6 _ _ as,λD7 aN=>mW (S6 _ _ as) (TVs.keep (ak.keepT S6) _ a8) hc () aN λH7 s7 h7=>⟨D7,rfl,_,h7,rfl,?_,?_⟩⟩
  .rw[show(cs.map λt=>V.str (bJ t))=(cs.map bJ).map V.str by rw[Ij];rfl];exact kX _
  have a9:=D6.same s7;have B7:=B6.same s7;have a0:=s7 _ _ (S6 _ _ as);have aD:=s7 _ _ (S6 _ _ aS);have a7:=TVs.keep (ak.keepT s7) _ (TVs.keep (ak.keepT S6) _ a8);rw[show(cs.map λt=>V.str (bJ t))=(cs.map bJ).map V.str by rw[Ij];rfl,ik]
  refine bR (λa5=>⟨⟨_,a0⟩,_,s7 _ _ e6,λu az=>⟨∅,λz hz=>?_⟩⟩) (λ_=>?_)
  .have uz:u≠z:=by rintro rfl;rw[ae] at hz;cases hz
   have S8:ak H7 (upd (upd H7 u (.tup (ms.map V.int))) z (.tup [.str nm,.ref u])):=(ak.upd0 az).trans (ak.upd0 hz)
   have e8:upd (upd H7 u (.tup (ms.map V.int))) z (.tup [.str nm,.ref u]) u>>(ms.map V.int):=by rw[ah uz,ae]
   have e9:upd (upd H7 u (.tup (ms.map V.int))) z (.tup [.str nm,.ref u]) z>>[.str nm,.ref u]:=ae
   have D8:=(a9.new (o:=.tup (ms.map V.int)) az).new (o:=.tup [.str nm,.ref u]) hz;have B8:=(B7.new (o:=.tup (ms.map V.int)) az).new (o:=.tup [.str nm,.ref u]) hz;generalize upd (upd H7 u (.tup (ms.map V.int))) z (.tup [.str nm,.ref u])=H8 at S8 e8 e9 D8 B8 ⊢;have aF:=S8 _ _ a0;have kp:bz H8 (upd H8 p (.lst (bs++[.ref z]))):=bc aF
   have aV:nm∉cs.map bJ:=by simpa using a5
   have aY:ms.Pairwise (· < ·):=by
    have aL:ms.Nodup:=ap.nodup_iff.mpr a4
    exact(List.Pairwise.and aX aL).imp λa3=>by obtain⟨h1,h2⟩:=a3;exact()
   refine⟨bs,aF,aw (),bs++[.ref z],cs++[.tup [.str nm,.tup (ms.map Tr.int)]],?_,?_,?_,?_,ae,by rw[ah (t6 (λe=>pn e.symm))];exact S8 _ _ aD,D8.put np.1 np.2,B8.put fp⟩
   .exact(TVs.keep kp _ (TVs.keep (ak.keepT S8) _ a7)).app (TVs.one ⟨z,_,rfl,kp _ _ e9,_,_,rfl,⟨rfl,kN a2⟩,_,_,rfl,eZ (kp _ _ e8),rfl⟩)
   .rw[all_append,hc,IR,all_nil,vF a2 (by rw[ap.length_eq];omega) (by rw[ap.length_eq];omega) (λx hx=>aR x (ap.mem_iff.mp hx)) aY];rfl
   .rw[m7,Iv]
    refine⟨hnd,by simp,λa ha b aH=>?_⟩
    rw[k9,JI,k_] at aH;rintro rfl
    rw[aH] at ha;exact aV ha
   .simp;omega
  .exact⟨bs,cs,a7,hc,hnd,(),a0,aD,a9,B7⟩
 .rintro σ H3 ⟨bs,cs,v4,v5,v6,rfl,hb,hc,hnd,hl,h3,h3n,D3,B3⟩
  rw[aG] at hl;ctx_has v
  exact k p bs cs H3 fp hb hc hnd () h3 D3 B3
def GI:Sp:=λvs H Q _=>∃(d l c:Addr) (bs:List V) (cs:List Tr),vs=[.ref d,.ref c]/\av H d l/\H c*>bs/\TVs H bs cs/\cs.all aC=true/\(cs.map bJ).Nodup/\cs.length<=38/\c≠d/\c≠l/\∀(p:Addr) (xs:List V) (ws:List Tr) (H':Hp),H p=none->TVs H' xs ws->(∀t∈ws,okW (cs.map bJ) t=true)->ws.length<=38->H' p*>xs->av H' d l->But d l H H'->Q (.ref p) H'
theorem F7 {r:Int} (U:0<=r) (h1:r < 6+if (1:Int) < (n:Int) then 1 else 0) : ∃F:Str,atI [V.str "unlike",V.str "many",V.str "sum",V.str "table",V.str "way",V.str "behind",V.str "same"] r=some (.str F)/\(F∈gr\/(F = "same" /\ 2<=n)):=by
 have h:(∃m:Nat,r=(m:Int)/\m < 6)\/(r=6/\2<=n):=by
  by_cases z:(1:Int) < (n:Int)
  .rw[if_pos z] at h1
   by_cases y:r=6
   .exact .inr ⟨y,()⟩
   .exact .inl ⟨r.toNat,(),()⟩
  .rw[if_neg z] at h1
   exact .inl ⟨r.toNat,(),()⟩
 rcases h with⟨m,rfl,L⟩ | ⟨rfl,h⟩
 .refine⟨gr.getD m "",bh ?_,.inl ?_⟩
  .have:m=0\/m=1\/m=2\/m=3\/m=4\/m=5:=()
   rcases this with rfl | rfl | rfl | rfl | rfl | rfl <;> rfl
  .rw[zc,j6 (show m < gr.length from L)]
   exact List.getElem_mem _
 .exact⟨"same",bh (j:=6) rfl,.inr ⟨rfl,h⟩⟩
theorem zu {cs:List Tr} (h1:cs.all aC=true) (h2:(cs.map bJ).Nodup):eP (cs.map bJ):=⟨h2,λw F=>by
 obtain⟨t,L,rfl⟩:=v9.mp F;obtain⟨s,zs,rfl,hs,_⟩:=eA (l9.mp h1 t L);exact hs⟩
theorem yn (h:eP ns) (F:k<=ns.length):eP (((ns++ns).drop k).take ns.length)/\(((ns++ns).drop k).take ns.length).length=ns.length/\∀x∈((ns++ns).drop k).take ns.length,x∈ns:=by
 have e:((ns++ns).drop k).take ns.length=ns.drop k++ns.take k:=by
  rw[List.drop_append_of_le_length F,List.take_append];rw[x6 (by rw[Jk];omega),Jk,show ns.length - (ns.length - k)=k by omega]
 rw[e];have p:(ns.drop k++ns.take k).Perm ns:=(List.perm_append_comm).trans (by rw[Iq])
 exact⟨⟨p.nodup_iff.mpr h.1,λw L=>h.2 w (p.mem_iff.mp L)⟩,p.length_eq,λx U=>p.mem_iff.mp U⟩
abbrev E3:=Fn P w K mg base "_law_wishes" 7 ["_law_deal_here","_law_cells_here"] (GI)
theorem mX (T:Txt w K mg) (L:FnL K mg "_law_wishes" di ["_law_deal_here","_law_cells_here"]) (Fa : @Dz0 P w K mg base) (Fp : @Eu P w K mg base) : @E3 P w K mg base:=by
 ctx_has z mT <;> obtain⟨d,l,c,bs,cs,rfl,D,hc,hb,ad,a1,hl,cd,cl,k⟩:=h
 .rfl
 refine⟨_,(ai (mf 2 (N:=["_law_cell"]) (nt:=1) (js:=[]) (bI ["_law_deal_here","_law_cells_here","_law_names_here","_law_many_here","_law_wishes_here","_law_k","_law_turn","_law_sort"] (am di).names) (rj K (pvM 1)) (aP 0) bN cr (aB bB (pvM 0) af))
  (ai (ay 3 (ag Fa (aa (pvM 0) (aa af ac))))
  (cX (bi (aE bA (ag Fa (aa (pvM 0) (aa af ac))) af) (ao (ay 3 (ag Fa (aa (pvM 0) (aa af ac))))) aK)
  (ai (ay 4 (bu ac))
  (ai (da (ck rfl T.b_range (aa (pvM 3) ac)) (aP 5) (ai (ay 6 (ag Fa (aa (pvM 0) (aa af ac))))
  (ai (ay 7 (aB dI (bu (aa aq (aa aq (aa aq (aa aq (aa aq (aa aq (aa aq ac)))))))) (ag Fa (aa (pvM 0) (aa (ax aW af (aM ix T.b_int (aa (bH gD (ar be T.b_len (aa (pvM 2) ac)) af) ac))) ac)))))
  (ao (bi (aE gD (ar be T.b_len (aa (pvM 2) ac)) af) (ao (bY (fe t9 t_ cB (pvM 4) (aa (ag Fp (aa (pvM 0) (aa (aQ wI (aQ wI (ax gx (pvM 2) (pvM 2)) (aV (ax cM (pvM 6) (ar be T.b_len (aa (pvM 2) ac)))) bv) bv (aV (ar be T.b_len (aa (pvM 2) ac)))) (aa (pvM 7) ac)))) ac)))) aK)))))
  (ao (aA (pvM 4)))))))),?_⟩
 ctx_has v hc
 intro D0 az;have U:=D.ne az;have a4:=hb.len;refine mW hc hb ad () az λH1 s1 h1=>?_
 have D1:=D.same s1;have B1:=(But.refl H).same (d:=d) (l:=l) s1;rw[show(cs.map λt=>V.str (bJ t))=(cs.map bJ).map V.str by rw[Ij];rfl] at h1
 have a5:=zu ad a1;have aT:(cs.map bJ).length<=38:=by simpa using hl
 clear a4 hb ad a1 hl;generalize cs.map bJ=ns at *;refine aI D1 ∅ ∅ λr H2 r0 r1 D2 B2=>?_
 have h2:=B2 D0 _ U.1 U.2 h1;ctx_has v yV
 refine⟨λσ H'=>∃(an:Int) (v4 v5 v6 v7:Option V),σ=[-d,-c,-D0,some (.int an),v4,v5,v6,v7]/\0<=an/\an<=38/\H' D0*>(ns.map V.str)/\av H' d l/\But d l H H',?_,?_⟩
 .refine aI D2 ∅ ∅ λr2 H3 _ _ D3 B3=>⟨rfl,?_⟩
  have h3:=B3 D0 _ U.1 U.2 h2;refine bR (λ_=>?_) (λ_=>⟨r,_,_,_,_,rfl,r0,(),h3,D3,(B1.trans B2).trans B3⟩)
  exact aI D3 ∅ ∅ λr3 H4 a7 aY D4 B4=>⟨r3,_,_,_,_,rfl,a7,(),B4 D0 _ U.1 U.2 h3,D4,((B1.trans B2).trans B3).trans B4⟩
 rintro σ H3 ⟨an,v4,v5,v6,v7,rfl,m0,m1,h3,D3,B3⟩
 ctx_has v
 refine⟨∅,λp hp=>⟨(),(),?_⟩⟩
 have np:=D3.ne hp;have fp:H p=none:=B3.free D3 hp
 have pd:D0≠p:=aj h3 hp
 refine gJ cm (λi σ H'=>∃(xs:List V) (ws:List Tr) (v5 v6 v7:Option V),σ=[-d,-c,-D0,some (.int an),-p,v5,v6,v7]/\TVs H' xs ws/\(∀t∈ws,okW ns t=true)/\ws.length<=i/\H' p*>xs/\H' D0*>(ns.map V.str)/\av H' d l/\But d l H H') ⟨[],[],_,_,_,rfl,rfl,by simp,by simp,ae,by rw[ah pd];exact h3,D3.new hp,B3.new hp⟩ (λ_ _ _ _=>g9) ?_ ?_
 .rintro i x σ H4 hi hx ⟨xs,ws,v5,v6,v7,rfl,hxw,ad,hl,h4,h4d,D4,B4⟩
  rw[aG] at hi;rw[eQ hi] at hx;cases hx;have aX:=hxw.len;ctx_has v
  refine aI D4 ∅ ∅ λr5 H5 aZ aS D5 B5=>?_
  have h5:=B5 p _ np.1 np.2 h4;have as:=B5 D0 _ U.1 U.2 h4d;refine⟨∅,λg hg=>?_⟩
  have dg:D0≠g:=aj as hg
  have pg:p≠g:=aj h5 hg
  have ng:=D5.ne hg;refine⟨_,by rw[ah dg];exact as,?_⟩
  rw[f_];have S5:ak H5 (upd H5 g (.lst [V.str "unlike",V.str "many",V.str "sum",V.str "table",V.str "way",V.str "behind",V.str "same"])):=ak.upd0 hg
  refine aI (D5.new hg) (by split <;> omega) (by split <;> omega) λr6 H6 a6 a9 D6 B6=>?_
  have aH:=B6 g _ ng.1 ng.2 ae;have h6:=B6 p _ np.1 np.2 (S5 _ _ h5);have Z:=B6 D0 _ U.1 U.2 (S5 _ _ as);have a2:=((B4.trans B5).new (o:=.lst [V.str "unlike",V.str "many",V.str "sum",V.str "table",V.str "way",V.str "behind",V.str "same"]) hg).trans B6;have a0:=TVs.keep (B6.keepT (D5.new hg)) _ (TVs.keep (ak.keepT S5) _ (TVs.keep (B5.keepT D4) _ hxw));obtain⟨sv,aC,aD⟩:=F7 (n:=ns.length) a6 a9;refine⟨r6,rfl,_,aH,_,aC,_,Z,?_⟩
  rw[f_];refine bR (λh0=>⟨⟨_,h6⟩,_,Z,_,Z,pj (aw (by rw[f_];omega)),λq hq=>?_⟩) (λh0=>⟨xs,ws,a0,ad,(),h6,Z,D6,a2⟩)
  have dq:D0≠q:=aj Z hq
  obtain⟨kk,a3⟩ : ∃kk:Nat,r5 % (ns.length:Int)=(kk:Int):=⟨(r5 % (ns.length:Int)).toNat,by have:=Jj r5 (b:=(ns.length:Int)) ();omega⟩
  have aO:kk<=ns.length:=by have:=Iz r5 (b:=(ns.length:Int)) ();omega
  refine⟨_,by rw[ah dq];exact Z,r5,rfl,by rw[f_];exact h0,_,ae,λq2 ap=>?_⟩
  rw[<- m7,f_,a3,gn] at *;have aF:D0≠q2:=aj (show upd H6 q _ D0*>(ns.map V.str) by rw[ah dq];exact Z) ap
  refine⟨_,by rw[ah aF,ah dq];exact Z,_,ae,λq3 au=>?_⟩
  rw[f_,gb] at *;obtain⟨g1,g2,g3⟩:=yn a5 aO;have S7:ak H6 (upd (upd (upd H6 q (.lst ((ns++ns).map V.str))) q2 (.lst (((ns++ns).drop kk).map V.str))) q3 (.lst ((((ns++ns).drop kk).take ns.length).map V.str))):=((ak.upd0 hq).trans (ak.upd0 ap)).trans (ak.upd0 au)
  have D7:=((D6.new (o:=.lst ((ns++ns).map V.str)) hq).new (o:=.lst (((ns++ns).drop kk).map V.str)) ap).new (o:=.lst ((((ns++ns).drop kk).take ns.length).map V.str)) au;have B7:=((a2.new (o:=.lst ((ns++ns).map V.str)) hq).new (o:=.lst (((ns++ns).drop kk).map V.str)) ap).new (o:=.lst ((((ns++ns).drop kk).take ns.length).map V.str)) au;have e7:upd (upd (upd H6 q (.lst ((ns++ns).map V.str))) q2 (.lst (((ns++ns).drop kk).map V.str))) q3 (.lst ((((ns++ns).drop kk).take ns.length).map V.str)) q3*>((((ns++ns).drop kk).take ns.length).map V.str):=ae
  generalize upd (upd (upd H6 q (.lst ((ns++ns).map V.str))) q2 (.lst (((ns++ns).drop kk).map V.str))) q3 (.lst ((((ns++ns).drop kk).take ns.length).map V.str))=H7 at S7 D7 B7 e7 ⊢;generalize ((ns++ns).drop kk).take ns.length=aJ at g1 g2 g3 e7;refine⟨d,l,q3,aJ,sv,rfl,D7,e7,(),(),g1,by rw[g2];exact aD,λv tr H8 aR a8 aL D8 B8=>?_⟩
  have h8:=B8 p _ np.1 np.2 (S7 _ _ h6);have aN:=B8 D0 _ U.1 U.2 (S7 _ _ Z);have kp:bz H8 (upd H8 p (.lst (xs++[v]))):=bc h8
  refine⟨xs,h8,aw (),xs++[v],ws++[tr],(TVs.keep kp _ (TVs.keep (B8.keepT D7) _ (TVs.keep (ak.keepT S7) _ a0))).app (TVs.one (TV.keep kp _ aR)),λt ht=>?_,by simp;omega,ae,by rw[ah pd];exact aN,D8.put np.1 np.2,(B7.trans B8).put fp⟩
  rcases t0.mp ht with z | z
  .exact ad t z
  .rw[k_.mp z]
   unfold okW;rw[a8,o7,l9];exact λc hc=>decide_eq_true (g3 c (aL c hc))
 .rintro σ H4 ⟨xs,ws,v5,v6,v7,rfl,hxw,ad,hl,h4,h4d,D4,B4⟩
  rw[aG] at hl;ctx_has v
  exact k p xs ws H4 fp hxw ad () h4 D4 B4
theorem sB {a rest:TS} {D:iN} (h : ∀R:TS,R=rest->oB a R D σ H):oB a rest D σ H:=h rest rfl
local macro_rules | `(tactic| ctx_has s $ids*) => `(tactic| (refine sB λR hR => ?_; ctx_has v $ids*; subst hR))
def GB (d l:Addr) (σ:St) (H:Hp) (X:TE) (P:V->Hp->Prop):Prop:=∀(H1:Hp) (Q:VK),av H1 d l->But d l H H1->(∀x H',P x H'->av H' d l->But d l H1 H'->Q x H')->X σ H1 Q
def StP (P:V->Hp->Prop):Prop:=∀x H H',bz H H'->P x H->P x H'
def isI (P:List Int->Prop):V->Hp->Prop:=λx H=>∃p zs,x = .ref p/\P zs/\H p>>(zs.map V.int)
theorem GM (P:List Int->Prop):StP (isI P):=λx H H' k F=>by obtain⟨p,zs,e,h,hp⟩:=F;exact(⟨p,zs,e,h,k _ _ hp⟩)
def isN (P:Int->Prop):V->Hp->Prop:=λx _=>∃i,x = .int i/\P i
def isT (g:Tr->Prop):V->Hp->Prop:=λx H=>∃t,TV H x t/\g t
theorem A2 (g:Tr->Prop):StP (isT g):=λx H H' k F=>by obtain⟨t,h,q⟩:=F;exact(⟨t,TV.keep k _ h,q⟩)
section
variable {l:Addr}
theorem GB.imp {X:TE} {P F:V->Hp->Prop} (h:GB d l σ H X P) (f : ∀x H,P x H->F x H):GB d l σ H X F:=λH1 Q D B k=>h H1 Q D B λx H' p L U=>k x H' (f x H' p) L U
theorem xE {v:V} {P:V->Hp->Prop} (h : ∀H,P v H):GB d l σ H (tC v) P:=λH1 Q D B k=>k v H1 (h H1) D (But.refl H1)
theorem Dj {v:V} {P:V->Hp->Prop} (e:σ[i]? = some (some v)) (F:av H d l) (h:P v H) (st:StP P):GB d l σ H (aU i) P:=λH1 Q D B k=>by
 unfold aU;rw[e];exact k v H1 (st _ _ _ (B.keepT F) h) D (But.refl H1)
theorem lX {m:Int} (e:σ[i]? = some (-d)) (U:0 < m) (h1:m < 18446744073709551616):GB d l σ H (oZ jZ [] E0 (bF (aU i) (bF (tC (V.int m)) dC))) (isN λr=>0<=r/\r < m):=λH1 Q D B k=>by
 have:jZ [.ref d,.int m] H1 Q E0:=⟨d,l,m,rfl,D,U,h1,λr H' L F Z B'=>k (.int r) H' ⟨r,rfl,L,F⟩ Z B'⟩
 show aU i σ H1 _
 unfold aU;rw[e];exact this
theorem qx {X:TE} {g:Int->Int->Int} (h1:GB d l σ H X (isN P1)) (h2:GB d l σ H Y (isN P2)):GB d l σ H (tOp (rI0 λi j=>V.int (g i j)) X Y) (isN λz=>∃a b,P1 a/\P2 b/\z=g a b):=λH1 Q D B k =>
 h1 H1 _ D B λx H2 ⟨a,ea,pa⟩ D2 B2=>h2 H2 _ D2 (B.trans B2) λy Z F D3 L=>by obtain⟨b,eb,U⟩:=F;exact(⟨a,b,ea,eb,k _ Z ⟨_,rfl,a,b,pa,U,rfl⟩ D3 (B2.trans L)⟩)
theorem zE:GB d l σ H (tOp (rI Gm λi j=>V.int (i ^ j.toNat)) (tC (V.int 10)) (tC (V.int 6))) (isN λz=>z=1000000):=λH1 Q D B k =>
 ⟨10,6,rfl,rfl,⟨∅,∅,∅⟩,k _ H1 ⟨1000000,rfl,rfl⟩ D (But.refl H1)⟩
theorem yf {X:TE} {P:Int->Prop} (h:GB d l σ H X (isN P)):GB d l σ H (tUn (rU λi=>V.int (Neg.neg i)) X) (isN λz=>∃a,P a/\z = Neg.neg a):=λH1 Q D B k =>
 h H1 _ D B λx H2 F U L=>by obtain⟨a,e,p⟩:=F;exact(⟨a,e,k _ H2 ⟨_,rfl,a,p,rfl⟩ U L⟩)
theorem rL {X:TE} {i:Int} {v:Int} (h:GB d l σ H X (isI λz=>z=zs)) (h2:GB d l σ H Y (isN λz=>z=i)) (hv:atI (zs.map V.int) i=some (.int v)):GB d l σ H (tOp rIT X Y) (isN λz=>z=v):=λH1 Q D B k =>
 h H1 _ D B λx H2 ⟨p,ws,e,ew,hp⟩ D2 B2=>h2 H2 _ D2 (B.trans B2) λy Z F D3 L=>by obtain⟨j,ej,U⟩:=F;exact(⟨p,e,j,ej,_,L.keepT D2 _ _ hp,.int v,by rw[ew,U];exact hv,k _ Z ⟨v,rfl,rfl⟩ D3 (B2.trans L)⟩)
theorem vO {X:TE} {lo hi:TO} {a b:Option Int} {ws:List Int} (h:GB d l σ H X (isI λz=>z=zs)) (U : ∀H1 Q,Q a H1->lo σ H1 Q) (L : ∀H1 Q,Q b H1->hi σ H1 Q) (hc:dJ (zs.map V.int) a b=ws.map V.int):GB d l σ H (tSl tF X lo hi) (isI λz=>z=ws):=λH1 Q D B k =>
 h H1 _ D B λx H2 F D2 B2=>by obtain⟨p,us,e,eu,hp⟩:=F;exact(U H2 _ (L H2 _ ⟨p,e,_,hp,λq H3 hq Z=>k _ H3 ⟨q,ws,rfl,rfl,by rw[hq,eu,hc]⟩ (D2.same Z) (B2.same Z)⟩))
theorem Dp {X:TE} {tk:TO} (h:GB d l σ H X (isI λz=>z=zs)) (hk : ∀H1 Q,Q (some (-1)) H1->tk σ H1 Q):GB d l σ H (ym X tk) (isI λz=>z=zs.reverse):=λH1 Q D B k =>
 h H1 _ D B λx H2 F Z B2=>by obtain⟨p,us,e,U,hp⟩:=F;exact(hk H2 _ ⟨rfl,p,e,_,hp,λq L=>k _ _ ⟨q,zs.reverse,rfl,rfl,by rw[ae,U,List.map_reverse]⟩ (Z.new L) (B2.new L)⟩)
theorem jb {X:TE} {P1 P2:List Int->Prop} (h1:GB d l σ H X (isI P1)) (h2:GB d l σ H Y (isI P2)) (hl : ∀a b,P1 a->P2 b->a.length+b.length<=1000):GB d l σ H (tOp zq X Y) (isI λz=>∃a b,P1 a/\P2 b/\z=a++b):=λH1 Q D B k =>
 h1 H1 _ D B λx H2 ⟨p,a,ea,pa,hp⟩ D2 B2=>h2 H2 _ D2 (B.trans B2) λy U ⟨q,b,eb,pb,hq⟩ D3 B3 =>
  ⟨p,ea,q,eb,_,B3.keepT D2 _ _ hp,_,hq,by rw[f_,f_];exact pj (aw (hl a b pa pb)),λu L hu F=>k _ L ⟨u,a++b,rfl,⟨a,b,pa,pb,rfl⟩,by rw[hu,m7]⟩ (D3.same F) ((B2.trans B3).same F)⟩
theorem jW {X:TE} {P:Int->Prop} (h:GB d l σ H X (isN P)):GB d l σ H (nK (bF X dC)) (isI λz=>∃a,P a/\z=[a]):=λH1 Q D B k =>
 h H1 _ D B λx H2 F U Z=>by obtain⟨a,e,p⟩:=F;exact(⟨by show 1<=_;decide,λq L=>k _ _ ⟨q,[a],rfl,⟨a,p,rfl⟩,by rw[ae,e];rfl⟩ (U.new L) (Z.new L)⟩)
theorem ze:GB d l σ H (nK dC) (isI λz=>z=[]):=λH1 Q D B k=>⟨∅,λq F=>k _ _ ⟨q,[],rfl,rfl,ae⟩ (D.new F) ((But.refl H1).new F)⟩
theorem Di:GB d l σ H (wo (bF (tC (V.int 11)) dC)) (isI λz=>z=hW 0 11):=λH1 Q D B k=>⟨11,rfl,∅,∅,λq F=>k _ _ ⟨q,_,rfl,rfl,by rw[ae];exact congrArg (λz=>some (HO.tup z)) (zi 0 11)⟩ (D.new F) ((But.refl H1).new F)⟩
theorem cJ {X:TE} {P:List Int->Prop} {g:Tr->Prop} (h:GB d l σ H X (isI P)) (f : ∀zs,P zs->g (.tup (zs.map Tr.int))):GB d l σ H X (isT g):=h.imp λx H F=>by obtain⟨p,zs,e,L,hp⟩:=F;exact(⟨_,by rw[e];exact eZ hp,f zs L⟩)
theorem yE {X:TE} {g:Tr->Prop} {g':Tr->Prop} (h:GB d l σ H X (isT g)) (f : ∀t,g t->g' (.tup [t])):GB d l σ H (nK (bF X dC)) (isT g'):=λH1 Q D B k =>
 h H1 _ D B λx H2 F U Z=>by obtain⟨t,tv,p⟩:=F;exact(⟨by show 1<=_;decide,λq L=>k _ _ ⟨.tup [t],⟨q,_,rfl,ae,_,_,rfl,TV.keep (ak.keepT (ak.upd0 L)) _ tv,rfl⟩,f t p⟩ (U.new L) (Z.new L)⟩)
theorem vE {X:TE} {g1 g2:Tr->Prop} {g':Tr->Prop} (h1:GB d l σ H X (isT g1)) (h2:GB d l σ H Y (isT g2)) (f : ∀t u,g1 t->g2 u->g' (.tup [t,u])):GB d l σ H (nK (bF X (bF Y dC))) (isT g'):=λH1 Q D B k =>
 h1 H1 _ D B λx H2 ⟨t,tv,p⟩ D2 B2=>h2 H2 _ D2 (B.trans B2) λy H3 F D3 U=>by obtain⟨u,Z,p2⟩:=F;exact(⟨by show 2<=_;decide,λq L=>k _ _ ⟨.tup [t,u],⟨q,_,rfl,ae,_,_,rfl,TV.keep ((U.keepT D2).trans (ak.keepT (ak.upd0 L))) _ tv,_,_,rfl,TV.keep (ak.keepT (ak.upd0 L)) _ Z,rfl⟩,f t u p p2⟩ (D3.new L) ((B2.trans U).new L)⟩)
theorem ET {X Z:TE} {g1 g2 g3:Tr->Prop} {g':Tr->Prop} (h1:GB d l σ H X (isT g1)) (h2:GB d l σ H Y (isT g2)) (h3:GB d l σ H Z (isT g3)) (f : ∀t u v,g1 t->g2 u->g3 v->g' (.tup [t,u,v])):GB d l σ H (nK (bF X (bF Y (bF Z dC)))) (isT g'):=λH1 Q D B k =>
 h1 H1 _ D B λx H2 ⟨t,tv,p⟩ D2 B2=>h2 H2 _ D2 (B.trans B2) λy H3 ⟨u,tu,p2⟩ D3 B3=>h3 H3 _ D3 ((B.trans B2).trans B3) λz H4 L D4 U=>by obtain⟨v,tz,p3⟩:=L;exact(⟨by show 3<=_;decide,λq F=>k _ _ ⟨.tup [t,u,v],⟨q,_,rfl,ae,_,_,rfl,TV.keep (((B3.keepT D2).trans (U.keepT D3)).trans (ak.keepT (ak.upd0 F))) _ tv,_,_,rfl,TV.keep ((U.keepT D3).trans (ak.keepT (ak.upd0 F))) _ tu,_,_,rfl,TV.keep (ak.keepT (ak.upd0 F)) _ tz,rfl⟩,f t u v p p2 p3⟩ (D4.new F) (((B2.trans B3).trans U).new F)⟩)
def AlP (H:Hp):List (Tr->Prop)->List V->Prop
 | [],xs=>xs=[]
 | g :: gs,xs=>∃x ys,xs=x :: ys/\isT g x H/\AlP H gs ys
theorem AlP.keep {H H':Hp} (k:bz H H') : ∀{gs:List (Tr->Prop)} {xs:List V},AlP H gs xs->AlP H' gs xs
 | [],_,h=>h
 | g :: gs,_,⟨x,ys,e,a,b⟩=>⟨x,ys,e,A2 g _ _ _ k a,b.keep k⟩
theorem AlP.app {H:Hp} : ∀{gs hs:List (Tr->Prop)} {xs ys:List V},AlP H gs xs->AlP H hs ys->AlP H (gs++hs) (xs++ys)
 | [],_,_,_,h,h2=>by rw[show _=[] from h];exact h2
 | g :: gs,_,_,_,⟨x,zs,e,a,b⟩,h2=>⟨x,_,by rw[e];rfl,a,b.app h2⟩
theorem AlP.set {H:Hp} {g:Tr->Prop} {x:V} (F:isT g x H) : ∀{gs:List (Tr->Prop)} {xs:List V} (i:Nat),AlP H gs xs->AlP H (gs.set i g) (xs.set i x)
 | [],_,_,h=>by rw[show _=[] from h];rfl
 | _ :: _,_,0,⟨_,ys,e,_,b⟩=>⟨x,ys,by rw[e];rfl,F,b⟩
 | _ :: _,_,i+1,⟨y,ys,e,a,b⟩=>⟨y,ys.set i x,by rw[e];rfl,a,AlP.set F i b⟩
theorem AlP.len {H:Hp} : ∀{gs:List (Tr->Prop)} {xs:List V},AlP H gs xs->xs.length=gs.length
 | [],_,h=>by rw[show _=[] from h];rfl
 | _ :: _,_,⟨_,_,e,_,b⟩=>by rw[e];simp[b.len]
theorem AlP.at {H:Hp} {g:Tr->Prop} : ∀{gs:List (Tr->Prop)} {xs:List V} {i:Nat} {x:V},AlP H gs xs->(∀f∈gs,∀t,f t->g t)->xs[i]? = some x->isT g x H
 | [],_,i,x,h,_,e=>by rw[show _=[] from h] at e;simp at e
 | f :: gs,_,i,x,⟨y,ys,ey,a,b⟩,hg,e=>by
  subst ey;cases i with
  | zero=>simp at e;subst e;obtain⟨t,h1,h2⟩:=a;exact⟨t,h1,hg f m9 t h2⟩
  | succ i=>exact b.at (λf F=>hg f (la _ F)) (by simpa using e)
def AB (d l:Addr) (σ:St) (H:Hp) (t:TA) (gs:List (Tr->Prop)):Prop:=∀(H1:Hp) (Q:List V->Hp->Prop),av H1 d l->But d l H H1->(∀xs H',AlP H' gs xs->av H' d l->But d l H1 H'->Q xs H')->t σ H1 Q
theorem iY:AB d l σ H dC []:=λH1 Q D B k=>k [] H1 rfl D (But.refl H1)
theorem aZ {e:TE} {t:TA} {g:Tr->Prop} {gs:List (Tr->Prop)} (h:GB d l σ H e (isT g)) (h2:AB d l σ H t gs):AB d l σ H (bF e t) (g :: gs):=λH1 Q D B k =>
 h H1 _ D B λx H2 a L U=>h2 H2 _ L (B.trans U) λxs Z b D3 F=>k (x :: xs) Z ⟨x,xs,rfl,A2 g _ _ _ (F.keepT L) a,b⟩ D3 (U.trans F)
end
section
variable {l:Addr}
theorem ve {r:Addr} {ns:List Int} (e:σ[i]? = some (-r)) (F:av H d l) (h:H r>>(ns.map V.int)):GB d l σ H (tCB pH (bF (aU i) dC)) (isN λz=>z=(ns.length:Int)):=λH1 Q D B k=>by
 have L:=B.keepT F _ _ h;have:pH [.ref r] H1 Q:=⟨r,rfl,_,L,k _ H1 ⟨(ns.length:Int),by rw[f_],rfl⟩ D (But.refl H1)⟩
 show aU i σ H1 _
 unfold aU;rw[e];exact this
theorem vX {t:TA} {gs:List (Tr->Prop)} {g:Tr->Prop} {P:Int->Prop} (h:AB d l σ H t gs) (h2:GB d l σ H Y (isN P)) (hl:gs.length<=1000) (f : ∀i,P i->∃(k:Nat) (f:Tr->Prop),i=(k:Int)/\gs[k]? = some f/\∀t,f t->g t):GB d l σ H (tOp rIL (tE t) Y) (isT g):=λH1 Q D B k =>
 h H1 _ D B λxs H2 a Z B2=>⟨by rw[a.len];exact pj (aw hl),λq F=>h2 _ _ (Z.new F) ((B.trans B2).new F) λy U ⟨i,ei,pi⟩ D3 B3=>by
  have nq:=Z.ne F;obtain⟨kk,ff,e1,e2,e3⟩:=f i pi;have hk:kk < xs.length:=by rw[a.len];exact(i7.mp e2).1
  have h3:=B3 q _ nq.1 nq.2 ae;refine⟨q,rfl,i,ei,xs,h3,xs[kk],by rw[e1];exact bh (j6 hk),?_⟩
  have a3:AlP U gs xs:=a.keep ((ak.keepT (ak.upd0 F)).trans (B3.keepT (Z.new F)))
  have L : ∀{gs:List (Tr->Prop)} {xs:List V} (n:Nat) {x:V} {f:Tr->Prop},AlP U gs xs->gs[n]? = some f->xs[n]? = some x->isT f x U:=by
   intro gs
   induction gs with
   | nil=>intro xs n x f _ h1 _;simp at h1
   | cons g0 gs ih =>
    rintro xs n x f ⟨y,ys,rfl,q1,q2⟩ h1 h2
    cases n with
    | zero=>simp at h1 h2;subst h1;subst h2;exact q1
    | succ n=>exact ih n q2 (by simpa using h1) (by simpa using h2)
  obtain⟨t,tv,ft⟩:=L kk a3 e2 (j6 hk);exact k _ U ⟨t,tv,e3 t ft⟩ D3 ((B2.new F).trans B3)⟩
theorem vH {R:TS} {gs:List (Tr->Prop)} (D:av H d l) (h:AB d l σ H ta gs) (hl:gs.length<=1000) (k : ∀p xs H',H p=none->H' p*>xs->AlP H' gs xs->av H' d l->But d l H H'->p≠d->p≠l->R Dn (σ.set j (-p)) H'):oB (lE (tE ta) (cH j)) R Dn σ H :=
 h H _ D (But.refl H) λxs H2 a L U=>⟨by rw[a.len];exact pj (aw hl),λq F=>k q xs _ (U.free L F) ae (a.keep (ak.keepT (ak.upd0 F))) (L.new F) (U.new F) (L.ne F).1 (L.ne F).2⟩
theorem iw {R:TS} {gs hs:List (Tr->Prop)} (e:σ[j]? = some (-p)) (h:AB d l σ H ta hs) (D:av H1 d l) (B:But d l H H1) (hp:H1 p*>xs) (a:AlP H1 gs xs) (n1:p≠d) (n2:p≠l) (hl:gs.length+hs.length<=1000)
  (k : ∀q ys H',H q=none->H' q*>ys->AlP H' (gs++hs) ys->av H' d l->But d l H H'->q≠d->q≠l->R Dn (σ.set j (-q)) H'):oB (lE (tOp rCL (aU j) (tE ta)) (cH j)) R Dn σ H1:=by
 simp only[oB,lE,tOp,aU,e];refine h H1 _ D B λzs H2 a2 D2 B2=>⟨by rw[a2.len];exact pj (aw ()),λu F=>?_⟩
 have U:=B2 p _ n1 n2 hp;have pu:p≠u:=aj U F
 refine⟨p,rfl,u,rfl,xs,by rw[ah pu];exact U,zs,ae,by rw[a.len,a2.len];exact pj (aw hl),λq L=>?_⟩
 have Z:=D2.new (o:=.lst zs) F;have B3:=(B.trans B2).new (o:=.lst zs) F;refine k q (xs++zs) _ (B3.free Z L) ae ?_ (Z.new L) (B3.new L) (Z.ne L).1 (Z.ne L).2
 exact(AlP.app (a.keep (B2.keepT D)) a2).keep ((ak.keepT (ak.upd0 F)).trans (ak.keepT (ak.upd0 L)))
theorem BW {X:TE} {R:TS} {gs:List (Tr->Prop)} {g:Tr->Prop} (e:σ[j]? = some (-p)) (h:GB d l σ H X (isT g)) (D0:av H d l) (D:av H1 d l) (B:But d l H H1) (fp:H p=none) (hp:H1 p*>xs) (a:AlP H1 gs xs) (U:p≠d) (Z:p≠l) (hl:gs.length < 1000)
  (k : ∀ys H',H' p*>ys->AlP H' (gs++[g]) ys->av H' d l->But d l H H'->R Dn σ H'):oB (sU (tML jm (aU j) (bF X dC))) R Dn σ H1:=by
 simp only[oB,sU,tML,aU,e];refine⟨p,rfl,⟨xs,hp⟩,h H1 _ D B λx H2 px D2 L=>?_⟩
 have F:=L p _ U Z hp;have kp:bz H2 (upd H2 p (.lst (xs++[x]))):=bc F
 exact⟨x,rfl,xs,F,by rw[a.len];exact aw (),k _ _ ae ((AlP.app (hs:=[g]) (ys:=[x]) (a.keep (L.keepT D)) ⟨x,[],rfl,px,rfl⟩).keep kp) (D2.put U Z) ((B.trans L).put fp)⟩
theorem wv {X:TE} {gs:List (Tr->Prop)} {g:Tr->Prop} (e:σ[j]? = some (-p)) (h:GB d l σ H X (isT g)) (D:av H1 d l) (B:But d l H H1) (fp:H p=none) (hp:H1 p*>xs) (a:AlP H1 gs xs) (U:p≠d) (Z:p≠l) (hi:i < gs.length)
  (k : ∀ys H',H' p*>ys->AlP H' (gs.set i g) ys->av H' d l->But d l H H'->Dn.nx σ H'):lE X (BZ (aU j) (tC (V.int (i:Int))) qb) Dn σ H1 :=
 h H1 _ D B λx H2 px D2 L=>by
  show aU j σ H2 _
  unfold aU;rw[e];have F:=L p _ U Z hp;have kp:bz H2 (upd H2 p (.lst (xs.set i x))):=bc F
  exact⟨p,rfl,(i:Int),rfl,xs,F,(),by rw[a.len];omega,k _ _ ae ((AlP.set px i (a.keep (L.keepT D))).keep kp) (D2.put U Z) ((B.trans L).put fp)⟩
end
section
variable {l:Addr}
theorem Df {X:TE} {P:Int->Prop} {g:Tr->Prop} (h:GB d l σ H X (isN P)) (f : ∀i,P i->g (.int i)):GB d l σ H X (isT g):=h.imp λx H F=>by obtain⟨i,e,p⟩:=F;exact(⟨.int i,e,f i p⟩)
theorem Gk {X:TE} {n c:Int} (h:GB d l σ H X (isN λz=>z=n)):GB d l σ H (tCB (λxs H Q=>(∃i,xs=[V.int i]/\Q (V.int i) H)\/∃k,xs=[V.bl k]/\Q (V.int (if k=true then 1 else 0)) H) (bF (tOp (rI0 λi j=>V.bl (decide (j < i))) X (tC (V.int c))) dC)) (isN λz=>z=if c < n then 1 else 0):=λH1 Q D B k =>
 h H1 _ D B λx H2 F L U=>by obtain⟨i,e,p⟩:=F;exact(⟨i,c,e,rfl,.inr ⟨_,rfl,k _ H2 ⟨_,rfl,by rw[p];by_cases z:c < n <;> simp[z]⟩ L U⟩⟩)
theorem CI {X:TE} (h1:GB d l σ H X (isN P1)) (h2:GB d l σ H Y (isN P2)) (hs : ∀a,P1 a->-(2 ^ 64) < a/\a < 2 ^ 64):GB d l σ H (tOp (rI zY λi j=>V.int (i * j)) X Y) (isN λz=>∃a b,P1 a/\P2 b/\z=a * b):=λH1 Q D B k =>
 h1 H1 _ D B λx H2 ⟨a,ea,pa⟩ D2 B2=>h2 H2 _ D2 (B.trans B2) λy Z F D3 L=>by obtain⟨b,eb,U⟩:=F;exact(⟨a,b,ea,eb,.inl (hs a pa),k _ Z ⟨_,rfl,a,b,pa,U,rfl⟩ D3 (B2.trans L)⟩)
theorem DR {X:TE} {n c:Int} (h:GB d l σ H X (isN λz=>z=n)):GB d l σ H (tCB (λxs H Q=>∃i j,xs=[V.int i,V.int j]/\Q (V.int (if j < i then j else i)) H) (bF (tC (V.int c)) (bF X dC))) (isN λz=>z=if n < c then n else c):=λH1 Q D B k =>
 h H1 _ D B λx H2 F L U=>by obtain⟨i,e,p⟩:=F;exact(⟨c,i,by rw[e],k _ H2 ⟨_,rfl,by rw[p]⟩ L U⟩)
theorem Cu {X:TE} {A F:TS} {n c:Int} (h:GB d l σ H X (isN λz=>z=n)) (D:av H1 d l) (B:But d l H H1) (k1:c < n->∀H',av H' d l->But d l H1 H'->A Dn σ H') (k2 : ¬ c < n->∀H',av H' d l->But d l H1 H'->F Dn σ H'):Bf (mP (tOp (rI0 λi j=>V.bl (decide (j < i))) X (tC (V.int c)))) A F Dn σ H1 :=
 h H1 _ D B λx H2 ⟨i,e,p⟩ D2 B2=>⟨i,c,e,rfl,_,rfl,by
  rw[p]
  show if decide (c < n)=true then A Dn σ H2 else F Dn σ H2
  by_cases z:c < n
  .rw[if_pos (decide_eq_true z)];exact k1 z H2 D2 B2
  .rw[if_neg (by rw[decide_eq_false z];decide)];exact k2 z H2 D2 B2⟩
end
theorem jw (h : ¬ zs.Pairwise (· < ·)):bS (.tup (zs.map Tr.int))=false:=by
 have:nF zs=false:=by
  cases e:nF zs with
  | false=>rfl
  | true=>exact absurd ((jB zs).mp e) h
 unfold bS;rw[show itT (.tup (zs.map Tr.int))=zs.map Tr.int from rfl,fM,this,Bool.and_false]
theorem sV {x:Int} (F:x∈zs) (h:x < -1000000\/1000000 < x):bS (.tup (zs.map Tr.int))=false:=by
 have:(zs.map Tr.int).all dD=false:=by
  cases e:(zs.map Tr.int).all dD with
  | false=>rfl
  | true =>
   have:=l9.mp e (.int x) (HF F)
   simp only[dD,bO,fx,decide_eq_true_eq] at this;omega
 simp only[bS,bq,this,Bool.and_false,p_]
theorem qZ {l:List Tr} (h:l.length=0\/10 < l.length):bS (.tup l)=false:=by
 have:(decide ((1:Int)<=(l.length:Int)) && decide ((l.length:Int)<=10))=false:=by
  rcases h with h | h <;> simp <;> omega
 simp only[bS,bq];rw[<- Bool.and_assoc (decide _),this,p_,p_]
theorem kG {t u:Tr} (h:bU t=false\/bS u=false):aC (.tup [t,u])=false:=by
 simp only[aC,getD_cons_zero,getD_cons_succ];rcases h with h | h <;> simp[h]
theorem oG {l:List Tr} (h:l.length≠2):aC (.tup l)=false:=by simp[aC,h]
theorem vj {a:List Int} {x:Int} (h:x∈a) : ¬ (a++[x]).Pairwise (· < ·):=λp=>by
 have:=(List.pairwise_append.mp p).2.2 x h x (by simp)
 omega
theorem yP {a b:List Int} {x y:Int} (L:x∈a) (F:y∈b) (h:y<=x) : ¬ (a++b).Pairwise (· < ·):=λp=>by
 have:=(List.pairwise_append.mp p).2.2 x L y F
 omega
def GX:Sp:=λvs H Q _=>∃(d l:Addr) (v:V) (t:Tr),vs=[.ref d,v]/\av H d l/\TV H v t/\aC t=true/\∀(F:V) (t':Tr) (H':Hp),TV H' F t'->aC t'=false->av H' d l->But d l H H'->Q F H'
abbrev EY:=Fn P w K mg base "_law_bad_cell" 2 ["_law_deal_here","_law_cell"] (GX)
theorem kU (T:Txt w K mg) (L:FnL K mg "_law_bad_cell" dH ["_law_deal_here","_law_cell"]) (Fa : @Dz0 P w K mg base) : @EY P w K mg base:=by
 ctx_has z ka <;> obtain⟨d,l,v,t,rfl,D,ht,bj,k⟩:=h
 .rfl
 refine⟨_,(ai (kh (pvM 1) (mi (n:=2) rfl (dB (aP 2) (dB (aP 3) ml))))
  (ai (ay 4 (bu (aa (au (aa (pvM 2) (aa (au ac) ac))) (aa (au (aa (pvM 2) (aa (ax cQ (vL (pvM 3) (aV (dz cy af))) (aQ hV (pvM 3) bv (aV af))) ac))) (aa (au (aa (pvM 2) (aa (ax cQ (aQ hV (pvM 3) bv (aV af)) (au (aa (aB bB (pvM 3) (dz cy af)) ac))) ac))) (aa (au (aa (pvM 2) (aa (ax cQ (aQ hV (pvM 3) bv (aV af)) (aQ hV (pvM 3) bv (aV af))) ac))) ac))))))
  (ai (ay 4 (ax gx (pvM 4) (bu (aa (au (aa (pvM 2) (aa (ax cQ (aQ hV (pvM 3) bv (aV (dz cy af))) (au (aa (ax aW (ax aW (ax dE af af) af) (ag Fa (aa (pvM 0) (aa af ac)))) ac))) ac))) (aa (au (aa (pvM 2) (aa (au (aa nA ac)) ac))) (aa (au (aa (pvM 2) (aa (au (aa fB ac)) ac))) (aa (au (aa (pvM 2) ac)) ac)))))))
  (ai (ay 4 (ax gx (pvM 4) (bu (aa (au (aa aq (aa (pvM 3) ac))) (aa (au (aa aq (aa (pvM 3) ac))) (aa (au (aa aq (aa (pvM 3) ac))) (aa (au (aa aq (aa (pvM 3) ac))) (aa (au (aa fB (aa (pvM 3) ac))) (aa (au (aa af (aa (pvM 3) ac))) (aa (au (aa (pvM 2) (aa (pvM 3) (aa (au ac) ac)))) ac))))))))))
  (ai (ay 4 (ax gx (pvM 4) (bu (aa (au (aa (pvM 2) (aa (rQ rfl rfl T.b_tuple rfl T.b_range (aa af ac)) ac))) (aa (au (aa (pvM 2) (aa fB ac))) (aa (au (aa (pvM 2) (aa (aB bB (pvM 3) af) ac))) (aa fB (aa (pvM 2) (aa (au (aa (pvM 3) (aa (pvM 2) ac))) ac)))))))))
  (ai (bY (fe t9 t_ cB (pvM 4) (aa (au (aa (pvM 2) (aa (au (aa (ax fW (dz cy (ax dE af af)) af) ac)) ac))) ac)))
  (cX (bi (aE gD (ar bf T.b_len (aa (pvM 3) ac)) af) (ao (kh (au (aa (pvM 2) (aa (aB dI (bu (aa (vL (pvM 3) (aV (dz cy af))) (aa (ax cQ (ax cQ (au (aa (aB bB (pvM 3) af) ac)) (aQ hV (pvM 3) (aV af) bv)) (au (aa (aB bB (pvM 3) af) ac))) ac))) (ax gv (ag Fa (aa (pvM 0) (aa af ac))) (aM ix T.b_int (aa (bH gD (ar bf T.b_len (aa (pvM 3) ac)) af) ac)))) ac))) (nO (pvM 4) af wl))) aK)
  (ai (kh (aB dI (bu (aa (au (aa (pvM 2) (aa (ax cQ (aQ hV (pvM 3) bv (aV af)) (au (aa (aB bB (pvM 3) (ar (iy rfl) T.b_min (aa af (aa (ax fW (ar bf T.b_len (aa (pvM 3) ac)) af) ac)))) ac))) ac))) (aa (au (aa (pvM 2) (aa aq ac))) ac))) (ag Fa (aa (pvM 0) (aa af ac)))) (nO (pvM 4) af wl))
  (ao (aA (aB dI (pvM 4) (ag Fa (aa (pvM 0) (aa af ac)))))))))))))),?_⟩
 obtain⟨s,ns,rfl,hs,l1,a0,b3,aX⟩:=eA bj;have aJ:=(jB ns).mp aX;obtain⟨a,us,rfl,ha,y1,u1,rfl,⟨rfl,aY⟩,y2,u2,rfl,⟨r,ws,rfl,hr,hw⟩,rfl⟩:=ht;rw[qB hw] at hr;ctx_has s ha;have ah : ∀Z,GB d l [-d,-a,some (.str s),-r,Z] H (aU 2) (isT λt=>t = .str s):=λZ=>Dj rfl D ⟨.str s,⟨rfl,aY⟩,rfl⟩ (A2 _)
 have U : ∀Z,GB d l [-d,-a,some (.str s),-r,Z] H (aU 3) (isI λz=>z=ns):=λZ=>Dj rfl D ⟨r,ns,rfl,rfl,hr⟩ (GM _)
 have an : ∀Z,GB d l [-d,-a,some (.str s),-r,Z] H (aU 3) (isT λt=>t = .tup (ns.map Tr.int)):=λZ=>cJ (U Z) λzs e=>by rw[e]
 have ad : ∀{Z} {X:TE} {g:Tr->Prop},GB d l [-d,-a,some (.str s),-r,Z] H X (isT g)->(∀u,g u->bS u=false)->GB d l [-d,-a,some (.str s),-r,Z] H (nK (bF (aU 2) (bF X dC))) (isT λt=>aC t=false):=λh f=>vE (ah _) h λt u _ p=>kG (.inr (f u p))
 have aj : ∀{Z} {X:TE} {g:Tr->Prop},GB d l [-d,-a,some (.str s),-r,Z] H X (isT g)->(∀u,g u->bU u=false)->GB d l [-d,-a,some (.str s),-r,Z] H (nK (bF X (bF (aU 3) dC))) (isT λt=>aC t=false):=λh f=>vE h (an _) λt u p _=>kG (.inl (f t p))
 have a5 : ∀(H1:Hp) (Q:Option Int->Hp->Prop) (σ:St) (c:Int),Q (some c) H1->gI (tC (V.int c)) σ H1 Q:=λH1 Q σ c h=>⟨c,rfl,h⟩
 have aR : ∀(H1:Hp) (Q:Option Int->Hp->Prop) (σ:St),Q (some (-1)) H1->gI (tUn (rU λi=>V.int (Neg.neg i)) (tC (V.int 1))) σ H1 Q:=λH1 Q σ h=>⟨1,rfl,-1,rfl,h⟩
 obtain⟨x0,zs,rfl⟩ : ∃x0 zs,ns=x0 :: zs:=by cases ns with | nil=>simp at l1 | cons x zs=>exact⟨x,zs,rfl⟩
 have aw : ∀Z,GB d l [-d,-a,some (.str s),-r,Z] H (tSl tF (aU 3) fj (gI (tC (V.int 1)))) (isI λz=>z=[x0]):=λZ=>vO (a:=none) (b:=some 1) (U Z) (λ_ _ h=>h) (λ_ _ h=>a5 _ _ _ _ h) (by rw[show(1:Int)=((1:Nat):Int) from rfl,gb];rfl)
 have az : ∀Z,GB d l [-d,-a,some (.str s),-r,Z] H (tSl tF (aU 3) fj (gI (tC (V.int 9)))) (isI λz=>z=(x0 :: zs).take 9):=λZ=>vO (a:=none) (b:=some 9) (U Z) (λ_ _ h=>h) (λ_ _ h=>a5 _ _ _ _ h) (by rw[show(9:Int)=((9:Nat):Int) from rfl,gb])
 have a9 : ∀Z,GB d l [-d,-a,some (.str s),-r,Z] H (ym (aU 3) (gI (tUn (rU λi=>V.int (Neg.neg i)) (tC (V.int 1))))) (isI λz=>z=(x0 :: zs).reverse):=λZ=>Dp (U Z) λ_ _ h=>aR _ _ _ h
 have aN : ∀Z,GB d l [-d,-a,some (.str s),-r,Z] H (tUn (rU λi=>V.int (Neg.neg i)) (tC (V.int 1))) (isN λz=>z = -1):=λZ=>(yf (xE λ_=>⟨1,rfl,rfl⟩) (P:=λz=>z=1)).imp λx H aH=>by obtain⟨i,e,b,eb,ei⟩:=aH;exact(⟨i,e,by rw[ei,eb]⟩)
 refine vH (gs:=[λt=>aC t=false,λt=>aC t=false,λ_=>True,λt=>aC t=false]) D (aZ ?_ (aZ ?_ (aZ ?_ (aZ ?_ iY)))) ∅ λp xs H1 fp hp ap D1 B1 n1 n2=>?_
 .exact ad (cJ ze (g:=λu=>bS u=false) λzs e=>by rw[e];exact qZ (.inl rfl)) λu p=>p
 .refine ad (cJ (jb (a9 _) (aw _) λa b ea eb=>by rw[ea,eb,List.length_reverse];simp at a0 ⊢;omega) (g:=λu=>bS u=false) λas e=>?_) λu p=>p
  obtain⟨a,b,rfl,rfl,rfl⟩:=e;exact jw (vj (by simp))
 .exact vE (ah _) (cJ (jb (az _) (jW (rL (U _) (aN _) (v:=(x0 :: zs).getLast (by simp)) (by
   rw[show((x0 :: zs).map V.int)=((x0 :: zs).dropLast.map V.int)++[V.int ((x0 :: zs).getLast (by simp))] by rw[show[V.int ((x0 :: zs).getLast (by simp))]=[(x0 :: zs).getLast (by simp)].map V.int from rfl,<- m7,List.dropLast_concat_getLast]]
   exact jL _ _))) λa b ea eb=>by obtain⟨_,_,rfl⟩:=eb;rw[ea,m8];simp;omega) (g:=λ_=>True) λ_ _=>g9) λ_ _ _ _=>g9
 .refine ad (cJ (jb (aw _) (aw _) λa b ea eb=>by rw[ea,eb];show 2<=1000;decide) (g:=λu=>bS u=false) λas e=>?_) λu p=>p
  obtain⟨a,b,rfl,rfl,rfl⟩:=e;exact jw (vj (by simp))
 have aD : ∀Z,GB d l [-d,-a,some (.str s),-r,Z] H (tSl tF (aU 3) fj (gI (tUn (rU λi=>V.int (Neg.neg i)) (tC (V.int 1))))) (isI λz=>z=(x0 :: zs).dropLast):=λZ=>vO (a:=none) (b:=some (-1)) (U Z) (λ_ _ h=>h) (λ_ _ h=>aR _ _ _ h) (gM _ _)
 have am : ∀{Z} {v:V} {t:Tr} {g:Tr->Prop},(∀H,TV H v t)->g t->GB d l [-d,-a,some (.str s),-r,Z] H (tC v) (isT g):=λh p=>xE λH=>⟨_,h H,p⟩
 have one : ∀Z (c:Int),GB d l [-d,-a,some (.str s),-r,Z] H (tC (V.int c)) (isN λz=>z=c):=λZ c=>xE λH=>⟨c,rfl,rfl⟩
 refine iw (hs:=[λt=>aC t=false,λt=>aC t=false,λt=>aC t=false,λt=>aC t=false]) rfl (aZ ?_ (aZ ?_ (aZ ?_ (aZ ?_ iY)))) D1 B1 hp ap n1 n2 ∅ λp2 b4 H2 b8 bc bo D2 B2 m1 m2=>?_
 .refine ad (cJ (jb (aD _) (jW (qx (g:=λi j=>i+j) (qx (g:=λi j=>i+j) zE (one _ 1)) (lX rfl ∅ ∅))) λa b ea eb=>by obtain⟨_,_,rfl⟩:=eb;rw[ea,List.length_dropLast];simp at a0 ⊢;omega) (g:=λu=>bS u=false) λas e=>?_) λu p=>p
  obtain⟨a,b,rfl,⟨v,⟨i,j,⟨i2,j2,rfl,rfl,rfl⟩,⟨j0,j1⟩,rfl⟩,rfl⟩,rfl⟩:=e;exact sV (x:=1000000+1+j) (by simp) (.inr ())
 .exact ad (yE (g':=λu=>bS u=false) (am (t:=.bl true) (g:=λt=>t = .bl true) (λ_=>rfl) rfl) λt e=>by rw[e];rfl) λu p=>p
 .exact ad (yE (g':=λu=>bS u=false) (am (t:=.non) (g:=λt=>t = .non) (λ_=>rfl) rfl) λt e=>by rw[e];rfl) λu p=>p
 .exact yE (ah _) λt _=>oG (by simp)
 refine iw (hs:=[λt=>aC t=false,λt=>aC t=false,λt=>aC t=false,λt=>aC t=false,λt=>aC t=false,λt=>aC t=false,λt=>aC t=false]) rfl (aZ ?_ (aZ ?_ (aZ ?_ (aZ ?_ (aZ ?_ (aZ ?_ (aZ ?_ iY))))))) D2 B2 bc bo m1 m2 ∅ λp3 bz H3 b5 bq bb D3 B3 j1 j2=>?_
 .exact aj (am (t:=.str "in") (g:=λt=>bU t=false) (λ_=>⟨rfl,∅⟩) (by decide+kernel)) λu p=>p
 .exact aj (am (t:=.str "") (g:=λt=>bU t=false) (λ_=>⟨rfl,∅⟩) (by decide+kernel)) λu p=>p
 .exact aj (am (t:=.str "a1") (g:=λt=>bU t=false) (λ_=>⟨rfl,∅⟩) (by decide+kernel)) λu p=>p
 .exact aj (am (t:=.str "abcdefghi") (g:=λt=>bU t=false) (λ_=>⟨rfl,∅⟩) (by decide+kernel)) λu p=>p
 .exact aj (am (t:=.non) (g:=λt=>bU t=false) (λ_=>rfl) rfl) λu p=>p
 .exact aj (am (t:=.int 3) (g:=λt=>bU t=false) (λ_=>rfl) rfl) λu p=>p
 .exact ET (ah _) (an _) (cJ ze (g:=λ_=>True) λ_ _=>g9) λt u v _ _ _=>oG (by simp)
 refine iw (hs:=[λt=>aC t=false,λt=>aC t=false,λt=>aC t=false,λt=>aC t=false,λt=>aC t=false,λt=>aC t=false]) rfl (aZ ?_ (aZ ?_ (aZ ?_ (aZ ?_ (aZ ?_ (aZ ?_ iY)))))) D3 B3 bq bb j1 j2 ∅ λp4 b2 H4 a8 bk bw D4 B4 i1 i2=>?_
 .exact ad (cJ Di (g:=λu=>bS u=false) λas e=>by rw[e];exact qZ (.inr (by rw[f_,mt];decide))) λu p=>p
 .exact ad (am (t:=.non) (g:=λu=>bS u=false) (λ_=>rfl) rfl) λu p=>p
 .exact ad (Df (rL (U _) (one _ 0) (v:=x0) (ib _ _)) (g:=λu=>bS u=false) λi _=>rfl) λu p=>p
 .exact am (t:=.non) (λ_=>rfl) rfl
 .exact(ah _).imp λx H aT=>by obtain⟨t,tv,e⟩:=aT;exact(⟨t,tv,by rw[e];rfl⟩)
 .exact vE (an _) (ah _) λt u e _=>kG (.inl (by rw[e];rfl))
 refine BW (g:=λt=>aC t=false) rfl ?_ D D4 B4 a8 bk bw i1 i2 ∅ λbd H5 aI aS D5 B5=>?_
 .refine ad (cJ (jW (qx (g:=λi j=>i - j) (yf zE) (one _ 1))) (g:=λu=>bS u=false) λas e=>?_) λu p=>p
  obtain⟨v,⟨i,j,⟨i2,rfl,rfl⟩,rfl,rfl⟩,rfl⟩:=e;exact sV (x:=-1000000 - 1) (by simp) (.inl ∅)
 refine⟨λσ' H'=>∃ys,σ'=[-d,-a,some (.str s),-r,-p4]/\H' p4*>ys/\AlP H' ([λt=>aC t=false,λt=>aC t=false,λ_=>True,λt=>aC t=false]++[λt=>aC t=false,λt=>aC t=false,λt=>aC t=false,λt=>aC t=false]++[λt=>aC t=false,λt=>aC t=false,λt=>aC t=false,λt=>aC t=false,λt=>aC t=false,λt=>aC t=false,λt=>aC t=false]++[λt=>aC t=false,λt=>aC t=false,λt=>aC t=false,λt=>aC t=false,λt=>aC t=false,λt=>aC t=false]++[λt=>aC t=false]) ys/\av H' d l/\But d l H H',?_,?_⟩
 .refine Cu (ve rfl D hr) D5 B5 (λbn H6 D6 B6=>?_) λ_ H6 D6 B6=>⟨bd,rfl,B6 p4 _ i1 i2 aI,aS.keep (B6.keepT D5),D6,B5.trans B6⟩
  obtain⟨y1,zt,rfl⟩ : ∃y1 zt,zs=y1 :: zt:=by cases zs with | nil=>simp at bn | cons y zt=>exact⟨y,zt,rfl⟩
  have b7:x0 < y1:=(Io.mp aJ).1 y1 (by simp)
  have b6:=B6 p4 _ i1 i2 aI;refine wv (i:=1) (g:=λt=>aC t=false) rfl (ad (vX (g:=λu=>bS u=false) (gs:=[λu=>bS u=false,λu=>2 < (x0 :: y1 :: zt).length->bS u=false]) (aZ ?_ (aZ ?_ iY)) (CI (lX rfl ∅ ∅) (Gk (ve rfl D hr)) λa h=>by omega) (by show 2<=1000;decide) ?_) λu p=>p) D6 (B5.trans B6) a8 b6 (aS.keep (B6.keepT D5)) i1 i2 ∅ λys H7 a7 a4 D7 B7=>⟨ys,rfl,a7,a4,D7,B7⟩
  .refine cJ (a9 _) λas e=>?_
   rw[e,List.reverse_cons];exact jw (yP (x:=y1) (y:=x0) (by simp) (by simp) ())
  .refine cJ (jb (jb (jW (rL (U _) (one _ 0) (v:=x0) (ib _ _))) (vO (a:=some 2) (b:=none) (ws:=zt) (U _) (λ_ _ h=>a5 _ _ _ _ h) (λ_ _ h=>h) (by rw[show(2:Int)=((2:Nat):Int) from rfl,gn];rfl)) λa b ea eb=>by obtain⟨_,_,rfl⟩:=ea;rw[eb];simp at a0 ⊢;omega) (jW (rL (U _) (one _ 1) (v:=y1) (bh (j:=1) rfl))) λa b ea eb=>by
    obtain⟨a1,a2,⟨_,_,rfl⟩,rfl,rfl⟩:=ea;obtain⟨_,_,rfl⟩:=eb;simp at a0 ⊢;omega) λas e h3=>?_
   obtain⟨_,_,⟨_,b1,⟨_,rfl,rfl⟩,bp,rfl⟩,⟨c1,br,rfl⟩,rfl⟩:=e;obtain⟨y2,r2,er⟩ : ∃y2 r2,zt=y2 :: r2:=by cases zt with | nil=>simp at h3 | cons y r=>exact⟨y,r,rfl⟩
   have bx:y1 < y2:=(Io.mp (Io.mp aJ).2).1 y2 (by rw[er];simp)
   rw[bp,er,br];exact jw (yP (x:=y2) (y:=y1) (by simp) (by simp) ())
  .rintro i ⟨a,b,⟨h0,h1⟩,rfl,rfl⟩
   by_cases z:(2:Int) < ((x0 :: y1 :: zt).length:Int)
   .rw[if_pos z]
    by_cases za:a=0
    .exact⟨0,_,by rw[za];rfl,rfl,λt h=>h⟩
    .exact⟨1,_,(),rfl,λt h=>h ()⟩
   .rw[if_neg z]
    exact⟨0,_,(),rfl,λt h=>h⟩
 rintro σ H6 ⟨ys,rfl,be,ba,D6,B6⟩
 have hm : ∃(m:Nat) (v:Int),(if ((x0 :: zs).length:Int) - 1 < 8 then((x0 :: zs).length:Int) - 1 else 8)=(m:Int)/\(x0 :: zs)[m]? = some v/\m < 9:=by
  have a3:(x0 :: zs).length=zs.length+1:=rfl
  by_cases z:((x0 :: zs).length:Int) - 1 < 8
  .refine⟨zs.length,(x0 :: zs)[zs.length]'(by rw[a3];omega),by rw[if_pos z,a3];omega,j6 _,()⟩
  .refine⟨8,(x0 :: zs)[8]'(),by rw[if_neg z];rfl,j6 _,∅⟩
 obtain⟨m,v,em,ev,bg⟩:=hm;have aO : ∀Z,GB d l [-d,-a,some (.str s),-r,Z] H (tOp (rI0 λi j=>V.int (i - j)) (tCB pH (bF (aU 3) dC)) (tC (V.int 1))) (isN λz=>z=((x0 :: zs).length:Int) - 1):=λZ=>(qx (g:=λi j=>i - j) (ve rfl D hr) (one _ 1)).imp λx H aG=>by obtain⟨i,e,a,b,ea,eb,ei⟩:=aG;exact(⟨i,e,by rw[ei,ea,eb]⟩)
 show lE _ _ _ _ _
 refine wv (i:=2) (g:=λt=>aC t=false) rfl (vX (g:=λt=>aC t=false) (gs:=[λt=>aC t=false,λt=>aC t=false]) (aZ ?_ (aZ ?_ iY)) (lX rfl ∅ ∅) ∅ ?_) D6 B6 a8 be ba i1 i2 ∅ λa6 H7 a7 a4 D7 B7=>?_
 .refine ad (cJ (jb (az _) (jW (rL (U _) (DR (aO _)) (v:=v) (by rw[em];exact bh (by rw[q_,ev];rfl)))) λa b ea eb=>by obtain⟨_,_,rfl⟩:=eb;rw[ea,m8];simp;omega) (g:=λu=>bS u=false) λas e=>?_) λu p=>p
  obtain⟨_,_,rfl,⟨_,rfl,rfl⟩,rfl⟩:=e;refine jw (vj (j7 (i:=m) ?_))
  rw[IV bg];exact ev
 .exact ad (am (t:=.str "room") (g:=λu=>bS u=false) (λ_=>⟨rfl,∅⟩) rfl) λu p=>p
 .rintro i ⟨h0,h1⟩
  by_cases z:i=0
  .exact⟨0,_,z,rfl,λt h=>h⟩
  .exact⟨1,_,(),rfl,λt h=>h⟩
 show oZ jZ [] E0 (bF (aU 0) (bF (tC (V.int 22)) dC)) [-d,-a,some (.str s),-r,-p4] H7 (λy H2=>rIL (.ref p4) y H2 Q)
 refine lX (d:=d) (l:=l) (H:=H) (σ:=[-d,-a,some (.str s),-r,-p4]) (m:=22) (i:=0) rfl ∅ ∅ H7 _ D7 B7 λy H8 ⟨i,ei,i0,i22⟩ D8 B8=>?_
 have h8:=B8 p4 _ i1 i2 a7;have aL:=a4.keep (B8.keepT D7);have b9:a6.length=22:=by rw[aL.len];rfl
 obtain⟨x,hx⟩ : ∃x,a6[i.toNat]? = some x:=⟨_,j6 ()⟩
 have aF:=bh hx;rw[show((i.toNat:Nat):Int)=i by omega] at aF
 obtain⟨t,tv,bt⟩:=aL.at (g:=λt=>aC t=false) (λf hf=>by simp[List.set] at hf;subst hf;exact λt h=>h) hx
 exact⟨p4,rfl,i,ei,a6,h8,x,aF,k _ t H8 tv bt D8 (B7.trans B8)⟩
def Cs:List Str:=["unlike","many","sum","table","way","behind","same"]
theorem BC {s:Str} {cs:List Tr} (h:cD (.tup (.str s :: cs))=true):s∈Cs:=by
 have h:(if s = "same" then eY (.str s :: cs) else bp s (.str s :: cs))=true:=h
 by_cases e:s = "same"
 .rw[e];decide+kernel
 .rw[if_neg e] at h
  rcases iK h with⟨rfl,_⟩ | ⟨rfl,_⟩ | ⟨rfl,_⟩ | ⟨rfl,_⟩ | ⟨rfl,_⟩ | ⟨rfl,_⟩ <;> decide+kernel
theorem dQ {s:Str} {l:List Tr} (h:s ≠ "same"):cD (.tup (.str s :: l))=bp s (.str s :: l):=by
 show(if s = "same" then eY (.str s :: l) else bp s (.str s :: l))=_
 rw[if_neg h]
theorem AV {l:List Tr}:cD (.tup (.str "same" :: l))=eY (.str "same" :: l):=by
 show(if (d_ "same") = "same" then eY (.str "same" :: l) else bp "same" (.str "same" :: l))=_
 rw[if_pos rfl]
def Ab (s:Str):Nat:=if s = "unlike" then 2 else if s = "many" then 5 else if s = "table" then 3 else if s = "behind" then 3 else 4
theorem jN {s:Str} {l:List Tr} (h:cD (.tup (.str s :: l))=true):l.length+1=Ab s:=by
 have hs:=BC h;simp only[Cs,i4,md,or_false] at hs;rcases hs with rfl | rfl | rfl | rfl | rfl | rfl | rfl
 .rw[dQ (by decide+kernel),eB] at h
  simp only[cV,fx,decide_eq_true_eq,l_] at h;rw[h.1];decide+kernel
 .rw[dQ (by decide+kernel),lW] at h
  simp only[jq,fx,decide_eq_true_eq,l_] at h;rw[h.1];decide+kernel
 .rw[dQ (by decide+kernel),uf] at h
  simp only[rR,fx,decide_eq_true_eq,l_] at h;rw[h.1];decide+kernel
 .rw[dQ (by decide+kernel),jD] at h
  simp only[gi,fx,decide_eq_true_eq,l_] at h;rw[h.1];decide+kernel
 .rw[dQ (by decide+kernel),tJ] at h
  simp only[so,fx,decide_eq_true_eq,l_] at h;rw[h.1];decide+kernel
 .rw[dQ (by decide+kernel),fS] at h
  simp only[dk,fx,decide_eq_true_eq,l_] at h;rw[h.1];decide+kernel
 .rw[AV] at h
  simp only[eY,fx,decide_eq_true_eq,l_] at h;rw[h.1];decide+kernel
theorem rd {s:Str} {l m:List Tr} (h:cD (.tup (.str s :: l))=true) (F:m.length≠l.length):cD (.tup (.str s :: m))=false:=by
 rw[Bool.eq_false_iff];intro z;have h1:=jN h;have h2:=jN z;omega
theorem xS {t:Tr} (h:t∈[Tr.non,.int 5,.tup [],.str "unlike",.tup [.str "unlike"]]):cD t=false:=by
 simp only[i4,md,or_false] at h;rcases h with rfl | rfl | rfl | rfl | rfl
 .rfl
 .rfl
 .rfl
 .rfl
 .rw[Bool.eq_false_iff]
  intro z;exact absurd (jN z) (by show ¬ 1=Ab "unlike";decide+kernel)
def GQ (d l:Addr) (σ:St) (H:Hp) (X:TE) (u:Tr):Prop:=GB d l σ H X (isT λt=>t=u)
def eqU (u:Tr):Tr->Prop:=λt=>t=u
def AQ (d l:Addr) (σ:St) (H:Hp) (t:TA) (ts:List Tr):Prop:=AB d l σ H t (ts.map eqU)
theorem eG {x:V} {t:Tr} {ts:List Tr} (h:TV H x t) (h2:TVs H xs ts):TVs H (x :: xs) (t :: ts):=⟨x,xs,rfl,h,h2⟩
theorem wb {H:Hp} : ∀{ts:List Tr} {xs:List V},AlP H (ts.map eqU) xs->TVs H xs ts
 | [],_,h=>h
 | t :: ts,_,⟨x,ys,e,⟨u,tv,eu⟩,b⟩=>by
  rw[show u=t from eu] at tv
  rw[e];exact eG tv (wb b)
section
variable {l:Addr}
theorem xX:AQ d l σ H dC []:=iY
theorem lZ {e:TE} {t:TA} {u:Tr} {us:List Tr} (h:GQ d l σ H e u) (h2:AQ d l σ H t us):AQ d l σ H (bF e t) (u :: us):=aZ h h2
theorem yO {i:Int}:GQ d l σ H (tC (.int i)) (.int i):=xE λ_=>⟨.int i,rfl,rfl⟩
theorem C5:GQ d l σ H (tC .non) .non:=xE λ_=>⟨.non,rfl,rfl⟩
theorem C8 {s:Str} (h:s.length<=20):GQ d l σ H (tC (.str s)) (.str s):=xE λ_=>⟨.str s,⟨rfl,h⟩,rfl⟩
theorem Dg {v:V} {u:Tr} (e:σ[i]? = some (some v)) (F:av H d l) (h:TV H v u):GQ d l σ H (aU i) u:=Dj e F ⟨u,h,rfl⟩ (A2 _)
theorem zr {t:TA} {ts:List Tr} (h:AQ d l σ H t ts) (hl:ts.length<=1000):GQ d l σ H (nK t) (.tup ts):=λH1 Q D B k =>
 h H1 _ D B λxs H2 a U L=>by
  have tv:=wb a;refine⟨by rw[tv.len];exact pj (aw hl),λq F=>k _ _ ⟨.tup ts,⟨q,xs,rfl,ae,TVs.keep (ak.keepT (ak.upd0 F)) _ tv⟩,rfl⟩ (U.new F) (L.new F)⟩
theorem Ea {X:TE} {a b:List Tr} (h1:GQ d l σ H X (.tup a)) (h2:GQ d l σ H Y (.tup b)) (hl:a.length+b.length<=1000):GQ d l σ H (tOp zq X Y) (.tup (a++b)):=λH1 Q D B k =>
 h1 H1 _ D B λx H2 ⟨u,tu,eu⟩ D2 B2=>h2 H2 _ D2 (B.trans B2) λy H3 ⟨v,tv,ev⟩ D3 B3=>by
  subst eu;subst ev;obtain⟨p,xs,rfl,hp,L⟩:=TV.keep (B3.keepT D2) _ tu;obtain⟨q,ys,rfl,Z,U⟩:=tv;refine⟨p,rfl,q,rfl,xs,hp,ys,Z,by rw[L.len,U.len];exact pj (aw hl),λr H4 hr F=>k _ H4 ⟨.tup (a++b),⟨r,_,rfl,hr,(TVs.keep (ak.keepT F) _ L).app (TVs.keep (ak.keepT F) _ U)⟩,rfl⟩ (D3.same F) ((B2.trans B3).same F)⟩
theorem sx {H:Hp} : ∀{xs:List V} {ts:List Tr},TVs H xs ts->TVs H xs.dropLast ts.dropLast
 | _,[],h=>by rw[show _=[] from h];rfl
 | _,[t],⟨x,ys,rfl,tx,hy⟩=>by rw[show ys=[] from hy];rfl
 | _,t :: u :: ts,⟨x,_,rfl,tx,y,ys,rfl,ty,hy⟩=>show TVs H (x ::(y :: ys).dropLast) (t ::(u :: ts).dropLast) from eG tx (sx (xs:=y :: ys) (ts:=u :: ts) (eG ty hy))
theorem C0 {X:TE} {a:List Tr} (h1:GQ d l σ H X (.tup a)):GQ d l σ H (tSl tF X fj (gI (tUn (rU λi=>V.int (Neg.neg i)) (tC (V.int 1))))) (.tup a.dropLast):=λH1 Q D B k =>
 h1 H1 _ D B λx H2 ⟨u,tu,eu⟩ D2 B2=>by
  subst eu;obtain⟨p,xs,rfl,hp,U⟩:=tu;refine⟨1,rfl,-1,rfl,p,rfl,xs,hp,λq Z L F=>k _ Z ⟨.tup a.dropLast,⟨q,xs.dropLast,rfl,?_,TVs.keep (ak.keepT F) _ (sx U)⟩,rfl⟩ (D2.same F) (B2.same F)⟩
  rw[L];have:=gM (λv:V=>v) xs
  rw[List.map_id',List.map_id'] at this;rw[this]
theorem Bd {r:Addr} (e:σ[i]? = some (-r)) (F:r≠d) (L:r≠l) (h:H r*>xs) (U:xs.length=n):GB d l σ H (tCB rD (bF (aU i) dC)) (isN λz=>z=(n:Int)):=λH1 Q D B k=>by
 have Z:=B r _ F L h;have:rD [.ref r] H1 Q:=⟨r,rfl,_,Z,k _ H1 ⟨(n:Int),by rw[U],rfl⟩ D (But.refl H1)⟩
 show aU i σ H1 _
 unfold aU;rw[e];exact this
end
theorem yH {l:Addr} {gs hs:List (Tr->Prop)} (e:σ[j]? = some (-p)) (h:AB d l σ H ta hs) (D:av H1 d l) (B:But d l H H1) (hp:H1 p*>xs) (a:AlP H1 gs xs) (F:p≠d) (L:p≠l) (hl:gs.length+hs.length<=1000)
  (k : ∀q ys H',H q=none->H' q*>ys->AlP H' (gs++hs) ys->av H' d l->But d l H H'->q≠d->q≠l->Dn.nx (σ.set j (-q)) H'):lE (tOp rCL (aU j) (tE ta)) (cH j) Dn σ H1:=iw (R:=λD σ H=>D.nx σ H) e h D B hp a F L hl k
theorem vG {t:Tr} (h:cD t=false):okW ns t=false:=by unfold okW;rw[h];rfl
theorem jy {st:Str} {t:Tr} (h:st∈fC t) (hs:st∉ns):okW ns t=false:=by
 cases e:okW ns t with
 | false=>rfl
 | true =>
  unfold okW at e;rw[fx] at e;exact absurd (of_decide_eq_true (l9.mp e.2 st h)) hs
theorem yW {t:Tr} (h:cD t=true) : ∃s l,t = .tup (.str s :: l)/\1<=l.length/\l.length<=4:=by
 rcases fY t with⟨s,l,rfl⟩ | ⟨_,e,_⟩
 .refine⟨s,l,rfl,?_⟩
  have:=jN h
  unfold Ab at this
  split at this
  .omega
  .split at this
   .omega
   .split at this
    .omega
    .split at this <;> omega
 .rw[e] at h;cases h
noncomputable def dO:List Tr:=[.non,.tup [],.str "unlike",.tup [.str "unlike"],.tup [.str "unlike",.tup []],.tup [.str "rows",.tup [.str "a"]],.int 7,.tup [.str "behind",.tup [.str "a"],.non]]
def fk (st:Str):List Tr:=[.tup [.str "unlike",.tup [.str st]],.tup [.str "many",.tup [.int 1,.int 2],.tup [.str st],.int 0,.int 1],.tup [.str "sum",.tup [.tup [.int 3,.str st]],.non,.int 5]]
def fP (st:Str):List Tr:=[.tup [.str "table",.tup [.str st],.tup []],.tup [.str "way",.tup [.str st],.tup [],.tup [.int 0]],.tup [.str "behind",.tup [.str st],.int 0]]
def lr (st s:Str) (l:List Tr):List Tr:=[.tup ((.str s :: l)++[.int 0]),.tup (Tr.str s :: l).dropLast,.tup [.tup (.str s :: l)],.tup [.str "same",.str st,.tup [.int 1],.tup (.str s :: l)],.tup [.str "same",.str st,.tup [],.tup (.str s :: l)]]
theorem iu {s:Str} {l:List Tr} (h:s ≠ "same"):fC (.tup (.str s :: l))=aS (.tup (.str s :: l)):=by
 show(if s = "same" then _ else _)=_
 rw[if_neg h]
theorem lv {a b:Tr}:fC (.tup [.str "same",.str z,a,b])=z :: aS b:=by
 show(if d_ "same" = "same" then cE [Tr.str z]++aS b else aS (.tup [.str "same",.str z,a,b]))=_
 rw[if_pos rfl];rfl
theorem Hj : ∀t∈dO,okW ns t=false:=by
 intro t h;simp only[dO,i4,md,or_false] at h;refine vG ?_
 rcases h with rfl | rfl | rfl | rfl | rfl | rfl | rfl | rfl
 .rfl
 .rfl
 .rfl
 .exact xS (by simp)
 .rw[dQ (by decide+kernel),eB]
  simp[cV,cF,bq]
 .rw[dQ (by decide+kernel),ju (by decide+kernel)]
 .rfl
 .rw[dQ (by decide+kernel),fS]
  simp[dk,gpT,bO]
theorem G0 {st:Str} (hs:st∉ns) : ∀t∈fk st,okW ns t=false:=by
 intro t h;simp only[fk,i4,md,or_false] at h;refine jy ?_ hs
 rcases h with rfl | rfl | rfl
 .rw[iu (by decide+kernel),show(.tup [.str st]:Tr) = .tup ([st].map Tr.str) from rfl,cj (by decide+kernel) (by decide+kernel)]
  simp
 .show st∈(if d_ "many" = "same" then cE [Tr.tup [.int 1,.int 2]]++aS (.int 0) else(if d_ "many" = "sum" then cE ([Tr.int 1,.int 2].map λt=>(itT t).getD 1 .non) else if d_ "many" = "many" then cE [.str st] else cE [.int 1,.int 2]))
  rw[if_neg (by decide+kernel),if_neg (by decide+kernel),if_pos rfl]
  simp[cE,Az]
 .show st∈(if d_ "sum" = "same" then cE [Tr.tup [.tup [.int 3,.str st]]]++aS (.int 5) else aS (.tup [.str "sum",.tup [.tup [.int 3,.str st]],.non,.int 5]))
  rw[if_neg (by decide+kernel)]
  rw[show aS (.tup [.str "sum",.tup [.tup [.int 3,.str st]],.non,.int 5])=[st] from by simp[aS,itT,cE,Az]]
  simp
theorem GD {st:Str} (hs:st∉ns) : ∀t∈fP st,okW ns t=false:=by
 intro t h;simp only[fP,i4,md,or_false] at h;refine jy ?_ hs
 rcases h with rfl | rfl | rfl
 .rw[iu (by decide+kernel),show(.tup [.str st]:Tr) = .tup ([st].map Tr.str) from rfl,cj (by decide+kernel) (by decide+kernel)]
  simp
 .rw[iu (by decide+kernel),show(.tup [.str st]:Tr) = .tup ([st].map Tr.str) from rfl,cj (by decide+kernel) (by decide+kernel)]
  simp
 .rw[iu (by decide+kernel),show(.tup [.str st]:Tr) = .tup ([st].map Tr.str) from rfl,cj (by decide+kernel) (by decide+kernel)]
  simp
theorem GY {st s:Str} {l:List Tr} (hs:st∉ns) (F:cD (.tup (.str s :: l))=true) (hl:1<=l.length) : ∀t∈lr st s l,okW ns t=false:=by
 intro t h;simp only[lr,i4,md,or_false] at h;rcases h with rfl | rfl | rfl | rfl | rfl
 .exact vG (show cD (.tup (.str s ::(l++[.int 0])))=false from rd (m:=l++[.int 0]) F (by simp))
 .refine vG ?_
  obtain⟨y,r,rfl⟩ : ∃y r,l=y :: r:=by cases l with | nil=>simp at hl | cons y r=>exact⟨y,r,rfl⟩
  exact show cD (.tup (.str s ::(y :: r).dropLast))=false from rd (m:=(y :: r).dropLast) F (by rw[List.length_dropLast];simp)
 .exact vG rfl
 .refine jy ?_ hs
  rw[lv];simp
 .refine jy ?_ hs
  rw[lv];simp
def Hl:Sp:=λvs H Q _=>∃(d l q:Addr) (st:Str) (xs:List V) (ws:List Tr) (ns:List Str),vs=[.ref d,.ref q,.str st]/\av H d l/\H q*>xs/\q≠d/\q≠l/\TVs H xs ws/\(∀t∈ws,cD t=true)/\ws.length<=38/\st.length<=20/\st∉ns/\∀(v:V) (t:Tr) (H':Hp),TV H' v t->okW ns t=false->av H' d l->But d l H H'->Q v H'
local macro_rules | `(tactic| ctx_has gts $D:ident $h:ident $w:ident) => `(tactic| repeat' (first | exact xX | exact Dg rfl $D $h | exact Dg rfl $D $w | exact yO | exact C5 | exact C8 (by decide +kernel) | refine zr ?_ (by simp) | refine lZ ?_ ?_))
abbrev Gg:=Fn P w K mg base "_law_bad_wish" 2 ["_law_deal_here","_law_wishes_here","_law_stray"] (Hl)
theorem kT (T:Txt w K mg) (L:FnL K mg "_law_bad_wish" dL ["_law_deal_here","_law_wishes_here","_law_stray"]) (Fa : @Dz0 P w K mg base) : @Gg P w K mg base:=by
 ctx_has z jO <;> obtain⟨d,l,q,st,xs,ws,ns,rfl,D,hq,ah,ad,am,a2,hl,a9,an,k⟩:=h
 .rfl
 refine⟨_,(ai (ay 3 (bu (aa fB (aa (au ac) (aa aq (aa (au (aa aq ac)) (aa (au (aa aq (aa (au ac) ac))) (aa (au (aa aq (aa (au (aa aq ac)) ac))) (aa af (aa (au (aa aq (aa (au (aa aq ac)) (aa fB ac)))) ac))))))))))
  (ai (ay 3 (ax gx (pvM 3) (bu (aa (au (aa aq (aa (au (aa (pvM 2) ac)) ac))) (aa (au (aa aq (aa (au (aa af (aa af ac))) (aa (au (aa (pvM 2) ac)) (aa af (aa af ac)))))) (aa (au (aa aq (aa (au (aa (au (aa af (aa (pvM 2) ac))) ac)) (aa fB (aa af ac))))) ac))))))
  (ai (ay 3 (ax gx (pvM 3) (bu (aa (au (aa aq (aa (au (aa (pvM 2) ac)) (aa (au ac) ac)))) (aa (au (aa aq (aa (au (aa (pvM 2) ac)) (aa (au ac) (aa (au (aa af ac)) ac))))) (aa (au (aa aq (aa (au (aa (pvM 2) ac)) (aa af ac)))) ac))))))
  (cX (bi (aE gD (ar be T.b_len (aa (pvM 1) ac)) af) (ai (ay 4 (aB dI (pvM 1) (ag Fa (aa (pvM 0) (aa (ar be T.b_len (aa (pvM 1) ac)) ac)))))
  (ao (ay 3 (ax gx (pvM 3) (bu (aa (ax cQ (pvM 4) (au (aa af ac))) (aa (aQ hV (pvM 4) bv (aV (dz cy af))) (aa (au (aa (pvM 4) ac)) (aa (au (aa aq (aa (pvM 2) (aa (au (aa af ac)) (aa (pvM 4) ac))))) (aa (au (aa aq (aa (pvM 2) (aa (au ac) (aa (pvM 4) ac))))) ac)))))))))) aK)
  (ao (aA (aB dI (pvM 3) (ag Fa (aa (pvM 0) (aa (ar be T.b_len (aa (pvM 3) ac)) ac)))))))))),?_⟩
 have F : ∀{H},TV H (.str st) (.str st):=⟨rfl,a9⟩
 refine vH (gs:=dO.map eqU) D (show AQ d l _ _ _ dO from ?_) ∅ λp bd H1 fp hp ap D1 B1 n1 n2=>?_
 .unfold dO;ctx_has gts D F F
 refine iw (hs:=(fk st).map eqU) rfl (show AQ d l _ _ _ (fk st) from ?_) D1 B1 hp ap n1 n2 (by simp[dO,fk]) λp2 aY H2 ba aD aS D2 B2 m1 m2=>?_
 .unfold fk;ctx_has gts D F F
 refine iw (hs:=(fP st).map eqU) rfl (show AQ d l _ _ _ (fP st) from ?_) D2 B2 aD aS m1 m2 (by simp[dO,fk,fP]) λp3 az H3 aO a7 aC D3 B3 j1 j2=>?_
 .unfold fP;ctx_has gts D F F
 refine⟨λσ' H'=>∃(ys:List V) (p4:Addr) (v4:Option V) (ts:List Tr),σ'=[-d,-q,some (.str st),-p4,v4]/\H' p4*>ys/\AlP H' (ts.map eqU) ys/\(∀t∈ts,okW ns t=false)/\1<=ts.length/\ts.length<=100/\av H' d l/\But d l H H'/\H p4=none/\p4≠d/\p4≠l,?_,?_⟩
 .have b14 : ∀t∈dO++fk st++fP st,okW ns t=false:=λt U=>by
   rcases t0.mp U with U | U
   .rcases t0.mp U with U | U
    .exact Hj t U
    .exact G0 an t U
   .exact GD an t U
  have aj:AlP H3 ((dO++fk st++fP st).map eqU) az:=by rw[m7,m7];exact aC
  refine Cu (Bd rfl ah ad hq am.len) D3 B3 (λbb H4 D4 Z=>?_) λ_ H4 D4 Z=>⟨az,p3,_,dO++fk st++fP st,rfl,Z p3 _ j1 j2 a7,aj.keep (Z.keepT D3),b14,by simp[dO],by simp[dO,fk,fP],D4,B3.trans Z,aO,j1,j2⟩
  refine sB λR hR=>?_
  have a4:=Z q _ ah ad (B3 q _ ah ad hq);have aZ:=am.len;ctx_has v a4
  refine aI D4 () () λr H5 r0 r1 D5 B5=>?_
  have aG:=B5 q _ ah ad a4;obtain⟨v,hv⟩ : ∃v,xs[r.toNat]? = some v:=⟨_,j6 ()⟩
  have a5:=bh hv;rw[show((r.toNat:Nat):Int)=r by omega] at a5
  obtain⟨w,aw,aP⟩:=am.at hv;obtain⟨sw,lw,rfl,aR,bf⟩:=yW (a2 w (j7 aw));refine⟨r,rfl,_,aG,v,a5,?_⟩
  subst hR;have aH:=(B3.trans Z).trans B5;have a0:TV H v (.tup (.str sw :: lw)):=aP
  have aN:=a2 _ (j7 aw);have aW : ∀t∈(dO++fk st++fP st)++lr st sw lw,okW ns t=false:=λt U=>by
   rcases t0.mp U with U | U
   .exact b14 t U
   .exact GY an aN aR t U
  refine yH (hs:=(lr st sw lw).map eqU) rfl (show AQ d l _ _ _ (lr st sw lw) from ?_) D5 aH (B5 _ _ j1 j2 (Z _ _ j1 j2 a7)) (aj.keep ((Z.keepT D3).trans (B5.keepT D4))) j1 j2 (by simp[dO,fk,fP,lr]) λp6 aF H6 aM aJ as D6 B6 i1 i2=>⟨aF,p6,_,rfl,aJ,_,by rw[<- m7] at as;exact as,aW,by simp[dO],by simp[dO,fk,fP,lr],D6,B6,aM,i1,i2⟩
  have gw : ∀{p},GQ d l [-d,-q,some (.str st),-p,some v] H (aU 4) (.tup (.str sw :: lw)):=Dg rfl D a0
  unfold lr;refine lZ (Ea gw (zr (lZ yO xX) ∅) (by simp;omega)) (lZ (C0 gw) ?_)
  ctx_has gts D F a0
 rintro σ H4 ⟨ys,p4,v4,ts,rfl,a3,a8,a6,t1,aX,D4,Z,bc,i1,i2⟩
 have ly:ys.length=ts.length:=by rw[a8.len,f_]
 ctx_has v a3
 refine aI D4 () () λr H5 r0 r1 D5 B5=>?_
 have h5:=B5 p4 _ i1 i2 a3;have aT:=a8.keep (B5.keepT D4);obtain⟨x,hx⟩ : ∃x,ys[r.toNat]? = some x:=⟨_,j6 ()⟩
 have a1:=bh hx;rw[show((r.toNat:Nat):Int)=r by omega] at a1
 obtain⟨t,tv,bt⟩:=aT.at (g:=λt=>okW ns t=false) (λf hf=>by
  obtain⟨u,aL,rfl⟩:=v9.mp hf;exact λt e=>by rw[show t=u from e];exact a6 u aL) hx
 exact⟨r,rfl,_,h5,x,a1,k x t H5 tv bt D5 (Z.trans B5)⟩
def tabs:List (Addr × Addr × Str):=[(216,212,wS)]
theorem sX : ∀{m l:List (Key × V)},((l++m).map (·.1)).Nodup->eN l m=l++m
 | [],l,_=>by rw[HY];rfl
 | x :: m,l,h=>by
  have F:cu l x.1=none:=by
   cases e:cu l x.1 with
   | none=>rfl
   | some v =>
    have:=wz e
    rw[m7,k9,Iv] at h;exact absurd rfl (h.2.2 x.1 this x.1 m9)
  show eN (cL l x.1 x.2) m=_
  rw[eS _ F,sX (by rw[append_assoc];exact h),append_assoc]
  rfl
theorem wJ {cs ws:List Tr} (h:fb cs ws=none):dR [] 0 cs=none:=by
 unfold fb at h;cases e:dR [] 0 cs with
 | none=>rfl
 | some n=>rw[e] at h;cases h
theorem AG {cs ws:List Tr} (h:dR [] 0 cs=none):fb cs ws=(fA (cs.map bJ) 0 ws).map λn=>((d_ "wish" : Str),n):=by unfold fb;rw[h]
noncomputable def qI (ns:List Str) (ws:List Tr):List V:=match fA ns 0 ws with
 | some n=>[.str "wish",.int (n:Int)]
 | none=>[.str "sound"]
theorem rF {cs ws:List Tr} (h:dR [] 0 cs=none):fE cs ws=qI (cs.map bJ) ws:=by
 unfold fE qI;rw[AG h];cases fA (cs.map bJ) 0 ws <;> rfl
theorem zN {cs ws:List Tr} (h:dR [] 0 cs=some n):fE cs ws=[.str "cell",.int (n:Int)]:=by
 unfold fE fb;rw[h]
theorem xH (cs ws:List Tr):fE cs ws=[.str "sound"]\/(∃n:Nat,fE cs ws=[.str "cell",.int (n:Int)])\/∃n:Nat,fE cs ws=[.str "wish",.int (n:Int)]:=by
 cases h:dR [] 0 cs with
 | some n=>exact .inr (.inl ⟨n,zN h⟩)
 | none =>
  rw[rF h];unfold qI;cases fA (cs.map bJ) 0 ws with
  | none=>exact .inl rfl
  | some n=>exact .inr (.inr ⟨n,rfl⟩)
theorem zk {s:Str} {n:Int} (h:(PyData.str s).canLay0=true):(PyData.tuple [.str s,.int n]).canLay0=true:=by
 simp[PyData.canLay0,PyData.canLayAll0] at h ⊢
 first | done | exact h | exact⟨h,rfl⟩
theorem zD {s:Str} {n:Int}:(PyData.tuple [.str s,.int n]).depth<=50:=by
 simp[PyData.depth,PyData.depthAll]
theorem wp {cs ws:List Tr} (h:H p>>(fE cs ws)) : ∃dd:JU,(∀q,H q>>(fE cs ws)->Rep K H (.ref q) dd)/\dd.canLay0=true/\dd.depth<=50/\Ji dd dd=true:=by
 rcases xH cs ws with e | ⟨n,e⟩ | ⟨n,e⟩ <;> rw[e] at h ⊢
 .exact⟨.tuple [.str "sound"],λq F=>.tup (.of F) (.cons (.str _) .nil),by decide+kernel,by decide+kernel,by decide+kernel⟩
 .exact⟨.tuple [.str "cell",.int n],λq F=>.tup (.of F) (.cons (.str _) (.cons (.int _) .nil)),zk (by decide+kernel),zD,by simp[Ji,JH]⟩
 .exact⟨.tuple [.str "wish",.int n],λq F=>.tup (.of F) (.cons (.str _) (.cons (.int _) .nil)),zk (by decide+kernel),zD,by simp[Ji,JH]⟩
theorem uM {q:Addr} {cs ws:List Tr} {Q:VK} (h1:H p>>(fE cs ws)) (h2:H q>>(fE cs ws)) (k:Q (.bl false) H):Ev K (.ref p) (.ref q) H Q:=by
 obtain⟨dd,r,l,F,e⟩:=wp (K:=K) h1;refine⟨dd,dd,r p h1,r q h2,l,l,(),?_⟩
 rw[e];exact k
theorem Dk {q:Addr} {cs ws:List Tr} {Q:VK} (h1:H p>>(fE cs ws)) (h2:H q>>(fE cs ws)) (k:Q (.bl true) H):Ek K (.ref p) (.ref q) H Q:=by
 obtain⟨dd,r,l,F,e⟩:=wp (K:=K) h1;refine⟨dd,dd,r p h1,r q h2,l,l,(),?_⟩
 rw[e];exact k
theorem oM {H:Hp} : ∀{xs:List V} {cc:List (Str × Addr × List Int)},cT H xs cc->yd H xs (cc.map λc=>((h9 c.1:Key),V.ref c.2.1))
 | _,_,.nil=>⟨[],rfl,rfl,λx F=>by cases F⟩
 | _,_,.cons (b:=c) ⟨a,e,h1,_⟩ t=>by
  obtain⟨U,e1,e2,L⟩:=oM t;refine⟨(a,(h9 c.1:Key),V.ref c.2.1) :: U,by rw[e,e1];rfl,by rw[k9,k9,e2],λx F=>?_⟩
  rcases i4.mp F with rfl | F
  .exact h1
  .exact L x F
theorem sj (h:cT H xs cc) (hn:(cc.map (·.1)).Nodup):qR K H (cc.map λc=>((h9 c.1:Key),V.ref c.2.1)) (cc.map λc=>((h9 c.1:Key),V.ref c.2.1)):=λp hp=>by
 have L : ∀{xs:List V} {cc:List (Str × Addr × List Int)},cT H xs cc->∀c∈cc,H c.2.1>>(c.2.2.map V.int):=by
  intro xs cc h
  induction h with
  | nil=>intro c F;cases F
  | cons r _ U =>
   intro c F;rcases i4.mp F with rfl | F
   .obtain⟨_,_,_,h2⟩:=r;exact h2
   .exact U c F
 obtain⟨c,F,rfl⟩:=v9.mp hp;have h2:=L h c F;have Z:((cc.map λc=>((h9 c.1:Key),V.ref c.2.1)).map (·.1)).Nodup:=by
  rw[Ij,show((λx:Key × V=>x.1) ∘ λc:Str × Addr × List Int=>((h9 c.1:Key),V.ref c.2.1))=(λs=>(h9 s:Key)) ∘ (λc:Str × Addr × List Int=>c.1) from rfl,<- Ij]
  exact(Js.mpr (hn.imp λh e=>h (by injection e)))
 refine⟨_,rz Z hp,qY c.2.2,.tup (.of h2) (mm.ints _),.tup (.of h2) (mm.ints _),AI _,n_ (wP _) ∅,?_⟩
 rw[BA];exact decide_eq_true rfl
theorem ww {ns:List Str} : ∀{l:List Tr} {n i:Nat} {t:Tr},l[n]? = some t->okW ns t=false->(∀u∈l.take n,okW ns u=true)->fA ns i l=some (i+n)
 | [],n,i,t,h,_,_=>by simp at h
 | u :: l,0,i,t,h,hb,_=>by
  simp at h;subst h
  unfold fA;rw[if_neg (by rw[hb];decide)];rfl
 | u :: l,n+1,i,t,h,hb,hp=>by
  unfold fA;rw[if_pos (hp u (by simp)),ww (n:=n) (by simpa using h) hb λz F=>hp z (by rw[List.take_succ_cons];exact la _ F)]
  congr 1;omega
theorem vQ : ∀{l:List Tr} {ns:List Str} {n i:Nat} {t:Tr},l[n]? = some t->(aC t=false\/bJ t∈ns++(l.take n).map bJ)->(∀u∈l.take n,aC u=true)->(ns++(l.take n).map bJ).Nodup->dR ns i l=some (i+n)
 | [],_,n,i,t,h,_,_,_=>by simp at h
 | u :: l,ns,0,i,t,h,hb,_,_=>by
  simp at h;subst h
  unfold dR;rw[if_neg];rfl;rcases hb with hb | hb
  .rw[hb];simp
  .rw[fx,decide_eq_true_eq];exact λz=>z.2 (by simpa using hb)
 | u :: l,ns,n+1,i,t,h,hb,hp,hn=>by
  have e:ns++((u :: l).take (n+1)).map bJ=(ns++[bJ u])++(l.take n).map bJ:=by rw[List.take_succ_cons,k9,append_assoc];rfl
  rw[e] at hb hn;unfold dR;rw[if_pos,vQ (n:=n) (by simpa using h) hb (λz F=>hp z (by rw[List.take_succ_cons];exact la _ F)) hn]
  .congr 1;omega
  .rw[fx,decide_eq_true_eq]
   refine⟨hp u (by simp),λz=>?_⟩
   have:=(Iv.mp (Iv.mp hn).1).2.2 _ z _ (k_.mpr rfl)
   exact this rfl
def vT (K:e_):Sp:=λvs H Q _=>∃(a:Addr) (ns:List Int),vs=[.ref a]/\SqL K H a (ns.map V.int)/\ns.length<=63/\jv tabs H/\∀H',jv tabs H'->Q (.bl true) H'
theorem vm (h:dZ ws):eP ws:=⟨h.nd,λx F=>by
 have n:=h.nm x F;have L:inV (.str x) mY=false:=by
  have:=ik x de
  rw[decide_eq_false (h.nomark x F)] at this;exact this
 show(decide (1<=x.length) && decide (x.length<=8) && !inV (.str x) mY && x.cps.toList.all bV)=true
 rw[decide_eq_true n.pos,decide_eq_true n.le,L,l9.mpr n.small];rfl⟩
theorem RT.but {pt l:Addr} (h:RT pt H) (D:av H d l) (B:But d l H H'):RT pt H':=by
 obtain⟨m,F,n,xs,e1,e2,_⟩:=D.ex;exact B _ _ (eV h e1 (by intro z;cases z)) (eV h e2 (by intro z;cases z)) h
theorem BE (h:jv tabs H):RT 212 H:=h (216,212,wS) (by simp[tabs])
theorem AJ (h:RT 212 H):jv tabs H:=λt F=>by
 simp only[tabs,i4,md,or_false] at F;subst F;exact h
def cp {α:Type} (l:List α) (n:Nat) (x:α):List α:=l.take n++x :: l.drop n
theorem eJ {l:List α} {x:α}:(cp l n x).length=l.length+1:=by simp[cp];omega
theorem gP {l:List α} {x:α} (h:n<=l.length):(cp l n x)[n]? = some x:=by
 unfold cp;rw[List.getElem?_append_right (by rw[m8];omega),m8,Jm h,Nat.sub_self];rfl
theorem Br {l:List α} {x:α} (h:n<=l.length) (hi:i < n):(cp l n x)[i]? = l[i]? := by
 unfold cp;rw[List.getElem?_append_left (by rw[m8];omega),IV hi]
theorem eC {l:List α} {x:α} (h:n<=l.length) (F:m<=n):(cp l n x).take m=l.take m:=by
 unfold cp;rw[List.take_append_of_le_length (by rw[m8];omega),take_take,Jm F]
theorem rK {H:Hp} : ∀{n:Nat} {xs:List V} {ts:List Tr},TVs H xs ts->TVs H (xs.take n) (ts.take n)
 | 0,_,_,_=>rfl
 | n+1,_,[],h=>by rw[show _=[] from h];rfl
 | n+1,_,t :: ts,⟨x,ys,rfl,tx,hy⟩=>eG tx (rK (n:=n) hy)
theorem rO {H:Hp} : ∀{n:Nat} {xs:List V} {ts:List Tr},TVs H xs ts->TVs H (xs.drop n) (ts.drop n)
 | 0,_,_,h=>h
 | n+1,_,[],h=>by rw[show _=[] from h];rfl
 | n+1,_,t :: ts,⟨x,ys,rfl,tx,hy⟩=>rO (n:=n) hy
theorem nT {ts:List Tr} {x:V} {t:Tr} (h:TVs H xs ts) (F:TV H x t):TVs H (cp xs n x) (cp ts n t):=(rK h).app (eG F (rO h))
theorem qm {H:Hp} {x:V} {t:Tr} (F:TV H x t) : ∀{n:Nat} {xs:List V} {ts:List Tr},TVs H xs ts->TVs H (xs.set n x) (ts.set n t)
 | _,_,[],h=>by rw[show _=[] from h];rfl
 | 0,_,u :: ts,⟨y,ys,rfl,ty,hy⟩=>eG F hy
 | n+1,_,u :: ts,⟨y,ys,rfl,ty,hy⟩=>eG ty (qm F (n:=n) hy)
theorem wa {l:List Tr} {t:Tr} (h:l[n]? = some t) (F:okW ns t=false) (hp : ∀u∈l.take n,okW ns u=true):qI ns l=[.str "wish",.int (n:Int)]:=by
 unfold qI;rw[ww h F hp,zero_add]
theorem vR {t:Tr} (h:okW ns t=true):cD t=true:=by
 unfold okW at h;rw[fx] at h;exact h.1
theorem yR (h:0 < n):ixN n (-1)=some (n - 1):=by
 unfold ixN;rw[if_neg ∅,if_pos ()]
 congr 1;omega
theorem C6 {xs:List α} {x:α} (h:xs[xs.length - 1]? = some x):atI xs (-1)=some x:=by
 have F:0 < xs.length:=by
  cases xs with
  | nil=>simp at h
  | cons a l=>simp
 unfold atI;rw[yR F];exact h
theorem rh {l:List Tr} {t:Tr} (h:l[n]? = some t) (F:aC t=false\/bJ t∈(l.take n).map bJ) (hp : ∀u∈l.take n,aC u=true) (L:((l.take n).map bJ).Nodup):dR [] 0 l=some n:=by
 have:=vQ (ns:=[]) (i:=0) h (by simpa using F) hp (by simpa using L)
 rw[zero_add] at this;exact this
theorem ku {t u:TS} {D:iN} (R:St->Hp->Prop) (h:t { D with nx:=R } σ H) (h2 : ∀ σ H,R σ H->u D σ H):yV t u D σ H:=⟨R,h,h2⟩
structure LS (d l ca q1 q2 q3 q4:Addr) (ws:List Str) (bs xs:List V) (cs wt:List Tr) (kvs:List (Key × V)) (H:Hp):Prop where
 r:RT 212 H
 D:av H d l
 hc:H ca*>(ws.map V.str)
 nc:ca≠d/\ca≠l
 h1:H q1*>bs
 n1:q1≠d/\q1≠l
 t1:TVs H bs cs
 h2:H q2*>xs
 n2:q2≠d/\q2≠l
 t2:TVs H xs wt
 h3:TV H (.ref q3) (.tup [.tup cs,.tup wt])
 h4:H q4<*kvs
 n4:q4≠d/\q4≠l
theorem LS.but {d l F U Z L q4:Addr} {ws:List Str} {bs xs:List V} {cs wt:List Tr} {kvs:List (Key × V)} {H H':Hp} (S:LS d l F U Z L q4 ws bs xs cs wt kvs H) (D':av H' d l) (B:But d l H H'):LS d l F U Z L q4 ws bs xs cs wt kvs H' :=
 ⟨S.r.but S.D B,D',B _ _ S.nc.1 S.nc.2 S.hc,S.nc,B _ _ S.n1.1 S.n1.2 S.h1,S.n1,TVs.keep (B.keepT S.D) _ S.t1,B _ _ S.n2.1 S.n2.2 S.h2,S.n2,TVs.keep (B.keepT S.D) _ S.t2,TV.keep (B.keepT S.D) _ S.h3,B _ _ S.n4.1 S.n4.2 S.h4,S.n4⟩
theorem LS.same {d l F U Z L q4:Addr} {ws:List Str} {bs xs:List V} {cs wt:List Tr} {kvs:List (Key × V)} {H H':Hp} (S:LS d l F U Z L q4 ws bs xs cs wt kvs H) (s:ak H H'):LS d l F U Z L q4 ws bs xs cs wt kvs H':=S.but (S.D.same s) ((But.refl H).same s)
theorem CB (T:Txt w K mg) (L:Fun K "law" "law" pv f fd) (FO : @Dz1 P w K mg base) (Fa : @Dz0 P w K mg base) (FG : @Dz2 P w K mg base) (FD:Fn P w K mg base "_law_full" 2 ["_law_deal_here"] (zh)) (Fu:Fn P w K mg base "_law_told" 19 ["_law_hall"] (zn 212)) (Fk : @Ef P w K mg base) (FI : @ED P w K mg base) (FE : @E3 P w K mg base) (Ft : @Gg P w K mg base) (Fs : @EY P w K mg base):dY P w K mg base CX0 20 f fd ["_law_script"] (vT K):=by
 have nd:=zA.nd;refine L.ok zA (λvs H Q E h=>?_) (λcdv A outer s H vs Q E hr h=>?_) <;> obtain⟨a,dj,rfl,hS,c8,cI,k⟩:=h
 .rfl
 have hu:=pc hr;refine⟨_,(ai (ay 1 (ag FO (aa (pvM 0) (aa af ac))))
  (ai (ay 2 (ag FG (aa (pvM 1) (aa af ac))))
  (cX (bi (PW.pt (lh (aE (ud (sG hr)) (ag Fu (aa (ag FD (aa (pvM 1) ac)) ac)) (au (aa aq ac))) (iS (aE Ck (ar wY T.b_len (aa (ag Fk (aa (ag FD (aa (pvM 1) ac)) ac)) ac)) af)))) (ao (aA nA)) aK)
  (ai (ay 3 (ag FI (aa (pvM 1) (aa (aQ wI (pvM 2) bv (aV af)) ac))))
  (ai (ay 4 (ag FE (aa (pvM 1) (aa (pvM 3) ac))))
  (ai (ay 5 (au (aa (aM bo T.b_tuple (aa (pvM 3) ac)) (aa (aM bo T.b_tuple (aa (pvM 4) ac)) ac))))
  (ai (ay 6 (ag Fk (aa (pvM 5) ac)))
  (cX (bi (PW.pt (lh (aE (ud (sG hr)) (ag Fu (aa (pvM 5) ac)) (au (aa aq ac))) (iS (aE (BJ (Gb hr)) (pvM 6) (aM (tQ rfl) T.b_dict (aa (pvM 3) ac)))))) (ao (aA nA)) aK)
  (ai (ay 7 (ax dX (aQ nB (aB dI (pvM 2) af) bv (aV af)) aq))
  (cX (bi (qK (qO hu (pvM 7) (pvM 6))) (ao (ay 7 (ax dX (aQ nB (aB dI (pvM 2) af) bv (aV af)) aq))) aK)
  (ai (ay 8 (au (aa aq ac)))
  (ai (ay 9 (aM mq T.b_list (aa (pvM 4) ac)))
  (cX (bi (PW.pt (gV (qK (tZ hu (pvM 7) (pvM 6))) (iF (aE gD (ag Fa (aa (pvM 1) (aa af ac))) af)))) (ai (ay 10 (ag Fa (aa (pvM 1) (aa (ax aW (ar be T.b_len (aa (pvM 9) ac)) af) ac))))
  (ai (bY (fe Ih Ii fT (pvM 9) (aa (pvM 10) (aa (ag Ft (aa (pvM 1) (aa (pvM 4) (aa (pvM 7) ac)))) ac))))
  (ai (ay 8 (au (aa aq (aa (pvM 10) ac))))
  (ao (bi (aE bA (ag Fa (aa (pvM 1) (aa af ac))) af) (ao (bY (fe Ih Ii fT (pvM 9) (aa (ax aW (ax aW (pvM 10) af) (ag Fa (aa (pvM 1) (aa (ax fW (ar be T.b_len (aa (pvM 9) ac)) (pvM 10)) ac)))) (aa (ag Ft (aa (pvM 1) (aa (pvM 4) (aa (pvM 7) ac)))) ac))))) aK))))) aK)
  (ai (ay 11 (aM mq T.b_list (aa (pvM 3) ac)))
  (cX (bi (PW.pt (gV (aE gD (ar be T.b_len (aa (pvM 3) ac)) af) (iF (aE gD (ag Fa (aa (pvM 1) (aa af ac))) af)))) (ai (ay 12 (ag Fa (aa (pvM 1) (aa (ar be T.b_len (aa (pvM 3) ac)) ac))))
  (ai (ay 10 (ax aW (ax aW (pvM 12) af) (ag Fa (aa (pvM 1) (aa (ax fW (ar be T.b_len (aa (pvM 3) ac)) (pvM 12)) ac)))))
  (ai (bY (fe Ih Ii fT (pvM 11) (aa (pvM 10) (aa (aB dI (pvM 3) (pvM 12)) ac))))
  (ai (ay 8 (au (aa aq (aa (pvM 10) ac))))
  (cX (bi (PW.pt (gV (aE Ch (ax aW (pvM 10) af) (ar be T.b_len (aa (pvM 11) ac))) (iF (aE bA (ag Fa (aa (pvM 1) (aa af ac))) af)))) (ao (kh (ag Fs (aa (pvM 1) (aa (aB dI (pvM 3) (dz cy af)) ac))) (nO (pvM 11) (dz cy af) sH))) aK)
  (ao (bi (aE bA (ag Fa (aa (pvM 1) (aa af ac))) af) (ai (kh (ag Fs (aa (pvM 1) (aa (aB dI (pvM 3) (pvM 12)) ac))) (nO (pvM 11) (pvM 12) wl))
  (ao (ay 8 (au (aa aq (aa (pvM 12) ac)))))) aK))))))) aK)
  (ai (bi (aE (ud (sG hr)) (ag Fu (aa (au (aa (aM bo T.b_tuple (aa (pvM 11) ac)) (aa (aM bo T.b_tuple (aa (pvM 9) ac)) ac))) ac)) (pvM 8)) (ao (aA nA)) aK)
  (ao (aA (bH (Ee (sG hr)) (ag Fu (aa (pvM 5) ac)) (au (aa aq ac))))))))))))))))))))),?_⟩
 have r0:=BE cI;ctx_has v
 refine⟨a,dj,1,rfl,hS,c8,∅,∅,λd l H1 hd hl D1 cQ=>?_⟩
 have r1:=r0.same cQ;ctx_has v
 refine⟨d,l,_,rfl,D1,∅,∅,λca ws H2 cS ok dA h2 D2 B2=>?_⟩
 have b4:=D1.ne cS;have r2:=r1.but D1 B2;have cN:=vm ok;clear hS cQ r1 r0 D1 B2 cI ok cS hd hl;ctx_has v
 refine ku (λσ' H'=>σ'=[-a,-d,-ca,none,none,none,none,none,none,none,none,none,none]/\RT 212 H'/\av H' d l/\H' ca*>(ws.map V.str)) ?_ ?_
 .ctx_has v
  refine⟨d,l,rfl,D2,λv cs ts H3 tv lc lw ht D3 B3=>⟨v,cs,ts,rfl,tv,r2.but D2 B3,(),lw,λp H4 s4 h4=>⟨∅,λq hq=>?_⟩⟩⟩
  have pq:p≠q:=aj h4 hq
  have et:fE cs ts=[.str "sound"]:=by unfold fE;rw[ht]
  refine uM (cs:=cs) (ws:=ts) (by rw[ah pq];exact h4) (by rw[ae,et]) ⟨_,rfl,?_⟩
  have S4:=s4.trans (ak.upd0 (o:=.tup [.str "sound"]) hq);have D4:=D3.same S4;have B4:=B3.same S4;generalize upd H4 q (.tup [.str "sound"])=H5 at S4 D4 B4 ⊢;rw[if_neg ∅]
  refine⟨d,l,rfl,D4,λv cs ts H6 tv lc lw ht D6 B6=>?_⟩
  obtain⟨a1,us,rfl,dp,x1,U,rfl,⟨b1,df,rfl,dh,da⟩,x2,u2,rfl,_,rfl⟩:=tv;obtain⟨cc,g1,g2,g3,g4⟩:=gj (wJ ht) da;have cV:cc.length=40:=by have:=congrArg w9 g2;simp at this;omega
  refine⟨a1,b1,x2,df,cc,rfl,dp,dh,g1,(),g4,λp H7 dD s7 h7=>?_⟩
  ctx_has v h7
  rw[f_,cV];have B7:=(B4.trans B6).same s7;exact⟨r2.but D2 B7,D6.same s7,B7 _ _ b4.1 b4.2 h2⟩
 rintro σ H3 ⟨rfl,r3,D3,h3⟩
 ctx_has v h3
 intro p hp;rw[show dJ (ws.map V.str) none (some 7)=(ws.take 7).map V.str from gb V.str ws 7]
 refine⟨d,l,p,ws.take 7,rfl,D3.new hp,ae,by rw[m8];omega,cN.sub (IS _ _),λq1 bs cs H4 f1 bI bk cb cZ h4 D4 B4=>?_⟩
 have n1:=(D3.new (o:=.lst ((ws.take 7).map V.str)) hp).ne f1;have c1:=((But.refl H3).new (o:=.lst ((ws.take 7).map V.str)) hp).trans B4;refine⟨d,l,q1,bs,cs,rfl,D4,h4,bI,bk,cb,cZ,n1.1,n1.2,λq2 xs wt H5 f2 tx b6 cL h5 D5 B5=>?_⟩
 have n2:=D4.ne f2;have cg:=B5 _ _ n1.1 n1.2 h4;have lb:=(TVs.keep (B5.keepT D4) _ bI).len;refine⟨q1,rfl,bs,cg,λU a4=>⟨q2,rfl,xs,by rw[ah (aj h5 a4)];exact h5,λu2 a6=>⟨∅,λq3 bd=>?_⟩⟩⟩
 have S5:ak H5 (upd (upd (upd H5 U (.tup bs)) u2 (.tup xs)) q3 (.tup [.ref U,.ref u2])):=((ak.upd0 a4).trans (ak.upd0 a6)).trans (ak.upd0 bd)
 have e3:upd (upd (upd H5 U (.tup bs)) u2 (.tup xs)) q3 (.tup [.ref U,.ref u2]) q3>>[.ref U,.ref u2]:=ae
 have aZ:U≠u2:=by rintro rfl;rw[ae] at a6;cases a6
 have bD:U≠q3:=by rintro rfl;rw[ah aZ,ae] at bd;cases bd
 have b9:u2≠q3:=by rintro rfl;rw[ae] at bd;cases bd
 have e1:upd (upd (upd H5 U (.tup bs)) u2 (.tup xs)) q3 (.tup [.ref U,.ref u2]) U>>bs:=by rw[ah bD,ah aZ,ae]
 have e2:upd (upd (upd H5 U (.tup bs)) u2 (.tup xs)) q3 (.tup [.ref U,.ref u2]) u2>>xs:=by rw[ah b9,ae]
 have D6:=D5.same S5;have B6:=(c1.trans B5).same S5;generalize upd (upd (upd H5 U (.tup bs)) u2 (.tup xs)) q3 (.tup [.ref U,.ref u2])=H6 at S5 e1 e2 e3 D6 B6 ⊢;have bG:=TVs.keep (ak.keepT S5) _ (TVs.keep (B5.keepT D4) _ bI);have ce:=TVs.keep (ak.keepT S5) _ tx;have bn:dR [] 0 cs=none:=kM bk cb (λt _=>md)
 obtain⟨cc,g1,g2,g3,g4⟩:=gj bn bG;have cV:cc.length=cs.length:=by have:=congrArg w9 g2;simpa using this
 refine⟨q3,U,.ref u2,bs,cc,rfl,e3,e1,g1,(),g4,λq4 H7 f4 s7 h7=>?_⟩
 have nr : ∀s,(cu (cc.map λc=>((h9 c.1:Key),V.ref c.2.1)) (h9 s)).isSome=decide (s∈cs.map bJ):=λs=>by rw[oO,g2]
 have S7:LS d l ca q1 q2 q3 q4 ws bs xs cs wt (cc.map λc=>((h9 c.1:Key),V.ref c.2.1)) H7:=⟨r3.but D3 (B6.same s7),D6.same s7,s7 _ _ (B6 _ _ b4.1 b4.2 h3),b4,s7 _ _ (S5 _ _ cg),n1,TVs.keep (ak.keepT s7) _ bG,s7 _ _ (S5 _ _ h5),n2,TVs.keep (ak.keepT s7) _ ce,TV.keep (ak.keepT s7) _ ⟨q3,_,rfl,e3,_,_,rfl,⟨U,_,rfl,e1,bG⟩,_,_,rfl,⟨u2,_,rfl,e2,ce⟩,rfl⟩,h7,D6.ne f4⟩
 have g7:=g1.keep (ak.keepT s7);have et:fE cs wt=[.str "sound"]:=by rw[rF bn];unfold qI;rw[jT b6]
 clear S5 e1 e2 e3 D6 B6 bG ce g1 h7 s7 f4 aZ bD b9 a4 a6 bd cg h5 D5 B5 B4 c1 D4 h4 bI tx f2 f1 hp h3 D3 r3 r2 D2 h2;have gR : ∀{s:Str} {H:Hp},cT H7 bs cc->True:=λ_=>g9
 have mk:eN [] (cc.map λc=>((h9 c.1:Key),V.ref c.2.1))=(cc.map λc=>((h9 c.1:Key),V.ref c.2.1)):=by
  refine sX ?_
  rw[List.nil_append,Ij,show((λx:Key × V=>x.1) ∘ λc:Str × Addr × List Int=>((h9 c.1:Key),V.ref c.2.1))=(λs=>(h9 s:Key)) ∘ (λc:Str × Addr × List Int=>c.1) from rfl,<- Ij]
  exact(Js.mpr (g4.imp λh e=>h (by injection e)))
 have al : ∀{H},cT H bs cc->qR K H (cc.map λc=>((h9 c.1:Key),V.ref c.2.1)) (cc.map λc=>((h9 c.1:Key),V.ref c.2.1)):=λh=>sj h g4
 have pr : ∀{H},cT H bs cc->yd H bs (cc.map λc=>((h9 c.1:Key),V.ref c.2.1)):=λh=>oM h
 have dn:(cc.map λc=>((h9 c.1:Key),V.ref c.2.1)).length<=38:=by rw[f_];omega
 generalize (cc.map λc=>((h9 c.1:Key),V.ref c.2.1))=kvs at S7 nr mk al pr dn ⊢
 ctx_has v
 refine ku (λσ' H'=>σ'=[-a,-d,-ca,-q1,-q2,-q3,-q4,none,none,none,none,none,none]/\LS d l ca q1 q2 q3 q4 ws bs xs cs wt kvs H') ?_ ?_
 .ctx_has v
  refine⟨.ref q3,cs,wt,rfl,S7.h3,S7.r,(),(),λp H8 s8 h8=>⟨∅,λq hq=>?_⟩⟩
  have pq:p≠q:=aj h8 hq
  refine uM (cs:=cs) (ws:=wt) (by rw[ah pq];exact h8) (by rw[ae,et]) ⟨_,rfl,?_⟩
  have S8:=s8.trans (ak.upd0 (o:=.tup [.str "sound"]) hq);have L8:=S7.same S8;have g8:=g7.keep (ak.keepT S8);generalize upd H8 q (.tup [.str "sound"])=H9 at S8 L8 g8 ⊢;rw[if_neg ∅]
  refine⟨q1,rfl,bs,kvs,.inr L8.h1,pr g8,pj (aw ()),λe he=>?_⟩
  rw[mk];refine⟨q4,rfl,e,rfl,kvs,kvs,by rw[ah (aj L8.h4 he)];exact L8.h4,ae,rfl,al (g8.keep (ak.keepT (ak.upd0 he))),⟨_,rfl,by rw[if_neg ∅];exact L8.same (ak.upd0 he)⟩⟩
 rintro σ H8 ⟨rfl,S8⟩
 clear al pr g7 g4 g3 mk S7;have ck:=S8.hc;obtain⟨w7,cz⟩ : ∃w7,ws[7]? = some w7:=⟨ws[7]'(),j6 ()⟩
 have cf:atI (ws.map V.str) 7=some (.str w7):=bh (j:=7) (by rw[q_,cz];rfl)
 have l7:w7.length<=8:=by
  have:=cN.2 w7 (j7 cz)
  simp only[nmB,fx,decide_eq_true_eq] at this;exact this.1.1.2
 have l6:=Ix w7 none (some 6);have l5:=Ix w7 none (some 5);ctx_has v ck
 refine⟨_,cf,w7,rfl,pj (aw ()),pj (aw (by show _+2<=1000;omega)),?_⟩
 refine ku (λσ' H'=>∃st:Str,σ'=[-a,-d,-ca,-q1,-q2,-q3,-q4,some (.str st),none,none,none,none,none]/\st.length<=20/\LS d l ca q1 q2 q3 q4 ws bs xs cs wt kvs H') ?_ ?_
 .have h84:=S8.h4
  ctx_has v h84 ck
  refine bR (λ_=>?_) (λ_=>?_)
  .refine⟨_,cf,w7,rfl,pj (aw ()),pj (aw (by show _+3<=1000;omega)),?_,S8⟩
   rw[jI];show _+3<=20;omega
  .refine⟨?_,S8⟩
   rw[jI];show _+2<=20;omega
 rintro σ H9 ⟨st,rfl,cR,S9⟩
 clear S8 ck cz cf l6 l5 l7;have cv:=S9.h2;ctx_has v cv
 kpf_say (H9,U,a4,g1,s1) al G1 (HO.tup [V.str "sound"])
 refine⟨xs,s1 _ _ cv,λq6 a9=>?_⟩
 have S1:=S9.same s1;have cr:But d l G1 (upd G1 q6 (.lst xs)):=(But.refl G1).new a9
 have f6:=a9;have cB:U≠q6:=aj g1 a9
 have n6:=(S9.D.same s1).ne a9;have bQ:upd G1 q6 (.lst xs) U>>[V.str "sound"]:=by rw[ah cB];exact g1
 have bE:upd G1 q6 (.lst xs) q6*>xs:=ae
 have a2:=S9.same (s1.trans (ak.upd0 (o:=.lst xs) a9));have cW:=S9.D.ne a4;generalize upd G1 q6 (.lst xs)=dH at bQ bE a2 cr ⊢;clear cv a4 g1 a9 S9 s1;refine ku (λσ' H'=>∃(u8:Addr) (bx:List V) (bt:List Tr) (b2:Option V),σ'=[-a,-d,-ca,-q1,-q2,-q3,-q4,some (.str st),-u8,-q6,b2,none,none]/\LS d l ca q1 q2 q3 q4 ws bs xs cs wt kvs H'/\H' q6*>bx/\TVs H' bx bt/\bt.length<=40/\H' u8>>(qI (cs.map bJ) bt)) ?_ ?_
 .have h4:=a2.h4
  have dv:=a2.D;ctx_has v h4
  refine bR (λcJ=>?_) (λ_=>⟨a2,xs,bE,wt,a2.t2,(),by rw[bQ,<- rF bn,et]⟩)
  have c6:st∉cs.map bJ:=by
   rw[nr] at cJ;exact of_decide_eq_false cJ
  refine aI dv ∅ ∅ λr cD r0 r1 a3 an=>⟨r,rfl,?_⟩
  have aD:=an q6 _ n6.1 n6.2 bE;have c4:U≠d/\U≠l:=cW
  refine bR (λ_=>?_) (λ_=>⟨a2.but a3 an,xs,aD,wt,(a2.but a3 an).t2,(),by rw[an U _ c4.1 c4.2 bQ,<- rF bn,et]⟩)
  refine⟨xs,aD,?_⟩
  have dE:=S1.t2.len;refine aI a3 () () λpl aR p0 p1 bN b7=>?_
  have aG:=(a2.but a3 an).but bN b7;have cM:=b7 q6 _ n6.1 n6.2 aD;have du:=(cr.trans an).trans b7;refine⟨⟨_,cM⟩,d,l,q2,st,xs,wt,cs.map bJ,rfl,bN,aG.h2,aG.n2.1,aG.n2.2,aG.t2,(λt ht=>vR (b6 t ht)),cL,cR,c6,λv t aJ cY b8 aX am=>?_⟩
  have cE:=am q6 _ n6.1 n6.2 cM;refine⟨pl,rfl,xs,cE,p0,(),aw (),∅,λu8 aL=>?_⟩
  obtain⟨n,rfl⟩ : ∃n:Nat,pl=(n:Int):=⟨pl.toNat,()⟩
  have hn:n<=wt.length:=()
  rw[show(n:Int).toNat=n from rfl,show xs.take n++v :: xs.drop n=cp xs n v from rfl] at aL ⊢
  have kp:bz aJ (upd aJ q6 (.lst (cp xs n v))):=bc cE
  have tb:=nT (n:=n) (TVs.keep kp _ (aG.but aX am).t2) (TV.keep kp _ cY);have cw:upd aJ q6 (.lst (cp xs n v)) q6*>(cp xs n v):=ae
  have aO:=aX.put n6.1 n6.2 (o:=.lst (cp xs n v));have a8:But d l G1 (upd aJ q6 (.lst (cp xs n v))):=(du.trans am).put f6
  generalize upd aJ q6 (.lst (cp xs n v))=br at aL kp tb cw aO a8 ⊢;have n8:=aO.ne aL;have aH:ak br (upd br u8 (.tup [.str "wish",.int (n:Int)])):=ak.upd0 aL
  have d1:upd br u8 (.tup [.str "wish",.int (n:Int)]) u8>>[.str "wish",.int (n:Int)]:=ae
  have d8:(cp wt n t).length=wt.length+1:=eJ
  have dG:(cp xs n v).length=xs.length+1:=eJ
  have dW:qI (cs.map bJ) (cp wt n t)=[.str "wish",.int (n:Int)]:=wa (gP hn) b8 (λu hu=>by
   rw[eC hn (h_ _)] at hu;exact b6 u (G3 hu))
  refine aI (aO.same aH) ∅ ∅ λr2 bj d5 dB aN a7=>⟨rfl,?_⟩
  have bS:=a7 q6 _ n6.1 n6.2 (aH _ _ cw);have bg:=a7 u8 _ n8.1 n8.2 d1;have cj:=(a8.same aH).trans a7;have bV:=TVs.keep (a7.keepT (aO.same aH)) _ (TVs.keep (ak.keepT aH) _ tb);refine bR (λ_=>?_) (λ_=>⟨S1.but aN cj,_,bS,_,bV,(),by rw[bg,dW]⟩)
  refine⟨⟨_,bS⟩,_,rfl,_,bS,_,rfl,aI aN () () λr3 dt dL d9 as ap=>⟨r3,rfl,?_⟩⟩
  have dk:=ap q6 _ n6.1 n6.2 bS;have bM:=S1.but as (cj.trans ap);refine⟨d,l,q2,st,xs,wt,cs.map bJ,rfl,as,bM.h2,bM.n2.1,bM.n2.2,bM.t2,(λt ht=>vR (b6 t ht)),cL,cR,c6,λv2 t2 bB cO db az Z=>?_⟩
  have cP:=Z q6 _ n6.1 n6.2 dk;obtain⟨m,em⟩ : ∃m:Nat,(n:Int)+1+r3=(m:Int):=⟨((n:Int)+1+r3).toNat,()⟩
  have hm:m<=(cp wt n t).length:=()
  have kp:bz bB (upd bB q6 (.lst (cp (cp xs n v) m v2))):=bc cP
  have dw:qI (cs.map bJ) (cp (cp wt n t) m t2)=[.str "wish",.int (n:Int)]:=wa (t:=t) (by rw[Br hm (),gP hn]) b8 (λu hu=>by
   rw[eC hm (),eC hn (h_ _)] at hu
   exact b6 u (G3 hu))
  rw[em];have dq:u8≠q6:=t6 (aj cw aL)
  exact⟨_,cP,(),(),aw (),S1.but (az.put n6.1 n6.2) (((cj.trans ap).trans Z).put f6),_,ae,_,nT (n:=m) (TVs.keep kp _ (TVs.keep (Z.keepT as) _ (TVs.keep (ap.keepT aN) _ bV))) (TV.keep kp _ cO),by rw[eJ];omega,by rw[ah dq,Z u8 _ n8.1 n8.2 (ap u8 _ n8.1 n8.2 bg),dw]⟩
 rintro σ a0 ⟨u8,bx,bt,b2,rfl,bb,a9,dg,d7,aL⟩
 clear S1 cr f6 a2 bQ bE cW cB;have di:=bb.h1;ctx_has v di
 intro q7 f7;have n7:=bb.D.ne f7;have aF:=bb.same (ak.upd0 (o:=.lst bs) f7);have an:But d l a0 (upd a0 q7 (.lst bs)):=(But.refl a0).new f7
 have aD:upd a0 q7 (.lst bs) q7*>bs:=ae
 generalize upd a0 q7 (.lst bs)=cD at aF an aD ⊢;have LX : ∀{H'},av H' d l->But d l a0 H'->LS d l ca q1 q2 q3 q4 ws bs xs cs wt kvs H'/\H' q6*>bx/\TVs H' bx bt:=λD B=>⟨bb.but D B,B _ _ n6.1 n6.2 a9,TVs.keep (B.keepT bb.D) _ dg⟩
 refine ku (λσ' H'=>∃(u9:Addr) (ox:List V) (ot:List Tr) (b2 cC:Option V),σ'=[-a,-d,-ca,-q1,-q2,-q3,-q4,some (.str st),-u9,-q6,b2,-q7,cC]/\av H' d l/\But d l a0 H'/\H' q7*>ox/\TVs H' ox ot/\ot.length<=39/\H' u9>>(fE ot bt)) ?_ ?_
 .have h121:=aF.h1
  have a3:=aF.D;have d4:=aF.t1.len;have cG : ∀{H'},But d l a0 H'->H' u8>>(fE cs bt):=λB=>by rw[rF bn];exact(B.keepT bb.D) _ _ aL
  ctx_has v h121
  refine bR (λh0=>?_) (λ_=>⟨a3,an,bs,aD,cs,aF.t1,(),cG an⟩)
  refine aI a3 ∅ ∅ λr aJ r0 r1 aX am=>⟨r,rfl,?_⟩
  refine bR (λ_=>?_) (λ_=>⟨aX,an.trans am,bs,am q7 _ n7.1 n7.2 aD,cs,TVs.keep (am.keepT a3) _ aF.t1,(),cG (an.trans am)⟩)
  have bu:=am q1 _ n1.1 n1.2 h121;refine⟨bs,bu,aI aX () () λf br f0 f1 aO a8=>?_⟩
  have bw:=a8 q1 _ n1.1 n1.2 bu;obtain⟨fn,rfl⟩ : ∃fn:Nat,f=(fn:Int):=⟨f.toNat,()⟩
  refine⟨fn,rfl,bs,bw,fn,rfl,aI aO () () λg aP g0 g1 c5 bq=>?_⟩
  obtain⟨pl,d3⟩ : ∃pl:Nat,(fn:Int)+1+g=(pl:Int):=⟨((fn:Int)+1+g).toNat,()⟩
  have bW:=bq q1 _ n1.1 n1.2 bw;have aS:=bq q7 _ n7.1 n7.2 (a8 q7 _ n7.1 n7.2 (am q7 _ n7.1 n7.2 aD));have dc:fn < bs.length:=()
  have hv:bs[fn]? = some bs[fn]:=j6 dc
  generalize bs[fn]=v at hv;obtain⟨c,hc,tc⟩:=aF.t1.at hv;have bf:pl<=cs.length:=()
  have bX:=(an.trans am).trans (a8.trans bq);have co:bz cD aP:=((am.trans a8).trans bq).keepT a3
  refine⟨g,rfl,?_⟩
  rw[d3];refine⟨⟨_,aS⟩,fn,rfl,bs,bW,v,bh hv,bs,aS,(),(),aw (),∅,λu9 a5=>?_⟩
  rw[show(pl:Int).toNat=pl from rfl,show bs.take pl++v :: bs.drop pl=cp bs pl v from rfl] at a5 ⊢
  have kp:bz aP (upd aP q7 (.lst (cp bs pl v))):=bc aS
  have cq:=nT (n:=pl) (TVs.keep kp _ (TVs.keep co _ aF.t1)) (TV.keep kp _ (TV.keep co _ tc));have bg:upd aP q7 (.lst (cp bs pl v)) q7*>(cp bs pl v):=ae
  have aN:=c5.put n7.1 n7.2 (o:=.lst (cp bs pl v));have a7:But d l a0 (upd aP q7 (.lst (cp bs pl v))):=bX.put f7
  generalize upd aP q7 (.lst (cp bs pl v))=bj at a5 kp cq bg aN a7 ⊢;have ba:ak bj (upd bj u9 (.tup [.str "cell",.int (pl:Int)])):=ak.upd0 a5
  have bO:upd bj u9 (.tup [.str "cell",.int (pl:Int)]) u9>>[.str "cell",.int (pl:Int)]:=ae
  have as:=aN.same ba;have ap:=a7.same ba;have aT:=ba _ _ bg;have bL:=TVs.keep (ak.keepT ba) _ cq;generalize upd bj u9 (.tup [.str "cell",.int (pl:Int)])=dt at ba bO as ap aT bL ⊢;clear bX co bW bw bu am a8 bq aX aO c5 aN a7 cq bg ba kp a5 aS;have li:(cp bs pl v).length=bs.length+1:=eJ
  refine ku (λσ' H'=>∃(ox:List V) (ot:List Tr),σ'=[-a,-d,-ca,-q1,-q2,-q3,-q4,some (.str st),-u9,-q6,some (.int (pl:Int)),-q7,some (.int (fn:Int))]/\av H' d l/\But d l a0 H'/\H' q7*>ox/\TVs H' ox ot/\ot.length=cs.length+1/\ot.take pl=cs.take pl/\ot[pl]? = some c/\H' u9>>[.str "cell",.int (pl:Int)]) ?_ ?_
  .ctx_has v aT
   refine bR (λdM=>?_) (λ_=>⟨as,ap,_,bL,eJ,eC bf (h_ _),gP bf,bO⟩)
   refine aI as ∅ ∅ λr bB _ _ az Z=>⟨rfl,?_⟩
   refine bR (λ_=>?_) (λ_=>⟨az,ap.trans Z,_,Z q7 _ n7.1 n7.2 aT,_,TVs.keep (Z.keepT as) _ bL,eJ,eC bf (h_ _),gP bf,Z.keepT as _ _ bO⟩)
   have cK:=(LX az (ap.trans Z)).1;obtain⟨y,hy⟩ : ∃y,bs[bs.length - 1]? = some y:=⟨_,j6 ()⟩
   obtain⟨c2,de,dr⟩:=cK.t1.at hy;refine⟨bs,cK.h1,y,C6 hy,d,l,y,c2,rfl,az,dr,l9.mp bk c2 (j7 de),λv' t' cn ci bT bp ad=>?_⟩
   have bU:=ad q7 _ n7.1 n7.2 (Z q7 _ n7.1 n7.2 aT);have lc:(cp cs pl c).length=cs.length+1:=eJ
   have kp:bz cn (upd cn q7 (.lst ((cp bs pl v).set ((cp bs pl v).length - 1) v'))):=bc bU
   refine⟨q7,_,-1,_,rfl,rfl,bU,yR (),bp.put n7.1 n7.2,((ap.trans Z).trans ad).put f7,_,ae,_,qm (n:=(cp bs pl v).length - 1) (TV.keep kp _ ci) (TVs.keep kp _ (TVs.keep ((Z.trans ad).keepT as) _ bL)),by rw[length_set];exact lc,?_,?_,kp _ _ ((Z.trans ad).keepT as _ _ bO)⟩
   .rw[List.take_set_of_le (),eC bf (h_ _)]
   .rw[Ia (),gP bf]
  have bP : ∀m:Nat,(∀u∈cs.take m,aC u=true)/\((cs.take m).map bJ).Nodup:=λm=>⟨λu hu=>l9.mp bk u (G3 hu),by rw[map_take];exact cb.sublist (IS _ _)⟩
  rintro σ bB ⟨ox,ot,rfl,az,Z,bK,b5,lo,bC,d2,a5⟩
  have d6:=b5.len;ctx_has v
  refine aI az ∅ ∅ λr cn _ _ bp ad=>⟨rfl,?_⟩
  refine bR (λ_=>?_) (λ_=>⟨bp,Z.trans ad,ox,ad q7 _ n7.1 n7.2 bK,ot,TVs.keep (ad.keepT az) _ b5,(),?_⟩)
  .have S20:=(LX bp (Z.trans ad)).1
   obtain⟨c3,d0,dl⟩:=S20.t1.at hv;refine⟨bs,S20.h1,v,bh hv,d,l,v,c3,rfl,bp,dl,l9.mp bk c3 (j7 d0),λv' t' c0 ci bT dm cm=>?_⟩
   have bZ:=cm q7 _ n7.1 n7.2 (ad q7 _ n7.1 n7.2 bK);refine⟨ox,bZ,(),(),∅,λp hp=>?_⟩
   rw[show(fn:Int).toNat=fn from rfl] at hp ⊢
   have kp:bz c0 (upd c0 q7 (.lst (ox.set fn v'))):=bc bZ
   have p7:q7≠p:=by rintro rfl;rw[ae] at hp;cases hp
   have kq:=kp.trans (ak.keepT (ak.upd0 (o:=.tup [.str "cell",.int (fn:Int)]) hp));have cF:(ot.set fn t').take fn=cs.take fn:=by
    rw[List.take_set_of_le (h_ _)];have:=congrArg (List.take fn) bC
    rw[take_take,take_take,Jm ()] at this
    exact this
   refine⟨(dm.put n7.1 n7.2).new hp,(((Z.trans ad).trans cm).put f7).new hp,ox.set fn v',by rw[ah p7,ae],ot.set fn t',qm (TV.keep kq _ ci) (TVs.keep kq _ (TVs.keep ((ad.trans cm).keepT az) _ b5)),by rw[length_set];omega,?_⟩
   rw[ae,zN (rh (n:=fn) (t:=t') (Iu ()) (.inl bT) (by rw[cF];exact(bP fn).1) (by rw[cF];exact(bP fn).2))]
  .rw[zN (rh d2 (.inr (by rw[bC];exact HF (j7 (i:=fn) (by rw[IV ()];exact hc)))) (by rw[bC];exact(bP pl).1) (by rw[bC];exact(bP pl).2))]
   exact ad.keepT az _ _ a5
 rintro σ aR ⟨u9,ox,ot,b2,cC,rfl,bN,b7,bK,b5,dF,a5⟩
 obtain⟨aG,g6,cA⟩:=LX bN b7;ctx_has v bK
 intro U a4;refine⟨bx,by rw[ah (aj g6 a4)];exact g6,λu2 a6=>⟨∅,λq8 b3=>?_⟩⟩
 have aY:ak aR (upd (upd (upd aR U (.tup ox)) u2 (.tup bx)) q8 (.tup [.ref U,.ref u2])):=((ak.upd0 a4).trans (ak.upd0 a6)).trans (ak.upd0 b3)
 have e3:upd (upd (upd aR U (.tup ox)) u2 (.tup bx)) q8 (.tup [.ref U,.ref u2]) q8>>[.ref U,.ref u2]:=ae
 have aZ:U≠u2:=by rintro rfl;rw[ae] at a6;cases a6
 have bD:U≠q8:=by rintro rfl;rw[ah aZ,ae] at b3;cases b3
 have b9:u2≠q8:=by rintro rfl;rw[ae] at b3;cases b3
 have e1:upd (upd (upd aR U (.tup ox)) u2 (.tup bx)) q8 (.tup [.ref U,.ref u2]) U>>ox:=by rw[ah bD,ah aZ,ae]
 have e2:upd (upd (upd aR U (.tup ox)) u2 (.tup bx)) q8 (.tup [.ref U,.ref u2]) u2>>bx:=by rw[ah b9,ae]
 generalize upd (upd (upd aR U (.tup ox)) u2 (.tup bx)) q8 (.tup [.ref U,.ref u2])=aJ at aY e1 e2 e3 ⊢;refine⟨.ref q8,ot,bt,rfl,⟨q8,_,rfl,e3,_,_,rfl,⟨U,_,rfl,e1,TVs.keep (ak.keepT aY) _ b5⟩,_,_,rfl,⟨u2,_,rfl,e2,TVs.keep (ak.keepT aY) _ cA⟩,rfl⟩,aG.r.same aY,(),(),λp br c9 dy=>?_⟩
 refine uM (cs:=ot) (ws:=bt) dy (c9 _ _ (aY _ _ a5)) ⟨_,rfl,?_⟩
 rw[if_neg ∅]
 have cx:=(aG.same aY).same c9;refine⟨.ref q3,cs,wt,rfl,cx.h3,cx.r,(),(),λp2 aP aH cU=>⟨∅,λq9 c7=>?_⟩⟩
 refine Dk (cs:=cs) (ws:=wt) (by rw[ah (aj cU c7)];exact cU) (by rw[ae,et]) ?_
 exact k _ (AJ ((cx.r.same aH).same (ak.upd0 c7)))
theorem iC {a:Str} {g:Tr->Bool} (KB:K.In base) (L:FnL K mg x st [a]) (aa:mg x=some (.ref (aF mg x))) (F:Fn P w K mg base x j [a] (spB R0 g)) (T:Txt w K mg) (LT:FnL K mg "is_tuple_of" bW ["thing","is_one","least","most"]) :
  Fn P w K mg base "is_tuple_of" (j+3) ["thing","is_one","least","most"] (jK (aF mg x) R0 g):=by
 obtain⟨f,fd,F,m,kp,b⟩:=F;have ef:f=aF mg x:=by rw[aa] at m;injection m with m;injection m with m;exact m.symm
 subst ef;obtain⟨f',ad,U,Z,b'⟩:=L;have ac:f'=aF mg x:=by rw[aa] at Z;injection Z with Z;injection Z with Z;exact Z.symm
 subst ac;obtain⟨oc,od,kV,doc,pm,an,cdv,ct,osl,e,lk,_⟩:=U.ex;exact gW (λ_ _ _ _=>g9) ⟨_,_,_,_,KB _ _ lk⟩ b F T LT
theorem iD {pt:Addr} {R:Hp->Prop} {g g':List Tr->Bool} (F : ∀H,RT pt H->R H) (e : ∀l,g' l=g l) (vs:List V) (H:Hp) (Q:VK) (E:XK) (h:gF (RT pt) g' vs H Q E):gF R g vs H Q E:=by
 obtain⟨v,l,rfl,a,b,c⟩:=h;exact⟨v,l,rfl,a,F _ b,λH' s=>by rw[<- e];exact c H' s⟩
theorem ft6 {pt:Addr} {f0:Addr} {f1:Addr} {U:Addr} {Z:Addr} {L:Addr} {F:Addr}
  (F0:Fn P w K mg base "is_unlike" 6 ["wish"] (gF R0 cV)) (m0:mg "is_unlike" = some (.ref f0)) (n0:nsIn K a "unlike" = some (-f0)) (F1:Fn P w K mg base "is_many" 8 ["wish"] (gF R0 jq)) (m1:mg "is_many" = some (.ref f1)) (n1:nsIn K a "many" = some (-f1)) (F2:Fn P w K mg base "is_sum" 9 ["wish"] (gF R0 rR)) (m2:mg "is_sum" = some (.ref U)) (n2:nsIn K a "sum" = some (-U)) (F3:Fn P w K mg base "is_table" 13 ["wish"] (gF (RT pt) gi)) (m3:mg "is_table" = some (.ref Z)) (n3:nsIn K a "table" = some (-Z)) (F4:Fn P w K mg base "is_way" 9 ["wish"] (gF R0 so)) (m4:mg "is_way" = some (.ref L)) (n4:nsIn K a "way" = some (-L)) (F5:Fn P w K mg base "is_behind" 6 ["wish"] (gF R0 dk)) (m5:mg "is_behind" = some (.ref F)) (n5:nsIn K a "behind" = some (-F)) :
  ∀y∈six,FnT P w K mg base a y 13 ["wish"] (gF (RT pt) (bp y)):=by
 intro y hy;simp only[six,i4,md,or_false] at hy;rcases hy with rfl | rfl | rfl | rfl | rfl | rfl
 .exact kE F0 m0 n0 ∅ (iD (λ_ _=>g9) eB)
 .exact kE F1 m1 n1 ∅ (iD (λ_ _=>g9) lW)
 .exact kE F2 m2 n2 ∅ (iD (λ_ _=>g9) uf)
 .exact kE F3 m3 n3 ∅ (iD (λ_ h=>h) jD)
 .exact kE F4 m4 n4 ∅ (iD (λ_ _=>g9) tJ)
 .exact kE F5 m5 n5 ∅ (iD (λ_ _=>g9) fS)
theorem Ba {es:Array JQ} (h:(es.toList.all λe=>match e.key with | .str _ _=>true | _=>false)=true):StrKeys es:=λe L=>by
 have:=l9.mp h e (Jt.mpr L)
 cases F:e.key with
 | str n t=>exact⟨n,t,rfl⟩
 | _=>rw[F] at this;cases this
theorem Hn {L N:Addr} {q:Str} {bs:List Value} {sub:List Value} {d1 d2:Option Addr} {U c2:Value} {cd:ClassData} {es:Array JQ}
  (cl:XCl K C D) (ob:K.lookup C=some (excClassObj nm q C N bs (.ref D :: dh) hdct sn sub ab col dd k0 k1 k2 k3 k5 "ValueError.__new__")) (Z:K.lookup D=some ⟨U,d1,.cls cd,sl⟩) (tn:cd.ns=L) (t2:K.lookup L=some ⟨c2,d2,.dict es ep,sl2⟩)
  (sk:(es.toList.all λe=>match e.key with | .str _ _=>true | _=>false)=true) (nf:nsFind es "__init__" = none) (F:Jb K (.ref C) "__init__" = some (-f)) (fn:isFn K (.ref f)=true) (kp:IT K (.ref C)=true):XMk K C D f :=
 ⟨cl,⟨_,_,_,_,_,_,_,_,_,_,_,_,_,_,_,ob⟩,⟨_,_,_,_,_,_,_,Z,by rw[tn];exact t2,rfl,Ba sk,nf⟩,F,fn,kp⟩
abbrev AT (K:e_) (x:Str) (f:Addr):Prop:=nsIn K i_ x=some (some (i8 f))
abbrev LK (K:e_) (f:Addr) (x:Str) (st:Stmt) (oc:Value) (od:Option Addr) (sl:Array (Option Value)) (kV F pm:Value) (L:Option Addr) (cd ct:Value):Prop:=K.lookup f=some ⟨oc,od,.func (fnOf x x (bQ st) (br st) (am st) .none kV F pm L cd ct),sl⟩
abbrev CK (K:e_) (cd:Value) (x:Str):Prop:=codeIn K cd x=true
abbrev KK (K:e_) (f:Addr):Prop:=IT K (i8 f)=true
abbrev NB (K:e_) (x:Str):Prop:=nsIn K i_ x=some none
theorem EX {us:List α} (h:us.length=1) : ∃F,us=[F]:=by
 match us,h with
 | [F],_=>exact⟨F,rfl⟩
theorem Co {us:List α} (h:us.length=2) : ∃L F,us=[L,F]:=by
 match us,h with
 | [L,F],_=>exact⟨L,F,rfl⟩
theorem Gi {us:List α} (h:us.length=3) : ∃U F L,us=[U,F,L]:=by
 match us,h with
 | [U,F,L],_=>exact⟨U,F,L,rfl⟩
theorem E2 {us:List α} (h:us.length=4) : ∃Z F U L,us=[Z,F,U,L]:=by
 match us,h with
 | [Z,F,U,L],_=>exact⟨Z,F,U,L,rfl⟩
theorem HA {us:List α} (h:us.length=5) : ∃u0 F Z U L,us=[u0,F,Z,U,L]:=by
 match us,h with
 | [u0,F,Z,U,L],_=>exact⟨u0,F,Z,U,L,rfl⟩
theorem Hz {us:List α} (h:us.length=6) : ∃u0 F u2 Z U L,us=[u0,F,u2,Z,U,L]:=by
 match us,h with
 | [u0,F,u2,Z,U,L],_=>exact⟨u0,F,u2,Z,U,L,rfl⟩
theorem Hx {us:List α} (h:us.length=7) : ∃u0 F u2 Z U L u6,us=[u0,F,u2,Z,U,L,u6]:=by
 match us,h with
 | [u0,F,u2,Z,U,L,u6],_=>exact⟨u0,F,u2,Z,U,L,u6,rfl⟩
theorem Hy {us:List α} (h:us.length=8) : ∃u0 F u2 Z U L u6 u7,us=[u0,F,u2,Z,U,L,u6,u7]:=by
 match us,h with
 | [u0,F,u2,Z,U,L,u6,u7],_=>exact⟨u0,F,u2,Z,U,L,u6,u7,rfl⟩
theorem Hw {us:List α} (h:us.length=9) : ∃u0 F u2 u3 U L u6 u7 Z,us=[u0,F,u2,u3,U,L,u6,u7,Z]:=by
 match us,h with
 | [u0,F,u2,u3,U,L,u6,u7,Z],_=>exact⟨u0,F,u2,u3,U,L,u6,u7,Z,rfl⟩
theorem GW {us:List α} (h:us.length=10) : ∃u0 F u2 u3 Z U u6 u7 u8 L,us=[u0,F,u2,u3,Z,U,u6,u7,u8,L]:=by
 match us,h with
 | [u0,F,u2,u3,Z,U,u6,u7,u8,L],_=>exact⟨u0,F,u2,u3,Z,U,u6,u7,u8,L,rfl⟩
theorem He {us:List α} (h:us.length=11) : ∃u0 L u2 u3 u4 Z u6 u7 u8 U F,us=[u0,L,u2,u3,u4,Z,u6,u7,u8,U,F]:=by
 match us,h with
 | [u0,L,u2,u3,u4,Z,u6,u7,u8,U,F],_=>exact⟨u0,L,u2,u3,u4,Z,u6,u7,u8,U,F,rfl⟩
local macro_rules | `(tactic| ctx_has b1) => `(tactic| exact λ_ _ _ _ _ _ us hl => by obtain ⟨u0, ee⟩ := EX hl; subst ee; rfl)
local macro_rules | `(tactic| ctx_has b2) => `(tactic| exact λ_ _ _ _ _ _ us hl => by obtain ⟨u0, u1, ee⟩ := Co hl; subst ee; rfl)
local macro_rules | `(tactic| ctx_has b3) => `(tactic| exact λ_ _ _ _ _ _ us hl => by obtain ⟨u0, u1, u2, ee⟩ := Gi hl; subst ee; rfl)
local macro_rules | `(tactic| ctx_has b4) => `(tactic| exact λ_ _ _ _ _ _ us hl => by obtain ⟨u0, u1, u2, u3, ee⟩ := E2 hl; subst ee; rfl)
local macro_rules | `(tactic| ctx_has bb) => `(tactic| first | ctx_has b1 | ctx_has b2 | ctx_has b3 | ctx_has b4)
def DF (K:e_) (x:Str) (st:Stmt) (f:Addr):Prop:=∃(oc:Value) (od L:Option Addr) (sl:Array (Option Value)) (kV F pm cd ct:Value),AT K x f/\LK K f x st oc od sl kV F pm L cd ct/\CK K cd x/\KK K f
theorem dfI {L:Option Addr} {kV F:Value} (a:nsIn K i_ x=some (some (i8 f))) (l:K.lookup f=some ⟨oc,od,.func (fnOf x x (bQ st) (br st) (am st) .none kV F pm L cd ct),sl⟩) (c:codeIn K cd x=true) (k:IT K (i8 f)=true):DF K x st f:=⟨_,_,_,_,_,_,_,_,_,a,l,c,k⟩
theorem dfM (X:K.In h) (G:h.Ns i_ mg) (d:DF K x st f):mg x=some (.ref f):=by
 obtain⟨_,_,_,_,_,_,_,_,_,a,_⟩:=d;exact mg_of X G a
theorem dfL (X:K.In h) (G:h.Ns i_ mg) (d:DF K x st f) (F : ∀(kV doc pm:Value) (L:Option Addr) (cdv ct:Value) (us:List Value),us.length=ps.length->bindArgs (fnOf x x (bQ st) (br st) (am st) .none kV doc pm L cdv ct) ⟨us,[]⟩=pure (ps.zip us):=by ctx_has bb):FnL K mg x st ps:=by
 obtain⟨_,_,_,_,_,_,_,_,_,a,l,c,k⟩:=d;exact Ej X G a l c k F
def DM (K:e_) (R:Addr->Prop) (x q:Str) (st:Stmt):Prop:=∃(f:Addr) (oc:Value) (od L:Option Addr) (sl:Array (Option Value)) (kV F pm cd ct:Value),R f/\K.lookup f=some ⟨oc,od,.func (fnOf x q (bQ st) (br st) (am st) .none kV F pm L cd ct),sl⟩/\codeIn K cd q=true/\IT K (i8 f)=true
theorem dmI {R:Addr->Prop} {q:Str} {L:Option Addr} {kV F:Value} (r:R f) (l:K.lookup f=some ⟨oc,od,.func (fnOf x q (bQ st) (br st) (am st) .none kV F pm L cd ct),sl⟩) (c:codeIn K cd q=true) (k:IT K (i8 f)=true):DM K R x q st:=⟨_,_,_,_,_,_,_,_,_,_,r,l,c,k⟩
theorem dmL {R:Addr->Prop} {q:Str} (d:DM K R x q st) (F : ∀(kV doc pm:Value) (L:Option Addr) (cdv ct:Value) (us:List Value),us.length=ps.length->bindArgs (fnOf x q (bQ st) (br st) (am st) .none kV doc pm L cdv ct) ⟨us,[]⟩=pure (ps.zip us):=by ctx_has bb):Ay K R x q st ps:=by
 obtain⟨_,_,_,_,_,_,_,_,_,_,r,l,c,k⟩:=d;exact BH r l c k F
theorem DV {l:PySem.W.OpenLaw} (X:K.In h) (G:h.Ns i_ mg) (ec:mg "law" = some (.ref fa))
  {L:Addr}
  {Z:Addr}
  {a3:Addr}
  {az:Addr}
  {a5:Addr}
  {aS:Addr} {bK:Option Addr} {b4:Nat} {b1:Array (Option Value)} {aH:Tok} {aK:Tok} {aM:Tok} {aN:Tok}
  {b2:Tok}
  {bw:Tok}
  {b5:Tok}
  {bj:Tok}
  {bt:Tok}
  {b8:Tok}
  {bA:Tok}
  {bp:Tok}
  {bd:Tok}
  {aX:Tok}
  {bc:Tok}
  {aW:Tok}
  {F:Addr} {U:Array JQ} {aw:Nat}
  {aZ ba:Addr} {bx bh bn bi aG bg bB aT aO aR aE aQ:Value} {bk bu bC aP:Option Addr} {b7 b6:Array (Option Value)}
  {f0 f1 f2 f3 f4 f5 f6 f7 f8 f9 dv cR cA dm ef c2 dT cf b9 be bH c0 dR de dF bo b3 cu bE c5 dV cr cp ei co cv bS dJ cn dq ea cM dI dN bT cy bM dn cb dZ cO:Addr}
  (ay:nsIn K i_ "NoHall" = some (-L))
  (ar:gL K L "word")
  (a1:gL K L "at")
  (ap:nsIn K i_ "HallError" = some (-Z))
  (ax:nsIn K i_ "NoText" = some (-a3))
  (aq:nsIn K i_ "NoPaper" = some (-az))
  (a2:nsIn K i_ "NoRow" = some (-a5))
  (d0:DF K "_law_draw" hU f0)
  (d1:DF K "_law_deal" fi f1)
  (d2:DF K "_law_names" dS f2)
  (d3:DF K "_law_number" fF f3)
  (d4:DF K "_law_numbers" eF f4)
  (d5:DF K "_law_many" gQ f5)
  (d6:DF K "is_number" ie f6)
  (d7:DF K "is_whole" jd f7)
  (d8:DF K "is_value" iU f8)
  (d9:DF K "is_state" je f9)
  (aJ:DF K "is_name" ip dv)
  (bY:DF K "are_unlike" gz cR)
  (eg:DF K "is_tuple_of" bW cA)
  (cQ:DF K "are_names" ig dm)
  (dl:DF K "are_values" gc ef)
  (cX:DF K "are_ends" iV c2)
  (c8:DF K "is_many_bound" dG dT)
  (dB:DF K "is_sum_bound" eO cf)
  (bI:DF K "is_unlike" ij b9)
  (bf:DF K "is_many" jV be)
  (bv:DF K "is_behind" io bH)
  (aI:DF K "is_term" jY c0)
  (aL:DF K "is_step" jX dR)
  (dp:DF K "are_terms" fq de)
  (c6:DF K "are_steps" fw dF)
  (bJ:DF K "is_sum" nw bo)
  (bD:DF K "is_way" mz b3)
  (cz:DF K "sort_of" kQ cu)
  (bP:AT K "are_rows" aZ) (cj:LK K aZ "are_rows" eD bx bk b7 bh bn bi bu aG bg) (c1:CK K aG "are_rows") (c9:KK K aZ)
  (aV:aG = .ref 216) (aY:codeHdIn K 216 212=true)
  (bz:DF K "is_table" iQ bE)
  (c3:DF K "plain_cells_of" cC c5)
  (bZ:DF K "cells_of" iP dV)
  (bR:DF K "is_plain_wish" cK cr)
  (dE:DF K "is_same" jS cp)
  (dk:DF K "is_wish" kS ei)
  (bN:DF K "_law_big_sum" eI co)
  (dw:DF K "_law_big_rows" cI cv)
  (dc:DF K "_law_big_way" eK bS)
  (ci:DF K "_law_big_wish" cg dJ)
  (da:DF K "is_rising" fh cn)
  (ce:DF K "is_room" kz dq)
  (dW:DF K "is_cell" kO ea)
  (bG:DM K (XMk K L Z) "__init__" "NoHall.__init__" cP)
  (bL:DF K "check_cells" fD cM)
  (cF:DF K "first_rooms" fJ dI)
  (df:DF K "check_wishes" cW dN)
  (dh:DF K "check_hall" fZ bT)
  (eb:DF K "_law_told" gY cy)
  (eh:DF K "_law_full" dA bM)
  (cU:DF K "_law_cells" dU dn)
  (dr:DF K "_law_wishes" di cb)
  (ca:DF K "_law_bad_cell" dH dZ)
  (c4:DF K "_law_bad_wish" dL cO)
  (c7:AT K "law" ba) (cT:LK K ba "law" pv bB bC b6 aT aO aR aP aE aQ) (cV:CK K aE "law") (db:KK K ba)
  (z0:NB K "len")
  (z1:NB K "max")
  (z2:NB K "min")
  (z3:NB K "abs")
  (z4:NB K "sum")
  (z5:NB K "list")
  (z6:NB K "reversed")
  (z7:NB K "range")
  (z8:NB K "isinstance")
  (z9:NB K "all")
  (dy:NB K "int")
  (ed:NB K "str")
  (dP:NB K "bool")
  (bX:NB K "tuple")
  (cE:NB K "set")
  (cD:NB K "zip")
  (dt:NB K "enumerate")
  (dz:NB K "dict")
  (cS:NB K "sorted")
  (cG:NB K "ValueError")
  (y0:nsIn K i_ "MARKS" = some (-aS))
  (x0:K.lookup aS=some ⟨.type "tuple",bK,.seq #[.str "in" aH,.str "from" aK,.str "to" aM,.str "end" aN] b4,b1⟩)
  (y1:nsIn K i_ "MOST_IN_ROOM" = some (some (.int 10 b2)))
  (y2:nsIn K i_ "LONGEST_NAME" = some (some (.int 8 bw)))
  (y3:nsIn K i_ "MOST_CELLS" = some (some (.int 12 b5)))
  (y4:nsIn K i_ "MOST_TERMS" = some (some (.int 6 bj)))
  (y5:nsIn K i_ "MOST_VALUES" = some (some (.int 60 bt)))
  (y6:nsIn K i_ "MOST_ROWS" = some (some (.int 60 b8)))
  (y7:nsIn K i_ "MOST_STEPS" = some (some (.int 60 bA)))
  (y8:nsIn K i_ "GREATEST_VALUE" = some (some (.int 1000000 bp)))
  (y9:nsIn K i_ "GREATEST_STATE" = some (some (.int 20 bd)))
  (cB:nsIn K i_ "GREATEST_MANY" = some (some (.int 1000000000 aX)))
  (cq:nsIn K i_ "GREATEST_GAP" = some (some (.int 1000000000 bc)))
  (cL:nsIn K i_ "GREATEST_BOUND" = some (some (.int 10000000000000 aW)))
  (xc:XCl K L Z)
  (xm:exmOne K (.ref L) (.ref Z)=some true)
  (xa:Jb K (.ref L) "__class__" = some (some (.builtin "object.__class__")))
  (xg:specialIn K (.builtin "object.__class__") "__get__" = some (some (.builtin "getset_descriptor.__get__")))
  (xt:takesIn K (.builtin "object.__class__")=some true)
  (a8:HM K (.ref L) (.ref a3)=some false)
  (a6:HM K (.ref L) (.ref az)=some false)
  (aD:HM K (.ref L) (.ref a5)=some false)
  (a7:HM K (.ref L) (.ref L)=some true)
  (bb:HM K (.ref L) (.type "ValueError")=some true)
  (af:nsIn K i_ "PLAIN_FORMS" = some (-F))
  (ag:K.lookup F=some ⟨.type "dict",none,.dict U aw,#[]⟩)
  (ah:PySem.W.KeysLit w.params U.toList)
  (as:U.toList.map BX=six) (au:(F == HZ)=false)
  (ac:nsIn K F "unlike" = some (-b9))
  (aj:nsIn K F "many" = some (-be))
  (an:nsIn K F "sum" = some (-bo))
  (ai:nsIn K F "table" = some (-bE))
  (ao:nsIn K F "way" = some (-b3))
  (ad:nsIn K F "behind" = some (-bH)) :
  ∃fd:FuncData,(∀(s:Shared) (v:Value),BindsTo s fd ⟨[v],[]⟩ [("_law_script",v)])/\∀base:Heap,K.In base->base.Ns i_ mg->lm mg base->dY l.prog w K mg base CX0 20 fa fd ["_law_script"] (vT K):=by
 have e:=ec.symm.trans (mg_of X G c7);cases e;refine⟨fnOf "law" "law" (bQ pv) (br pv) (am pv) .none aT aO aR aP aE aQ,λs v=>.of_eq rfl,λbase KB _ dM=>?_⟩
 have aA:=cw (mg_of X G ay);subst aA;have a0:=cw (mg_of X G ap);subst a0;have aB:=cw (mg_of X G ax);subst aB;have a4:=cw (mg_of X G aq);subst a4;have aC:=cw (mg_of X G a2);subst aC;have av:=cw (mg_of X G af);subst av;have T:Txt w K mg:=⟨u5 X G z0,u5 X G z1,u5 X G z2,u5 X G z3,u5 X G z4,u5 X G z5,u5 X G z6,u5 X G z7,u5 X G z8,u5 X G z9,u5 X G dy,u5 X G ed,u5 X G dP,u5 X G bX,u5 X G cE,u5 X G cD,u5 X G dt,u5 X G dz,u5 X G cS,u5 X G cG,⟨_,_,_,_,mg_of X G y0,x0,rfl,rfl,by show 4<=g_;decide,.cons ⟨_,rfl⟩ (.cons ⟨_,rfl⟩ (.cons ⟨_,rfl⟩ (.cons ⟨_,rfl⟩ (.nil))))⟩,⟨_,mg_of X G y1⟩,⟨_,mg_of X G y2⟩,⟨_,mg_of X G y3⟩,⟨_,mg_of X G y4⟩,⟨_,mg_of X G y5⟩,⟨_,mg_of X G y6⟩,⟨_,mg_of X G y7⟩,⟨_,mg_of X G y8⟩,⟨_,mg_of X G y9⟩,⟨_,mg_of X G cB⟩,⟨_,mg_of X G cq⟩,⟨_,mg_of X G cL⟩,(by rw[cw (dfM X G aJ)];exact dfM X G aJ),(by rw[cw (dfM X G d8)];exact dfM X G d8),(by rw[cw (dfM X G d9)];exact dfM X G d9),(by rw[cw (dfM X G aI)];exact dfM X G aI),(by rw[cw (dfM X G aL)];exact dfM X G aL),mg_of X G af,⟨_,_,ag,ah⟩,mg_of X G ay,mg_of X G ap,xc,xm,ar,a1,⟨xc,xa,xg,xt⟩,mg_of X G ax,a8,mg_of X G aq,a6,mg_of X G a2,aD,a7,bb⟩
 have a9:FnL K mg "is_tuple_of" bW ["thing","is_one","least","most"]:=dfL X G eg
 have cm:yY K mg "are_rows" eD ["thing","length"] 212:=Bz X G bP cj c1 c9 aV aY λ_ _ _ _ _ _ us hl=>by obtain⟨u0,u1,ee⟩:=Co hl;subst ee;rfl
 have dX:FnL K mg "is_plain_wish" cK ["thing"]:=dfL X G bR
 have bq:FnL K mg "_law_big_wish" cg ["_law_deal_here","_law_names_here","_law_sort"]:=dfL X G ci
 have Fa:=qo (P:=l.prog) (w:=w) (base:=base) T (dfL X G d0);have FO:=pO (P:=l.prog) (w:=w) (base:=base) T (dfL X G d1);have FG:=nV (P:=l.prog) (w:=w) (base:=base) T (dfL X G d2) Fa;have Fb:=mD (P:=l.prog) (w:=w) (base:=base) T (dfL X G d3) Fa;have Fc:=lG (P:=l.prog) (w:=w) (base:=base) T (dfL X G d4) Fa Fb;have Fh:=qu (P:=l.prog) (w:=w) (base:=base) T (dfL X G d5) Fa;have FN:=jo (P:=l.prog) (w:=w) (base:=base) T (dfL X G d6);have Ff:=ll (P:=l.prog) (w:=w) (base:=base) T (dfL X G d7) FN;have Fr:=lA (P:=l.prog) (w:=w) (base:=base) T (dfL X G d8) Ff;have FA:=sF (P:=l.prog) (w:=w) (base:=base) T (dfL X G d9) Ff;have Fo:=ub (P:=l.prog) (w:=w) (base:=base) T (dfL X G aJ);have Fd:=oA (P:=l.prog) (w:=w) (base:=base) T (dfL X G bY);have FZ:Fn l.prog w K mg base "is_tuple_of" 4 ["thing","is_one","least","most"] (jK (aF mg "is_name") R0 bU):=iC KB (dfL X G aJ) T.at_is_name Fo T a9
 have FP:Fn l.prog w K mg base "is_tuple_of" 6 ["thing","is_one","least","most"] (jK (aF mg "is_value") R0 dD):=iC KB (dfL X G d8) T.at_is_value Fr T a9
 have cx:Fn l.prog w K mg base "is_tuple_of" 6 ["thing","is_one","least","most"] (jK (aF mg "is_state") R0 stT):=iC KB (dfL X G d9) T.at_is_state FA T a9
 have Fe:=qJ (P:=l.prog) (w:=w) (base:=base) T (dfL X G cQ) FZ Fd;have Fq:=oF (P:=l.prog) (w:=w) (base:=base) T (dfL X G dl) FP Fd;have FR:=sD (P:=l.prog) (w:=w) (base:=base) T (dfL X G cX) cx Fd;have Fv:=jR (P:=l.prog) (w:=w) (base:=base) T (dfL X G c8) Ff;have Fw:=lQ (P:=l.prog) (w:=w) (base:=base) T (dfL X G dB) Ff;have dg:=qf (P:=l.prog) (w:=w) (base:=base) T (dfL X G bI) Fe;have bO:=uV (P:=l.prog) (w:=w) (base:=base) T (dfL X G bf) Fe Fq Fv;have dj:=ql (P:=l.prog) (w:=w) (base:=base) T (dfL X G bv) Fe Ff;have bV:=tW (P:=l.prog) (w:=w) (base:=base) T (dfL X G aI) Fr Fo;have dO:=vq (P:=l.prog) (w:=w) (base:=base) T (dfL X G aL) Fr FA;have FY:Fn l.prog w K mg base "is_tuple_of" 7 ["thing","is_one","least","most"] (jK (aF mg "is_term") R0 cY):=iC KB (dfL X G aI) T.at_is_term bV T a9
 have dQ:Fn l.prog w K mg base "is_tuple_of" 7 ["thing","is_one","least","most"] (jK (aF mg "is_step") R0 cZ):=iC KB (dfL X G aL) T.at_is_step dO T a9
 have FM:=qa (P:=l.prog) (w:=w) (base:=base) T (dfL X G dp) FY Fd;have FL:=qP (P:=l.prog) (w:=w) (base:=base) T (dfL X G c6) dQ Fd;have cJ:=wE (P:=l.prog) (w:=w) (base:=base) T (dfL X G bJ) FM Fw;have ck:=wB (P:=l.prog) (w:=w) (base:=base) T (dfL X G bD) Fe FL FR;have Fz:=tX (P:=l.prog) (w:=w) (base:=base) T (dfL X G cz);have FQ:Fn l.prog w K mg base "are_rows" 12 ["thing","length"] (pJ 212):=rm dM T cm Fd a9 (λB hB=>iC hB (dfL X G d8) T.at_is_value (lA T (dfL X G d8) (ll T (dfL X G d7) (jo T (dfL X G d6)))) T a9) KB
 have du:=tw (P:=l.prog) (w:=w) (base:=base) T (dfL X G bz) Fe FQ;have Fy:=jE (P:=l.prog) (w:=w) (base:=base) T (dfL X G c3);have Fx:=sS (P:=l.prog) (w:=w) (base:=base) T (dfL X G bZ) Fy;have Fi:Fn l.prog w K mg base "is_plain_wish" 14 ["thing"] (spB (RT 212) cN):=ky ⟨_,_,ag,ah,as⟩ au (ft6 dg (dfM X G bI) ac bO (dfM X G bf) aj cJ (dfM X G bJ) an du (dfM X G bz) ai ck (dfM X G bD) ao dj (dfM X G bv) ad) T dX Fz
 have FS:=uK (P:=l.prog) (w:=w) (base:=base) T (dfL X G dE) Fo Fq Fi Fx;have FW:=uu (P:=l.prog) (w:=w) (base:=base) T (dfL X G dk) Fz Fi FS;have Fm:=lL (P:=l.prog) (w:=w) (base:=base) T (dfL X G bN) Fa Fb;have Fj:=jP (P:=l.prog) (w:=w) (base:=base) T (dfL X G dw) Fa Fb Fc;have Fl:=lJ (P:=l.prog) (w:=w) (base:=base) T (dfL X G dc) Fa Fc Fh;have FX:=jk (P:=l.prog) (w:=w) (base:=base) T bq Fa Fb Fc Fh Fm Fj Fl;have Fp:=kt (P:=l.prog) (w:=w) (base:=base) T bq Fa Fb Fc Fh Fm Fj Fl FX;have FK:=pV (P:=l.prog) (w:=w) (base:=base) T (dfL X G da);have FU:=tI (P:=l.prog) (w:=w) (base:=base) T (dfL X G ce) FP FK;have FT:=ut (P:=l.prog) (w:=w) (base:=base) T (dfL X G dW) Fo FU;have aa:=ji (P:=l.prog) (w:=w) (base:=base) T (dmL bG);have FF:=nJ (P:=l.prog) (w:=w) (base:=base) T (dfL X G bL) FT aa;have Fk:=nC (P:=l.prog) (w:=w) (base:=base) T (dfL X G cF);have FC:=lR (P:=l.prog) (w:=w) (base:=base) T (dfL X G df) FW Fx aa;have FJ:=oh (P:=l.prog) (w:=w) (base:=base) T (dfL X G dh) FF FC Fk;have Fu:=qt (P:=l.prog) (w:=w) (base:=base) T (dfL X G eb) FJ;have FD:=pU (P:=l.prog) (w:=w) (base:=base) T (dfL X G eh) Fa;have FI:=om (P:=l.prog) (w:=w) (base:=base) T (dfL X G cU) Fa Fc;have FE:=mX (P:=l.prog) (w:=w) (base:=base) T (dfL X G dr) Fa Fp;have Fs:=kU (P:=l.prog) (w:=w) (base:=base) T (dfL X G ca) Fa;have Ft:=kT (P:=l.prog) (w:=w) (base:=base) T (dfL X G c4) Fa;exact CB T (iX cT cV db) FO Fa FG FD Fu Fk FI FE Ft Fs
theorem Hc {l:PySem.W.OpenLaw} {q:Program} {d:DefRec} {K:Params->e_} (hn:l.most=some 63) (Z:d.params.defaults=[])
  (hY : ∀(w:World) (h:Heap),YP w h->(K w.params).In h) (L : ∀(w:World) (h:Heap),YP w h->∀t∈tabs,h.get? t.2.1=some (tabObj #[]))
  (hC : ∀w:World,∀t∈tabs,codeHdIn (K w.params) t.1 t.2.1=true) (U : ∀w:World,∀t∈tabs,(K w.params).lookup t.2.1=none)
  (F : ∀(w:World) (mg:Str->Option Value) (fa:Addr) (h:Heap),(K w.params).In h->h.Ns i_ mg->mg d.name=some (.ref fa) ->
   ∃fd:FuncData,(∀(s:Shared) (u:Value),BindsTo s fd ⟨[u],[]⟩ [("_law_script",u)])/\∀base:Heap,(K w.params).In base->base.Ns i_ mg->lm mg base->dY l.prog w (K w.params) mg base CX0 20 fa fd ["_law_script"] (vT (K w.params))) :
  PySem.W.WalkO q loose XP YP l.row.toRowW d [] (λf vs=>PySem.call f vs) :=
 L2.zK (n:=63) (k:=20) (x := "_law_script") (tabs:=tabs) (sp:=λw=>vT (K w.params)) hn ∅ Z ⟨rfl,∅,∅⟩ hY L hC U ∅ F (λ_ _ a ns hl L hS=>⟨a,ns,rfl,hS,hl,L,λ_ z=>⟨rfl,z⟩⟩)
end Lw
variable {cs l ts wt:List Lw.Tr} {g gT:Lw.Tr->Bool} {g' g1 g2:Lw.Tr->Prop} {gs:List (Lw.Tr->Prop)} {t:Lw.Tr}
open PySem PySem.W PyProof.Rows
local macro_rules | `(tactic| ctx_has kj $ids*) => `(tactic| ($[case $ids:ident => (change _ = _; k_is)];*))
local macro_rules | `(tactic| ctx_has kc $ids*) => `(tactic| ($[case $ids:ident => (constructor; (all_goals k_is))];*))
local macro_rules | `(tactic| ctx_has km $ids*) => `(tactic| ($[case $ids:ident => (refine' Lw.dmI ⟨?a, ?i, ?k⟩ ?l ?c ?k; (case a => k_is); (case i => k_is); (case l => k_is); (case c => k_is); (case k => k_is))];*))
local macro_rules | `(tactic| ctx_has kn $ids*) => `(tactic| ($[case $ids:ident => (refine' Lw.dmI ⟨?m, ?a, ?i, ?n⟩ ?l ?c ?k; (case m => k_is); (case a => k_is); (case i => k_is); (case n => k_is); (case l => k_is); (case c => k_is); (case k => k_is))];*))
local macro_rules | `(tactic| ctx_has kq $ids*) => `(tactic| ($[case $ids:ident => (refine' Lw.dmI ⟨?s, ?r, ?a, ?k⟩ ?l ?c ?k; (case s => k_is); (case r => k_is); (case a => k_is); (case l => k_is); (case c => k_is); (case k => k_is))];*))
local macro_rules | `(tactic| ctx_has kk) => `(tactic| (refine' Lw.dfI ?a ?l ?c ?k; (case a => k_is); (case l => k_is); (case c => k_is); (case k => k_is)))
local macro_rules | `(tactic| ctx_has kd $ids*) => `(tactic| ($[case $ids:ident => ctx_has kk];*))
local macro_rules | `(tactic| o_head $H) => do
  let hw:=Lean.mkIdent `hw
  let hc:=Lean.mkIdent `hc
  `(tactic| (refine holds_open (q:=Lw.gC) (hY:=Hook.of $H) (hYk:=Hook.keeps $H) (YP:=Hook.says $H) (XP:=XL Lw.gC List.nil) (Xt:=Lw.hX)
                Lw.hl (λs e=>xl_of s (Bool.and_eq_true_iff.mp e).1) XL.keeps (by rfl) (by rfl) (by rfl)
                (λs e=>recFacts_of (Bool.and_eq_true_iff.mp e).2) (by rfl) (by assumption) (by decide+kernel)
                ⟨rfl,rfl,rfl,rfl,rfl,by decide+kernel⟩ ?$hw ?$hc))
set_option maxHeartbeats 0 in
theorem PySem.Challenge.cw_seekhall_k04_sound_halls_holds : PySem.Challenge.rw_seekhall_k04_sound_halls.Holds := by
  w_on;refine PySem.W.holds_law Lw.wsd (λsaid=>?_);o_head (kmHook Lw.Cm.heap_1 Lw.hAs Lw.hAe [212]);(case hw=>w_witness2)
  k_fill
  refine Lw.Hc (l:=PySem.Challenge.rw_seekhall_k04_sound_halls) rfl rfl (λw h Y=>PySem.W.km_in_of Y) ?hT ?hC ?hKt ?F
  (case hT=>(intro w h Y t ht;have z:=PySem.W.km_tabs_of Y;simp only[Lw.tabs,i4,md,or_false] at ht;rcases ht with rfl <;> exact z _ ∅))
  (case hC=>(intro w t ht;simp only[Lw.tabs,i4,md,or_false] at ht;rcases ht with rfl <;> kernel_rfl))
  (case hKt=>(intro w t ht;simp only[Lw.tabs,i4,md,or_false] at ht;rcases ht with rfl <;> kernel_rfl))
  case F =>
    intro w mg fa h KX G hmg
    refine' Lw.DV KX G hmg ?aC_NoHall ?nf_NoHall_word ?nf_NoHall_at ?aC_HallError ?aC_NoText ?aC_NoPaper ?aC_NoRow ?d0 ?d1 ?d2 ?d3 ?d4 ?d5 ?d6 ?d7 ?d8 ?d9 ?d10 ?d11 ?d12 ?d13 ?d14 ?d15 ?d16 ?d17 ?d18 ?d19 ?d20 ?d21 ?d22 ?d23 ?d24 ?d25 ?d26 ?d27 ?a28 ?l28 ?c28 ?k28 ?hcd28 ?htb28 ?d29 ?d30 ?d31 ?d32 ?d33 ?d34 ?d35 ?d36 ?d37 ?d38 ?d39 ?d40 ?d41 ?mx42 ?d43 ?d44 ?d45 ?d46 ?d47 ?d48 ?d49 ?d50 ?d51 ?d52 ?a53 ?l53 ?c53 ?k53 ?z0 ?z1 ?z2 ?z3 ?z4 ?z5 ?z6 ?z7 ?z8 ?z9 ?z10 ?z11 ?z12 ?z13 ?z14 ?z15 ?z16 ?z17 ?z18 ?z19 ?y0 ?x0 ?y1 ?y2 ?y3 ?y4 ?y5 ?y6 ?y7 ?y8 ?y9 ?y10 ?y11 ?y12 ?xc ?xm ?xa ?xg ?xt ?kx_NoText ?kx_NoPaper ?kx_NoRow ?kx_NoHall ?kx_VE ?aC_PLAIN_FORMS ?tl_PLAIN_FORMS ?tk_PLAIN_FORMS ?tm_PLAIN_FORMS ?hs_PLAIN_FORMS ?tx_PLAIN_FORMS_unlike ?tx_PLAIN_FORMS_many ?tx_PLAIN_FORMS_sum ?tx_PLAIN_FORMS_table ?tx_PLAIN_FORMS_way ?tx_PLAIN_FORMS_behind
    ctx_has kj aC_NoHall aC_HallError aC_NoText aC_NoPaper aC_NoRow
    ctx_has kd d0 d1 d2 d3 d4 d5 d6 d7 d8 d9 d10 d11 d12 d13 d14 d15 d16 d17 d18 d19 d20 d21 d22 d23 d24 d25 d26 d27
    ctx_has kj nf_NoHall_word nf_NoHall_at a28 l28 c28 k28
    (case hcd28=>rfl)
    (case htb28=>kernel_rfl)
    ctx_has kd d29 d30 d31 d32 d33 d34 d35 d36 d37 d38 d39 d40 d41
    (case mx42=>(refine' Lw.dmI (Lw.Hn ⟨?ga,?no,?sa,?hd,?rl⟩ ?ob ?t1 ?tn ?t2 ?sk ?nf ?ini ?fn ?kp) ?l ?c ?k;(case ga=>k_is);(case no=>k_is);(case sa=>k_is);(case hd=>k_is);(case rl=>kernel_rfl);(case ob=>k_is);(case t1=>k_is);(case tn=>rfl);(case t2=>k_is);(case sk=>kernel_rfl);(case nf=>kernel_rfl);(case ini=>k_is);(case fn=>k_is);(case kp=>k_is);(case l=>k_is);(case c=>k_is);(case k=>k_is)))
    ctx_has kd d43 d44 d45 d46 d47 d48 d49 d50 d51 d52
    ctx_has kj a53 l53 c53 k53 z0 z1 z2 z3 z4 z5 z6 z7 z8 z9 z10 z11 z12 z13 z14 z15 z16 z17 z18 z19 y0 x0 y1 y2 y3 y4 y5 y6 y7 y8 y9 y10 y11 y12
    (case xc=>(refine' ⟨?ga,?no,?sa,?hd,?rl⟩;(case ga=>k_is);(case no=>k_is);(case sa=>k_is);(case hd=>k_is);(case rl=>kernel_rfl)))
    (case xm=>kernel_rfl)
    (case xa=>k_is)
    (case xg=>k_is)
    (case xt=>k_is)
    (case kx_NoText=>kit_is)
    (case kx_NoPaper=>kit_is)
    (case kx_NoRow=>kit_is)
    (case kx_NoHall=>kit_is)
    (case kx_VE=>kit_is)
    ctx_has kj aC_PLAIN_FORMS
    ctx_has kj tl_PLAIN_FORMS
    (case tk_PLAIN_FORMS=>k_keys)
    (case tm_PLAIN_FORMS=>kernel_rfl)
    (case hs_PLAIN_FORMS=>rfl)
    ctx_has kj tx_PLAIN_FORMS_unlike tx_PLAIN_FORMS_many tx_PLAIN_FORMS_sum tx_PLAIN_FORMS_table tx_PLAIN_FORMS_way tx_PLAIN_FORMS_behind
