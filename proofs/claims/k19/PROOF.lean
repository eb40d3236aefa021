import PyProof.Rows.All
import KE.KIntText
import KE.KIsAll
import KE.KItem
import KE.KRevIter
import OpenK.KLine
import Wide.Once
import Wide.Tac
import Open.Line
import Wide.Line
import KE.KPathFold
import PyProof.Rows.RegCtxHas
import PyProof.Walk
import KE.KEqDict
import KE.KDictOf
import Lean
import PySem.Challenge.RW_seekhall_k19_just_where_a_wish_is_kept
set_option Elab.async false
set_option linter.all false
set_option compiler.extract_closed false
set_option maxRecDepth 100000
set_option maxHeartbeats 4000000
namespace Ob
variable {C p q r s t u v w x y z k l m : Prop} {A B D E F G H I J : Sort _}
theorem e1 {P : A → Prop} (h : ∃ a, P a) (f : ∀ a, P a → C) : C := h.elim f
theorem e2 {P : A → B → Prop} (h : ∃ a b, P a b) (f : ∀ a b, P a b → C) : C := h.elim fun a h => e1 h (f a)
theorem e3 {P : A → B → D → Prop} (h : ∃ a b d, P a b d) (f : ∀ a b d, P a b d → C) : C := h.elim fun a h => e2 h (f a)
theorem e4 {P : A → B → D → E → Prop} (h : ∃ a b d e, P a b d e) (f : ∀ a b d e, P a b d e → C) : C := h.elim fun a h => e3 h (f a)
theorem e5 {P : A → B → D → E → F → Prop} (h : ∃ a b d e f, P a b d e f) (f : ∀ a b d e f, P a b d e f → C) : C := h.elim fun a h => e4 h (f a)
theorem e6 {P : A → B → D → E → F → G → Prop} (h : ∃ a b d e f g, P a b d e f g) (f : ∀ a b d e f g, P a b d e f g → C) : C := h.elim fun a h => e5 h (f a)
theorem e7 {P : A → B → D → E → F → G → H → Prop} (h : ∃ a b d e f g h, P a b d e f g h) (f : ∀ a b d e f g h, P a b d e f g h → C) : C := h.elim fun a h => e6 h (f a)
theorem e8 {P : A → B → D → E → F → G → H → I → Prop} (h : ∃ a b d e f g h i, P a b d e f g h i) (f : ∀ a b d e f g h i, P a b d e f g h i → C) : C := h.elim fun a h => e7 h (f a)
theorem e9 {P : A → B → D → E → F → G → H → I → J → Prop} (h : ∃ a b d e f g h i j, P a b d e f g h i j) (f : ∀ a b d e f g h i j, P a b d e f g h i j → C) : C := h.elim fun a h => e8 h (f a)
theorem i2 {P : A → B → Prop} (a : A) (b : B) (o : P a b) : ∃ a b, P a b := ⟨a, b, o⟩
theorem i3 {P : A → B → D → Prop} (a : A) (b : B) (d : D) (o : P a b d) : ∃ a b d, P a b d := ⟨a, b, d, o⟩
theorem i4 {P : A → B → D → E → Prop} (a : A) (b : B) (d : D) (e : E) (o : P a b d e) : ∃ a b d e, P a b d e := ⟨a, b, d, e, o⟩
theorem i5 {P : A → B → D → E → F → Prop} (a : A) (b : B) (d : D) (e : E) (f : F) (o : P a b d e f) : ∃ a b d e f, P a b d e f := ⟨a, b, d, e, f, o⟩
theorem i6 {P : A → B → D → E → F → G → Prop} (a : A) (b : B) (d : D) (e : E) (f : F) (g : G) (o : P a b d e f g) : ∃ a b d e f g, P a b d e f g := ⟨a, b, d, e, f, g, o⟩
theorem i7 {P : A → B → D → E → F → G → H → Prop} (a : A) (b : B) (d : D) (e : E) (f : F) (g : G) (h : H) (o : P a b d e f g h) : ∃ a b d e f g h, P a b d e f g h := ⟨a, b, d, e, f, g, h, o⟩
theorem i8 {P : A → B → D → E → F → G → H → I → Prop} (a : A) (b : B) (d : D) (e : E) (f : F) (g : G) (h : H) (i : I) (o : P a b d e f g h i) : ∃ a b d e f g h i, P a b d e f g h i := ⟨a, b, d, e, f, g, h, i, o⟩
theorem i9 {P : A → B → D → E → F → G → H → I → J → Prop} (a : A) (b : B) (d : D) (e : E) (f : F) (g : G) (h : H) (i : I) (j : J) (o : P a b d e f g h i j) : ∃ a b d e f g h i j, P a b d e f g h i j := ⟨a, b, d, e, f, g, h, i, j, o⟩
theorem c2 (h : p ∧ q) (f : p → q → C) : C := f h.1 h.2
theorem c3 (h : p ∧ q ∧ r) (f : p → q → r → C) : C := c2 h.2 (f h.1)
theorem c4 (h : p ∧ q ∧ r ∧ s) (f : p → q → r → s → C) : C := c3 h.2 (f h.1)
theorem c5 (h : p ∧ q ∧ r ∧ s ∧ t) (f : p → q → r → s → t → C) : C := c4 h.2 (f h.1)
theorem c6 (h : p ∧ q ∧ r ∧ s ∧ t ∧ u) (f : p → q → r → s → t → u → C) : C := c5 h.2 (f h.1)
theorem c7 (h : p ∧ q ∧ r ∧ s ∧ t ∧ u ∧ v) (f : p → q → r → s → t → u → v → C) : C := c6 h.2 (f h.1)
theorem c8 (h : p ∧ q ∧ r ∧ s ∧ t ∧ u ∧ v ∧ w) (f : p → q → r → s → t → u → v → w → C) : C := c7 h.2 (f h.1)
theorem c9 (h : p ∧ q ∧ r ∧ s ∧ t ∧ u ∧ v ∧ w ∧ x) (f : p → q → r → s → t → u → v → w → x → C) : C := c8 h.2 (f h.1)
theorem c10 (h : p ∧ q ∧ r ∧ s ∧ t ∧ u ∧ v ∧ w ∧ x ∧ y) (f : p → q → r → s → t → u → v → w → x → y → C) : C := c9 h.2 (f h.1)
theorem c11 (h : p ∧ q ∧ r ∧ s ∧ t ∧ u ∧ v ∧ w ∧ x ∧ y ∧ z) (f : p → q → r → s → t → u → v → w → x → y → z → C) : C := c10 h.2 (f h.1)
theorem c12 (h : p ∧ q ∧ r ∧ s ∧ t ∧ u ∧ v ∧ w ∧ x ∧ y ∧ z ∧ k) (f : p → q → r → s → t → u → v → w → x → y → z → k → C) : C := c11 h.2 (f h.1)
theorem c13 (h : p ∧ q ∧ r ∧ s ∧ t ∧ u ∧ v ∧ w ∧ x ∧ y ∧ z ∧ k ∧ l) (f : p → q → r → s → t → u → v → w → x → y → z → k → l → C) : C := c12 h.2 (f h.1)
theorem c14 (h : p ∧ q ∧ r ∧ s ∧ t ∧ u ∧ v ∧ w ∧ x ∧ y ∧ z ∧ k ∧ l ∧ m) (f : p → q → r → s → t → u → v → w → x → y → z → k → l → m → C) : C := c13 h.2 (f h.1)
end Ob
open Lean Lean.Parser.Tactic in
local macro_rules
 | `(tactic| obtain $p:rcasesPatMed := $e:term) => do
  let pl : TSyntax ``rcasesPatLo := ⟨mkNode ``rcasesPatLo #[p, mkNullNode]⟩
  let plain ← `(tactic| rcases $e:term with $pl)
  let q := p.raw[0][0]
  let ps := q[1].getSepArgs
  let n := ps.size
  if p.raw[0].getNumArgs != 1 || q.getKind != ``rcasesPat.tuple || n < 2 || n > 20 then return plain
  let mut nm : Array Ident := #[]
  let mut fs : Array (TSyntax `tactic) := #[]
  let cl (b : Term) : MacroM Term := if e.raw.isIdent then `(clear% $(⟨e.raw⟩); $b) else pure b
  for x in ps do
    let v := x[0][0][0]
    if x[1].getNumArgs == 0 && x[0][0].getNumArgs == 1 && v.getKind == ``rcasesPat.one && v[0].getId != `rfl then nm := nm.push ⟨v[0]⟩
    else
      let y := mkIdent (.mkSimple s!"hX{nm.size}")
      nm := nm.push y
      fs := fs.push (← `(tactic| all_goals rcases $y:ident with $(⟨x⟩)))
  let mut alts : Array (TSyntax `tactic) := #[]
  for d in [0:n] do
    let m := n - 1 - d
    let k := n - m
    if m ≤ 9 && k ≤ 14 then
      let f := mkIdent (.mkStr `Ob s!"e{m}")
      let g := mkIdent (.mkStr `Ob s!"c{k}")
      let xs := nm.extract 0 m
      let ys := nm.extract m n
      let b ← cl (← if m == 0 then `(fun $ys* => ?_) else if k == 1 then `(fun $xs* $(ys[0]!) => ?_) else `(fun $xs* hW => $g hW (clear% hW; fun $ys* => ?_)))
      alts := alts.push (← if m == 0 then `(tactic| refine $g $e $b) else `(tactic| refine $f $e $b))
  `(tactic| first | (refine Classical.byContradiction fun hN => ?_; (first $[| $alts:tactic]*); ($[$fs:tactic];*); all_goals (refine hN ?_; clear hN)) | $plain:tactic)
 | `(tactic| rintro $[$rs:rintroPat]*) => do
  let mut ts : Array (TSyntax `tactic) := #[]
  for r in rs do
    let v := r.raw[0]
    if v.getKind == ``rcasesPat.one && v[0].getId != `rfl then ts := ts.push (← `(tactic| intro $(⟨v[0]⟩):ident))
    else if v.getKind == ``rcasesPat.tuple then
      let p : TSyntax ``rcasesPatMed := ⟨mkNode ``rcasesPatMed #[mkNullNode #[v]]⟩
      ts := ts.push (← `(tactic| (intro hY; obtain $p := hY)))
    else Macro.throwUnsupported
  `(tactic| ($[$ts:tactic];*))
 | `(tactic| refine $t:term) => do
  let xs : Array Term := t.raw[1].getSepArgs.map (⟨·⟩)
  let n := xs.size
  if t.raw.getKind != `Lean.Parser.Term.anonymousCtor || n < 3 then Macro.throwUnsupported
  let mut alts : Array (TSyntax `tactic) := #[]
  for d in [1:n] do
    let m := n - d
    if 2 ≤ m && m ≤ 9 then
      let r := xs.extract m n
      let r : Term ← if r.size == 1 then pure r[0]! else `(⟨$r,*⟩)
      let f := mkIdent (.mkStr `Ob s!"i{m}")
      alts := alts.push (← `(tactic| refine $f $(xs.extract 0 m)* $r))
  `(tactic| first $[| $alts:tactic]* | refine ($t))
local macro_rules | `(tactic| omega) => `(tactic| first | with_reducible assumption | decide +kernel | lia | omega +splitDisjunctions)
open Array renaming getElem?_eq_getElem->Hs,getElem?_eq_none->HZ,length_toList->GY
open Bool renaming and_eq_false_iff->Ip,and_eq_true->B_,eq_iff_iff->FY,false_eq_true->q_,false_ne_true->x_,not_true->Hk
open Classical renaming byContradiction->F7
open False renaming elim->G1
open ForInStep renaming yield->HU
open Int renaming eq_ofNat_of_zero_le->GT,toNat_natCast->Ic
open List renaming all_eq_true->GQ,any_eq_true->GK,concat_eq_append->Hw,eq_nil_or_concat->Is,filter_cons->GF,filter_map->HL,find?_cons->Hq,forIn_cons->HM,getElem?_append_left->Gn,getElem?_append_right->Gx,getElem?_eq_getElem->C_,getElem?_eq_none_iff->G5,getElem?_eq_some_iff->p_,getElem?_map->f_,getElem?_reverse->Im,getElem?_set_ne->Iw,getElem?_toArray->Il,getElem_mem->HD,getElem_of_mem->Gt,length_append->Gh,length_cons->GG,length_drop->HX,length_map->d_,length_pos_iff->Ie,length_pos_of_mem->Hm,length_take->G6,length_take_le'->IH,lookup->IE,lookup_cons->Gv,lookup_nil->Iu,map_append->Gz,map_congr_left->Gb,map_cons->y3,map_map->FQ,mem_append->y8,mem_append_left->A_,mem_append_right->Ga,mem_cons->u_,mem_cons_of_mem->zc,mem_cons_self->FT,mem_filter->GX,mem_map->r_,mem_of_getElem?->m_,mem_of_mem_take->Hg,mem_range->IM,mem_singleton->g_,nodup_append->Gr,nodup_cons->FG,not_mem_nil->Ge,pairwise_map->G7,size_toArray->y4,take_add_one->za,take_length->FV,take_of_length_le->FX,take_sublist->If
open List.Pairwise renaming imp_of_mem->Ha
open Nat renaming le_of_lt->Hd,le_of_succ_le->IB,le_refl->s_,le_trans->w_,lt_irrefl->Gg,lt_of_le_of_lt->Gc,lt_of_lt_of_le->n_,lt_succ_of_lt->IC,lt_succ_self->G8,ne_of_gt->Gd,ne_of_lt->E_,zero_le->GR
open Ne renaming symm->Gp
open Option renaming isSome_iff_exists->Hn,map_some->Iv
open Option.some renaming inj->h_
open PyProof.Rows renaming IntsAre->IT,callWith_type1->F8,slot_tuple_getitem->Gw,step_dedup->HW
open PySem renaming NameKind->GP,OsState->Ih,PyData->IU,Spec->GZ,Str->HK,Value->He,ZipApart->Iz,assignEach->Ix,attributeBase->ID,backTo->GS,behindInMarks->Hi,binaryOp->G_,bootBuiltins->GN,builtinLookup_eq_fast->Gu,cellsFrom->FZ,codeAny->Ii,codeAny_builtin->IL,codeAny_mono->IR,compareOp->Gi,importedModules->IJ,intItems->Ia,isSubtype_type->Ik,keywordEach->IG,mainGlobals->i_,mem_of_lookup->HF,pyNext->HR,rawInt->GJ,sizeLine->l_,sliceBounds->IF,starEach->y9,swapsWith->IQ,sysModules->G9,treeTable->Iq,tupleKind->Hv,tupleKind_room_in1->Hf,typeLookup->Iy,typeLookup_type->GV,wpAny_Call_Name_kw->GO,wpAny_attempt->Hc,wpAny_bind->a_,wpAny_callSpecial?_slot->FS,wpAny_call_entry->FW,wpAny_field->D_,wpAny_getItem_str_slice->HH,wpAny_holding->Gy,wpAny_isInstance->HA,wpAny_mono->G0,wpAny_newObj_type->GB,wpAny_of_eq->H_,wpAny_passesOwn->Hh,wpAny_pure->ee,wpAny_pyIter_tuple->GH,wpAny_seqItems->GE,wpAny_setField_rec->Go,wpAny_specialOf->GM,wpAny_truthy_bool->GU,wpAny_typeOf->IS,wpAny_updateSeq->IK
open PySem.Builtin.List renaming listExtendWith->F_,listItems->HY,listSameRef->Hz
open PySem.Builtin.Slice renaming slicePlaces->Hr
open PySem.Builtin.SmallTypes renaming nextOf->z_,ownedTupleIsFree->FR
open PySem.Builtin.Str renaming occurrences->HI
open PySem.Builtin.Tuple renaming tupleExact->Hy
open PySem.Calls renaming callWith_builtin->H0,spliced_cons->HS,spliced_nil->Ib
open PySem.F renaming args_zip_next_1->Ho,entry_zip_next->HE,plain_extend_loop->HG,slot_NoneType_hash->Hl,slot_dict_get->Ij,slot_list_append->Gj,slot_tuple_iterator_next->Hj,slot_zip_next->Gq,type_list_append->Gk
open PySem.Heap renaming SameBut->IP,get?_push_of_some->c_,get?_push_size->k_,get?_update_other->GW,get?_update_self->G4,lt_size->e_,size_push->FU,size_update->IA
open PySem.NameKind renaming cell->GD,free->Gm
open PySem.Obj renaming mapSeq->GI
open PySem.PyData renaming canLayAll0->GC,depthAll->HV,eqv->G3,eqvAll->HJ,int->G2
open PySem.Str renaming empty->Ir,ofString->b_
open PySem.Txt renaming slice->Hb,slice_le->Io
open PySem.Value renaming bool->HQ,none->GA,ref->y6,type->GL
open PySem.W renaming Frag->j_,boot_heap->IN,codeIn->y_,emptyDict->HN,findIn->y7,hasDictIn->Ht,keepIn->v_,kia_one->Ig,mg_none_of->Gs,plainGet->Hx,plainOver->HP
open Sum renaming inl->o_,inr->t_
open Sum.inl renaming inj->Hu
open True renaming intro->Gf
variable {A:PySem.Around} {C I O S T a b ca d dx f fa ha it l p ra sl tx wa z:PySem.Addr} {CS N cs loose names ps ws:List HK} {E Q Qf xe:He->PySem.Shared->Prop} {K:j_} {M:PySem.Model} {P prog q:PySem.Program} {R:PySem.Result->PySem.Shared->Prop} {U av ms ns pool tl:List Int} {XP:(HK->Option He)->PySem.Heap->Prop} {YP:PySem.World->PySem.Heap->Prop} {apos cpos p2 pos pos':PySem.Pos} {as:List (PySem.Addr × Int × Int × Int)} {base h h':PySem.Heap} {body rest:List PySem.Stmt} {c name qual x:HK} {cd cdv ct doc f0 f1 oc pm u vl vu:He} {ch fp:List PySem.Addr} {cl closure:List (HK × PySem.Addr)} {d':PySem.Drawn} {ds its us:List He} {e e1 elt iter oe tg value:PySem.Expr} {env:PySem.Env} {es ifs values:List PySem.Expr} {fd:PySem.FuncData} {func od:Option PySem.Addr} {g:HK->Int} {g':Array PySem.GenState} {gap lo m v v':Int} {hi:Option Int} {i j k n n0 nt t' tk:Nat} {items ys:Array He} {js:List Nat} {ks:List (Option Int)} {kw:List (HK × He)} {mA mb mg:HK->Option He} {o0:PySem.Obj} {osl:Array (Option He)} {outer:List PySem.Env} {params:PySem.Arguments} {pins pins':List (PySem.Addr × PySem.Obj)} {pl:PySem.Sem Bool} {rm rm':HK->List Int} {rows:List (List Int)} {s s' s₁:PySem.Shared} {sc scope:PySem.Scope} {st:PySem.Stmt} {ts:List (Int × HK)} {use:Option (He->PySem.Sem Unit)} {w:PySem.World} {α κ:Type}
open List (any_cons any_map append_assoc append_nil cons_append drop_zero foldl_append forIn_nil idxOf?_cons length_nil map_drop map_id map_nil map_take mem_flatMap of_mem_zip range zipWith)
open PySem.W (boot_o_0 boot_o_1 boot_o_10 boot_o_2 boot_o_4 boot_o_5 boot_o_6 boot_o_7 boot_o_8 boot_o_9 callWith_K findCls fnOf handedIn instObj isFn kitOne kitx_dict kitx_list lookIn makesIn methodCall_KW methodObj mg_of nsIn plainGet_of readsIn specialIn takerIn)
open Nat (le_add_right le_of_eq le_succ lt_trans min_eq_left not_lt sub_self sub_zero)
open Option (getD_none isNone_some isSome_map isSome_some)
open Array (forIn_toList)
local macro_rules | `(()) => `(by omega)
local macro_rules | `(∅) => `(by decide)
local macro_rules | `(-$x:ident) => `(some (.ref $x))
local macro_rules | `($a >> $b) => `($a = some ($(Lean.mkIdent `L2.HO.tup) $b))
local macro_rules | `($a *> $b) => `($a = some ($(Lean.mkIdent `L2.HO.lst) $b))
local macro_rules | `($a <* $b) => `($a = some ($(Lean.mkIdent `L2.HO.dK) $b))
namespace Lw
open PySem PySem.W PySem.Calls PyProof.Rows
def top (i:Nat):Stmt:=PySem.Challenge.pw_seekhall_k19_just_where_a_wish_is_kept.main.body.getD i (.Pass ⟨0,0,0,0⟩)
noncomputable def iM:Program:={ PySem.Challenge.pw_seekhall_k19_just_where_a_wish_is_kept with main:={ PySem.Challenge.pw_seekhall_k19_just_where_a_wish_is_kept.main with body:=[1,3,4,5,6,7,8,9,10,11,12,13,14,16,18,20,22,24,25,26,28,30,31,33,34,36,37,38,39,40,41,42,43,44,45,46,47,48,49,50,51].map top } }
section
local macro_rules | `(tactic| o_head $H) => `(tactic| (have z := $H; assumption))
set_option maxHeartbeats 0 in
theorem Cr (h:PySem.Challenge.rw_seekhall_k19_just_where_a_wish_is_kept.row.Holds):PySem.Challenge.rw_seekhall_k19_just_where_a_wish_is_kept.row.Holds:=by
 k_head
end
def hAs:List Addr:=[2,3,15,17,18,20,21,22,24,25,27,28,29,32,33,34,37,38,39,41,42,44,45,46,49,50,51,53,54,56,57,58,60,61,63,64,65,67,68,70,71,72,75,76,77,79,80,82,83,84,85,87,88,90,91,99,101,102,104,105,106,108,109,111,112,113,115,116,118,119,120,122,123,125,126,127,128,129,130,131,134,141,143,144,146,147,148,150,151,153,154,155,158,159,160,163,164,165,166,167,170,177,179,180,182,183,184,186,187,189,190,191,194,195,196,199,200,201,203,204,206,207,208,210,211,213,214,215,216,217,220,227,229,230,232,233,234,236,237,239,240,241,243,244,246,247,248,250,251,253,254,255,258,259,260,263,264,265,266,267,270,273,274,275,277,278,280,281,282,289,291,292,294,295,296,298,299,301,302,303,305,306,308,309,310,312,313,315,316,317,319,320,322,323,324,326,327,329,330,331,333,334,336,337,338,339,340,343,350,352,353,355,356,357,359,360,362,363,364,367,368,369,372,373,374,376,377,379,380,381,383,384,386,387,388,389,390,393,395,396,398,399,400,407,409,410,412,413,414,416,417,419,420,421,423,424,426,427,428,430,431,433,434,435,436,437,440,442,443,445,446,447,454,456,457,459,460,461,463,464,466,467,468,471,472,473,476,477,478,480,481,483,484,485,487,488,490,491,492,493,494,497,500,501,502,504,505,507,508,509,512,513,514,516,517,519,520,521,524,525,526,528,529,531,532,533,535,536,538,539,540,543,544,545,548,549,550,553,554,555,558,559,560,563,564,565,567,568,570,571,572,574,575,577,578,579,581,582,584,585,586,588,589,591,592]
theorem hAe : ∀P,hAs=(Cr.heap_1 P).map (·.1):=λ_=>by kernel_rfl
noncomputable abbrev hK:Hook:=kHook Cr.heap_1 hAs hAe
noncomputable def hX (s:Shared):Bool:=xlAt iM List.nil s && recOk (RowW.records PySem.Challenge.rw_seekhall_k19_just_where_a_wish_is_kept.row.toRowW) s
theorem D9 {A B C D G:Type} {x y:A × B × C × D} {u v:G} (h1:x.1=y.1) (h2:(x.2.1,x.2.2.1)=(y.2.1,y.2.2.1)) (L:x.2.2.2=y.2.2.2) (F:u=v):(x,u)=(y,v):=by
 obtain⟨a,b,c,d⟩:=x;obtain⟨Y,Z,c',d'⟩:=y;cases h1;cases h2;cases L;cases F;rfl
def bf (i j:Nat):Stmt:=match top i with | .ClassDef _ _ _ b _ _ _ _ _ _ _=>b.getD j (.Pass ⟨0,0,0,0⟩) | s=>s
def ag (a:String) (n:Nat):Value:=.str (b_ a) n
def Cq (ty:Value) (x:String) (s:Stmt) (g:Addr) (B c:Value):Obj:=match s with
 | .FunctionDef n a b _ _ _ sc _ _ _=>⟨ty,none,.func ⟨n,b_ x,a,.stmts b,sc,g,[],.none,.none,.none,B,none,c,.none,0⟩,#[]⟩
 | _=>default
def bp (x:String) (s:Stmt):Obj:=Cq .none x s 0 .none .none
def bq (x:String) (s:Stmt) (B:Value) (c:Addr):Obj:=Cq (.type "function") x s 3 B (.ref c)
def aD (l:List Value):Obj:=⟨.type "tuple",none,.seq l.toArray 0,#[]⟩
def aE (t:Value) (l:List Value) (a:Array (Option Value)):Obj:=⟨t,none,.fields l.toArray,a⟩
def aB (P:Params) (k:String) (n:Nat) (v:Value):DictEntry:=⟨PyData.keyHash P (b_ k),ag k n,v⟩
def iC (t:Value) (l:List DictEntry) (n:Nat) (a:Array (Option Value)):Obj:=⟨t,none,.dict l.toArray n,a⟩
noncomputable def zy (P:Params):BT:=.node (boot_o_0 P) (.node (boot_o_1 P) (.node (PySem.W.boot_o_3 P) (.node (boot_o_7 P) .nil .nil) (.node (aD []) .nil .nil)) (.node (boot_o_5 P) (.node (boot_o_9 P) .nil .nil) (.node (aE (.type "code") [(ag "<module>" 182),(ag "<module>" 183),(ag "/claim/cut.py" 184),(.int 1 0),(.int 0 0),(.int 0 0),(.int 0 0),(.int 0 0),(.ref 11),(.bool .false),(.int 181 0),(.ref 12),.none,.none,.none,.none,(.int 185 0),(.int 1 0),(ag "/claim/cut.py" 186)] #[]) .nil .nil))) (.node (boot_o_2 P) (.node (boot_o_4 P) (.node (boot_o_8 P) .nil .nil) (.node (aE .none [] #[]) .nil .nil)) (.node (boot_o_6 P) (.node (boot_o_10 P) .nil .nil) (.node ⟨(.type "frame"),none,.plain,#[some (.ref 13),some (.ref 3),some (.ref 3),none,some (ag "__main__" 164),none,some (.ref 0)]⟩ .nil .nil)))
noncomputable def Cb (P:Params):BT:=.node (boot_o_0 P) (.node (boot_o_1 P) (.node (iC (.type "dict") [aB P "__name__" 165 (ag "seekhall.sums" 539),aB P "__doc__" 166 .none,aB P "__package__" 167 .none,aB P "__loader__" 168 (.builtin "__main__.__loader__#opaque"),aB P "__spec__" 169 .none,aB P "__annotations__" 170 (.ref 6),aB P "__builtins__" 171 (.ref 4),aB P "__file__" 173 (ag "/claim/cut.py" 172),aB P "__cached__" 174 .none,aB P "are_unlike" 195 (.ref 21),aB P "is_between" 206 (.ref 28),aB P "sum_of" 212 (.ref 33),aB P "values_at" 218 (.ref 38),aB P "unlike_kept" 226 (.ref 45),aB P "many_kept" 232 (.ref 50),aB P "sum_kept" 240 (.ref 57),aB P "table_kept" 248 (.ref 64),aB P "way_kept" 260 (.ref 71),aB P "behind_kept" 266 (.ref 76),aB P "same_kept" 274 (.ref 83),aB P "KEEPERS" 289 (.ref 84),aB P "wish_kept" 297 (.ref 91),aB P "Wish" 352 (.ref 129),aB P "Behind" 400 (.ref 167),aB P "Many" 466 (.ref 217),aB P "Way" 538 (.ref 267),aB P "parts_of" 546 (.ref 274),aB P "spans_of" 557 (.ref 281)] 28 #[]) (.node (boot_o_7 P) (.node (aD []) (.node (bp "sum_of" (top 4)) (.node (aE (.type "code") [(ag "table_kept" 241),(ag "table_kept" 242),(ag "/claim/cut.py" 243),(.int 18 0),(.int 2 0),(.int 0 0),(.int 0 0),(.int 3 0),(.ref 58),(.bool .true),(.int 181 0),(.ref 59),.none,(.ref 60),(.ref 61),(.ref 62),(.int 246 0),(.int 18 0),(ag "/claim/cut.py" 247)] #[]) (.node (aD [(ag "wish" 344)]) (.node (aD []) .nil .nil) .nil) (.node (aD []) .nil .nil)) (.node (aD []) (.node (bq "Behind.may_keep" (bf 18 2) (ag "seekhall.behinds" 353) 158) .nil .nil) (.node (aD []) .nil .nil))) (.node (aE .none [] #[]) (.node (aD [(ag "wish" 270),(ag "filling" 271)]) (.node (aD [(ag "self" 370),(ag "wish" 371)]) (.node (aE .none [] #[]) .nil .nil) .nil) (.node (bq "Many.may_keep" (bf 20 4) (ag "seekhall.manies" 401) 206) .nil .nil)) (.node (aE (.type "code") [(ag "kept" 320),(ag "Wish.kept" 321),(ag "/claim/cut.py" 322),(.int 44 0),(.int 2 0),(.int 0 0),(.int 0 0),(.int 3 0),(.ref 106),(.bool .true),(.int 181 0),(.ref 107),.none,(.ref 108),(.ref 109),(.ref 110),(.int 325 0),(.int 44 0),(ag "/claim/cut.py" 326)] #[]) (.node (aE (.type "code") [(ag "Many" 405),(ag "Many" 406),(ag "/claim/cut.py" 407),(.int 76 0),(.int 0 0),(.int 0 0),(.int 0 0),(.int 0 0),(.ref 173),(.bool .false),(.int 181 0),(.ref 174),.none,.none,.none,.none,(.int 408 0),(.int 76 0),(ag "/claim/cut.py" 409)] #[]) .nil .nil) (.node (aE (.type "code") [(ag "kept" 490),(ag "Way.kept" 491),(ag "/claim/cut.py" 492),(.int 110 0),(.int 2 0),(.int 0 0),(.int 0 0),(.int 3 0),(.ref 234),(.bool .true),(.int 181 0),(.ref 235),.none,(.ref 236),(.ref 237),(.ref 238),(.int 495 0),(.int 110 0),(ag "/claim/cut.py" 496)] #[]) .nil .nil)))) (.node (aE .none [] #[]) (.node (aD []) (.node (bq "way_kept" (top 10) (ag "seekhall.keeping" 196) 70) (.node (aE (.type "builtin_function_or_method") [(.builtin "type.__prepare__"),(.type "type")] #[]) (.node (aE (.type "code") [(ag "may_break" 526),(ag "Way.may_break" 527),(ag "/claim/cut.py" 528),(.int 129 0),(.int 2 0),(.int 0 0),(.int 0 0),(.int 3 0),(.ref 260),(.bool .true),(.int 181 0),(.ref 261),.none,.none,.none,(.ref 262),(.int 529 0),(.int 129 0),(ag "/claim/cut.py" 530)] #[]) .nil .nil) .nil) (.node (aE (.type "code") [(ag "most" 437),(ag "Many.most" 438),(ag "/claim/cut.py" 439),(.int 91 0),(.int 2 0),(.int 0 0),(.int 0 0),(.int 3 0),(.ref 196),(.bool .true),(.int 181 0),(.ref 197),.none,.none,.none,(.ref 198),(.int 440 0),(.int 91 0),(ag "/claim/cut.py" 441)] #[]) .nil .nil)) (.node (bp "Wish.__init__" (bf 16 0)) (.node ⟨(.type "type"),none,.cls ⟨b_ "Behind",[(.ref 129)],[(.ref 167),(.ref 129),(.type "object")],166,b_ "Behind",.true,[],[],.false,none,.false⟩,#[some (.ref 134),none,some (ag "Behind" 355),some (ag "Behind" 363),some (.builtin "object.__new__"),some (.bool .true)]⟩ .nil .nil) (.node (bp "Way.__init__" (bf 22 0)) .nil .nil))) (.node (bp "sum_kept" (top 8)) (.node (aD [(ag "wish" 293),(ag "filling" 294)]) (.node (aD []) (.node (bp "spans_of" (top 25)) .nil .nil) .nil) (.node (aD [(ag "among" 459),(ag "cells" 460),(ag "high" 461),(ag "low" 462)]) .nil .nil)) (.node (bq "Wish.may_keep" (bf 16 2) (ag "seekhall.wishes" 298) 118) (.node (bq "Many.__init__" (bf 20 0) (ag "seekhall.manies" 401) 182) .nil .nil) (.node (bq "Way.states_behind" (bf 22 2) (ag "seekhall.steps" 467) 246) .nil .nil))))) (.node (aD []) (.node (bp "are_unlike" (top 1)) (.node (aE .none [] #[]) (.node (aD [(ag "wish" 252),(ag "filling" 253),(ag "leads" 254),(ag "step" 255),(ag "state" 256),(ag "value" 257)]) (.node (aE (.type "getset_descriptor") [(ag "__weakref__" 348),(.ref 129),(.builtin "ExceptionGroup.__weakref__"),.none] #[]) (.node (bq "Way.may_keep" (bf 22 4) (ag "seekhall.steps" 467) 258) .nil .nil) .nil) (.node (bq "Many.fewest" (bf 20 2) (ag "seekhall.manies" 401) 194) .nil .nil)) (.node (aD []) (.node (aE (.type "code") [(ag "may_break" 389),(ag "Behind.may_break" 390),(ag "/claim/cut.py" 391),(.int 72 0),(.int 2 0),(.int 0 0),(.int 0 0),(.int 3 0),(.ref 160),(.bool .true),(.int 181 0),(.ref 161),.none,.none,.none,(.ref 162),(.int 392 0),(.int 72 0),(ag "/claim/cut.py" 393)] #[]) .nil .nil) (.node (aD []) .nil .nil))) (.node (aD []) (.node (bq "same_kept" (top 12) (ag "seekhall.keeping" 196) 82) (.node (bq "Behind.__init__" (bf 18 0) (ag "seekhall.behinds" 353) 146) (.node (aD []) .nil .nil) .nil) (.node (aD []) .nil .nil)) (.node (aD [(ag "self" 331),(ag "rooms" 332)]) (.node (aD [(ag "self" 418),(ag "wish" 419)]) .nil .nil) (.node (aD [(ag "self" 501),(ag "states" 502),(ag "room" 503),(ag "behind" 504),(ag "state" 505),(ag "value" 506)]) .nil .nil)))) (.node (aE (.type "code") [(ag "is_between" 198),(ag "is_between" 199),(ag "/claim/cut.py" 200),(.int 5 0),(.int 3 0),(.int 0 0),(.int 0 0),(.int 3 0),(.ref 22),(.bool .true),(.int 181 0),(.ref 23),.none,(.ref 24),(.ref 25),(.ref 26),(.int 204 0),(.int 5 0),(ag "/claim/cut.py" 205)] #[]) (.node (bp "unlike_kept" (top 6)) (.node (aE (.type "code") [(ag "behind_kept" 261),(ag "behind_kept" 262),(ag "/claim/cut.py" 263),(.int 30 0),(.int 2 0),(.int 0 0),(.int 0 0),(.int 3 0),(.ref 72),(.bool .true),(.int 181 0),(.ref 73),.none,.none,.none,(.ref 74),(.int 264 0),(.int 30 0),(ag "/claim/cut.py" 265)] #[]) (.node (aE (.type "code") [(ag "Behind" 357),(ag "Behind" 358),(ag "/claim/cut.py" 359),(.int 53 0),(.int 0 0),(.int 0 0),(.int 0 0),(.int 0 0),(.ref 137),(.bool .false),(.int 181 0),(.ref 138),.none,.none,.none,.none,(.int 360 0),(.int 53 0),(ag "/claim/cut.py" 361)] #[]) (.node ⟨(.type "type"),none,.cls ⟨b_ "Way",[(.ref 129)],[(.ref 267),(.ref 129),(.type "object")],266,b_ "Way",.true,[],[],.false,none,.false⟩,#[some (.ref 220),none,some (ag "Way" 469),some (ag "Way" 477),some (.builtin "object.__new__"),some (.bool .true)]⟩ .nil .nil) .nil) (.node (aD [(ag "self" 446),(ag "rooms" 447)]) .nil .nil)) (.node (aE .none [] #[]) (.node (aE (.type "builtin_function_or_method") [(.builtin "type.__prepare__"),(.type "type")] #[]) .nil .nil) (.node (aE .none [] #[]) .nil .nil))) (.node (aE .none [] #[]) (.node (bq "wish_kept" (top 14) (ag "seekhall.keeping" 196) 90) (.node (aD []) .nil .nil) (.node (aE (.type "builtin_function_or_method") [(.builtin "object.__init_subclass__"),(.ref 217)] #[]) .nil .nil)) (.node (aD []) (.node (aD []) .nil .nil) (.node (aD []) .nil .nil)))))) (.node (boot_o_5 P) (.node (boot_o_9 P) (.node (aD [(ag "things" 192)]) (.node (bq "sum_of" (top 4) (ag "seekhall.keeping" 196) 32) (.node (aD []) (.node ⟨(.type "type"),none,.cls ⟨b_ "Wish",[(.type "object")],[(.ref 129),(.type "object")],128,b_ "Wish",.true,[],[(.ref 167),(.ref 217),(.ref 267)],.false,none,.false⟩,#[none,none,some (ag "Wish" 300),some (ag "Wish" 308),some (.builtin "object.__new__"),some (.bool .true)]⟩ (.node (bp "Way.may_keep" (bf 22 4)) .nil .nil) .nil) (.node (bp "Many.fewest" (bf 20 2)) .nil .nil)) (.node (aE (.type "code") [(ag "Wish" 302),(ag "Wish" 303),(ag "/claim/cut.py" 304),(.int 39 0),(.int 0 0),(.int 0 0),(.int 0 0),(.int 0 0),(.ref 95),(.bool .false),(.int 181 0),(.ref 96),.none,.none,.none,.none,(.int 305 0),(.int 39 0),(ag "/claim/cut.py" 306)] #[]) (.node (aE .none [] #[]) .nil .nil) (.node (aE (.type "code") [(ag "Way" 471),(ag "Way" 472),(ag "/claim/cut.py" 473),(.int 100 0),(.int 0 0),(.int 0 0),(.int 0 0),(.int 0 0),(.ref 223),(.bool .false),(.int 181 0),(.ref 224),.none,.none,.none,.none,(.int 474 0),(.int 100 0),(ag "/claim/cut.py" 475)] #[]) .nil .nil))) (.node (aE (.type "code") [(ag "many_kept" 227),(ag "many_kept" 228),(ag "/claim/cut.py" 229),(.int 13 0),(.int 2 0),(.int 0 0),(.int 0 0),(.int 3 0),(.ref 46),(.bool .true),(.int 181 0),(.ref 47),.none,.none,.none,(.ref 48),(.int 230 0),(.int 13 0),(ag "/claim/cut.py" 231)] #[]) (.node (bp "same_kept" (top 12)) (.node (bp "Behind.__init__" (bf 18 0)) (.node (aE (.type "code") [(ag "parts_of" 541),(ag "parts_of" 542),(ag "/claim/cut.py" 543),(.int 132 0),(.int 2 0),(.int 0 0),(.int 0 0),(.int 3 0),(.ref 270),(.bool .true),(.int 181 0),(.ref 271),.none,.none,.none,(.ref 272),(.int 544 0),(.int 132 0),(ag "/claim/cut.py" 545)] #[]) .nil .nil) .nil) (.node (aE .none [] #[]) .nil .nil)) (.node (aD []) (.node (aD []) .nil .nil) (.node (aD []) .nil .nil)))) (.node (aD []) (.node (aD [(ag "wish" 222),(ag "filling" 223)]) (.node (aE .none [] #[]) (.node (aD []) (.node (aD [(ag "cells" 532),(ag "ends" 533),(ag "leads" 534)]) .nil .nil) .nil) (.node (aD []) .nil .nil)) (.node (bq "Wish.__init__" (bf 16 0) (ag "seekhall.wishes" 298) 104) (.node (aE (.type "builtin_function_or_method") [(.builtin "object.__init_subclass__"),(.ref 167)] #[]) .nil .nil) (.node (bq "Way.__init__" (bf 22 0) (ag "seekhall.steps" 467) 232) .nil .nil))) (.node (bq "sum_kept" (top 8) (ag "seekhall.keeping" 196) 56) (.node (bp "wish_kept" (top 14)) (.node (aE (.type "code") [(ag "kept" 375),(ag "Behind.kept" 376),(ag "/claim/cut.py" 377),(.int 60 0),(.int 2 0),(.int 0 0),(.int 0 0),(.int 3 0),(.ref 148),(.bool .true),(.int 181 0),(.ref 149),.none,(.ref 150),(.ref 151),(.ref 152),(.int 380 0),(.int 60 0),(ag "/claim/cut.py" 381)] #[]) (.node (bq "spans_of" (top 25) (ag "seekhall.sums" 539) 280) .nil .nil) .nil) (.node ⟨(.type "type"),none,.cls ⟨b_ "Many",[(.ref 129)],[(.ref 217),(.ref 129),(.type "object")],216,b_ "Many",.true,[],[],.false,none,.false⟩,#[some (.ref 170),none,some (ag "Many" 403),some (ag "Many" 411),some (.builtin "object.__new__"),some (.bool .true)]⟩ .nil .nil)) (.node (aE .none [] #[]) (.node (aE .none [] #[]) .nil .nil) (.node (aE .none [] #[]) .nil .nil))))) (.node (aE (.type "code") [(ag "<module>" 182),(ag "<module>" 183),(ag "/claim/cut.py" 184),(.int 1 0),(.int 0 0),(.int 0 0),(.int 0 0),(.int 0 0),(.ref 11),(.bool .false),(.int 181 0),(.ref 12),.none,.none,.none,.none,(.int 185 0),(.int 1 0),(ag "/claim/cut.py" 186)] #[]) (.node (bq "are_unlike" (top 1) (ag "seekhall.forms" 187) 20) (.node (aE (.type "code") [(ag "values_at" 213),(ag "values_at" 214),(ag "/claim/cut.py" 215),(.int 9 0),(.int 2 0),(.int 0 0),(.int 0 0),(.int 3 0),(.ref 34),(.bool .true),(.int 181 0),(.ref 35),.none,.none,.none,(.ref 36),(.int 216 0),(.int 9 0),(ag "/claim/cut.py" 217)] #[]) (.node (bp "way_kept" (top 10)) (.node (aE (.type "builtin_function_or_method") [(.builtin "object.__init_subclass__"),(.ref 129)] #[]) (.node (aE .none [] #[]) .nil .nil) .nil) (.node (aE .none [] #[]) .nil .nil)) (.node (aD [(ag "self" 315),(ag "wish" 316)]) (.node (aD [(ag "cells" 395),(ag "gap" 396)]) .nil .nil) (.node (aD [(ag "self" 484),(ag "wish" 485),(ag "step" 486)]) .nil .nil))) (.node (aD [(ag "wish" 236),(ag "filling" 237)]) (.node (aD []) (.node (aE .none [] #[]) (.node (aD [(ag "terms" 550),(ag "rooms" 551),(ag "spans" 552),(ag "term" 553),(ag "parts" 554)]) .nil .nil) .nil) (.node (aE (.type "code") [(ag "may_break" 451),(ag "Many.may_break" 452),(ag "/claim/cut.py" 453),(.int 97 0),(.int 2 0),(.int 0 0),(.int 0 0),(.int 3 0),(.ref 208),(.bool .true),(.int 181 0),(.ref 209),.none,(.ref 210),(.ref 211),(.ref 212),(.int 456 0),(.int 97 0),(ag "/claim/cut.py" 457)] #[]) .nil .nil)) (.node (bp "Wish.may_keep" (bf 16 2)) (.node (bp "Many.__init__" (bf 20 0)) .nil .nil) (.node (bp "Way.states_behind" (bf 22 2)) .nil .nil)))) (.node (aD []) (.node (bq "unlike_kept" (top 6) (ag "seekhall.keeping" 196) 44) (.node (aD []) (.node (aD []) (.node (aE (.type "builtin_function_or_method") [(.builtin "object.__init_subclass__"),(.ref 267)] #[]) .nil .nil) .nil) (.node (bp "Many.may_keep" (bf 20 4)) .nil .nil)) (.node (aD []) (.node (aD []) .nil .nil) (.node (aD []) .nil .nil))) (.node (aD []) (.node (aE (.type "builtin_function_or_method") [(.builtin "type.__prepare__"),(.type "type")] #[]) (.node (bp "Behind.may_keep" (bf 18 2)) .nil .nil) (.node (aE (.type "builtin_function_or_method") [(.builtin "type.__prepare__"),(.type "type")] #[]) .nil .nil)) (.node (aE (.type "code") [(ag "may_break" 336),(ag "Wish.may_break" 337),(ag "/claim/cut.py" 338),(.int 50 0),(.int 2 0),(.int 0 0),(.int 0 0),(.int 3 0),(.ref 120),(.bool .true),(.int 181 0),(.ref 121),.none,(.ref 122),(.ref 123),(.ref 124),(.int 341 0),(.int 50 0),(ag "/claim/cut.py" 342)] #[]) (.node (aE (.type "code") [(ag "kept" 423),(ag "Many.kept" 424),(ag "/claim/cut.py" 425),(.int 85 0),(.int 2 0),(.int 0 0),(.int 0 0),(.int 3 0),(.ref 184),(.bool .true),(.int 181 0),(.ref 185),.none,(.ref 186),(.ref 187),(.ref 188),(.int 428 0),(.int 85 0),(ag "/claim/cut.py" 429)] #[]) .nil .nil) (.node (aE (.type "code") [(ag "last_states" 510),(ag "Way.last_states" 511),(ag "/claim/cut.py" 512),(.int 120 0),(.int 2 0),(.int 0 0),(.int 0 0),(.int 3 0),(.ref 248),(.bool .true),(.int 181 0),(.ref 249),.none,(.ref 250),(.ref 251),(.ref 252),(.int 517 0),(.int 120 0),(ag "/claim/cut.py" 518)] #[]) .nil .nil))))))) (.node (boot_o_2 P) (.node (boot_o_4 P) (.node (boot_o_8 P) (.node (aE .none [] #[]) (.node (aE (.type "code") [(ag "sum_of" 207),(ag "sum_of" 208),(ag "/claim/cut.py" 209),(.int 7 0),(.int 2 0),(.int 0 0),(.int 0 0),(.int 3 0),(.ref 29),(.bool .true),(.int 181 0),(.ref 30),.none,.none,.none,(.ref 31),(.int 210 0),(.int 7 0),(ag "/claim/cut.py" 211)] #[]) (.node (bq "table_kept" (top 9) (ag "seekhall.keeping" 196) 63) (.node (iC (.type "dict") [aB P "__module__" 307 (ag "seekhall.wishes" 298),aB P "__firstlineno__" 311 (.int 39 310),aB P "__init__" 319 (.ref 105),aB P "kept" 327 (.ref 112),aB P "may_keep" 335 (.ref 119),aB P "may_break" 343 (.ref 126),aB P "__static_attributes__" 345 (.ref 127),aB P "__dict__" 347 (.ref 130),aB P "__weakref__" 349 (.ref 131),aB P "__doc__" 350 .none] 4 #[]) (.node (aE .none [] #[]) .nil .nil) .nil) (.node (aE .none [] #[]) .nil .nil)) (.node (aE .none [(.int 41 0),(.int 4 0),(.ref 104),(.int 44 0),(.int 4 0),(.ref 111),(.int 47 0),(.int 4 0),(.ref 118),(.int 50 0),(.int 4 0),(.ref 125)] #[]) (.node (aD []) .nil .nil) (.node (aE .none [(.int 102 0),(.int 4 0),(.ref 232),(.int 110 0),(.int 4 0),(.ref 239),(.int 113 0),(.int 4 0),(.ref 246),(.int 120 0),(.int 4 0),(.ref 253),(.int 126 0),(.int 4 0),(.ref 258),(.int 129 0),(.int 4 0),(.ref 263)] #[]) .nil .nil))) (.node (bp "many_kept" (top 7)) (.node (aD []) (.node (aD []) (.node (bp "parts_of" (top 24)) .nil .nil) .nil) (.node (aD []) .nil .nil)) (.node (bq "Wish.kept" (bf 16 1) (ag "seekhall.wishes" 298) 111) (.node ⟨(.type "frame"),none,.plain,#[some (.ref 175),some (.ref 3),some (.ref 172),none,some (ag "seekhall.manies" 401),none,some (.ref 0)]⟩ .nil .nil) (.node (bq "Way.kept" (bf 22 1) (ag "seekhall.steps" 467) 239) .nil .nil)))) (.node (aD [(ag "number" 201),(ag "low" 202),(ag "high" 203)]) (.node (aE .none [] #[]) (.node (aD []) (.node (iC (.type "dict") [aB P "__module__" 362 (ag "seekhall.behinds" 353),aB P "__qualname__" 364 (ag "Behind" 363),aB P "__firstlineno__" 366 (.int 53 365),aB P "__init__" 374 (.ref 147),aB P "kept" 382 (.ref 154),aB P "may_keep" 388 (.ref 159),aB P "may_break" 394 (.ref 164),aB P "__static_attributes__" 397 (.ref 165)] 8 #[]) (.node (bq "Way.may_break" (bf 22 5) (ag "seekhall.steps" 467) 263) .nil .nil) .nil) (.node (bq "Many.most" (bf 20 3) (ag "seekhall.manies" 401) 199) .nil .nil)) (.node (aE (.type "code") [(ag "__init__" 312),(ag "Wish.__init__" 313),(ag "/claim/cut.py" 314),(.int 41 0),(.int 2 0),(.int 0 0),(.int 0 0),(.int 3 0),(.ref 99),(.bool .true),(.int 181 0),(.ref 100),.none,(.ref 101),(.ref 102),(.ref 103),(.int 317 0),(.int 41 0),(ag "/claim/cut.py" 318)] #[]) (.node (aE (.type "super") [(.ref 167),(.ref 167),(.ref 167)] #[]) .nil .nil) (.node (aE (.type "code") [(ag "__init__" 481),(ag "Way.__init__" 482),(ag "/claim/cut.py" 483),(.int 102 0),(.int 2 0),(.int 0 0),(.int 0 0),(.int 3 0),(.ref 227),(.bool .true),(.int 181 0),(.ref 228),.none,(.ref 229),(.ref 230),(.ref 231),(.int 487 0),(.int 102 0),(ag "/claim/cut.py" 488)] #[]) .nil .nil))) (.node (aE (.type "code") [(ag "sum_kept" 233),(ag "sum_kept" 234),(ag "/claim/cut.py" 235),(.int 16 0),(.int 2 0),(.int 0 0),(.int 0 0),(.int 3 0),(.ref 51),(.bool .true),(.int 181 0),(.ref 52),.none,(.ref 53),(.ref 54),(.ref 55),(.int 238 0),(.int 16 0),(ag "/claim/cut.py" 239)] #[]) (.node (aD []) (.node (bp "Behind.kept" (bf 18 1)) (.node (aE (.type "code") [(ag "spans_of" 547),(ag "spans_of" 548),(ag "/claim/cut.py" 549),(.int 134 0),(.int 2 0),(.int 0 0),(.int 0 0),(.int 3 0),(.ref 275),(.bool .true),(.int 181 0),(.ref 276),.none,(.ref 277),(.ref 278),(.ref 279),(.int 555 0),(.int 134 0),(ag "/claim/cut.py" 556)] #[]) .nil .nil) .nil) (.node (iC (.type "dict") [aB P "__module__" 410 (ag "seekhall.manies" 401),aB P "__firstlineno__" 414 (.int 76 413),aB P "__init__" 422 (.ref 183),aB P "kept" 430 (.ref 190),aB P "fewest" 436 (.ref 195),aB P "most" 442 (.ref 200),aB P "may_keep" 450 (.ref 207),aB P "may_break" 458 (.ref 214),aB P "__static_attributes__" 463 (.ref 215),aB P "__doc__" 464 .none] 2 #[]) .nil .nil)) (.node (aD []) (.node (aD []) .nil .nil) (.node (aD []) .nil .nil))))) (.node (aE .none [(.int 2 0),(.int 0 0),(.ref 20),(.int 5 0),(.int 0 0),(.ref 27),(.int 7 0),(.int 0 0),(.ref 32),(.int 9 0),(.int 0 0),(.ref 37),(.int 11 0),(.int 0 0),(.ref 44),(.int 13 0),(.int 0 0),(.ref 49),(.int 16 0),(.int 0 0),(.ref 56),(.int 18 0),(.int 0 0),(.ref 63),(.int 20 0),(.int 0 0),(.ref 70),(.int 30 0),(.int 0 0),(.ref 75),(.int 33 0),(.int 0 0),(.ref 82),(.int 36 0),(.int 0 0),(.ref 90),(.int 39 0),(.int 0 0),(.ref 97),(.int 53 0),(.int 0 0),(.ref 139),(.int 76 0),(.int 0 0),(.ref 175),(.int 100 0),(.int 0 0),(.ref 225),(.int 132 0),(.int 0 0),(.ref 273),(.int 134 0),(.int 0 0),(.ref 280)] #[]) (.node (aE (.type "code") [(ag "are_unlike" 189),(ag "are_unlike" 190),(ag "/claim/cut.py" 191),(.int 2 0),(.int 1 0),(.int 0 0),(.int 0 0),(.int 3 0),(.ref 15),(.bool .true),(.int 181 0),(.ref 16),.none,(.ref 17),(.ref 18),(.ref 19),(.int 193 0),(.int 2 0),(ag "/claim/cut.py" 194)] #[]) (.node (bp "values_at" (top 5)) (.node (aD []) (.node (aE (.type "super") [(.ref 129),(.ref 129),(.ref 129)] #[]) (.node (aD []) .nil .nil) .nil) (.node (aD []) .nil .nil)) (.node (aE .none [] #[]) (.node (bq "Behind.may_break" (bf 18 3) (ag "seekhall.behinds" 353) 163) .nil .nil) (.node (aE .none [] #[]) .nil .nil))) (.node (aE .none [] #[]) (.node (iC (.type "dict") [aB P "unlike" 275 (.ref 45),aB P "many" 276 (.ref 50),aB P "sum" 277 (.ref 57),aB P "table" 278 (.ref 64),aB P "way" 279 (.ref 71),aB P "behind" 280 (.ref 76),aB P "same" 281 (.ref 83)] 7 #[]) (.node (aD []) (.node (aE .none [] #[]) .nil .nil) .nil) (.node (bp "Many.may_break" (bf 20 5)) .nil .nil)) (.node (aD []) (.node (aD []) .nil .nil) (.node (aD []) .nil .nil)))) (.node (bq "is_between" (top 3) (ag "seekhall.keeping" 196) 27) (.node (aE (.type "code") [(ag "unlike_kept" 219),(ag "unlike_kept" 220),(ag "/claim/cut.py" 221),(.int 11 0),(.int 2 0),(.int 0 0),(.int 0 0),(.int 3 0),(.ref 39),(.bool .true),(.int 181 0),(.ref 40),.none,(.ref 41),(.ref 42),(.ref 43),(.int 224 0),(.int 11 0),(ag "/claim/cut.py" 225)] #[]) (.node (bq "behind_kept" (top 11) (ag "seekhall.keeping" 196) 75) (.node ⟨(.type "frame"),none,.plain,#[some (.ref 139),some (.ref 3),some (.ref 136),none,some (ag "seekhall.behinds" 353),none,some (.ref 0)]⟩ (.node (aE (.type "super") [(.ref 267),(.ref 267),(.ref 267)] #[]) .nil .nil) .nil) (.node (aD []) .nil .nil)) (.node (aD [(ag "self" 323),(ag "filling" 324)]) (.node (iC (.type "dict") [aB P "__module__" 410 (ag "seekhall.manies" 401),aB P "__qualname__" 412 (ag "Many" 411),aB P "__firstlineno__" 414 (.int 76 413),aB P "__init__" 422 (.ref 183),aB P "kept" 430 (.ref 190),aB P "fewest" 436 (.ref 195),aB P "most" 442 (.ref 200),aB P "may_keep" 450 (.ref 207),aB P "may_break" 458 (.ref 214),aB P "__static_attributes__" 463 (.ref 215)] 10 #[]) .nil .nil) (.node (aD [(ag "self" 493),(ag "filling" 494)]) .nil .nil))) (.node (aD [(ag "wish" 244),(ag "filling" 245)]) (.node (aD []) (.node (aE .none [] #[]) .nil .nil) (.node (aD [(.ref 129)]) .nil .nil)) (.node (bp "Wish.may_break" (bf 16 3)) (.node (bp "Many.kept" (bf 20 1)) .nil .nil) (.node (bp "Way.last_states" (bf 22 3)) .nil .nil)))))) (.node (boot_o_6 P) (.node (boot_o_10 P) (.node (aD []) (.node (aD []) (.node (aE .none [] #[]) (.node (aE (.type "getset_descriptor") [(ag "__dict__" 346),(.ref 129),(.builtin "function.__dict__"),(.builtin "function.__dict__#set")] #[]) (.node (aE (.type "code") [(ag "may_keep" 520),(ag "Way.may_keep" 521),(ag "/claim/cut.py" 522),(.int 126 0),(.int 2 0),(.int 0 0),(.int 0 0),(.int 3 0),(.ref 255),(.bool .true),(.int 181 0),(.ref 256),.none,.none,.none,(.ref 257),(.int 523 0),(.int 126 0),(ag "/claim/cut.py" 524)] #[]) .nil .nil) .nil) (.node (aE (.type "code") [(ag "fewest" 431),(ag "Many.fewest" 432),(ag "/claim/cut.py" 433),(.int 88 0),(.int 2 0),(.int 0 0),(.int 0 0),(.int 3 0),(.ref 191),(.bool .true),(.int 181 0),(.ref 192),.none,.none,.none,(.ref 193),(.int 434 0),(.int 88 0),(ag "/claim/cut.py" 435)] #[]) .nil .nil)) (.node ⟨(.type "frame"),none,.plain,#[some (.ref 97),some (.ref 3),some (.ref 94),none,some (ag "seekhall.wishes" 298),none,some (.ref 0)]⟩ (.node (bp "Behind.may_break" (bf 18 3)) .nil .nil) (.node ⟨(.type "frame"),none,.plain,#[some (.ref 225),some (.ref 3),some (.ref 222),none,some (ag "seekhall.steps" 467),none,some (.ref 0)]⟩ .nil .nil))) (.node (bq "many_kept" (top 7) (ag "seekhall.keeping" 196) 49) (.node (aE (.type "code") [(ag "same_kept" 267),(ag "same_kept" 268),(ag "/claim/cut.py" 269),(.int 33 0),(.int 2 0),(.int 0 0),(.int 0 0),(.int 3 0),(.ref 77),(.bool .true),(.int 181 0),(.ref 78),.none,(.ref 79),(.ref 80),(.ref 81),(.int 272 0),(.int 33 0),(ag "/claim/cut.py" 273)] #[]) (.node (aE (.type "code") [(ag "__init__" 367),(ag "Behind.__init__" 368),(ag "/claim/cut.py" 369),(.int 55 0),(.int 2 0),(.int 0 0),(.int 0 0),(.int 3 0),(.ref 141),(.bool .true),(.int 181 0),(.ref 142),.none,(.ref 143),(.ref 144),(.ref 145),(.int 372 0),(.int 55 0),(ag "/claim/cut.py" 373)] #[]) (.node (bq "parts_of" (top 24) (ag "seekhall.sums" 539) 273) .nil .nil) .nil) (.node (aD [(ag "self" 454),(ag "rooms" 455)]) .nil .nil)) (.node (aE .none [] #[]) (.node (aE .none [] #[]) .nil .nil) (.node (aE .none [] #[]) .nil .nil)))) (.node (bp "is_between" (top 3)) (.node (aD []) (.node (bp "behind_kept" (top 11)) (.node (aE .none [(.int 55 0),(.int 4 0),(.ref 146),(.int 60 0),(.int 4 0),(.ref 153),(.int 63 0),(.int 4 0),(.ref 158),(.int 72 0),(.int 4 0),(.ref 163)] #[]) (.node (iC (.type "dict") [aB P "__module__" 476 (ag "seekhall.steps" 467),aB P "__firstlineno__" 480 (.int 100 479),aB P "__init__" 489 (.ref 233),aB P "kept" 497 (.ref 240),aB P "states_behind" 509 (.ref 247),aB P "last_states" 519 (.ref 254),aB P "may_keep" 525 (.ref 259),aB P "may_break" 531 (.ref 264),aB P "__static_attributes__" 535 (.ref 265),aB P "__doc__" 536 .none] 2 #[]) .nil .nil) .nil) (.node (aE .none [] #[]) .nil .nil)) (.node (aD []) (.node (aD [(.ref 129)]) .nil .nil) (.node (aD []) .nil .nil))) (.node (aD []) (.node (aE (.type "code") [(ag "wish_kept" 290),(ag "wish_kept" 291),(ag "/claim/cut.py" 292),(.int 36 0),(.int 2 0),(.int 0 0),(.int 0 0),(.int 3 0),(.ref 85),(.bool .true),(.int 181 0),(.ref 86),.none,(.ref 87),(.ref 88),(.ref 89),(.int 295 0),(.int 36 0),(ag "/claim/cut.py" 296)] #[]) (.node (bq "Behind.kept" (bf 18 1) (ag "seekhall.behinds" 353) 153) .nil .nil) (.node (aE (.type "super") [(.ref 217),(.ref 217),(.ref 217)] #[]) .nil .nil)) (.node (aD [(ag "self" 339),(ag "rooms" 340)]) (.node (aD [(ag "self" 426),(ag "filling" 427)]) .nil .nil) (.node (aD [(ag "self" 513),(ag "rooms" 514),(ag "states" 515),(ag "cell" 516)]) .nil .nil))))) (.node ⟨(.type "frame"),none,.plain,#[some (.ref 13),some (.ref 3),some (.ref 3),none,some (ag "__main__" 164),none,some (.ref 0)]⟩ (.node (aD []) (.node (bq "values_at" (top 5) (ag "seekhall.keeping" 196) 37) (.node (aE (.type "code") [(ag "way_kept" 249),(ag "way_kept" 250),(ag "/claim/cut.py" 251),(.int 20 0),(.int 2 0),(.int 0 0),(.int 0 0),(.int 3 0),(.ref 65),(.bool .true),(.int 181 0),(.ref 66),.none,(.ref 67),(.ref 68),(.ref 69),(.int 258 0),(.int 20 0),(ag "/claim/cut.py" 259)] #[]) (.node (aD [(.ref 129)]) (.node (bp "Way.may_break" (bf 22 5)) .nil .nil) .nil) (.node (bp "Many.most" (bf 20 3)) .nil .nil)) (.node (aD []) (.node (iC (.type "dict") [aB P "__module__" 362 (ag "seekhall.behinds" 353),aB P "__firstlineno__" 366 (.int 53 365),aB P "__init__" 374 (.ref 147),aB P "kept" 382 (.ref 154),aB P "may_keep" 388 (.ref 159),aB P "may_break" 394 (.ref 164),aB P "__static_attributes__" 397 (.ref 165),aB P "__doc__" 398 .none] 2 #[]) .nil .nil) (.node (aD []) .nil .nil))) (.node (aD []) (.node (aE .none [] #[]) (.node (aD [(ag "self" 378),(ag "filling" 379)]) (.node (aD []) .nil .nil) .nil) (.node (bq "Many.may_break" (bf 20 5) (ag "seekhall.manies" 401) 213) .nil .nil)) (.node (aE (.type "code") [(ag "may_keep" 328),(ag "Wish.may_keep" 329),(ag "/claim/cut.py" 330),(.int 47 0),(.int 2 0),(.int 0 0),(.int 0 0),(.int 3 0),(.ref 113),(.bool .true),(.int 181 0),(.ref 114),.none,(.ref 115),(.ref 116),(.ref 117),(.int 333 0),(.int 47 0),(ag "/claim/cut.py" 334)] #[]) (.node (aE (.type "code") [(ag "__init__" 415),(ag "Many.__init__" 416),(ag "/claim/cut.py" 417),(.int 78 0),(.int 2 0),(.int 0 0),(.int 0 0),(.int 3 0),(.ref 177),(.bool .true),(.int 181 0),(.ref 178),.none,(.ref 179),(.ref 180),(.ref 181),(.int 420 0),(.int 78 0),(ag "/claim/cut.py" 421)] #[]) .nil .nil) (.node (aE (.type "code") [(ag "states_behind" 498),(ag "Way.states_behind" 499),(ag "/claim/cut.py" 500),(.int 113 0),(.int 3 0),(.int 0 0),(.int 0 0),(.int 3 0),(.ref 241),(.bool .true),(.int 181 0),(.ref 242),.none,(.ref 243),(.ref 244),(.ref 245),(.int 507 0),(.int 113 0),(ag "/claim/cut.py" 508)] #[]) .nil .nil)))) (.node (aE .none [] #[]) (.node (aD []) (.node (aE .none [] #[]) (.node (aE .none [] #[]) (.node (aD []) .nil .nil) .nil) (.node (aE (.type "code") [(ag "may_keep" 443),(ag "Many.may_keep" 444),(ag "/claim/cut.py" 445),(.int 94 0),(.int 2 0),(.int 0 0),(.int 0 0),(.int 3 0),(.ref 201),(.bool .true),(.int 181 0),(.ref 202),.none,(.ref 203),(.ref 204),(.ref 205),(.int 448 0),(.int 94 0),(ag "/claim/cut.py" 449)] #[]) .nil .nil)) (.node (bp "Wish.kept" (bf 16 1)) (.node (aE .none [(.int 78 0),(.int 4 0),(.ref 182),(.int 85 0),(.int 4 0),(.ref 189),(.int 88 0),(.int 4 0),(.ref 194),(.int 91 0),(.int 4 0),(.ref 199),(.int 94 0),(.int 4 0),(.ref 206),(.int 97 0),(.int 4 0),(.ref 213)] #[]) .nil .nil) (.node (bp "Way.kept" (bf 22 1)) .nil .nil))) (.node (bp "table_kept" (top 9)) (.node (iC (.type "dict") [aB P "__module__" 307 (ag "seekhall.wishes" 298),aB P "__qualname__" 309 (ag "Wish" 308),aB P "__firstlineno__" 311 (.int 39 310),aB P "__init__" 319 (.ref 105),aB P "kept" 327 (.ref 112),aB P "may_keep" 335 (.ref 119),aB P "may_break" 343 (.ref 126),aB P "__static_attributes__" 345 (.ref 127)] 8 #[]) (.node (aE (.type "code") [(ag "may_keep" 383),(ag "Behind.may_keep" 384),(ag "/claim/cut.py" 385),(.int 63 0),(.int 2 0),(.int 0 0),(.int 0 0),(.int 3 0),(.ref 155),(.bool .true),(.int 181 0),(.ref 156),.none,.none,.none,(.ref 157),(.int 386 0),(.int 63 0),(ag "/claim/cut.py" 387)] #[]) .nil .nil) (.node (iC (.type "dict") [aB P "__module__" 476 (ag "seekhall.steps" 467),aB P "__qualname__" 478 (ag "Way" 477),aB P "__firstlineno__" 480 (.int 100 479),aB P "__init__" 489 (.ref 233),aB P "kept" 497 (.ref 240),aB P "states_behind" 509 (.ref 247),aB P "last_states" 519 (.ref 254),aB P "may_keep" 525 (.ref 259),aB P "may_break" 531 (.ref 264),aB P "__static_attributes__" 535 (.ref 265)] 10 #[]) .nil .nil)) (.node (bq "Wish.may_break" (bf 16 3) (ag "seekhall.wishes" 298) 125) (.node (bq "Many.kept" (bf 20 1) (ag "seekhall.manies" 401) 189) .nil .nil) (.node (bq "Way.last_states" (bf 22 3) (ag "seekhall.steps" 467) 253) .nil .nil)))))))
noncomputable def ai (P:Params) (i:Nat):Obj:=((Cb P).get i).getD default
noncomputable def DF (P:Params):BT:=.node (ai P 0) (.node (ai P 1) (.node (iC (.type "dict") [aB P "__name__" 165 (ag "law_seekhall_k19_just_where_a_wish_is_kept" 851),aB P "__doc__" 166 .none,aB P "__package__" 167 .none,aB P "__loader__" 168 (.builtin "__main__.__loader__#opaque"),aB P "__spec__" 169 .none,aB P "__annotations__" 170 (.ref 6),aB P "__builtins__" 171 (.ref 4),aB P "__file__" 173 (ag "/claim/cut.py" 172),aB P "__cached__" 174 .none,aB P "are_unlike" 195 (.ref 21),aB P "is_between" 206 (.ref 28),aB P "sum_of" 212 (.ref 33),aB P "values_at" 218 (.ref 38),aB P "unlike_kept" 226 (.ref 45),aB P "many_kept" 232 (.ref 50),aB P "sum_kept" 240 (.ref 57),aB P "table_kept" 248 (.ref 64),aB P "way_kept" 260 (.ref 71),aB P "behind_kept" 266 (.ref 76),aB P "same_kept" 274 (.ref 83),aB P "KEEPERS" 289 (.ref 84),aB P "wish_kept" 297 (.ref 91),aB P "Wish" 352 (.ref 129),aB P "Behind" 400 (.ref 167),aB P "Many" 466 (.ref 217),aB P "Way" 538 (.ref 267),aB P "parts_of" 546 (.ref 274),aB P "spans_of" 557 (.ref 281),aB P "Sum" 645 (.ref 340),aB P "Table" 711 (.ref 390),aB P "finds_value" 724 (.ref 399),aB P "Unlike" 778 (.ref 437),aB P "plain_wish_of" 787 (.ref 446),aB P "Same" 850 (.ref 494),aB P "_law_deal" 858 (.ref 501),aB P "_law_draw" 869 (.ref 508),aB P "_law_names" 875 (.ref 513),aB P "_law_pool" 885 (.ref 520),aB P "_law_rooms" 891 (.ref 525),aB P "_law_some" 903 (.ref 532),aB P "_law_bounds" 914 (.ref 539),aB P "_law_sum" 920 (.ref 544),aB P "_law_rows" 926 (.ref 549),aB P "_law_way" 932 (.ref 554),aB P "_law_wish" 938 (.ref 559),aB P "_law_kept" 944 (.ref 564),aB P "_law_fillings" 958 (.ref 571),aB P "_law_truth" 966 (.ref 578),aB P "_law_right" 980 (.ref 585),aB P "law" 998 (.ref 592)] 50 #[]) (.node (ai P 7) (.node (ai P 15) (.node (ai P 31) (.node (ai P 63) (.node (ai P 127) (.node (ai P 255) (.node (bp "_law_names" (top 38)) .nil .nil) .nil) (.node (aD [(ag "self" 699),(ag "rooms" 700),(ag "fillings" 701),(ag "cell" 702)]) .nil .nil)) (.node (ai P 191) (.node (aD [(ag "self" 613),(ag "rooms" 614),(ag "spans" 615),(ag "reached" 616),(ag "number" 617),(ag "term" 618)]) (.node (aD []) .nil .nil) .nil) (.node (aD [(.ref 129)]) .nil .nil))) (.node (ai P 95) (.node (ai P 159) (.node (aE (.type "code") [(ag "Sum" 560),(ag "Sum" 561),(ag "/claim/cut.py" 562),(.int 140 0),(.int 0 0),(.int 0 0),(.int 0 0),(.int 0 0),(.ref 285),(.bool .false),(.int 181 0),(.ref 286),.none,.none,.none,.none,(.int 563 0),(.int 140 0),(ag "/claim/cut.py" 564)] #[]) (.node (aE (.type "code") [(ag "_law_sum" 915),(ag "_law_sum" 916),(ag "/claim/cut.py" 917),(.int 327 0),(.int 3 0),(.int 0 0),(.int 0 0),(.int 3 0),(.ref 540),(.bool .true),(.int 181 0),(.ref 541),.none,.none,.none,(.ref 542),(.int 918 0),(.int 327 0),(ag "/claim/cut.py" 919)] #[]) .nil .nil) .nil) (.node (aE .none [] #[]) .nil .nil)) (.node (ai P 223) (.node (aE .none [] #[]) .nil .nil) (.node (aE .none [] #[]) .nil .nil)))) (.node (ai P 47) (.node (ai P 79) (.node (ai P 143) (.node (ai P 271) (.node (aE .none [] #[]) .nil .nil) .nil) (.node (bq "finds_value" (top 30) (ag "seekhall.unlikes" 712) 398) .nil .nil)) (.node (ai P 207) (.node (bp "Sum.may_break" (bf 26 6)) (.node (aE (.type "code") [(ag "law" 981),(ag "law" 982),(ag "/claim/cut.py" 983),(.int 422 0),(.int 1 0),(.int 0 0),(.int 0 0),(.int 3 0),(.ref 586),(.bool .true),(.int 181 0),(.ref 587),.none,(.ref 588),(.ref 589),(.ref 590),(.int 996 0),(.int 422 0),(ag "/claim/cut.py" 997)] #[]) .nil .nil) .nil) (.node (aD [(ag "self" 811),(ag "filling" 812)]) .nil .nil))) (.node (ai P 111) (.node (ai P 175) (.node (aD []) (.node (bq "_law_wish" (top 46) (ag "law_seekhall_k19_just_where_a_wish_is_kept" 851) 558) .nil .nil) .nil) (.node (aD []) .nil .nil)) (.node (ai P 239) (.node (aE (.type "code") [(ag "has_room" 676),(ag "Table.has_room" 677),(ag "/claim/cut.py" 678),(.int 188 0),(.int 3 0),(.int 0 0),(.int 0 0),(.int 3 0),(.ref 364),(.bool .true),(.int 181 0),(.ref 365),.none,.none,.none,(.ref 366),(.int 679 0),(.int 188 0),(ag "/claim/cut.py" 680)] #[]) .nil .nil) (.node (aE (.type "super") [(.ref 494),(.ref 494),(.ref 494)] #[]) .nil .nil))))) (.node (ai P 23) (.node (ai P 39) (.node (ai P 71) (.node (ai P 135) (.node (ai P 263) (.node (aE (.type "code") [(ag "_law_pool" 876),(ag "_law_pool" 877),(ag "/claim/cut.py" 878),(.int 300 0),(.int 1 0),(.int 0 0),(.int 0 0),(.int 3 0),(.ref 514),(.bool .true),(.int 181 0),(.ref 515),.none,(.ref 516),(.ref 517),(.ref 518),(.int 883 0),(.int 300 0),(ag "/claim/cut.py" 884)] #[]) .nil .nil) .nil) (.node (aE (.type "super") [(.ref 390),(.ref 390),(.ref 390)] #[]) .nil .nil)) (.node (ai P 199) (.node (aD []) (.node (bp "_law_right" (top 50)) .nil .nil) .nil) (.node (aE .none [] #[]) .nil .nil))) (.node (ai P 103) (.node (ai P 167) (.node (bq "Sum.__init__" (bf 26 0) (ag "seekhall.sums" 539) 294) (.node (aE .none [] #[]) .nil .nil) .nil) (.node (aD [(ag "self" 756),(ag "rooms" 757),(ag "holders" 758),(ag "cell" 759)]) .nil .nil)) (.node (ai P 231) (.node (aD [(ag "self" 671),(ag "filling" 672)]) .nil .nil) (.node (aD [(ag "self" 839),(ag "rooms" 840)]) .nil .nil)))) (.node (ai P 55) (.node (ai P 87) (.node (ai P 151) (.node (ai P 279) (.node (aD [(ag "_law_deal_here" 907),(ag "_law_low" 908),(ag "_law_high" 909),(ag "_law_one" 910),(ag "_law_other" 911)]) .nil .nil) .nil) (.node (aD []) .nil .nil)) (.node (ai P 215) (.node (aD [(.ref 129)]) .nil .nil) (.node (aE (.type "code") [(ag "may_be_among" 816),(ag "Same.may_be_among" 817),(ag "/claim/cut.py" 818),(.int 259 0),(.int 2 0),(.int 0 0),(.int 0 0),(.int 3 0),(.ref 468),(.bool .true),(.int 181 0),(.ref 469),.none,.none,.none,(.ref 470),(.int 819 0),(.int 259 0),(ag "/claim/cut.py" 820)] #[]) .nil .nil))) (.node (ai P 119) (.node (ai P 183) (.node (aE .none [] #[]) (.node (aD [(ag "_law_names_here" 948),(ag "_law_rooms_here" 949),(ag "_law_fillings_here" 950),(ag "_law_name" 951),(ag "_law_more" 952),(ag "_law_filling" 953),(ag "_law_value" 954),(ag "_law_other" 955)]) .nil .nil) .nil) (.node (aE (.type "builtin_function_or_method") [(.builtin "object.__init_subclass__"),(.ref 437)] #[]) .nil .nil)) (.node (ai P 247) (.node (aE .none [] #[]) .nil .nil) (.node (aE .none [] #[]) .nil .nil)))))) (.node (ai P 11) (.node (ai P 19) (.node (ai P 35) (.node (ai P 67) (.node (ai P 131) (.node (ai P 259) (.node (aE .none [] #[]) .nil .nil) .nil) (.node (bq "Table.may_break" (bf 28 5) (ag "seekhall.tables" 646) 386) .nil .nil)) (.node (ai P 195) (.node (bq "Sum.sums_kept" (bf 26 4) (ag "seekhall.sums" 539) 322) (.node (aD []) .nil .nil) .nil) (.node (aE .none [(.int 250 0),(.int 4 0),(.ref 459),(.int 256 0),(.int 4 0),(.ref 466),(.int 259 0),(.int 4 0),(.ref 471),(.int 262 0),(.int 4 0),(.ref 476),(.int 265 0),(.int 4 0),(.ref 483),(.int 268 0),(.int 4 0),(.ref 490)] #[]) .nil .nil))) (.node (ai P 99) (.node (ai P 163) (.node (aD [(ag "self" 573),(ag "wish" 574)]) (.node (bp "_law_rows" (top 44)) .nil .nil) .nil) (.node (aE (.type "code") [(ag "kept" 745),(ag "Unlike.kept" 746),(ag "/claim/cut.py" 747),(.int 217 0),(.int 2 0),(.int 0 0),(.int 0 0),(.int 3 0),(.ref 414),(.bool .true),(.int 181 0),(.ref 415),.none,(.ref 416),(.ref 417),(.ref 418),(.int 750 0),(.int 217 0),(ag "/claim/cut.py" 751)] #[]) .nil .nil)) (.node (ai P 227) (.node (aE (.type "code") [(ag "__init__" 660),(ag "Table.__init__" 661),(ag "/claim/cut.py" 662),(.int 180 0),(.int 2 0),(.int 0 0),(.int 0 0),(.int 3 0),(.ref 350),(.bool .true),(.int 181 0),(.ref 351),.none,(.ref 352),(.ref 353),(.ref 354),(.int 665 0),(.int 180 0),(ag "/claim/cut.py" 666)] #[]) .nil .nil) (.node (aE (.type "code") [(ag "may_keep" 828),(ag "Same.may_keep" 829),(ag "/claim/cut.py" 830),(.int 265 0),(.int 2 0),(.int 0 0),(.int 0 0),(.int 3 0),(.ref 478),(.bool .true),(.int 181 0),(.ref 479),.none,(.ref 480),(.ref 481),(.ref 482),(.int 833 0),(.int 265 0),(ag "/claim/cut.py" 834)] #[]) .nil .nil)))) (.node (ai P 51) (.node (ai P 83) (.node (ai P 147) (.node (ai P 275) (.node (aE (.type "code") [(ag "_law_some" 892),(ag "_law_some" 893),(ag "/claim/cut.py" 894),(.int 317 0),(.int 3 0),(.int 0 0),(.int 0 0),(.int 3 0),(.ref 526),(.bool .true),(.int 181 0),(.ref 527),.none,(.ref 528),(.ref 529),(.ref 530),(.int 901 0),(.int 317 0),(ag "/claim/cut.py" 902)] #[]) .nil .nil) .nil) (.node (aD []) .nil .nil)) (.node (ai P 211) (.node (iC (.type "dict") [aB P "__module__" 565 (ag "seekhall.sums" 539),aB P "__firstlineno__" 569 (.int 140 568),aB P "__init__" 577 (.ref 295),aB P "kept" 585 (.ref 302),aB P "may_end_well" 596 (.ref 309),aB P "sums_with" 609 (.ref 316),aB P "sums_kept" 621 (.ref 323),aB P "may_keep" 629 (.ref 330),aB P "may_break" 638 (.ref 337),aB P "__static_attributes__" 642 (.ref 338),aB P "__doc__" 643 .none] 2 #[]) .nil .nil) (.node (bq "Same.kept" (bf 34 1) (ag "seekhall.sames" 779) 466) .nil .nil))) (.node (ai P 115) (.node (ai P 179) (.node (bp "Sum.may_end_well" (bf 26 2)) (.node (aE (.type "code") [(ag "_law_kept" 939),(ag "_law_kept" 940),(ag "/claim/cut.py" 941),(.int 375 0),(.int 2 0),(.int 0 0),(.int 0 0),(.int 3 0),(.ref 560),(.bool .true),(.int 181 0),(.ref 561),.none,.none,.none,(.ref 562),(.int 942 0),(.int 375 0),(ag "/claim/cut.py" 943)] #[]) .nil .nil) .nil) (.node (aD [(ag "cells" 774)]) .nil .nil)) (.node (ai P 243) (.node (bp "Table.rows_in" (bf 28 3)) .nil .nil) (.node (bp "_law_deal" (top 36)) .nil .nil))))) (.node (ai P 27) (.node (ai P 43) (.node (ai P 75) (.node (ai P 139) (.node (ai P 267) (.node (bp "_law_rooms" (top 40)) .nil .nil) .nil) (.node (aD [(ag "cell" 717),(ag "rooms" 718),(ag "holders" 719),(ag "tried" 720),(ag "value" 721)]) .nil .nil)) (.node (ai P 203) (.node (aD []) (.node (aE .none [] #[]) .nil .nil) .nil) (.node (aE (.type "code") [(ag "__init__" 800),(ag "Same.__init__" 801),(ag "/claim/cut.py" 802),(.int 250 0),(.int 2 0),(.int 0 0),(.int 0 0),(.int 3 0),(.ref 454),(.bool .true),(.int 181 0),(.ref 455),.none,(.ref 456),(.ref 457),(.ref 458),(.int 805 0),(.int 250 0),(ag "/claim/cut.py" 806)] #[]) .nil .nil))) (.node (ai P 107) (.node (ai P 171) (.node (aD []) (.node (aD []) .nil .nil) .nil) (.node (bq "Unlike.may_keep" (bf 31 2) (ag "seekhall.unlikes" 712) 426) .nil .nil)) (.node (ai P 235) (.node (bq "Table.kept" (bf 28 1) (ag "seekhall.tables" 646) 362) .nil .nil) (.node (bq "Same.may_break" (bf 34 5) (ag "seekhall.sames" 779) 490) .nil .nil)))) (.node (ai P 59) (.node (ai P 91) (.node (ai P 155) (.node (aE (.type "builtin_function_or_method") [(.builtin "type.__prepare__"),(.type "type")] #[]) (.node (bq "_law_bounds" (top 42) (ag "law_seekhall_k19_just_where_a_wish_is_kept" 851) 538) .nil .nil) .nil) (.node (bp "Unlike.__init__" (bf 31 0)) .nil .nil)) (.node (ai P 219) (.node (aE .none [(.int 180 0),(.int 4 0),(.ref 355),(.int 185 0),(.int 4 0),(.ref 362),(.int 188 0),(.int 4 0),(.ref 367),(.int 191 0),(.int 4 0),(.ref 372),(.int 194 0),(.int 4 0),(.ref 379),(.int 197 0),(.int 4 0),(.ref 386)] #[]) .nil .nil) (.node (bp "Same.may_be_none_of_them" (bf 34 3)) .nil .nil))) (.node (ai P 123) (.node (ai P 187) (.node (aE (.type "code") [(ag "sums_with" 597),(ag "Sum.sums_with" 598),(ag "/claim/cut.py" 599),(.int 156 0),(.int 4 0),(.int 0 0),(.int 0 0),(.int 3 0),(.ref 310),(.bool .true),(.int 181 0),(.ref 311),.none,(.ref 312),(.ref 313),(.ref 314),(.int 607 0),(.int 156 0),(ag "/claim/cut.py" 608)] #[]) (.node (bq "_law_fillings" (top 48) (ag "law_seekhall_k19_just_where_a_wish_is_kept" 851) 570) .nil .nil) .nil) (.node (aD []) .nil .nil)) (.node (ai P 251) (.node (aE (.type "code") [(ag "may_keep" 688),(ag "Table.may_keep" 689),(ag "/claim/cut.py" 690),(.int 194 0),(.int 2 0),(.int 0 0),(.int 0 0),(.int 3 0),(.ref 374),(.bool .true),(.int 181 0),(.ref 375),.none,(.ref 376),(.ref 377),(.ref 378),(.int 693 0),(.int 194 0),(ag "/claim/cut.py" 694)] #[]) .nil .nil) (.node (aE (.type "code") [(ag "_law_draw" 859),(ag "_law_draw" 860),(ag "/claim/cut.py" 861),(.int 277 0),(.int 2 0),(.int 0 0),(.int 0 0),(.int 3 0),(.ref 502),(.bool .true),(.int 181 0),(.ref 503),.none,(.ref 504),(.ref 505),(.ref 506),(.int 867 0),(.int 277 0),(ag "/claim/cut.py" 868)] #[]) .nil .nil))))))) (.node (ai P 5) (.node (ai P 9) (.node (ai P 17) (.node (ai P 33) (.node (ai P 65) (.node ⟨(.type "type"),none,.cls ⟨b_ "Wish",[(.type "object")],[(.ref 129),(.type "object")],128,b_ "Wish",.true,[],[(.ref 167),(.ref 217),(.ref 267),(.ref 340),(.ref 390),(.ref 437),(.ref 494)],.false,none,.false⟩,#[none,none,some (ag "Wish" 300),some (ag "Wish" 308),some (.builtin "object.__new__"),some (.bool .true)]⟩ (.node (ai P 257) (.node (bq "_law_names" (top 38) (ag "law_seekhall_k19_just_where_a_wish_is_kept" 851) 512) .nil .nil) .nil) (.node (bp "Table.may_break" (bf 28 5)) .nil .nil)) (.node (ai P 193) (.node (bp "Sum.sums_kept" (bf 26 4)) (.node (aE (.type "code") [(ag "_law_truth" 959),(ag "_law_truth" 960),(ag "/claim/cut.py" 961),(.int 408 0),(.int 2 0),(.int 0 0),(.int 0 0),(.int 3 0),(.ref 572),(.bool .true),(.int 181 0),(.ref 573),.none,(.ref 574),(.ref 575),(.ref 576),(.int 964 0),(.int 408 0),(ag "/claim/cut.py" 965)] #[]) .nil .nil) .nil) (.node (iC (.type "dict") [aB P "__module__" 795 (ag "seekhall.sames" 779),aB P "__qualname__" 797 (ag "Same" 796),aB P "__firstlineno__" 799 (.int 248 798),aB P "__init__" 807 (.ref 460),aB P "kept" 815 (.ref 467),aB P "may_be_among" 821 (.ref 472),aB P "may_be_none_of_them" 827 (.ref 477),aB P "may_keep" 835 (.ref 484),aB P "may_break" 843 (.ref 491),aB P "__static_attributes__" 847 (.ref 492)] 10 #[]) .nil .nil))) (.node (ai P 97) (.node (ai P 161) (.node (aD []) (.node (aD []) .nil .nil) .nil) (.node (aD []) .nil .nil)) (.node (ai P 225) (.node (aD []) .nil .nil) (.node (aD []) .nil .nil)))) (.node (ai P 49) (.node (ai P 81) (.node (ai P 145) (.node (ai P 273) (.node (aD []) .nil .nil) .nil) (.node (aE (.type "builtin_function_or_method") [(.builtin "type.__prepare__"),(.type "type")] #[]) .nil .nil)) (.node (ai P 209) (.node (bq "Sum.may_break" (bf 26 6) (ag "seekhall.sums" 539) 336) .nil .nil) (.node (bp "Same.kept" (bf 34 1)) .nil .nil))) (.node (ai P 113) (.node (ai P 177) (.node (aD [(ag "self" 589),(ag "reached" 590),(ag "behind" 591),(ag "may_rise_to_low" 592),(ag "may_fall_to_high" 593)]) (.node (aE .none [] #[]) .nil .nil) .nil) (.node (aE (.type "code") [(ag "may_break" 763),(ag "Unlike.may_break" 764),(ag "/claim/cut.py" 765),(.int 227 0),(.int 2 0),(.int 0 0),(.int 0 0),(.int 3 0),(.ref 428),(.bool .true),(.int 181 0),(.ref 429),.none,(.ref 430),(.ref 431),(.ref 432),(.int 771 0),(.int 227 0),(ag "/claim/cut.py" 772)] #[]) .nil .nil)) (.node (ai P 241) (.node (aD []) .nil .nil) (.node (aD []) .nil .nil))))) (.node (ai P 25) (.node (ai P 41) (.node (ai P 73) (.node (ai P 137) (.node (ai P 265) (.node (aD []) .nil .nil) .nil) (.node (aD []) .nil .nil)) (.node (ai P 201) (.node (aE (.type "code") [(ag "may_keep" 622),(ag "Sum.may_keep" 623),(ag "/claim/cut.py" 624),(.int 171 0),(.int 2 0),(.int 0 0),(.int 0 0),(.int 3 0),(.ref 324),(.bool .true),(.int 181 0),(.ref 325),.none,(.ref 326),(.ref 327),(.ref 328),(.int 627 0),(.int 171 0),(ag "/claim/cut.py" 628)] #[]) (.node (bq "_law_right" (top 50) (ag "law_seekhall_k19_just_where_a_wish_is_kept" 851) 584) .nil .nil) .nil) (.node (aD []) .nil .nil))) (.node (ai P 105) (.node (ai P 169) (.node (aE .none [] #[]) (.node (aE (.type "code") [(ag "_law_way" 927),(ag "_law_way" 928),(ag "/claim/cut.py" 929),(.int 345 0),(.int 3 0),(.int 0 0),(.int 0 0),(.int 3 0),(.ref 550),(.bool .true),(.int 181 0),(.ref 551),.none,.none,.none,(.ref 552),(.int 930 0),(.int 345 0),(ag "/claim/cut.py" 931)] #[]) .nil .nil) .nil) (.node (bp "Unlike.may_keep" (bf 31 2)) .nil .nil)) (.node (ai P 233) (.node (bp "Table.kept" (bf 28 1)) .nil .nil) (.node (bp "Same.may_break" (bf 34 5)) .nil .nil)))) (.node (ai P 57) (.node (ai P 89) (.node (ai P 153) (.node (ai P 281) (.node (bp "_law_bounds" (top 42)) .nil .nil) .nil) (.node (aD [(ag "self" 740),(ag "wish" 741)]) .nil .nil)) (.node (ai P 217) (.node (iC (.type "dict") [aB P "__module__" 655 (ag "seekhall.tables" 646),aB P "__qualname__" 657 (ag "Table" 656),aB P "__firstlineno__" 659 (.int 178 658),aB P "__init__" 667 (.ref 356),aB P "kept" 675 (.ref 363),aB P "has_room" 681 (.ref 368),aB P "rows_in" 687 (.ref 373),aB P "may_keep" 695 (.ref 380),aB P "may_break" 705 (.ref 387),aB P "__static_attributes__" 708 (.ref 388)] 10 #[]) .nil .nil) (.node (aD []) .nil .nil))) (.node (ai P 121) (.node (ai P 185) (.node (aD []) (.node (bp "_law_fillings" (top 48)) .nil .nil) .nil) (.node (aE .none [] #[]) .nil .nil)) (.node (ai P 249) (.node (aD []) .nil .nil) (.node (aD []) .nil .nil)))))) (.node (ai P 13) (.node (ai P 21) (.node (ai P 37) (.node (ai P 69) (.node (ai P 133) (.node (ai P 261) (.node (aD []) .nil .nil) .nil) (.node (iC (.type "dict") [aB P "__module__" 655 (ag "seekhall.tables" 646),aB P "__firstlineno__" 659 (.int 178 658),aB P "__init__" 667 (.ref 356),aB P "kept" 675 (.ref 363),aB P "has_room" 681 (.ref 368),aB P "rows_in" 687 (.ref 373),aB P "may_keep" 695 (.ref 380),aB P "may_break" 705 (.ref 387),aB P "__static_attributes__" 708 (.ref 388),aB P "__doc__" 709 .none] 2 #[]) .nil .nil)) (.node (ai P 197) (.node (aE .none [] #[]) (.node (aD [(ag "_law_thing" 970),(ag "_law_wish_here" 971),(ag "_law_names_here" 972),(ag "_law_rooms_here" 973),(ag "_law_kept_here" 974),(ag "_law_filling" 975),(ag "_law_due" 976),(ag "_law_handed" 977)]) .nil .nil) .nil) (.node ⟨(.type "frame"),none,.plain,#[some (.ref 452),some (.ref 3),some (.ref 449),none,some (ag "seekhall.sames" 779),none,some (.ref 0)]⟩ .nil .nil))) (.node (ai P 101) (.node (ai P 165) (.node (bp "Sum.__init__" (bf 26 0)) (.node (bq "_law_rows" (top 44) (ag "law_seekhall_k19_just_where_a_wish_is_kept" 851) 548) .nil .nil) .nil) (.node (aD []) .nil .nil)) (.node (ai P 229) (.node (aD []) .nil .nil) (.node (aD []) .nil .nil)))) (.node (ai P 53) (.node (ai P 85) (.node (ai P 149) (.node (ai P 277) (.node (aD []) .nil .nil) .nil) (.node (aE (.type "code") [(ag "Unlike" 727),(ag "Unlike" 728),(ag "/claim/cut.py" 729),(.int 211 0),(.int 0 0),(.int 0 0),(.int 0 0),(.int 0 0),(.ref 403),(.bool .false),(.int 181 0),(.ref 404),.none,.none,.none,.none,(.int 730 0),(.int 211 0),(ag "/claim/cut.py" 731)] #[]) .nil .nil)) (.node (ai P 213) (.node (aE (.type "super") [(.ref 340),(.ref 340),(.ref 340)] #[]) .nil .nil) (.node (aE .none [] #[]) .nil .nil))) (.node (ai P 117) (.node (ai P 181) (.node (bq "Sum.may_end_well" (bf 26 2) (ag "seekhall.sums" 539) 308) (.node (aD []) .nil .nil) .nil) (.node ⟨(.type "type"),none,.cls ⟨b_ "Unlike",[(.ref 129)],[(.ref 437),(.ref 129),(.type "object")],436,b_ "Unlike",.true,[],[],.false,none,.false⟩,#[some (.ref 400),none,some (ag "Unlike" 725),some (ag "Unlike" 733),some (.builtin "object.__new__"),some (.bool .true)]⟩ .nil .nil)) (.node (ai P 245) (.node (bq "Table.rows_in" (bf 28 3) (ag "seekhall.tables" 646) 372) .nil .nil) (.node (bq "_law_deal" (top 36) (ag "law_seekhall_k19_just_where_a_wish_is_kept" 851) 500) .nil .nil))))) (.node (ai P 29) (.node (ai P 45) (.node (ai P 77) (.node (ai P 141) (.node (ai P 269) (.node (bq "_law_rooms" (top 40) (ag "law_seekhall_k19_just_where_a_wish_is_kept" 851) 524) .nil .nil) .nil) (.node (bp "finds_value" (top 30)) .nil .nil)) (.node (ai P 205) (.node (aD [(ag "self" 633),(ag "rooms" 634),(ag "span" 635)]) (.node (aD []) .nil .nil) .nil) (.node (aD []) .nil .nil))) (.node (ai P 109) (.node (ai P 173) (.node (aE (.type "code") [(ag "kept" 578),(ag "Sum.kept" 579),(ag "/claim/cut.py" 580),(.int 148 0),(.int 2 0),(.int 0 0),(.int 0 0),(.int 3 0),(.ref 296),(.bool .true),(.int 181 0),(.ref 297),.none,(.ref 298),(.ref 299),(.ref 300),(.int 583 0),(.int 148 0),(ag "/claim/cut.py" 584)] #[]) (.node (bp "_law_wish" (top 46)) .nil .nil) .nil) (.node (aE .none [] #[]) .nil .nil)) (.node (ai P 237) (.node (aE .none [] #[]) .nil .nil) (.node (iC (.type "dict") [aB P "__module__" 795 (ag "seekhall.sames" 779),aB P "__firstlineno__" 799 (.int 248 798),aB P "__init__" 807 (.ref 460),aB P "kept" 815 (.ref 467),aB P "may_be_among" 821 (.ref 472),aB P "may_be_none_of_them" 827 (.ref 477),aB P "may_keep" 835 (.ref 484),aB P "may_break" 843 (.ref 491),aB P "__static_attributes__" 847 (.ref 492),aB P "__doc__" 848 .none] 2 #[]) .nil .nil)))) (.node (ai P 61) (.node (ai P 93) (.node (ai P 157) (.node (aD []) (.node (aE .none [] #[]) .nil .nil) .nil) (.node (bq "Unlike.__init__" (bf 31 0) (ag "seekhall.unlikes" 712) 412) .nil .nil)) (.node (ai P 221) (.node ⟨(.type "frame"),none,.plain,#[some (.ref 348),some (.ref 3),some (.ref 345),none,some (ag "seekhall.tables" 646),none,some (.ref 0)]⟩ .nil .nil) (.node (bq "Same.may_be_none_of_them" (bf 34 3) (ag "seekhall.sames" 779) 476) .nil .nil))) (.node (ai P 125) (.node (ai P 189) (.node (aD []) (.node (aE .none [] #[]) .nil .nil) .nil) (.node (aE (.type "code") [(ag "plain_wish_of" 781),(ag "plain_wish_of" 782),(ag "/claim/cut.py" 783),(.int 236 0),(.int 1 0),(.int 0 0),(.int 0 0),(.int 3 0),(.ref 440),(.bool .true),(.int 181 0),(.ref 441),.none,(.ref 442),(.ref 443),(.ref 444),(.int 785 0),(.int 236 0),(ag "/claim/cut.py" 786)] #[]) .nil .nil)) (.node (ai P 253) (.node (aD []) .nil .nil) (.node (aD []) .nil .nil)))))))) (.node (ai P 2) (.node (ai P 4) (.node (ai P 8) (.node (ai P 16) (.node (ai P 32) (.node (ai P 64) (.node (ai P 128) (.node (ai P 256) (.node (aE (.type "code") [(ag "_law_names" 870),(ag "_law_names" 871),(ag "/claim/cut.py" 872),(.int 288 0),(.int 2 0),(.int 0 0),(.int 0 0),(.int 3 0),(.ref 509),(.bool .true),(.int 181 0),(.ref 510),.none,.none,.none,(.ref 511),(.int 873 0),(.int 288 0),(ag "/claim/cut.py" 874)] #[]) .nil .nil) .nil) (.node (aD []) .nil .nil)) (.node (ai P 192) (.node (aD []) (.node (bp "_law_truth" (top 49)) .nil .nil) .nil) (.node (aE (.type "builtin_function_or_method") [(.builtin "type.__prepare__"),(.type "type")] #[]) .nil .nil))) (.node (ai P 96) (.node (ai P 160) (.node ⟨(.type "frame"),none,.plain,#[some (.ref 287),some (.ref 3),some (.ref 284),none,some (ag "seekhall.sums" 539),none,some (.ref 0)]⟩ (.node (bq "_law_sum" (top 43) (ag "law_seekhall_k19_just_where_a_wish_is_kept" 851) 543) .nil .nil) .nil) (.node (aD [(ag "self" 748),(ag "filling" 749)]) .nil .nil)) (.node (ai P 224) (.node (aD [(ag "self" 663),(ag "wish" 664)]) .nil .nil) (.node (aD [(ag "self" 831),(ag "rooms" 832)]) .nil .nil)))) (.node (ai P 48) (.node (ai P 80) (.node (ai P 144) (.node (ai P 272) (.node (aD [(ag "_law_deal_here" 895),(ag "_law_things" 896),(ag "_law_least" 897),(ag "_law_left" 898),(ag "_law_found" 899),(ag "_law_k" 900)]) .nil .nil) .nil) (.node (aD [(.ref 129)]) .nil .nil)) (.node (ai P 208) (.node (aE (.type "code") [(ag "may_break" 630),(ag "Sum.may_break" 631),(ag "/claim/cut.py" 632),(.int 174 0),(.int 2 0),(.int 0 0),(.int 0 0),(.int 3 0),(.ref 331),(.bool .true),(.int 181 0),(.ref 332),.none,(.ref 333),(.ref 334),(.ref 335),(.int 636 0),(.int 174 0),(ag "/claim/cut.py" 637)] #[]) (.node (bq "law" (top 51) (ag "law_seekhall_k19_just_where_a_wish_is_kept" 851) 591) .nil .nil) .nil) (.node (aD []) .nil .nil))) (.node (ai P 112) (.node (ai P 176) (.node (aE .none [] #[]) (.node (aD []) .nil .nil) .nil) (.node (bp "Unlike.may_break" (bf 31 3)) .nil .nil)) (.node (ai P 240) (.node (bq "Table.has_room" (bf 28 2) (ag "seekhall.tables" 646) 367) .nil .nil) (.node (aE (.type "builtin_function_or_method") [(.builtin "object.__init_subclass__"),(.ref 494)] #[]) .nil .nil))))) (.node (ai P 24) (.node (ai P 40) (.node (ai P 72) (.node (ai P 136) (.node (ai P 264) (.node (bq "_law_pool" (top 39) (ag "law_seekhall_k19_just_where_a_wish_is_kept" 851) 519) .nil .nil) .nil) (.node (aE (.type "builtin_function_or_method") [(.builtin "object.__init_subclass__"),(.ref 390)] #[]) .nil .nil)) (.node (ai P 200) (.node (bp "Sum.may_keep" (bf 26 5)) (.node (aE (.type "code") [(ag "_law_right" 967),(ag "_law_right" 968),(ag "/claim/cut.py" 969),(.int 410 0),(.int 4 0),(.int 0 0),(.int 0 0),(.int 3 0),(.ref 579),(.bool .true),(.int 181 0),(.ref 580),.none,(.ref 581),(.ref 582),(.ref 583),(.int 978 0),(.int 410 0),(ag "/claim/cut.py" 979)] #[]) .nil .nil) .nil) (.node (aD [(ag "self" 803),(ag "wish" 804)]) .nil .nil))) (.node (ai P 104) (.node (ai P 168) (.node (aD []) (.node (bp "_law_way" (top 45)) .nil .nil) .nil) (.node (aD []) .nil .nil)) (.node (ai P 232) (.node (aD []) .nil .nil) (.node (aD []) .nil .nil)))) (.node (ai P 56) (.node (ai P 88) (.node (ai P 152) (.node (ai P 280) (.node (aD []) .nil .nil) .nil) (.node (aE .none [] #[]) .nil .nil)) (.node (ai P 216) (.node (aE (.type "builtin_function_or_method") [(.builtin "type.__prepare__"),(.type "type")] #[]) .nil .nil) (.node (bq "Same.may_be_among" (bf 34 2) (ag "seekhall.sames" 779) 471) .nil .nil))) (.node (ai P 120) (.node (ai P 184) (.node (aD [(ag "self" 600),(ag "reached" 601),(ag "parts" 602),(ag "behind" 603),(ag "further" 604),(ag "part" 605),(ag "earlier" 606)]) (.node (aD []) .nil .nil) .nil) (.node (aD []) .nil .nil)) (.node (ai P 248) (.node (aD [(ag "self" 691),(ag "rooms" 692)]) .nil .nil) (.node (aD [(ag "_law_deal_here" 862),(ag "_law_many" 863),(ag "_law_number" 864),(ag "_law_one" 865),(ag "_law_other" 866)]) .nil .nil)))))) (.node (aE .none [(.int 2 0),(.int 0 0),(.ref 20),(.int 5 0),(.int 0 0),(.ref 27),(.int 7 0),(.int 0 0),(.ref 32),(.int 9 0),(.int 0 0),(.ref 37),(.int 11 0),(.int 0 0),(.ref 44),(.int 13 0),(.int 0 0),(.ref 49),(.int 16 0),(.int 0 0),(.ref 56),(.int 18 0),(.int 0 0),(.ref 63),(.int 20 0),(.int 0 0),(.ref 70),(.int 30 0),(.int 0 0),(.ref 75),(.int 33 0),(.int 0 0),(.ref 82),(.int 36 0),(.int 0 0),(.ref 90),(.int 39 0),(.int 0 0),(.ref 97),(.int 53 0),(.int 0 0),(.ref 139),(.int 76 0),(.int 0 0),(.ref 175),(.int 100 0),(.int 0 0),(.ref 225),(.int 132 0),(.int 0 0),(.ref 273),(.int 134 0),(.int 0 0),(.ref 280),(.int 140 0),(.int 0 0),(.ref 287),(.int 178 0),(.int 0 0),(.ref 348),(.int 203 0),(.int 0 0),(.ref 398),(.int 211 0),(.int 0 0),(.ref 405),(.int 236 0),(.int 0 0),(.ref 445),(.int 248 0),(.int 0 0),(.ref 452),(.int 271 0),(.int 0 0),(.ref 500),(.int 277 0),(.int 0 0),(.ref 507),(.int 288 0),(.int 0 0),(.ref 512),(.int 300 0),(.int 0 0),(.ref 519),(.int 309 0),(.int 0 0),(.ref 524),(.int 317 0),(.int 0 0),(.ref 531),(.int 323 0),(.int 0 0),(.ref 538),(.int 327 0),(.int 0 0),(.ref 543),(.int 338 0),(.int 0 0),(.ref 548),(.int 345 0),(.int 0 0),(.ref 553),(.int 354 0),(.int 0 0),(.ref 558),(.int 375 0),(.int 0 0),(.ref 563),(.int 397 0),(.int 0 0),(.ref 570),(.int 408 0),(.int 0 0),(.ref 577),(.int 410 0),(.int 0 0),(.ref 584),(.int 422 0),(.int 0 0),(.ref 591)] #[]) (.node (ai P 20) (.node (ai P 36) (.node (ai P 68) (.node (ai P 132) (.node (ai P 260) (.node (aD [(ag "_law_deal_here" 879),(ag "_law_value" 880),(ag "_law_pool_here" 881),(ag "_law_k" 882)]) .nil .nil) .nil) (.node (aD [(ag "cells" 706),(ag "rows" 707)]) .nil .nil)) (.node (ai P 196) (.node (aD []) (.node (aE .none [] #[]) .nil .nil) .nil) (.node (aE (.type "code") [(ag "Same" 790),(ag "Same" 791),(ag "/claim/cut.py" 792),(.int 248 0),(.int 0 0),(.int 0 0),(.int 0 0),(.int 0 0),(.ref 450),(.bool .false),(.int 181 0),(.ref 451),.none,.none,.none,.none,(.int 793 0),(.int 248 0),(ag "/claim/cut.py" 794)] #[]) .nil .nil))) (.node (ai P 100) (.node (ai P 164) (.node (aD []) (.node (aE (.type "code") [(ag "_law_rows" 921),(ag "_law_rows" 922),(ag "/claim/cut.py" 923),(.int 338 0),(.int 3 0),(.int 0 0),(.int 0 0),(.int 3 0),(.ref 545),(.bool .true),(.int 181 0),(.ref 546),.none,.none,.none,(.ref 547),(.int 924 0),(.int 338 0),(ag "/claim/cut.py" 925)] #[]) .nil .nil) .nil) (.node (bq "Unlike.kept" (bf 31 1) (ag "seekhall.unlikes" 712) 419) .nil .nil)) (.node (ai P 228) (.node (bq "Table.__init__" (bf 28 0) (ag "seekhall.tables" 646) 355) .nil .nil) (.node (bq "Same.may_keep" (bf 34 4) (ag "seekhall.sames" 779) 483) .nil .nil)))) (.node (ai P 52) (.node (ai P 84) (.node (ai P 148) (.node (ai P 276) (.node (bq "_law_some" (top 41) (ag "law_seekhall_k19_just_where_a_wish_is_kept" 851) 531) .nil .nil) .nil) (.node (aE .none [(.int 213 0),(.int 4 0),(.ref 412),(.int 217 0),(.int 4 0),(.ref 419),(.int 220 0),(.int 4 0),(.ref 426),(.int 227 0),(.int 4 0),(.ref 433)] #[]) .nil .nil)) (.node (ai P 212) (.node ⟨(.type "type"),none,.cls ⟨b_ "Sum",[(.ref 129)],[(.ref 340),(.ref 129),(.type "object")],339,b_ "Sum",.true,[],[],.false,none,.false⟩,#[some (.ref 282),none,some (ag "Sum" 558),some (ag "Sum" 566),some (.builtin "object.__new__"),some (.bool .true)]⟩ .nil .nil) (.node (aD []) .nil .nil))) (.node (ai P 116) (.node (ai P 180) (.node (aE (.type "code") [(ag "may_end_well" 586),(ag "Sum.may_end_well" 587),(ag "/claim/cut.py" 588),(.int 151 0),(.int 3 0),(.int 0 0),(.int 0 0),(.int 3 0),(.ref 303),(.bool .true),(.int 181 0),(.ref 304),.none,(.ref 305),(.ref 306),(.ref 307),(.int 594 0),(.int 151 0),(ag "/claim/cut.py" 595)] #[]) (.node (bq "_law_kept" (top 47) (ag "law_seekhall_k19_just_where_a_wish_is_kept" 851) 563) .nil .nil) .nil) (.node (iC (.type "dict") [aB P "__module__" 732 (ag "seekhall.unlikes" 712),aB P "__firstlineno__" 736 (.int 211 735),aB P "__init__" 744 (.ref 413),aB P "kept" 752 (.ref 420),aB P "may_keep" 762 (.ref 427),aB P "may_break" 773 (.ref 434),aB P "__static_attributes__" 775 (.ref 435),aB P "__doc__" 776 .none] 2 #[]) .nil .nil)) (.node (ai P 244) (.node (aE (.type "code") [(ag "rows_in" 682),(ag "Table.rows_in" 683),(ag "/claim/cut.py" 684),(.int 191 0),(.int 2 0),(.int 0 0),(.int 0 0),(.int 3 0),(.ref 369),(.bool .true),(.int 181 0),(.ref 370),.none,.none,.none,(.ref 371),(.int 685 0),(.int 191 0),(ag "/claim/cut.py" 686)] #[]) .nil .nil) (.node (aE (.type "code") [(ag "_law_deal" 853),(ag "_law_deal" 854),(ag "/claim/cut.py" 855),(.int 271 0),(.int 2 0),(.int 0 0),(.int 0 0),(.int 3 0),(.ref 497),(.bool .true),(.int 181 0),(.ref 498),.none,.none,.none,(.ref 499),(.int 856 0),(.int 271 0),(ag "/claim/cut.py" 857)] #[]) .nil .nil))))) (.node (ai P 28) (.node (ai P 44) (.node (ai P 76) (.node (ai P 140) (.node (ai P 268) (.node (aE (.type "code") [(ag "_law_rooms" 886),(ag "_law_rooms" 887),(ag "/claim/cut.py" 888),(.int 309 0),(.int 4 0),(.int 0 0),(.int 0 0),(.int 3 0),(.ref 521),(.bool .true),(.int 181 0),(.ref 522),.none,.none,.none,(.ref 523),(.int 889 0),(.int 309 0),(ag "/claim/cut.py" 890)] #[]) .nil .nil) .nil) (.node (aD []) .nil .nil)) (.node (ai P 204) (.node (aE .none [] #[]) (.node (aD [(ag "_law_script" 984),(ag "_law_deal_here" 985),(ag "_law_names_here" 986),(ag "_law_pool_here" 987),(ag "_law_rooms_here" 988),(ag "_law_at" 989),(ag "_law_rest" 990),(ag "_law_inner" 991),(ag "_law_wish_here" 992),(ag "_law_thing" 993),(ag "_law_less" 994),(ag "_law_name" 995)]) .nil .nil) .nil) (.node (bq "Same.__init__" (bf 34 0) (ag "seekhall.sames" 779) 459) .nil .nil))) (.node (ai P 108) (.node (ai P 172) (.node (bp "Sum.kept" (bf 26 1)) (.node (aE .none [] #[]) .nil .nil) .nil) (.node (aD []) .nil .nil)) (.node (ai P 236) (.node (aD []) .nil .nil) (.node (aD [(ag "among" 844),(ag "cell" 845),(ag "inner" 846)]) .nil .nil)))) (.node (ai P 60) (.node (ai P 92) (.node (ai P 156) (.node (iC (.type "dict") [aB P "__module__" 565 (ag "seekhall.sums" 539),aB P "__qualname__" 567 (ag "Sum" 566),aB P "__firstlineno__" 569 (.int 140 568),aB P "__init__" 577 (.ref 295),aB P "kept" 585 (.ref 302),aB P "may_end_well" 596 (.ref 309),aB P "sums_with" 609 (.ref 316),aB P "sums_kept" 621 (.ref 323),aB P "may_keep" 629 (.ref 330),aB P "may_break" 638 (.ref 337),aB P "__static_attributes__" 642 (.ref 338)] 11 #[]) (.node (aD []) .nil .nil) .nil) (.node (aE (.type "code") [(ag "__init__" 737),(ag "Unlike.__init__" 738),(ag "/claim/cut.py" 739),(.int 213 0),(.int 2 0),(.int 0 0),(.int 0 0),(.int 3 0),(.ref 407),(.bool .true),(.int 181 0),(.ref 408),.none,(.ref 409),(.ref 410),(.ref 411),(.int 742 0),(.int 213 0),(ag "/claim/cut.py" 743)] #[]) .nil .nil)) (.node (ai P 220) (.node (aE (.type "code") [(ag "Table" 650),(ag "Table" 651),(ag "/claim/cut.py" 652),(.int 178 0),(.int 0 0),(.int 0 0),(.int 0 0),(.int 0 0),(.ref 346),(.bool .false),(.int 181 0),(.ref 347),.none,.none,.none,.none,(.int 653 0),(.int 178 0),(ag "/claim/cut.py" 654)] #[]) .nil .nil) (.node (aE (.type "code") [(ag "may_be_none_of_them" 822),(ag "Same.may_be_none_of_them" 823),(ag "/claim/cut.py" 824),(.int 262 0),(.int 2 0),(.int 0 0),(.int 0 0),(.int 3 0),(.ref 473),(.bool .true),(.int 181 0),(.ref 474),.none,.none,.none,(.ref 475),(.int 825 0),(.int 262 0),(ag "/claim/cut.py" 826)] #[]) .nil .nil))) (.node (ai P 124) (.node (ai P 188) (.node (bq "Sum.sums_with" (bf 26 3) (ag "seekhall.sums" 539) 315) (.node (aD []) .nil .nil) .nil) (.node (bp "plain_wish_of" (top 33)) .nil .nil)) (.node (ai P 252) (.node (bq "Table.may_keep" (bf 28 4) (ag "seekhall.tables" 646) 379) .nil .nil) (.node (bq "_law_draw" (top 37) (ag "law_seekhall_k19_just_where_a_wish_is_kept" 851) 507) .nil .nil))))))) (.node (ai P 6) (.node (ai P 10) (.node (ai P 18) (.node (ai P 34) (.node (ai P 66) (.node (ai P 130) (.node (ai P 258) (.node (aD []) .nil .nil) .nil) (.node (aE (.type "code") [(ag "may_break" 696),(ag "Table.may_break" 697),(ag "/claim/cut.py" 698),(.int 197 0),(.int 2 0),(.int 0 0),(.int 0 0),(.int 3 0),(.ref 381),(.bool .true),(.int 181 0),(.ref 382),.none,(.ref 383),(.ref 384),(.ref 385),(.int 703 0),(.int 197 0),(ag "/claim/cut.py" 704)] #[]) .nil .nil)) (.node (ai P 194) (.node (aE (.type "code") [(ag "sums_kept" 610),(ag "Sum.sums_kept" 611),(ag "/claim/cut.py" 612),(.int 164 0),(.int 2 0),(.int 0 0),(.int 0 0),(.int 3 0),(.ref 317),(.bool .true),(.int 181 0),(.ref 318),.none,(.ref 319),(.ref 320),(.ref 321),(.int 619 0),(.int 164 0),(ag "/claim/cut.py" 620)] #[]) (.node (bq "_law_truth" (top 49) (ag "law_seekhall_k19_just_where_a_wish_is_kept" 851) 577) .nil .nil) .nil) (.node (aD []) .nil .nil))) (.node (ai P 98) (.node (ai P 162) (.node (aE .none [] #[]) (.node (aE .none [] #[]) .nil .nil) .nil) (.node (bp "Unlike.kept" (bf 31 1)) .nil .nil)) (.node (ai P 226) (.node (bp "Table.__init__" (bf 28 0)) .nil .nil) (.node (bp "Same.may_keep" (bf 34 4)) .nil .nil)))) (.node (ai P 50) (.node (ai P 82) (.node (ai P 146) (.node (ai P 274) (.node (bp "_law_some" (top 41)) .nil .nil) .nil) (.node (iC (.type "dict") [aB P "__module__" 732 (ag "seekhall.unlikes" 712),aB P "__qualname__" 734 (ag "Unlike" 733),aB P "__firstlineno__" 736 (.int 211 735),aB P "__init__" 744 (.ref 413),aB P "kept" 752 (.ref 420),aB P "may_keep" 762 (.ref 427),aB P "may_break" 773 (.ref 434),aB P "__static_attributes__" 775 (.ref 435)] 8 #[]) .nil .nil)) (.node (ai P 210) (.node (aD [(ag "high" 639),(ag "low" 640),(ag "terms" 641)]) .nil .nil) (.node (aE (.type "code") [(ag "kept" 808),(ag "Same.kept" 809),(ag "/claim/cut.py" 810),(.int 256 0),(.int 2 0),(.int 0 0),(.int 0 0),(.int 3 0),(.ref 461),(.bool .true),(.int 181 0),(.ref 462),.none,(.ref 463),(.ref 464),(.ref 465),(.int 813 0),(.int 256 0),(ag "/claim/cut.py" 814)] #[]) .nil .nil))) (.node (ai P 114) (.node (ai P 178) (.node (aD []) (.node (bp "_law_kept" (top 47)) .nil .nil) .nil) (.node (bq "Unlike.may_break" (bf 31 3) (ag "seekhall.unlikes" 712) 433) .nil .nil)) (.node (ai P 242) (.node (aE .none [] #[]) .nil .nil) (.node (aE .none [] #[]) .nil .nil))))) (.node (ai P 26) (.node (ai P 42) (.node (ai P 74) (.node (ai P 138) (.node (ai P 266) (.node (aE .none [] #[]) .nil .nil) .nil) (.node (aE .none [] #[]) .nil .nil)) (.node (ai P 202) (.node (bq "Sum.may_keep" (bf 26 5) (ag "seekhall.sums" 539) 329) (.node (aD []) .nil .nil) .nil) (.node (bp "Same.__init__" (bf 34 0)) .nil .nil))) (.node (ai P 106) (.node (ai P 170) (.node (aD [(ag "self" 581),(ag "filling" 582)]) (.node (bq "_law_way" (top 45) (ag "law_seekhall_k19_just_where_a_wish_is_kept" 851) 553) .nil .nil) .nil) (.node (aE (.type "code") [(ag "may_keep" 753),(ag "Unlike.may_keep" 754),(ag "/claim/cut.py" 755),(.int 220 0),(.int 2 0),(.int 0 0),(.int 0 0),(.int 3 0),(.ref 421),(.bool .true),(.int 181 0),(.ref 422),.none,(.ref 423),(.ref 424),(.ref 425),(.int 760 0),(.int 220 0),(ag "/claim/cut.py" 761)] #[]) .nil .nil)) (.node (ai P 234) (.node (aE (.type "code") [(ag "kept" 668),(ag "Table.kept" 669),(ag "/claim/cut.py" 670),(.int 185 0),(.int 2 0),(.int 0 0),(.int 0 0),(.int 3 0),(.ref 357),(.bool .true),(.int 181 0),(.ref 358),.none,(.ref 359),(.ref 360),(.ref 361),(.int 673 0),(.int 185 0),(ag "/claim/cut.py" 674)] #[]) .nil .nil) (.node (aE (.type "code") [(ag "may_break" 836),(ag "Same.may_break" 837),(ag "/claim/cut.py" 838),(.int 268 0),(.int 2 0),(.int 0 0),(.int 0 0),(.int 3 0),(.ref 485),(.bool .true),(.int 181 0),(.ref 486),.none,(.ref 487),(.ref 488),(.ref 489),(.int 841 0),(.int 268 0),(ag "/claim/cut.py" 842)] #[]) .nil .nil)))) (.node (ai P 58) (.node (ai P 90) (.node (ai P 154) (.node (aD [(.ref 129)]) (.node (aE (.type "code") [(ag "_law_bounds" 904),(ag "_law_bounds" 905),(ag "/claim/cut.py" 906),(.int 323 0),(.int 3 0),(.int 0 0),(.int 0 0),(.int 3 0),(.ref 533),(.bool .true),(.int 181 0),(.ref 534),.none,(.ref 535),(.ref 536),(.ref 537),(.int 912 0),(.int 323 0),(ag "/claim/cut.py" 913)] #[]) .nil .nil) .nil) (.node (aD []) .nil .nil)) (.node (ai P 218) (.node (aD []) .nil .nil) (.node (aE .none [] #[]) .nil .nil))) (.node (ai P 122) (.node (ai P 186) (.node (bp "Sum.sums_with" (bf 26 3)) (.node (aE (.type "code") [(ag "_law_fillings" 945),(ag "_law_fillings" 946),(ag "/claim/cut.py" 947),(.int 397 0),(.int 2 0),(.int 0 0),(.int 0 0),(.int 3 0),(.ref 565),(.bool .true),(.int 181 0),(.ref 566),.none,(.ref 567),(.ref 568),(.ref 569),(.int 956 0),(.int 397 0),(ag "/claim/cut.py" 957)] #[]) .nil .nil) .nil) (.node (aD [(ag "wish" 784)]) .nil .nil)) (.node (ai P 250) (.node (bp "Table.may_keep" (bf 28 4)) .nil .nil) (.node (bp "_law_draw" (top 37)) .nil .nil)))))) (.node (ai P 14) (.node (ai P 22) (.node (ai P 38) (.node (ai P 70) (.node (ai P 134) (.node (ai P 262) (.node (bp "_law_pool" (top 39)) .nil .nil) .nil) (.node ⟨(.type "type"),none,.cls ⟨b_ "Table",[(.ref 129)],[(.ref 390),(.ref 129),(.type "object")],389,b_ "Table",.true,[],[],.false,none,.false⟩,#[some (.ref 343),none,some (ag "Table" 648),some (ag "Table" 656),some (.builtin "object.__new__"),some (.bool .true)]⟩ .nil .nil)) (.node (ai P 198) (.node (aD [(ag "self" 625),(ag "rooms" 626)]) (.node (aD []) .nil .nil) .nil) (.node (aD []) .nil .nil))) (.node (ai P 102) (.node (ai P 166) (.node (aE (.type "code") [(ag "__init__" 570),(ag "Sum.__init__" 571),(ag "/claim/cut.py" 572),(.int 142 0),(.int 2 0),(.int 0 0),(.int 0 0),(.int 3 0),(.ref 289),(.bool .true),(.int 181 0),(.ref 290),.none,(.ref 291),(.ref 292),(.ref 293),(.int 575 0),(.int 142 0),(ag "/claim/cut.py" 576)] #[]) (.node (aD []) .nil .nil) .nil) (.node (aE .none [] #[]) .nil .nil)) (.node (ai P 230) (.node (aE .none [] #[]) .nil .nil) (.node (aE .none [] #[]) .nil .nil)))) (.node (ai P 54) (.node (ai P 86) (.node (ai P 150) (.node (ai P 278) (.node (aE .none [] #[]) .nil .nil) .nil) (.node ⟨(.type "frame"),none,.plain,#[some (.ref 405),some (.ref 3),some (.ref 402),none,some (ag "seekhall.unlikes" 712),none,some (.ref 0)]⟩ .nil .nil)) (.node (ai P 214) (.node (aE (.type "builtin_function_or_method") [(.builtin "object.__init_subclass__"),(.ref 340)] #[]) .nil .nil) (.node (bp "Same.may_be_among" (bf 34 2)) .nil .nil))) (.node (ai P 118) (.node (ai P 182) (.node (aD []) (.node (aE .none [] #[]) .nil .nil) .nil) (.node (aE (.type "super") [(.ref 437),(.ref 437),(.ref 437)] #[]) .nil .nil)) (.node (ai P 246) (.node (aD []) .nil .nil) (.node (aD []) .nil .nil))))) (.node (ai P 30) (.node (ai P 46) (.node (ai P 78) (.node (ai P 142) (.node (ai P 270) (.node (aD []) .nil .nil) .nil) (.node (aE (.type "code") [(ag "finds_value" 714),(ag "finds_value" 715),(ag "/claim/cut.py" 716),(.int 203 0),(.int 4 0),(.int 0 0),(.int 0 0),(.int 3 0),(.ref 393),(.bool .true),(.int 181 0),(.ref 394),.none,(.ref 395),(.ref 396),(.ref 397),(.int 722 0),(.int 203 0),(ag "/claim/cut.py" 723)] #[]) .nil .nil)) (.node (ai P 206) (.node (aD []) (.node (bp "law" (top 51)) .nil .nil) .nil) (.node (aE .none [] #[]) .nil .nil))) (.node (ai P 110) (.node (ai P 174) (.node (bq "Sum.kept" (bf 26 1) (ag "seekhall.sums" 539) 301) (.node (aE (.type "code") [(ag "_law_wish" 933),(ag "_law_wish" 934),(ag "/claim/cut.py" 935),(.int 354 0),(.int 5 0),(.int 0 0),(.int 0 0),(.int 3 0),(.ref 555),(.bool .true),(.int 181 0),(.ref 556),.none,.none,.none,(.ref 557),(.int 936 0),(.int 354 0),(ag "/claim/cut.py" 937)] #[]) .nil .nil) .nil) (.node (aD [(ag "self" 766),(ag "rooms" 767),(ag "seen" 768),(ag "cell" 769),(ag "value" 770)]) .nil .nil)) (.node (ai P 238) (.node (bp "Table.has_room" (bf 28 2)) .nil .nil) (.node ⟨(.type "type"),none,.cls ⟨b_ "Same",[(.ref 129)],[(.ref 494),(.ref 129),(.type "object")],493,b_ "Same",.true,[],[],.false,none,.false⟩,#[some (.ref 447),none,some (ag "Same" 788),some (ag "Same" 796),some (.builtin "object.__new__"),some (.bool .true)]⟩ .nil .nil)))) (.node (ai P 62) (.node (ai P 94) (.node (ai P 158) (.node (aE .none [(.int 142 0),(.int 4 0),(.ref 294),(.int 148 0),(.int 4 0),(.ref 301),(.int 151 0),(.int 4 0),(.ref 308),(.int 156 0),(.int 4 0),(.ref 315),(.int 164 0),(.int 4 0),(.ref 322),(.int 171 0),(.int 4 0),(.ref 329),(.int 174 0),(.int 4 0),(.ref 336)] #[]) (.node (bp "_law_sum" (top 43)) .nil .nil) .nil) (.node (aD []) .nil .nil)) (.node (ai P 222) (.node (aD []) .nil .nil) (.node (aD []) .nil .nil))) (.node (ai P 126) (.node (ai P 190) (.node (aE .none [] #[]) (.node (aD [(ag "_law_found" 962),(ag "_law_due" 963)]) .nil .nil) .nil) (.node (bq "plain_wish_of" (top 33) (ag "seekhall.sames" 779) 445) .nil .nil)) (.node (ai P 254) (.node (aE .none [] #[]) .nil .nil) (.node (aE .none [] #[]) .nil .nil))))))))
noncomputable def ae (P:Params) (i:Nat):Obj:=((DF P).get i).getD default
def qF:Env:={ scope:=PySem.Challenge.pw_seekhall_k19_just_where_a_wish_is_kept.main.scope,locals:=mainNs,globals:=mainNs,cells:=[],code:=.ref 13,frame:=some 14 }
def wC:List Stmt:=behindTheImports PySem.Challenge.pw_seekhall_k19_just_where_a_wish_is_kept
abbrev nI:Code:=.body wC qF
def yL:Life:=⟨[],[],[],0,[],[],false,#[],[],0,false,false,false,0,[2000,10,10],false,0,true,[],[],0,false⟩
abbrev zzB:List Frame:=[topFrame ⟨0,0,0,0⟩]
noncomputable abbrev zzS (T:Params->BT) (n k:Nat) (w:World) (B:Ih):SharedT:=⟨T w.params,n,yL,#[],⟨0,0,0,0⟩,k,B⟩
theorem Ei (w:World) (B:Ih):topGo Iq PySem.Challenge.pw_seekhall_k19_just_where_a_wish_is_kept w 11 (some (.ref 6)) 12 ⟨IN w.params,#[],boot_drawn,boot_toks,B⟩ (topStub PySem.Challenge.pw_seekhall_k19_just_where_a_wish_is_kept)=some ((zzS zy 15 187 w B).abs,⟨denote Iq nI,nI,⟨0,0,0,0⟩,zzB⟩):=by kernel_rfl
theorem Et (w:World) (B:Ih):segRun Iq PySem.Challenge.pw_seekhall_k19_just_where_a_wish_is_kept w 11 (some (.ref 6)) 1 1 (zzS zy 15 187 w B).abs (blockOf wC qF nI ⟨0,0,0,0⟩ zzB)=some (.next,(zzS zy 15 187 w B).abs,nI,⟨0,0,0,0⟩):=by kernel_rfl
def DQ (b:Bool):Prop:=∀(B:World) (F:Ih),let w:=B.withFollow "special-get-raises" b;segRunT Iq PySem.Challenge.pw_seekhall_k19_just_where_a_wish_is_kept w 11 (some (.ref 6)) 1 2051 (zzS zy 15 187 w F) (piecesOf (wC.take 26) qF nI ⟨0,0,0,0⟩ zzB)=some (.next,zzS Cb 282 558 w F,nI,⟨134,0,139,32⟩)
theorem Eu:DQ false:=by intro w B w;kernel_rfl
theorem Eh:DQ true:=by intro w B w;kernel_rfl
theorem EJ (w:World) (B:Ih):segRunT Iq PySem.Challenge.pw_seekhall_k19_just_where_a_wish_is_kept w 11 (some (.ref 6)) 1 2178 (zzS Cb 282 558 w B) (piecesOf (wC.drop 26) qF nI ⟨134,0,139,32⟩ zzB)=some (.next,zzS DF 593 999 w B,nI,⟨422,0,439,83⟩):=by kernel_rfl
noncomputable def nJ (P:Params):Heap:=⟨⟨[ae P 0,ae P 1,ae P 2,ae P 3,ae P 4,ae P 5,ae P 6,ae P 7,ae P 8,ae P 9,ae P 10,ae P 11,ae P 12,ae P 13,ae P 14,ae P 15,ae P 16,ae P 17,ae P 18,ae P 19,ae P 20,ae P 21,ae P 22,ae P 23,ae P 24,ae P 25,ae P 26,ae P 27,ae P 28,ae P 29,ae P 30,ae P 31,ae P 32,ae P 33,ae P 34,ae P 35,ae P 36,ae P 37,ae P 38,ae P 39,ae P 40,ae P 41,ae P 42,ae P 43,ae P 44,ae P 45,ae P 46,ae P 47,ae P 48,ae P 49,ae P 50,ae P 51,ae P 52,ae P 53,ae P 54,ae P 55,ae P 56,ae P 57,ae P 58,ae P 59,ae P 60,ae P 61,ae P 62,ae P 63,ae P 64,ae P 65,ae P 66,ae P 67,ae P 68,ae P 69,ae P 70,ae P 71,ae P 72,ae P 73,ae P 74,ae P 75,ae P 76,ae P 77,ae P 78,ae P 79,ae P 80,ae P 81,ae P 82,ae P 83,ae P 84,ae P 85,ae P 86,ae P 87,ae P 88,ae P 89,ae P 90,ae P 91,ae P 92,ae P 93,ae P 94,ae P 95,ae P 96,ae P 97,ae P 98,ae P 99,ae P 100,ae P 101,ae P 102,ae P 103,ae P 104,ae P 105,ae P 106,ae P 107,ae P 108,ae P 109,ae P 110,ae P 111,ae P 112,ae P 113,ae P 114,ae P 115,ae P 116,ae P 117,ae P 118,ae P 119,ae P 120,ae P 121,ae P 122,ae P 123,ae P 124,ae P 125,ae P 126,ae P 127,ae P 128,ae P 129,ae P 130,ae P 131,ae P 132,ae P 133,ae P 134,ae P 135,ae P 136,ae P 137,ae P 138,ae P 139,ae P 140,ae P 141,ae P 142,ae P 143,ae P 144,ae P 145,ae P 146,ae P 147,ae P 148,ae P 149,ae P 150,ae P 151,ae P 152,ae P 153,ae P 154,ae P 155,ae P 156,ae P 157,ae P 158,ae P 159,ae P 160,ae P 161,ae P 162,ae P 163,ae P 164,ae P 165,ae P 166,ae P 167,ae P 168,ae P 169,ae P 170,ae P 171,ae P 172,ae P 173,ae P 174,ae P 175,ae P 176,ae P 177,ae P 178,ae P 179,ae P 180,ae P 181,ae P 182,ae P 183,ae P 184,ae P 185,ae P 186,ae P 187,ae P 188,ae P 189,ae P 190,ae P 191,ae P 192,ae P 193,ae P 194,ae P 195,ae P 196,ae P 197,ae P 198,ae P 199,ae P 200,ae P 201,ae P 202,ae P 203,ae P 204,ae P 205,ae P 206,ae P 207,ae P 208,ae P 209,ae P 210,ae P 211,ae P 212,ae P 213,ae P 214,ae P 215,ae P 216,ae P 217,ae P 218,ae P 219,ae P 220,ae P 221,ae P 222,ae P 223,ae P 224,ae P 225,ae P 226,ae P 227,ae P 228,ae P 229,ae P 230,ae P 231,ae P 232,ae P 233,ae P 234,ae P 235,ae P 236,ae P 237,ae P 238,ae P 239,ae P 240,ae P 241,ae P 242,ae P 243,ae P 244,ae P 245,ae P 246,ae P 247,ae P 248,ae P 249,ae P 250,ae P 251,ae P 252,ae P 253,ae P 254,ae P 255,ae P 256,ae P 257,ae P 258,ae P 259,ae P 260,ae P 261,ae P 262,ae P 263,ae P 264,ae P 265,ae P 266,ae P 267,ae P 268,ae P 269,ae P 270,ae P 271,ae P 272,ae P 273,ae P 274,ae P 275,ae P 276,ae P 277,ae P 278,ae P 279,ae P 280,ae P 281,ae P 282,ae P 283,ae P 284,ae P 285,ae P 286,ae P 287,ae P 288,ae P 289,ae P 290,ae P 291,ae P 292,ae P 293,ae P 294,ae P 295,ae P 296,ae P 297,ae P 298,ae P 299,ae P 300,ae P 301,ae P 302,ae P 303,ae P 304,ae P 305,ae P 306,ae P 307,ae P 308,ae P 309,ae P 310,ae P 311,ae P 312,ae P 313,ae P 314,ae P 315,ae P 316,ae P 317,ae P 318,ae P 319,ae P 320,ae P 321,ae P 322,ae P 323,ae P 324,ae P 325,ae P 326,ae P 327,ae P 328,ae P 329,ae P 330,ae P 331,ae P 332,ae P 333,ae P 334,ae P 335,ae P 336,ae P 337,ae P 338,ae P 339,ae P 340,ae P 341,ae P 342,ae P 343,ae P 344,ae P 345,ae P 346,ae P 347,ae P 348,ae P 349,ae P 350,ae P 351,ae P 352,ae P 353,ae P 354,ae P 355,ae P 356,ae P 357,ae P 358,ae P 359,ae P 360,ae P 361,ae P 362,ae P 363,ae P 364,ae P 365,ae P 366,ae P 367,ae P 368,ae P 369,ae P 370,ae P 371,ae P 372,ae P 373,ae P 374,ae P 375,ae P 376,ae P 377,ae P 378,ae P 379,ae P 380,ae P 381,ae P 382,ae P 383,ae P 384,ae P 385,ae P 386,ae P 387,ae P 388,ae P 389,ae P 390,ae P 391,ae P 392,ae P 393,ae P 394,ae P 395,ae P 396,ae P 397,ae P 398,ae P 399,ae P 400,ae P 401,ae P 402,ae P 403,ae P 404,ae P 405,ae P 406,ae P 407,ae P 408,ae P 409,ae P 410,ae P 411,ae P 412,ae P 413,ae P 414,ae P 415,ae P 416,ae P 417,ae P 418,ae P 419,ae P 420,ae P 421,ae P 422,ae P 423,ae P 424,ae P 425,ae P 426,ae P 427,ae P 428,ae P 429,ae P 430,ae P 431,ae P 432,ae P 433,ae P 434,ae P 435,ae P 436,ae P 437,ae P 438,ae P 439,ae P 440,ae P 441,ae P 442,ae P 443,ae P 444,ae P 445,ae P 446,ae P 447,ae P 448,ae P 449,ae P 450,ae P 451,ae P 452,ae P 453,ae P 454,ae P 455,ae P 456,ae P 457,ae P 458,ae P 459,ae P 460,ae P 461,ae P 462,ae P 463,ae P 464,ae P 465,ae P 466,ae P 467,ae P 468,ae P 469,ae P 470,ae P 471,ae P 472,ae P 473,ae P 474,ae P 475,ae P 476,ae P 477,ae P 478,ae P 479,ae P 480,ae P 481,ae P 482,ae P 483,ae P 484,ae P 485,ae P 486,ae P 487,ae P 488,ae P 489,ae P 490,ae P 491,ae P 492,ae P 493,ae P 494,ae P 495,ae P 496,ae P 497,ae P 498,ae P 499,ae P 500,ae P 501,ae P 502,ae P 503,ae P 504,ae P 505,ae P 506,ae P 507,ae P 508,ae P 509,ae P 510,ae P 511,ae P 512,ae P 513,ae P 514,ae P 515,ae P 516,ae P 517,ae P 518,ae P 519,ae P 520,ae P 521,ae P 522,ae P 523,ae P 524,ae P 525,ae P 526,ae P 527,ae P 528,ae P 529,ae P 530,ae P 531,ae P 532,ae P 533,ae P 534,ae P 535,ae P 536,ae P 537,ae P 538,ae P 539,ae P 540,ae P 541,ae P 542,ae P 543,ae P 544,ae P 545,ae P 546,ae P 547,ae P 548,ae P 549,ae P 550,ae P 551,ae P 552,ae P 553,ae P 554,ae P 555,ae P 556,ae P 557,ae P 558,ae P 559,ae P 560,ae P 561,ae P 562,ae P 563,ae P 564,ae P 565,ae P 566,ae P 567,ae P 568,ae P 569,ae P 570,ae P 571,ae P 572,ae P 573,ae P 574,ae P 575,ae P 576,ae P 577,ae P 578,ae P 579,ae P 580,ae P 581,ae P 582,ae P 583,ae P 584,ae P 585,ae P 586,ae P 587,ae P 588,ae P 589,ae P 590,ae P 591,ae P 592]⟩,yL⟩
theorem Eo (w:World) (B:Ih):topRun Iq PySem.Challenge.pw_seekhall_k19_just_where_a_wish_is_kept w 11 (some (.ref 6)) 2 (zzS DF 593 999 w B).abs ⟨doneF .next,nI,⟨422,0,439,83⟩,zzB⟩=some ⟨nJ w.params,#[],⟨0,0,0,0⟩,999,B⟩:=by kernel_rfl
theorem DS (w:World) (B:Ih):topRun Iq PySem.Challenge.pw_seekhall_k19_just_where_a_wish_is_kept w 11 (some (.ref 6)) (12+(1+(2051+(2178+2)))) ⟨IN w.params,#[],boot_drawn,boot_toks,B⟩ (topStub PySem.Challenge.pw_seekhall_k19_just_where_a_wish_is_kept)=some ⟨nJ w.params,#[],⟨0,0,0,0⟩,999,B⟩ :=
 go_top (Ei w B) (piece_block (Et w B) (show topRun Iq PySem.Challenge.pw_seekhall_k19_just_where_a_wish_is_kept w 11 (some (.ref 6)) _ _ (restOf (wC.take 26++(wC.drop 26++[])) qF nI ⟨0,0,0,0⟩ zzB)=_ from
  piece_app (segRun_of (byRow2 "special-get-raises" (P:=λw=>segRunT Iq PySem.Challenge.pw_seekhall_k19_just_where_a_wish_is_kept w 11 (some (.ref 6)) 1 2051 (zzS zy 15 187 w B) (piecesOf (wC.take 26) qF nI ⟨0,0,0,0⟩ zzB)=some (.next,zzS Cb 282 558 w B,nI,⟨134,0,139,32⟩)) (λw=>Eu w B) (λw=>Eh w B) w)) (piece_app (segRun_of (EJ w B)) (Eo w B))))
theorem DZ (w:World) (B:Ih):(staticsOk (IJ PySem.Challenge.pw_seekhall_k19_just_where_a_wish_is_kept.main.body) (IN w.params) (nJ w.params) && namesBound PySem.Challenge.pw_seekhall_k19_just_where_a_wish_is_kept (nJ w.params) && gensDone ⟨nJ w.params,#[],⟨0,0,0,0⟩,999,B⟩ && laidKept (IN w.params) (nJ w.params))=true:=by kernel_rfl
theorem Ea (w:World) (B:Ih):(openSeen iM [b_ "KEEPERS"] (IJ PySem.Challenge.pw_seekhall_k19_just_where_a_wish_is_kept.main.body) hX true ⟨nJ w.params,#[],⟨0,0,0,0⟩,999,B⟩).1=(openGood iM [b_ "KEEPERS"]).1:=by kernel_rfl
theorem DK (w:World) (B:Ih):((openSeen iM [b_ "KEEPERS"] (IJ PySem.Challenge.pw_seekhall_k19_just_where_a_wish_is_kept.main.body) hX true ⟨nJ w.params,#[],⟨0,0,0,0⟩,999,B⟩).2.1,(openSeen iM [b_ "KEEPERS"] (IJ PySem.Challenge.pw_seekhall_k19_just_where_a_wish_is_kept.main.body) hX true ⟨nJ w.params,#[],⟨0,0,0,0⟩,999,B⟩).2.2.1)=((openGood iM [b_ "KEEPERS"]).2.1,(openGood iM [b_ "KEEPERS"]).2.2.1):=by kernel_rfl
theorem DN (w:World) (B:Ih):(openSeen iM [b_ "KEEPERS"] (IJ PySem.Challenge.pw_seekhall_k19_just_where_a_wish_is_kept.main.body) hX true ⟨nJ w.params,#[],⟨0,0,0,0⟩,999,B⟩).2.2.2=(openGood iM [b_ "KEEPERS"]).2.2.2:=by kernel_rfl
theorem DV (w:World) (B:Ih):Hook.obs hK ⟨nJ w.params,#[],⟨0,0,0,0⟩,999,B⟩=Hook.val hK w:=by kernel_rfl
theorem EY:opening PySem.Challenge.pw_seekhall_k19_just_where_a_wish_is_kept=plainProg PySem.Challenge.pw_seekhall_k19_just_where_a_wish_is_kept.main.scope.names:=by kernel_rfl
theorem EG (s:Shared):fenceModules? PySem.Challenge.pw_seekhall_k19_just_where_a_wish_is_kept s=some s:=by kernel_rfl
theorem EB (w:World):((IN w.params).isNs i_ && (#[]:Array GenState).size == 0,(IN w.params).objs.size,(IN w.params).nsMap i_ "__annotations__")=(true,11,some (.ref 6)):=by kernel_rfl
theorem hl:LeftO PySem.Challenge.pw_seekhall_k19_just_where_a_wish_is_kept iM [b_ "KEEPERS"] hX (Hook.obs hK) (Hook.val hK) 10400 :=
 LeftO.of_pieces (H₀:=IN) (H₁:=nJ) (boot_open EY rfl EG) EB DS (by decide+kernel) (λw=>funext λos=>looks_pair (DZ w os) (D9 (Ea w os) (DK w os) (DN w os) (DV w os)))
theorem wsd:PySem.W.OpenLaw.wellSaid PySem.Challenge.rw_seekhall_k19_just_where_a_wish_is_kept=true:=by kernel_rfl
end Lw
namespace L2
open PySem PySem.Spec PyProof.Rows
abbrev Key:=Sum Int Str
def rc:Key->Value->Bool
 | .inl k,v=>Value.isInt k v
 | .inr x,v=>Value.isStrOf x v
def EU (w:World):Key->Int
 | .inl k=>hashInt k
 | .inr x=>hashStr w x
theorem bW : ∀{k:Key} {v:Value},rc k v=true->(∃i t,k=o_ i/\v=Value.int i t)\/(∃x t,k=t_ x/\v=Value.str x t)
 | .inl i,v,h=>by
  obtain⟨t,e⟩:=Value.isInt_shape (k:=i) (v:=v) h;exact .inl ⟨i,t,rfl,e⟩
 | .inr x,v,h=>by
  obtain⟨t,e⟩:=Value.isStrOf_shape (x:=x) (v:=v) h;exact .inr ⟨x,t,rfl,e⟩
theorem yG (i:Int) (t:Tok):rc (.inl i) (.int i t)=true:=by simp[rc,Value.isInt]
theorem xU (x:Str) (t:Tok):rc (.inr x) (.str x t)=true:=by simp[rc,Value.isStrOf]
theorem CJ (a b:Int):decide ((o_ a:Key)=o_ b)=(a == b):=by
 by_cases e:a=b
 .subst e;simp
 .have h : ¬ (o_ a:Key)=o_ b:=λq=>e (Hu q)
  rw[decide_eq_false h];exact(beq_eq_false_iff_ne.mpr e).symm
theorem CT (a b:Str):decide ((t_ a:Key)=t_ b)=decide (a=b):=by
 by_cases e:a=b
 .subst e;simp
 .have h : ¬ (t_ a:Key)=t_ b:=λq=>e (Sum.inr.inj q)
  rw[decide_eq_false h,decide_eq_false e]
theorem CH (a:Int) (b:Str):decide ((o_ a:Key)=t_ b)=false:=decide_eq_false (λq=>nomatch q)
theorem Dk (a:Str) (b:Int):decide ((t_ a:Key)=o_ b)=false:=decide_eq_false (λq=>nomatch q)
def bA (prog:Program) (w:World):PySem.KeyKind prog w Key where
 is:=rc
 hash:=EU w
 inj := λv a b ha F=>by
  rcases bW ha with⟨i,t,rfl,rfl⟩ | ⟨x,t,rfl,rfl⟩
  .rcases bW F with⟨j,u,rfl,e⟩ | ⟨y,u,rfl,e⟩
   .injection e with e1 _;rw[e1]
   .exact nomatch e
  .rcases bW F with⟨j,u,rfl,e⟩ | ⟨y,u,rfl,e⟩
   .exact nomatch e
   .injection e with e1 _;rw[e1]
 byValue:=λk v h=>by
  rcases bW h with⟨i,t,rfl,rfl⟩ | ⟨x,t,rfl,rfl⟩ <;> rfl
 pyHash:=λB h=>by
  rcases bW B with⟨i,t,rfl,rfl⟩ | ⟨x,t,rfl,rfl⟩
  .exact wpAny_pyHash_int h
  .exact wpAny_pyHash_str h
 eqBool:=λL B h=>by
  rcases bW L with⟨i,t,rfl,rfl⟩ | ⟨x,t,rfl,rfl⟩
  .rcases bW B with⟨j,u,rfl,rfl⟩ | ⟨y,u,rfl,rfl⟩
   .rw[CJ] at h;exact wpAny_eqBool_int h
   .rw[CH] at h;exact SeqAt.EqAt.int_str i t y u _ _ _ _ h
  .rcases bW B with⟨j,u,rfl,rfl⟩ | ⟨y,u,rfl,rfl⟩
   .rw[Dk] at h;exact SeqAt.EqAt.str_int x t j u _ _ _ _ h
   .rw[CT] at h;exact wpAny_eqBool_str h
 «strs» := λk x t v h=>by
  rcases bW h with⟨i,u,rfl,e⟩ | ⟨y,u,rfl,e⟩
  .exact nomatch e
  .injection e with e1 _
   subst e1
   cases v <;> rfl
theorem uu (prog:Program) (w:World) (i:Int) (t:Tok):(bA prog w).is (.inl i) (.int i t)=true:=yG i t
theorem uM (prog:Program) (w:World) (x:Str) (t:Tok):(bA prog w).is (.inr x) (.str x t)=true:=xU x t
inductive V where
 | non | bl (b:Bool) | int (i:Int) | str (x:Str) | byt (b:Array UInt8) | flt (b:UInt64) | ref (a:Addr) | ty (n:String)
 deriving DecidableEq
def bv:V->Value->Prop
 | .non,u=>u=GA
 | .bl b,u=>u=HQ b
 | .int i,u=>∃t,u=Value.int i t
 | .str x,u=>∃t,u=Value.str x t
 | .byt b,u=>∃t,u=Value.bytes b t
 | .flt b,u=>∃t,u=Value.float b t
 | .ref a,u=>u=y6 a
 | .ty n,u=>u=GL n
abbrev bu:List V->List Value->Prop:=Paired bv
theorem bu.length {xs:List V} {us:List Value} (r:bu xs us):xs.length=us.length:=Paired.length r
theorem bu.get : ∀{xs:List V} {us:List Value} {i:Nat} {x:V},bu xs us->xs[i]? = some x->∃u,us[i]? = some u/\bv x u
 | _,_,_,_,.nil,e=>by simp at e
 | _,_,0,_,.cons r _,e=>by simp at e;subst e;exact⟨_,rfl,r⟩
 | _,_,i+1,x,.cons _ t,e=>by
  obtain⟨u,h1,h2⟩:=bu.get (i:=i) (x:=x) t (by simpa using e)
  exact⟨u,by simpa using h1,h2⟩
theorem bu.append : ∀{xs ys:List V} {us ws:List Value},bu xs us->bu ys ws->bu (xs++ys) (us++ws)
 | _,_,_,_,.nil,s=>s
 | _,_,_,_,.cons r t,s=>.cons r (bu.append t s)
theorem bu.take : ∀{xs:List V} {us:List Value} (n:Nat),bu xs us->bu (xs.take n) (us.take n)
 | _,_,0,_=>.nil
 | _,_,_+1,.nil=>.nil
 | _,_,n+1,.cons r t=>.cons r (bu.take n t)
theorem bu.drop : ∀{xs:List V} {us:List Value} (n:Nat),bu xs us->bu (xs.drop n) (us.drop n)
 | _,_,0,r=>r
 | _,_,_+1,.nil=>.nil
 | _,_,n+1,.cons _ t=>bu.drop n t
def iF:Option V->Option Value->Prop
 | some v,some u=>bv v u
 | none,none=>True
 | _,_=>False
def KV {κ:Type}:List (κ × V)->List (κ × Value)->Prop:=Paired λ(p:κ × V) (q:κ × Value)=>p.1=q.1/\bv p.2 q.2
def kV:Key->V
 | .inl i=>.int i
 | .inr x=>.str x
inductive HO where
 | lst (xs:List V)
 | tup (xs:List V)
 | dK (kvs:List (Key × V)) | dT (kvs:List (List Key × V))
 | set (S:Int->Bool) (n:Nat)
 | ins (C dx:Addr) (fs:List (Str × V))
 | own (x:Addr)
 | xd (fs:List (Str × V))
 | met (f x:Addr)
 | rng (lo hi:Int)
 | frz (o:Obj) (u:HO)
 | tbl (ps:Array Value)
 | tab (q:Str)
 | ext (φ:Heap->Prop)
abbrev Hp:=Addr->Option HO
def upd (H:Hp) (a:Addr) (o:HO):Hp:=λb=>if b=a then some o else H b
theorem ah {H:Hp} {o:HO}:upd H a o a=some o:=by unfold upd;rw[if_pos rfl]
theorem ao {H:Hp} {o:HO} (h:b≠a):upd H a o b=H b:=by unfold upd;rw[if_neg h]
theorem kY {H:Hp} {o u:HO}:upd (upd H a o) a u=upd H a u:=by
 funext b;unfold upd;split <;> rfl
theorem bo {H:Hp} {o u:HO} (h:H a=some o) (h':H b=some u) (d:o≠u):a≠b:=by
 intro e;subst e;rw[h] at h';exact d (h_ h')
theorem az {H:Hp} {o:HO} (h:H a=some o) (h':H b=none):a≠b:=by
 intro e;subst e;rw[h] at h';cases h'
section
variable (P:Program) (w:World)
def DR (o:Obj) (q:Str):Prop:=∃vs t,o.data = .fields vs/\vs[1]? = some (.str q t)
def bO (H:Hp) (h:Heap) (a:Addr):HO->Prop
 | .lst xs=>xs.length<=l_/\∃(its:List Value) (n:Nat),bu xs its/\h.get? a=some { cls:=.type "list",data:=.seq its.toArray n }
 | .tup xs=>xs.length<=l_/\∃its:List Value,bu xs its/\IsTup h a its.toArray
 | .dK kvs=>kvs.length<=l_/\(a == G9)=false/\∃vs,KV kvs vs/\h.DictOf (bA P w) a vs
 | .dT kvs=>kvs.length<=l_/\(a == G9)=false/\∃xs:List (List Key × Addr × Value),
   Paired (λ(p:List Key × V) (q:List Key × Addr × Value)=>p.1=q.1/\H q.2.1>>(p.1.map kV)/\bv p.2 q.2.2) kvs xs /\
   ∃o es L,h.get? a=some o/\o.ExactDict/\o.data = .dict es L/\es.toList=xs.map (entryOfKey (Hv (bA P w)))/\(xs.map (·.1)).Nodup
 | .set S n=>h.SetOf (intKind P w) a S n
 | .ins C dx fs=>H dx=some (.own a)/\fs.length<=1000/\dx≠a/\h.get? a=some (instObj C dx) /\
   ∃mA,h.Ns1 dx mA/\(∀f,iF (fs.lookup f) (mA f))/\PySem.Within mA (fs.map (·.1))
 | .own _=>∃o,h.get? a=some o
 | .xd fs=>∃mA,h.Ns1 a mA/\∀f,iF (fs.lookup f) (mA f)
 | .rng lo hi=>∃t u v,h.get? a=some { cls:=.type "range",data:=.fields #[.int lo t,.int hi u,.int 1 v] }
 | .frz o u=>h.get? a=some o/\bO H h a u
 | .tbl ps=>h.get? a=some { cls:=.none,data:=.fields ps }
 | .tab q=>∃ps:Array Value,h.get? a=some { cls:=.none,data:=.fields ps }/\TriplesOk ps.toList/\∀pos F,codeAmong pos ps.toList=some F->∃c oc,F=y6 c/\c≠a/\H c=some (.frz oc (.own a))/\DR oc q
 | .met f x=>h.get? a=some (methodObj (.ref f) (.ref x))
 | .ext B=>B h/\(∃o,h.get? a=some o)/\∀h1 h2:Heap,B h1->(∀o,h1.get? a=some o->h2.get? a=some o)->B h2
def HOk (H:Hp) (h:Heap):Prop:=∀a o,H a=some o->bO P w H h a o
end
section
variable {H H':Hp} {o:HO}
theorem bO.lt (x:bO P w H h a o):a < h.objs.size:=by
 cases o with
 | lst xs=>obtain⟨_,_,_,_,e⟩:=x;exact e_ e
 | tup xs=>obtain⟨_,_,_,p⟩:=x;exact p.lt
 | dK kvs=>obtain⟨_,_,_,_,o,_,_,e,_⟩:=x;exact e_ e
 | dT kvs=>obtain⟨_,_,_,_,o,_,_,e,_⟩:=x;exact e_ e
 | set S n=>obtain⟨o,_,_,_,e,_⟩:=x;exact e_ e
 | ins C dx fs=>obtain⟨_,_,_,e,_⟩:=x;exact e_ e
 | own y=>obtain⟨_,e⟩:=x;exact e_ e
 | xd fs=>obtain⟨_,⟨_,_,_,e,_⟩,_⟩:=x;exact e_ e
 | rng lo hi=>obtain⟨_,_,_,e⟩:=x;exact e_ e
 | frz ob u=>obtain⟨e,_⟩:=x;exact e_ e
 | tbl ps=>exact e_ (show h.get? a=some _ from x)
 | tab q=>obtain⟨_,e,_⟩:=x;exact e_ e
 | met f y=>exact e_ (show h.get? a=some _ from x)
 | ext B=>obtain⟨_,⟨_,e⟩,_⟩:=x;exact e_ e
theorem Paired.mapP {α Y:Type} {F G:α->Y->Prop} : ∀{B:List α} {L:List Y},Paired F B L->(∀a b,F a b->G a b)->Paired G B L
 | _,_,.nil,_=>.nil
 | _,_,.cons r t,f=>.cons (f _ _ r) (Paired.mapP t f)
theorem bO.stay (x:bO P w H h a o) (k : ∀b u,(b=a\/H b=some (.own a))->h.get? b=some u->h'.get? b=some u)
  (ho : ∀b,H b=some (.own a)->H' b=some (.own a)) (Y : ∀b xs,H b>>xs->H' b>>xs) (Z : ∀b o y,H b=some (.frz o (.own y))->H' b=some (.frz o (.own y)):=by exact λ_ _ _ q=>q):bO P w H' h' a o:=by
 induction o with
 | lst xs=>obtain⟨z,its,n,r,e⟩:=x;exact⟨z,its,n,r,k _ _ (.inl rfl) e⟩
 | tup xs=>obtain⟨z,its,r,ob,e,c⟩:=x;exact⟨z,its,r,ob,k _ _ (.inl rfl) e,c⟩
 | dK kvs=>obtain⟨z,y,vs,r,ob,es,B,e,c⟩:=x;exact⟨z,y,vs,r,ob,es,B,k _ _ (.inl rfl) e,c⟩
 | dT kvs =>
  obtain⟨z,y,xs,r,ob,es,B,e,c⟩:=x;exact⟨z,y,xs,Paired.mapP r λp q z=>⟨z.1,Y _ _ z.2.1,z.2.2⟩,ob,es,B,k _ _ (.inl rfl) e,c⟩
 | set S n=>obtain⟨ob,es,B,t,e,c⟩:=x;exact⟨ob,es,B,t,k _ _ (.inl rfl) e,c⟩
 | ins C dx fs =>
  obtain⟨d,z,ne,e,mA,⟨od,es,B,e2,c⟩,r⟩:=x;exact⟨ho _ d,z,ne,k _ _ (.inl rfl) e,mA,⟨od,es,B,k _ _ (.inr d) e2,c⟩,r⟩
 | own y=>obtain⟨ob,e⟩:=x;exact⟨ob,k _ _ (.inl rfl) e⟩
 | xd fs=>obtain⟨mA,⟨od,es,B,e,c⟩,r⟩:=x;exact⟨mA,⟨od,es,B,k _ _ (.inl rfl) e,c⟩,r⟩
 | rng lo hi=>obtain⟨t,u,v,e⟩:=x;exact⟨t,u,v,k _ _ (.inl rfl) e⟩
 | frz ob u F=>obtain⟨e,q⟩:=x;exact⟨k _ _ (.inl rfl) e,F q⟩
 | tbl ps =>
  have e:h.get? a=some { cls:=.none,data:=.fields ps }:=x
  show h'.get? a=some { cls:=.none,data:=.fields ps }
  exact k a _ (.inl rfl) e
 | tab q =>
  obtain⟨ps,e,t,hc⟩:=x;refine⟨ps,k _ _ (.inl rfl) e,t,λpos cv z=>?_⟩
  obtain⟨c,oc,ec,ne,L,hq⟩:=hc pos cv z;exact⟨c,oc,ec,ne,Z _ _ _ L,hq⟩
 | met f y =>
  have e:h.get? a=some (methodObj (.ref f) (.ref y)):=x
  show h'.get? a=some (methodObj (.ref f) (.ref y))
  exact k a _ (.inl rfl) e
 | ext φ=>obtain⟨p,⟨o,e⟩,st⟩:=x;exact⟨st _ _ p λo q=>k _ _ (.inl rfl) q,⟨o,k _ _ (.inl rfl) e⟩,st⟩
theorem HOk.lt (x:HOk P w H h) (e:H a=some o):a < h.objs.size:=(x a o e).lt
theorem HOk.fresh (x:HOk P w H h) (e:h.objs.size<=a):H a=none:=by
 cases q:H a with
 | none=>rfl
 | some u=>exact absurd (n_ (x.lt q) e) (Gg _)
theorem HOk.kept (x:HOk P w H h) (k : ∀b u,h.get? b=some u->h'.get? b=some u):HOk P w H h':=λa o e =>
 (x a o e).stay (λb u _ q=>k b u q) (λ_ q=>q) λ_ _ q=>q
theorem HOk.laid (x:HOk P w H h) (k : ∀b u,h.get? b=some u->h'.get? b=some u) (hp:h.objs.size<=a) (new:bO P w (upd H a o) h' a o):HOk P w (upd H a o) h':=λb u e=>by
 have B:=x.fresh hp
 by_cases F:b=a
 .subst F;rw[ah] at e;cases e;exact new
 .rw[ao F] at e
  exact(x b u e).stay (λc v _ q=>k c v q) (λc q=>by rw[ao (az q B)];exact q) (λc xs q=>by rw[ao (az q B)];exact q) λc _ _ q=>by rw[ao (az q B)];exact q
end
def Rd (H:Hp) (a:Addr) (u:HO):Prop:=H a=some u\/∃o,H a=some (.frz o u)
theorem Rd.ok {H:Hp} {u:HO} (r:Rd H a u) (x:HOk P w H h):bO P w H h a u:=by
 rcases r with r | ⟨o,r⟩
 .exact x a u r
 .obtain⟨_,q⟩:=x a _ r
  exact q
def Mut:Option HO->Prop
 | some (.lst _)=>True
 | some (.dK _)=>True
 | some (.dT _)=>True
 | some (.set _ _)=>True
 | some (.ins _ _ _)=>True
 | some (.ext _)=>True
 | some (.tab _)=>True
 | _=>False
section
variable {H:Hp} {x e:Addr} {o':HO}
theorem HOk.write (ok:HOk P w H h) (L:Mut (H x)) (he:e=x\/H e=some (.own x)) (k : ∀b u,b≠e->h.get? b=some u->h'.get? b=some u) (aa : ∃u,h'.get? e=some u)
  (new:bO P w (upd H x o') h' x o'):HOk P w (upd H x o') h':=λb u q=>by
 have F : ∀c y,H c=some (.own y)->c≠x:=λc y r z=>by subst z;rw[r] at L;exact L
 have Y : ∀c xs,H c>>xs->c≠x:=λc xs r z=>by subst z;rw[r] at L;exact L
 by_cases Z:b=x
 .subst Z;rw[ah] at q;cases q;exact new
 .rw[ao Z] at q
  by_cases B:b=e
  .have q':H b=some (.own x):=by
    rcases he with z | z
    .exact absurd (B.trans z) Z
    .rw[B];exact z
   rw[q] at q';cases q';obtain⟨v,hv⟩:=aa;exact⟨v,by rw[B];exact hv⟩
  .refine(ok b u q).stay (λc v hc r=>k c v ?_ r) (λc r=>by rw[ao (F c b r)];exact r) (λc xs r=>by rw[ao (Y c xs r)];exact r) λc _ _ r=>by rw[ao (λz=>by subst z;rw[r] at L;exact L)];exact r
   rcases hc with rfl | hc
   .exact B
   .rintro rfl
    rcases he with z | z
    .exact F c b hc z
    .rw[hc] at z;cases z;exact Z rfl
end
structure Un (fs ex:List Addr) (H H':Hp) (h h':Heap):Prop where
 keep : ∀b o,h.get? b=some o->H b=none->b∉fs->b∉ex->h'.get? b=some o
 slot : ∀b o,h.get? b=some o->H b=none->b∈fs->b∉ex->∃sl,h'.get? b=some { o with slots:=sl }
 free : ∀b o,h.get? b=some o->H b=none->b∉ex->H' b=none
 there : ∀b o,h.get? b=some o->b∉ex->∃o',h'.get? b=some o'
 tups : ∀b xs,H b>>xs->H' b>>xs
 frzs : ∀b o u,H b=some (.frz o u)->H' b=some (.frz o u)
 tbls : ∀b ps,H b=some (.tbl ps)->∃more,H' b=some (.tbl (ps++more))
section
variable {fs fs' ex ex':List Addr} {H H1 H2:Hp} {h1 h2:Heap} {x e:Addr} {o:HO}
theorem Un.any (u:Un fs ex H H1 h h1) {b:Addr} {ob:Obj} (q:h.get? b=some ob) (n:H b=none) (F:b∉ex) : ∃sl,h1.get? b=some { ob with slots:=sl }:=by
 by_cases B:b∈fs
 .exact u.slot b ob q n B F
 .exact⟨ob.slots,u.keep b ob q n B F⟩
theorem Un.kept (k : ∀b u,h.get? b=some u->h'.get? b=some u):Un fs ex H H h h' :=
 ⟨λb ob q _ _ _=>k b ob q,λb ob q _ _ _=>⟨ob.slots,k b ob q⟩,λ_ _ _ n _=>n,λb ob q _=>⟨ob,k b ob q⟩,λ_ _ q=>q,λ_ _ _ q=>q,λ_ ps q=>⟨#[],by rw[q];simp⟩⟩
theorem Un.refl:Un fs ex H H h h:=Un.kept λ_ _ q=>q
theorem Un.laid (k : ∀b u,h.get? b=some u->h'.get? b=some u) (hp:h.objs.size<=a) (B:H a=none):Un fs ex H (upd H a o) h h' where
 keep:=λb u q _ _ _=>k b u q
 slot:=λb u q _ _ _=>⟨u.slots,k b u q⟩
 free:=λb u q n _=>by rw[ao (E_ (n_ (e_ q) hp))];exact n
 there:=λb u q _=>⟨u,k b u q⟩
 tups:=λb xs q=>by rw[ao (az q B)];exact q
 frzs:=λb u xs q=>by rw[ao (az q B)];exact q
 tbls:=λb ps q=>⟨#[],by rw[ao (az q B),q];simp⟩
theorem Un.write (F:Mut (H x)) (he:e=x\/H e=some (.own x)) (k : ∀b u,b≠e->h.get? b=some u->h'.get? b=some u) (Y : ∃u,h'.get? e=some u):Un fs ex H (upd H x o) h h':=by
 have hx : ∀b,H b=none->b≠x:=λb n z=>by subst z;rw[n] at F;exact F
 have Z : ∀b,H b=none->b≠e:=λb n z=>by
  subst z;rcases he with r | r
  .exact hx b n r
  .rw[n] at r;cases r
 have L : ∀b u,H b=some u->¬ Mut (some u)->b≠x:=λb u q nm z=>by subst z;rw[q] at F;exact nm F
 refine⟨λb u q n _ _=>k b u (Z b n) q,λb u q n _ _=>⟨u.slots,k b u (Z b n) q⟩,λb u q n _=>by rw[ao (hx b n)];exact n,λb u q _=>?_,
  λb xs q=>by rw[ao (L b _ q λz=>z)];exact q,λb u xs q=>by rw[ao (L b _ q λz=>z)];exact q,λb ps q=>⟨#[],by rw[ao (L b _ q λz=>z),q];simp⟩⟩
 by_cases B:b=e
 .subst B;exact Y
 .exact⟨u,k b u B q⟩
end
def trk (h:Heap) (H:Hp):List Addr:=(range h.objs.size).filter λa=>(H a).isSome
def rB (h:Heap) (H:Hp):Heap:=PySem.W.hideAll h (trk h H)
theorem xL (h:Heap) (H:Hp):(rB h H).objs.size=h.objs.size:=PySem.W.hideAll_size _ _
theorem AZ {H:Hp} {o:Obj} (e:h.get? b=some o) (n:H b=none):(rB h H).get? b=some o :=
 PySem.W.hideAll_get _ e λB=>by
  have q:(H b).isSome=true:=(GX.mp B).2
  rw[n] at q;simp at q
theorem Cg {H:Hp} {o:Obj} (e:(rB h H).get? b=some o):h.get? b=some o/\H b=none:=by
 have B:h.get? b=some o:=PySem.W.of_hideAll (trk h H) e
 refine⟨B,?_⟩
 cases q:H b with
 | none=>rfl
 | some x =>
  have F:b∈trk h H:=GX.mpr ⟨IM.mpr (e_ B),by simp[q]⟩
  have z:(rB h H).get? b=none:=PySem.W.hideAll_none (trk h H) F
  rw[z] at e;cases e
structure Mod (K:j_) (mg:Str->Option Value) (base:Heap):Prop where
 kin:K.In base
 glob:base.Ns i_ mg
 blt : ∃mb,base.Ns builtinsNs mb/\∀x:Str,x ≠ "__name__" -> mb x=GN x
 nolimit:base.NoLimit
structure Cx where
 prog:Program
 w:World
 K:j_
 mg:Str->Option Value
 base:Heap
 A:Around
 N:List Str
 s₀:Shared
 H₀:Hp
 env:Env
 outer:List Env
 stack:List Env
 ex:List Addr
 fn:Str->Bool
 calm:Bool
 pn:List (Addr × Obj)
 xe:Value->Shared->Prop
def frs (l:List Env):List Addr:=l.filterMap (·.frame)
abbrev Cx.fs (X:Cx):List Addr:=frs X.outer
def Vis (sc:Scope) (x:Str):Prop:=sc.names.lookup x=some .local\/sc.names.lookup x=some .cell\/sc.names.lookup x=some .free
def Loc (sc:Scope) (x:Str):Prop:=sc.names.lookup x=some .local\/sc.names.lookup x=some .cell
def FL (env:Env) (h:Heap) (m:Str->Option Value) (x:Str) (u:Value):Prop :=
 (env.kindOf x=some .local/\m x=some u)\/((env.kindOf x=some .cell\/env.kindOf x=some .free)/\∃c,env.cells.lookup x=some c/\h.IsCell c (some u))
structure Cx.Ok (X:Cx):Prop where
 mod:Mod X.K X.mg X.base
 kind:X.env.scope.kind = .function
 glob:X.env.globals=i_
 blt:X.env.builtins=builtinsNs
 above:X.s₀.heap.objs.size<=X.env.locals
 inj : ∀x y c,X.env.cells.lookup x=some c->X.env.cells.lookup y=some c->x=y
 has : ∀x,(X.env.kindOf x=some .cell\/X.env.kindOf x=some .free)->∃c,X.env.cells.lookup x=some c
 cab : ∀x c,X.fn x=true->X.env.cells.lookup x=some c->X.s₀.heap.objs.size<=c
 hd:X.calm=true->X.A.handled=none
 frames:X.A.frames=some X.stack
 stk:X.stack=X.outer\/(X.stack=X.env :: X.outer/\X.env.frame=some X.env.locals)
 exf : ∀b∈X.ex,b≠X.env.locals/\∀x c,X.env.cells.lookup x=some c->c≠b
 bs : ∀b o,X.base.get? b=some o->X.s₀.heap.get? b=some o/\X.H₀ b=none
 bsz:X.base.objs.size<=X.s₀.heap.objs.size
 noex : ∀b o,X.base.get? b=some o->b∉X.ex
 exfs : ∀b∈X.ex,b∉X.fs
 funs:X.s₀.heap.FunFrames X.base X.outer
 frf : ∀b∈X.fs,X.H₀ b=none
structure Inv (X:Cx) (pins:List (Addr × Obj)) (σ:List (Option V)) (H:Hp) (s:Shared):Prop where
 ok:X.Ok
 os:s.os=X.s₀.os
 bare:AllBare s.gens
 base:Un X.fs X.ex X.H₀ H X.s₀.heap s.heap
 loc : ∃m,s.heap.Ns X.env.locals m/\∀(i:Nat) (x:Str) (v:V),X.N[i]? = some x->σ[i]? = some (some v)->Vis X.env.scope x->∃u,bv v u/\FL X.env s.heap m x u
 cell : ∀x c,X.env.cells.lookup x=some c->∃v,s.heap.IsCell c v
 free:H X.env.locals=none
 freeC : ∀x c,X.env.cells.lookup x=some c->H c=none
 pin : ∀p∈X.pn++pins,s.heap.get? p.1=some p.2/\H p.1=none/\p.1≠X.env.locals/\p.1∉X.fs/\∀v,p.2.data≠.cell v
 hok:HOk X.prog X.w H s.heap
 len:σ.length=X.N.length
section
variable {X:Cx} {σ:List (Option V)} {H H':Hp}
theorem Cx.Ok.nofr (ok:X.Ok) {b:Addr} {o:Obj} (e:X.base.get? b=some o):b∉X.fs:=λB=>by
 have:=(ok.funs.mem B).1
 rw[e] at this;cases this
theorem Inv.bs (I:Inv X pins σ H s) : ∀b o,X.base.get? b=some o->s.heap.get? b=some o/\H b=none:=λb o e =>
 ⟨I.base.keep b o (I.ok.bs b o e).1 (I.ok.bs b o e).2 (I.ok.nofr e) (I.ok.noex b o e),I.base.free b o (I.ok.bs b o e).1 (I.ok.bs b o e).2 (I.ok.noex b o e)⟩
theorem Inv.bk (I:Inv X pins σ H s) : ∀b o,X.base.get? b=some o->s.heap.get? b=some o:=λb o e=>(I.bs b o e).1
theorem Inv.mod (I:Inv X pins σ H s):Mod X.K X.mg X.base:=I.ok.mod
theorem Inv.kIn (I:Inv X pins σ H s):X.K.In s.heap:=I.ok.mod.kin.keeps I.bk
theorem Inv.lt (I:Inv X pins σ H s):X.env.locals < s.heap.objs.size:=let ⟨_,hn,_⟩:=I.loc;hn.lt
theorem Inv.sz (I:Inv X pins σ H s):X.s₀.heap.objs.size<=s.heap.objs.size:=w_ I.ok.above (Hd I.lt)
theorem Inv.nofs (I:Inv X pins σ H s) {a:Addr} (h:s.heap.objs.size<=a):a∉X.fs:=λB=>by
 obtain⟨_,o,F,_⟩:=I.ok.funs.mem B;exact absurd (n_ (e_ F) (w_ I.sz h)) (Gg _)
theorem Inv.cne (I:Inv X pins σ H s) : ∀x c,X.env.cells.lookup x=some c->c≠X.env.locals:=λx c e z=>by
 obtain⟨v,o,Y,L⟩:=I.cell x c e;obtain⟨m,⟨o',es,Z,B,F,_⟩,_⟩:=I.loc;rw[z,B] at Y;cases Y;rw[F] at L;cases L
theorem Inv.funs (I:Inv X pins σ H s):s.heap.FunFrames X.base X.outer:=by
 have all : ∀(l:List Env),(∀b∈frs l,b∈X.fs)->X.s₀.heap.FunFrames X.base l->s.heap.FunFrames X.base l:=by
  intro l
  induction l with
  | nil=>intro _ _;trivial
  | cons env r ih =>
   intro Z hl;obtain⟨hk,⟨L,o,B,hn,ho,hd⟩,hr⟩:=hl;have Y:L∈X.fs:=Z L (by unfold frs;rw[List.filterMap_cons,B];exact FT)
   obtain⟨sl,e⟩:=I.base.slot L o ho (I.ok.frf L Y) Y λz=>I.ok.exfs L z Y
   exact⟨hk,⟨L,_,B,hn,e,hd⟩,ih (λb F=>Z b (by unfold frs;rw[List.filterMap_cons,B];exact zc _ F)) hr⟩
 exact all X.outer (λ_ F=>F) I.ok.funs
theorem Inv.stack (I:Inv X pins σ H s):s.heap.FunFrames X.base X.stack:=by
 rcases I.ok.stk with e | ⟨e,hf⟩
 .rw[e];exact I.funs
 .rw[e]
  obtain⟨m,B,_⟩:=I.loc;refine .cons (by rw[I.ok.kind];decide) hf B ?_ I.funs
  exact Heap.get?_none_of_le (w_ I.ok.bsz I.ok.above)
theorem Inv.stkSub (I:Inv X pins σ H s) : ∀b∈frs X.stack,b∈X.env.locals :: X.fs:=λb B=>by
 rcases I.ok.stk with e | ⟨e,hf⟩
 .rw[e] at B;exact zc _ B
 .rw[e] at B
  unfold frs at B;rw[List.filterMap_cons,hf] at B;exact B
theorem Inv.stkFree (I:Inv X pins σ H s) : ∀b∈frs X.stack,H b=none:=λb B=>by
 rcases u_.mp (I.stkSub b B) with e | B
 .rw[e];exact I.free
 .obtain⟨_,o,ho,_⟩:=I.ok.funs.mem B
  exact I.base.free b o ho (I.ok.frf b B) λz=>I.ok.exfs b z B
theorem Inv.step (I:Inv X pins σ H s)
  (F : ∀b∈ch,(b∈X.ex\/X.s₀.heap.objs.size<=b)/\b≠X.env.locals/\(∀x c,X.env.cells.lookup x=some c->c≠b)/\∀p∈X.pn++pins,p.1≠b)
  (keep : ∀b o,b≠X.env.locals->b∉X.fs->b∉ch->s.heap.get? b=some o->H b=none->h'.get? b=some o)
  (slot : ∀b o,b≠X.env.locals->b∈X.fs->b∉ch->s.heap.get? b=some o->H b=none->∃sl,h'.get? b=some { o with slots:=sl }) (free : ∀b o,b∉ch->s.heap.get? b=some o->H b=none->H' b=none)
  (there : ∀b o,b∉ch->s.heap.get? b=some o->∃o',h'.get? b=some o')
  (tups : ∀b xs,H b>>xs->H' b>>xs) (frzs : ∀b o u,H b=some (.frz o u)->H' b=some (.frz o u)) (tbls : ∀b ps,H b=some (.tbl ps)->∃ab,H' b=some (.tbl (ps++ab)))
  (ns : ∀m,s.heap.Ns X.env.locals m->h'.Ns X.env.locals m) (ac:HOk X.prog X.w H' h') (hg:AllBare g') :
  Inv X pins σ H' { s with heap:=h',gens:=g',drawn:=d',toks:=t' }:=by
 have aa : ∀b o,X.s₀.heap.get? b=some o->b≠X.env.locals:=λb o e=>E_ (n_ (e_ e) I.ok.above)
 have Z : ∀b o,X.s₀.heap.get? b=some o->b∉X.ex->b∉ch:=λb o e B hb=>by
  rcases (F b hb).1 with z | z
  .exact B z
  .exact absurd (n_ (e_ e) z) (Gg _)
 have Y : ∀x c,X.env.cells.lookup x=some c->∀v,s.heap.IsCell c v->h'.IsCell c v:=λx c e v ⟨o,ho,hd⟩=>by
  have L:c∉ch:=λz=>(F c z).2.2.1 x c e rfl
  by_cases hc:c∈X.fs
  .obtain⟨sl,q⟩:=slot c o (I.cne x c e) hc L ho (I.freeC x c e)
   exact⟨_,q,hd⟩
  .exact⟨o,keep c o (I.cne x c e) hc L ho (I.freeC x c e),hd⟩
 refine⟨I.ok,I.os,hg,⟨λb o e n hb B=>?_,λb o e n hb B=>?_,λb o e n B=>?_,λb o e B=>?_,λb xs e=>tups b xs (I.base.tups b xs e),λb o xs e=>frzs b o xs (I.base.frzs b o xs e),λb ps e=>?_⟩,?_,λx c e=>?_,?_,λx c e=>?_,λp hp=>?_,ac,I.len⟩
 .exact keep b o (aa b o e) hb (Z b o e B) (I.base.keep b o e n hb B) (I.base.free b o e n B)
 .obtain⟨sl,e1⟩:=I.base.slot b o e n hb B
  obtain⟨ad,e2⟩:=slot b _ (aa b o e) hb (Z b o e B) e1 (I.base.free b o e n B);exact⟨ad,e2⟩
 .obtain⟨o',e1⟩:=I.base.there b o e B
  exact free b o' (Z b o e B) e1 (I.base.free b o e n B)
 .obtain⟨o',e1⟩:=I.base.there b o e B
  exact there b o' (Z b o e B) e1
 .obtain⟨m1,e1⟩:=I.base.tbls b ps e
  obtain⟨m2,e2⟩:=tbls b _ e1;exact⟨m1++m2,by rw[e2,Array.append_assoc]⟩
 .obtain⟨m,hn,hl⟩:=I.loc
  refine⟨m,ns m hn,λi x v e1 e2 e3=>?_⟩
  obtain⟨u,r,l⟩:=hl i x v e1 e2 e3;refine⟨u,r,?_⟩
  rcases l with l | ⟨k,c,e,z⟩
  .exact .inl l
  .exact .inr ⟨k,c,e,Y x c e _ z⟩
 .obtain⟨v,z⟩:=I.cell x c e
  exact⟨v,Y x c e v z⟩
 .obtain⟨m,⟨o,_,_,ho,_⟩,_⟩:=I.loc
  exact free _ o (λz=>(F _ z).2.1 rfl) ho I.free
 .obtain⟨v,o,ho,hd⟩:=I.cell x c e
  exact free c o (λz=>(F c z).2.2.1 x c e rfl) ho (I.freeC x c e)
 .obtain⟨e,n,ne,nf,d⟩:=I.pin p hp
  have L:p.1∉ch:=λz=>(F p.1 z).2.2.2 p hp rfl
  exact⟨keep p.1 p.2 ne nf L e n,free p.1 p.2 L e n,ne,nf,d⟩
theorem Inv.un (I:Inv X pins σ H s) (u:Un X.fs [] H H' s.heap h') (F:HOk X.prog X.w H' h'):Inv X pins σ H' { s with heap:=h',toks:=t' }:=by
 obtain⟨m,⟨o,es,ep,ho,r⟩,_⟩:=id I.loc;obtain⟨sl,hL⟩:=u.any ho I.free (by simp)
 exact I.step (g':=s.gens) (d':=s.drawn) (ch:=[]) (λ_ z=>nomatch z) (λb o _ Y _ e n=>u.keep b o e n Y (by simp)) (λb o _ Y _ e n=>u.slot b o e n Y (by simp)) (λb o _ e n=>u.free b o e n (by simp)) (λb o _ e=>u.there b o e (by simp)) u.tups u.frzs u.tbls (λm' hm=>by
  obtain⟨o',L,Z,B,r'⟩:=hm;rw[ho] at B;cases B;exact⟨_,L,Z,hL,r'⟩) F I.bare
theorem Inv.call (I:Inv X pins σ H s) (u:Un (frs X.stack) ch H H' s.heap h') (Y:HOk X.prog X.w H' h') (hg:AllBare g')
  (L : ∀b∈ch,(b∈X.ex\/X.s₀.heap.objs.size<=b)/\b≠X.env.locals/\(∀x c,X.env.cells.lookup x=some c->c≠b)/\∀p∈X.pn++pins,p.1≠b) :
  Inv X pins σ H' { s with heap:=h',gens:=g',drawn:=d',toks:=t' }:=by
 obtain⟨m,⟨o,es,ep,ho,r⟩,_⟩:=id I.loc;obtain⟨sl,hL⟩:=u.any ho I.free λz=>(L _ z).2.1 rfl
 exact I.step (ch:=ch) L (λb o hL hb B e n=>u.keep b o e n (λz=>(u_.mp (I.stkSub b z)).elim hL hb) B) (λb o _ _ B e n=>u.any e n B) (λb o B e n=>u.free b o e n B) (λb o B e=>u.there b o e B) u.tups u.frzs u.tbls (λm' hm=>by
  obtain⟨o',Z,aa,F,r'⟩:=hm;rw[ho] at F;cases F;exact⟨_,Z,aa,hL,r'⟩) Y hg
theorem Inv.turned (I:Inv X pins σ H s) (k : ∀b o,b≠it->s.heap.get? b=some o->h'.get? b=some o) (hn:H it=none) (L:it≠X.env.locals)
  (h1:it∈X.ex\/X.s₀.heap.objs.size<=it) (h2 : ∀x c,X.env.cells.lookup x=some c->c≠it) (Y : ∀p∈X.pn++pins,p.1≠it):Inv X pins σ H { s with heap:=h',toks:=t' }:=by
 have F : ∀b u,H b=some u->b≠it:=λb u e z=>by rw[z,hn] at e;cases e
 refine I.step (g':=s.gens) (d':=s.drawn) (ch:=[it]) (λb hb=>?_) (λb o _ _ B e _=>k b o (λz=>B (by simp[z])) e) (λb o _ _ B e _=>⟨o.slots,k b o (λz=>B (by simp[z])) e⟩) (λ_ _ _ _ n=>n)
  (λb o B e=>⟨o,k b o (λz=>B (by simp[z])) e⟩) (λ_ _ e=>e) (λ_ _ _ e=>e) (λb ps e=>⟨#[],by rw[e];simp⟩) (λm Z=>?_) (λb u e=>?_) I.bare
 .have e:b=it:=by simpa using hb
  subst e;exact⟨h1,L,h2,Y⟩
 .obtain⟨o,es,ep,ho,r⟩:=Z
  exact⟨o,es,ep,k _ o (Gp L) ho,r⟩
 .refine(I.hok b u e).stay (λc v B q=>k c v ?_ q) (λ_ q=>q) λ_ _ q=>q
  rcases B with z | z
  .rw[z];exact F b u e
  .exact F c _ z
theorem Inv.tok (I:Inv X pins σ H s) (t:Nat):Inv X pins σ H { s with toks:=t }:=I.un (h':=s.heap) (t':=t) Un.refl I.hok
theorem Inv.kept {t':Nat} (I:Inv X pins σ H s) (k : ∀b u,s.heap.get? b=some u->h'.get? b=some u):Inv X pins σ H { s with heap:=h',toks:=t' }:=I.un (Un.kept k) (I.hok.kept k)
theorem Inv.laid {a:Addr} {o:HO} {t':Nat} (I:Inv X pins σ H s) (k : ∀b u,s.heap.get? b=some u->h'.get? b=some u) (hp:s.heap.objs.size<=a) (new:bO X.prog X.w (upd H a o) h' a o) :
  Inv X pins σ (upd H a o) { s with heap:=h',toks:=t' }:=I.un (Un.laid k hp (I.hok.fresh hp)) (I.hok.laid k hp new)
theorem Inv.write {x e:Addr} {o:HO} {t':Nat} (I:Inv X pins σ H s) (L:Mut (H x)) (F:e=x\/H e=some (.own x)) (k : ∀b u,b≠e->s.heap.get? b=some u->h'.get? b=some u) (B : ∃u,h'.get? e=some u)
  (new:bO X.prog X.w (upd H x o) h' x o):Inv X pins σ (upd H x o) { s with heap:=h',toks:=t' }:=I.un (Un.write L F k B) (I.hok.write L F k B new)
theorem Inv.weak {σ':List (Option V)} (I:Inv X pins σ H s) (hl:σ'.length=σ.length) (w : ∀(i:Nat) v,σ'[i]? = some (some v)->σ[i]? = some (some v)):Inv X pins σ' H s :=
 ⟨I.ok,I.os,I.bare,I.base,let ⟨m,hn,hl'⟩:=I.loc;⟨m,hn,λi x v e1 e2 B=>hl' i x v e1 (w i v e2) B⟩,I.cell,I.free,I.freeC,I.pin,I.hok,hl.trans I.len⟩
theorem Inv.pins_of (I:Inv X pins σ H s) (h : ∀p∈pins',s.heap.get? p.1=some p.2/\H p.1=none/\p.1≠X.env.locals/\p.1∉X.fs/\∀v,p.2.data≠.cell v):Inv X pins' σ H s :=
 ⟨I.ok,I.os,I.bare,I.base,I.loc,I.cell,I.free,I.freeC,λp hp=>(y8.mp hp).elim (λz=>I.pin p (A_ _ z)) (h p),I.hok,I.len⟩
theorem uB (B:N.Nodup) {i j:Nat} {x:Str} (a:N[i]? = some x) (b:N[j]? = some x):i=j:=by
 obtain⟨h1,e1⟩:=p_.mp a;obtain⟨h2,e2⟩:=p_.mp b;exact(List.getElem_inj B).mp (e1.trans e2.symm)
theorem qI {v:V} {Q:Unit->Shared->Prop} (I:Inv X pins σ H s) (hN:X.N.Nodup) (hi:X.N[i]? = some x) (Y:Loc X.env.scope x) (r:bv v u)
  (h : ∀s',Inv X pins (σ.set i (some v)) H s'->(∃a,IP a s.heap s'.heap/\(a=X.env.locals\/X.env.cells.lookup x=some a))->Q Unit.unit s') (hf:X.fn x=true\/X.env.scope.names.lookup x=some .local:=by first | exact .inl rfl | exact .inr rfl | assumption):wpAny M A (storeName X.env x u) Q E s:=by
 obtain⟨m,hn,hl⟩:=id I.loc;have ad:(X.env.scope.kind == .class || (X.env.scope.kind == .module && X.env.locals != X.env.globals))=false:=by rw[I.ok.kind];rfl
 have aa:i < σ.length:=by rw[I.len];exact(p_.mp hi).1
 have cne:=I.cne;have F : ∀{a:Addr} {h':Heap},(∃o,s.heap.get? a=some o/\H a=none)->IP a s.heap h'->HOk X.prog X.w H h':=λ{a h'} ha B b ob e=>by
  obtain⟨_,_,Z⟩:=ha;refine(I.hok b ob e).stay (λc w' L q=>(B.2 c ?_).trans q) (λ_ q=>q) λ_ _ q=>q
  rintro rfl
  rcases L with rfl | L
  .rw[Z] at e;cases e
  .rw[Z] at L;cases L
 rcases Y with hk | hk
 .refine wpAny_storeName_local hk hn (λh' af B=>?_) ad
  obtain⟨oL,_,_,ag,_⟩:=id hn;refine h _ ⟨I.ok,I.os,I.bare,⟨λb o e n hb Y=>?_,λb o e n hb Y=>?_,I.base.free,λb o e Y=>?_,I.base.tups,I.base.frzs,I.base.tbls⟩,⟨_,af,λj y v' e1 e2 e3=>?_⟩,λy c e=>?_,I.free,I.freeC,λp hp=>?_,F ⟨oL,ag,I.free⟩ B,by simpa using I.len⟩ ⟨_,B,.inl rfl⟩
  .exact(B.2 b (E_ (n_ (e_ e) I.ok.above))).trans (I.base.keep b o e n hb Y)
  .obtain⟨sl,e1⟩:=I.base.slot b o e n hb Y
   exact⟨sl,(B.2 b (E_ (n_ (e_ e) I.ok.above))).trans e1⟩
  .obtain⟨o',e1⟩:=I.base.there b o e Y
   exact⟨o',(B.2 b (E_ (n_ (e_ e) I.ok.above))).trans e1⟩
  .by_cases hj:j=i
   .subst hj
    rw[hi] at e1;cases e1;rw[List.getElem?_set_self aa] at e2;cases e2;exact⟨u,r,.inl ⟨hk,by simp⟩⟩
   .rw[Iw (Gp hj)] at e2
    obtain⟨u',r',q⟩:=hl j y v' e1 e2 e3;refine⟨u',r',?_⟩
    rcases q with⟨k,e⟩ | ⟨k,c,e,z⟩
    .refine .inl ⟨k,?_⟩
     have:y≠x:=λe=>hj (uB hN e1 (e ▸ hi))
     simp[this,e]
    .exact .inr ⟨k,c,e,z.sameBut B (cne y c e)⟩
  .obtain⟨w',z⟩:=I.cell y c e
   exact⟨w',z.sameBut B (cne y c e)⟩
  .obtain⟨e,n,ne,nf,d⟩:=I.pin p hp
   exact⟨(B.2 p.1 ne).trans e,n,ne,nf,d⟩
 .have hfn:X.fn x=true:=by
   rcases hf with z | z
   .exact z
   .rw[z] at hk;cases hk
  obtain⟨c,L⟩:=I.ok.has x (.inl hk);obtain⟨w',z⟩:=I.cell x c L;refine wpAny_storeName_cell I.ok.kind hk L z (λh' ae B=>?_)
  obtain⟨oc,ac,ab⟩:=id z;refine h { s with heap:=h' } ⟨I.ok,I.os,I.bare,⟨λb o e n hb Y=>?_,λb o e n hb Y=>?_,I.base.free,λb o e Y=>?_,I.base.tups,I.base.frzs,I.base.tbls⟩,⟨m,hn.sameBut B (Gp (cne x c L)),λj y v' e1 e2 e3=>?_⟩,λy c' e=>?_,I.free,I.freeC,λp hp=>?_,F ⟨oc,ac,I.freeC x c L⟩ B,by simpa using I.len⟩ ⟨c,B,.inr L⟩
  .exact(B.2 b (E_ (n_ (e_ e) (I.ok.cab x c hfn L)))).trans (I.base.keep b o e n hb Y)
  .obtain⟨sl,e1⟩:=I.base.slot b o e n hb Y
   exact⟨sl,(B.2 b (E_ (n_ (e_ e) (I.ok.cab x c hfn L)))).trans e1⟩
  .obtain⟨o',e1⟩:=I.base.there b o e Y
   exact⟨o',(B.2 b (E_ (n_ (e_ e) (I.ok.cab x c hfn L)))).trans e1⟩
  .by_cases hj:j=i
   .subst hj
    rw[hi] at e1;cases e1;rw[List.getElem?_set_self aa] at e2;cases e2;exact⟨u,r,.inr ⟨.inl hk,c,L,ae⟩⟩
   .rw[Iw (Gp hj)] at e2
    obtain⟨u',r',q⟩:=hl j y v' e1 e2 e3;refine⟨u',r',?_⟩
    rcases q with q | ⟨k,c',e,z'⟩
    .exact .inl q
    .refine .inr ⟨k,c',e,z'.sameBut B ?_⟩
     rintro rfl
     exact hj (uB hN e1 (I.ok.inj _ _ _ e L ▸ hi))
  .by_cases hcc:c'=c
   .subst hcc;exact⟨_,ae⟩
   .obtain⟨w2,z2⟩:=I.cell y c' e
    exact⟨w2,z2.sameBut B hcc⟩
  .obtain⟨e,n,ne,nf,d⟩:=I.pin p hp
   refine⟨(B.2 p.1 ?_).trans e,n,ne,nf,d⟩
   intro q;rw[q,ac] at e;have q':oc=p.2:=h_ e
   exact d w' (by rw[<- q'];exact ab)
theorem pz {v:V} {Q:Unit->Shared->Prop} (I:Inv X pins σ H s) (Y:X.N.Nodup) (hi:X.N[i]? = some x) (F:Loc X.env.scope x) (r:bv v u)
  (h : ∀s',Inv X pins (σ.set i (some v)) H s'->Q Unit.unit s') (L:X.fn x=true\/X.env.scope.names.lookup x=some .local:=by first | exact .inl rfl | exact .inr rfl | assumption):wpAny M A (storeName X.env x u) Q E s :=
 qI I Y hi F r (λs' B _=>h s' B) L
theorem Inv.call' (I:Inv X pins σ H s) (L:s'.os=s.os) (u:Un (frs X.stack) ch H H' s.heap s'.heap) (B:HOk X.prog X.w H' s'.heap) (Y:AllBare s'.gens)
  (F : ∀b∈ch,(b∈X.ex\/X.s₀.heap.objs.size<=b)/\b≠X.env.locals/\(∀x c,X.env.cells.lookup x=some c->c≠b)/\∀p∈X.pn++pins,p.1≠b):Inv X pins σ H' s':=by
 obtain⟨h',g',d',t',o'⟩:=s';have e:o'=s.os:=L
 subst e;exact I.call (g':=g') (t':=t') (d':=d') u B Y F
end
abbrev XK:=Value->Option Addr->Hp->Prop
abbrev St:=List (Option V)
abbrev VK:=V->Hp->Prop
abbrev TE:=St->Hp->VK->Prop
abbrev TT:=St->Hp->(Bool->Hp->Prop)->Prop
abbrev TA:=St->Hp->(List V->Hp->Prop)->Prop
structure nE where
 nx:St->Hp->Prop
 rt:VK
 bk:St->Hp->Prop:=λ_ _=>False
 ct:St->Hp->Prop:=λ_ _=>False
abbrev TS:=nE->St->Hp->Prop
def EP (X:Cx) (pins:List (Addr × Obj)) (σ:St) (Q:VK) (u:Value) (s':Shared):Prop:=∃v H',Inv X pins σ H' s'/\bv v u/\Q v H'
def TP (X:Cx) (pins:List (Addr × Obj)) (σ:St) (Q:Bool->Hp->Prop) (b:Bool) (s':Shared):Prop:=∃H',Inv X pins σ H' s'/\Q b H'
def AP (X:Cx) (pins:List (Addr × Obj)) (σ:St) (Q:List V->Hp->Prop) (us:List Value) (s':Shared):Prop:=∃vs H',Inv X pins σ H' s'/\bu vs us/\Q vs H'
def SP (X:Cx) (pins:List (Addr × Obj)) (D:nE) (f:Flow) (s':Shared):Prop :=
 match f with
 | .next=>∃ σ' H',Inv X pins σ' H' s'/\D.nx σ' H'
 | .brk=>∃ σ' H',Inv X pins σ' H' s'/\D.bk σ' H'
 | .cont=>∃ σ' H',Inv X pins σ' H' s'/\D.ct σ' H'
 | .ret u=>∃v σ' H',Inv X pins σ' H' s'/\bv v u/\D.rt v H'
namespace Irr
set_option allowUnsafeReducibility true in
@[scoped irreducible] def _root_.L2.PE (X:Cx) (e:Expr) (t:TE):Prop :=
 ∀(pins:List (Addr × Obj)) (s:Shared) (σ:St) (H:Hp) (Q:VK),Inv X pins σ H s->t σ H Q->wpAny (model X.prog X.w) X.A (eval e X.env) (EP X pins σ Q) X.xe s
end Irr
namespace Irr
set_option allowUnsafeReducibility true in
@[scoped irreducible] def _root_.L2.PT (X:Cx) (e:Expr) (t:TT):Prop :=
 ∀(pins:List (Addr × Obj)) (s:Shared) (σ:St) (H:Hp) (Q:Bool->Hp->Prop),Inv X pins σ H s->t σ H Q->wpAny (model X.prog X.w) X.A (isTrue e X.env (eval e X.env)) (TP X pins σ Q) X.xe s
end Irr
namespace Irr
set_option allowUnsafeReducibility true in
@[scoped irreducible] def _root_.L2.PW (X:Cx) (e:Expr) (t:TT):Prop :=
 ∀(B:Sem Value) (pins:List (Addr × Obj)) (s:Shared) (σ:St) (H:Hp) (Q:Bool->Hp->Prop),Inv X pins σ H s->t σ H Q->wpAny (model X.prog X.w) X.A (isTrue e X.env B) (TP X pins σ Q) X.xe s
end Irr
theorem PW.pt {X:Cx} {t:TT} (h:PW X e t):PT X e t:=h _
namespace Irr
set_option allowUnsafeReducibility true in
@[scoped irreducible] def _root_.L2.PA (X:Cx) (es:List Expr) (t:TA):Prop :=
 ∀(pos:Pos) (pins:List (Addr × Obj)) (s:Shared) (σ:St) (H:Hp) (Q:List V->Hp->Prop),Inv X pins σ H s->t σ H Q->wpAny (model X.prog X.w) X.A (spliced (GS pos (y9 es X.env))) (AP X pins σ Q) X.xe s
end Irr
namespace Irr
set_option allowUnsafeReducibility true in
@[scoped irreducible] def _root_.L2.PS (X:Cx) (st:Stmt) (t:TS):Prop :=
 ∀(pins:List (Addr × Obj)) (s:Shared) (σ:St) (H:Hp) (D:nE),Inv X pins σ H s->t D σ H->wpAny (model X.prog X.w) X.A (exec st X.env) (SP X pins D) X.xe s
end Irr
namespace Irr
set_option allowUnsafeReducibility true in
@[scoped irreducible] def _root_.L2.PSs (X:Cx) (st:List Stmt) (t:TS):Prop :=
 ∀(pins:List (Addr × Obj)) (s:Shared) (σ:St) (H:Hp) (D:nE),Inv X pins σ H s->t D σ H->wpAny (model X.prog X.w) X.A (execs st X.env) (SP X pins D) X.xe s
end Irr
theorem thn {t:Sem α} {Q B:α->Shared->Prop} (h:wpAny M A t Q E s) (F : ∀a s,Q a s->B a s):wpAny M A t B E s:=G0 h F λ_ _ x=>x
section
variable {X:Cx}
def Ba (i:Nat):TE:=λσ H Q=>∃v,σ[i]? = some (some v)/\Q v H
def tC (v:V):TE:=λ_ H Q=>Q v H
theorem CO (hN:X.N[i]? = some x) (hv:Vis X.env.scope x) (L:(x ==("__debug__" : Str))=false:=by decide) (Y:(x ==("__classdict__" : Str))=false:=by decide):PE X (.Name x pos) (Ba i):=by
 intro pins s σ H Q I h;obtain⟨v,e,h⟩:=h;obtain⟨m,hn,hl⟩:=I.loc;obtain⟨u,r,l⟩:=hl i x v hN e hv;have F:EP X pins σ Q u s:=⟨v,H,I,r,h⟩
 rcases l with⟨B,Z⟩ | ⟨B,c,hc,hcell⟩
 .exact wpAny_Name (wpAny_loadName_local I.ok.kind B hn Z F) L
 .rcases B with B | B
  .exact wpAny_Name (wpAny_loadName_cell I.ok.kind B hc hcell F) L
  .exact wpAny_Name (wpAny_loadName_free I.ok.kind B hc hcell F Y) L
theorem aw {i j pos}:PE X (.Constant (.int i) j pos) (tC (.int i)):=λ_ _ _ H _ I h=>wpAny_Constant_int ⟨.int i,H,I.tok _,⟨_,rfl⟩,h⟩
theorem dU {b j pos}:PE X (.Constant (.bool b) j pos) (tC (.bl b)):=λ_ _ _ H _ I h=>Constant_bool ⟨.bl b,H,I,rfl,h⟩
theorem AC {j pos}:PE X (.Constant .none j pos) (tC .non):=λ_ _ _ H _ I h=>Constant_none ⟨.non,H,I,rfl,h⟩
theorem aO {x j pos}:PE X (.Constant (.str x) j pos) (tC (.str x)):=λ_ _ _ H _ I h=>Calls.Constant_str ⟨.str x,H,I.tok _,⟨_,rfl⟩,h⟩
def Gl (X:Cx) (x:Str):Prop:=X.env.kindOf x=some .globalImplicit
theorem nU {σ:St} {H:Hp} (I:Inv X pins σ H s) (L:Gl X x) (B:X.mg x=some u) (h:Q u s)
  (F:(x ==("__debug__" : Str))=false:=by decide):wpAny (model X.prog X.w) X.A (eval (.Name x pos) X.env) Q E s :=
 Calls.Name_function_global I.ok.kind L (Calls.loadGlobal_global (by rw[I.ok.glob];exact I.mod.glob.keeps I.bk) B h) F
theorem gL {σ:St} {H:Hp} (I:Inv X pins σ H s) (Y:Gl X x) (B:X.mg x=none) (L:GN x=some u) (h:Q u s)
  (Z:x ≠ "__name__" := by decide) (F:(x ==("__debug__" : Str))=false:=by decide):wpAny (model X.prog X.w) X.A (eval (.Name x pos) X.env) Q E s:=by
 obtain⟨mb,h1,h2⟩:=I.mod.blt;exact Calls.Name_function_global I.ok.kind Y (Calls.loadGlobal_builtin (by rw[I.ok.glob];exact I.mod.glob.keeps I.bk) B (by rw[I.ok.blt];exact h1.keeps I.bk) ((h2 x Z).trans L) h) F
theorem Cd {v:V} (L:Gl X x) (B:X.mg x=some u) (r:bv v u) (F:(x ==("__debug__" : Str))=false:=by decide):PE X (.Name x pos) (tC v) :=
 λ_ _ _ H _ I h=>nU I L B ⟨v,H,I,r,h⟩ F
theorem Bz {v:V} (Y:Gl X x) (B:X.mg x=none) (L:GN x=some u) (r:bv v u) (Z:x ≠ "__name__" := by decide) (F:(x ==("__debug__" : Str))=false:=by decide):PE X (.Name x pos) (tC v) :=
 λ_ _ _ H _ I h=>gL I Y B L ⟨v,H,I,r,h⟩ Z F
variable {a b:Expr} {ta tb:TE}
def PC (X:Cx) (F:CmpOp) (a b:Expr) (t:TE):Prop :=
 ∀ (pins:List (Addr × Obj)) (s:Shared) (σ:St) (H:Hp) (Q:VK),Inv X pins σ H s->t σ H Q ->
  wpAny (model X.prog X.w) X.A (eval a X.env) (λv s₁=>wpAny (model X.prog X.w) X.A (eval b X.env) (λu B=>wpAny (model X.prog X.w) X.A (Gi F v u) (EP X pins σ Q) X.xe B) X.xe s₁) X.xe s
theorem tM (b:Expr) {B:CmpOp} (h:B≠.In) (h2:B≠.NotIn):Hi B b=false:=by
 have e1:(B == CmpOp.In)=false:=by cases B <;> first | rfl | exact absurd rfl h
 have e2:(B == CmpOp.NotIn)=false:=by cases B <;> first | rfl | exact absurd rfl h2
 cases b <;> simp[Hi,e1,e2]
def vJ (ta:TE):TE:=λσ H Q=>ta σ H λx H1=>Q (.bl (decide (x = .non))) H1
theorem bv.none_iff {x:V} {v:Value} (r:bv x v):(v == GA)=decide (x = .non):=by
 cases x with
 | non=>cases r;rfl
 | bl _=>cases r;rfl
 | int _=>obtain⟨t,rfl⟩:=r;rfl
 | str _=>obtain⟨t,rfl⟩:=r;rfl
 | byt _=>obtain⟨t,rfl⟩:=r;rfl
 | flt _=>obtain⟨t,rfl⟩:=r;rfl
 | ref _=>cases r;rfl
 | ty _=>cases r;rfl
theorem lQ {j pos'} (ha:PE X a ta):PC X .Is a (.Constant .none j pos') (vJ ta):=by
 intro pins s σ H Q I h;refine thn (ha pins s σ H _ I h) λv Z B=>?_
 obtain⟨x,H1,F,L,Y⟩:=B;exact Constant_none (is_none_gen ⟨.bl _,H1,F,by rw[L.none_iff];rfl,Y⟩)
def tB (t:TE):TT:=λσ H Q=>t σ H λx H1=>∃c,x = .bl c/\Q c H1
theorem lH {B:CmpOp} {t:TE} (h:PC X B a b t) (h1:Hi B b=false:=by first | exact tM _ ∅ ∅ | rfl):PE X (.Compare a [B] [b] pos) t:=λpins s σ H Q I F=>wpAny_Compare1 (h pins s σ H Q I F) h1
theorem mE {F:CmpOp} {t:TE} (h:PC X F a b t) (h1:Hi F b=false:=by first | exact tM _ ∅ ∅ | rfl):PT X (.Compare a [F] [b] pos) (tB t):=by
 intro pins s σ H Q I L;refine wpAny_isTrue_Compare1 (thn (h pins s σ H _ I L) λv s1 h1=>thn h1 λu s2 h2=>thn h2 λc s3 B=>?_) h1
 obtain⟨x,H1,Z,Y,q1⟩:=B;obtain⟨d,rfl,q⟩:=q1;cases Y;exact GU ⟨H1,Z,q⟩
theorem gp {t:TE} (h:PE X e t) (he : ∀B,isTrue e X.env B=(do let v <- B;standAt e.pos;holding [v] (truthy v)):=by intro _;rfl):PT X e (tB t):=by
 intro pins s σ H Q I L;refine isTrue_plain (thn (h pins s σ H _ I L) λv s1 F=>?_) (he _)
 obtain⟨x,H1,Z,Y,q1⟩:=F;obtain⟨d,rfl,q⟩:=q1;cases Y;exact GU ⟨H1,Z,q⟩
variable {tA tB':TT} {rest:List Expr}
def CY (t u:TT):TT:=λσ H Q=>t σ H λc H1=>if c=true then u σ H1 Q else Q false H1
def tOr (t u:TT):TT:=λσ H Q=>t σ H λc H1=>if c=true then Q true H1 else u σ H1 Q
def C3 (t:TT):TT:=λσ H Q=>t σ H λc H1=>Q (!c) H1
theorem sr (ha:PT X a tA):PW X (.BoolOp .And [a] pos) tA:=by
 intro F pins s σ H Q I h;refine isTrue_and (thn (ha pins s σ H Q I h) λc B e=>?_)
 cases c with
 | true=>exact isTrue_and_nil e
 | false=>exact e
theorem lU (ha:PT X a tA):PW X (.BoolOp .Or [a] pos) tA:=by
 intro F pins s σ H Q I h;refine isTrue_or (thn (ha pins s σ H Q I h) λc B e=>?_)
 cases c with
 | false=>exact isTrue_or_nil e
 | true=>exact e
theorem oH (ha:PT X a tA) (hb:PW X (.BoolOp .And (b :: rest) pos) tB'):PW X (.BoolOp .And (a :: b :: rest) pos) (CY tA tB'):=by
 intro Z pins s σ H Q I h;refine isTrue_and (thn (ha pins s σ H _ I h) λc Y B=>?_)
 obtain⟨H1,F,L⟩:=B;cases c with
 | true=>exact hb Z pins Y σ H1 Q F L
 | false=>exact⟨H1,F,L⟩
theorem qK (ha:PT X a tA) (hb:PW X (.BoolOp .Or (b :: rest) pos) tB'):PW X (.BoolOp .Or (a :: b :: rest) pos) (tOr tA tB'):=by
 intro Z pins s σ H Q I h;refine isTrue_or (thn (ha pins s σ H _ I h) λc Y B=>?_)
 obtain⟨H1,F,L⟩:=B;cases c with
 | true=>exact⟨H1,F,L⟩
 | false=>exact hb Z pins Y σ H1 Q F L
theorem mD (ha:PT X a tA):PT X (.UnaryOp .Not a pos) (C3 tA):=by
 intro pins s σ H Q I h;exact isTrue_not (ha pins s σ H (λc H1=>Q (!c) H1) I h)
def zK (ta tb:TE):TE:=λσ H Q=>ta σ H λx H1=>∃c,x = .bl c/\if c=true then tb σ H1 Q else Q (.bl false) H1
def C8 (ta tb:TE):TE:=λσ H Q=>ta σ H λx H1=>∃c,x = .bl c/\if c=true then Q (.bl true) H1 else tb σ H1 Q
def AD (ta:TE):TE:=λσ H Q=>ta σ H λx H1=>∃c,x = .bl c/\Q (.bl (!c)) H1
theorem dS {op} {t:TE} (h:PE X a t):PE X (.BoolOp op [a] pos) t:=λpins s σ H Q I B=>BoolOp_one (h pins s σ H Q I B)
theorem jh (ha:PE X a ta) (hb:PE X (.BoolOp .And (b :: rest) pos) tb):PE X (.BoolOp .And (a :: b :: rest) pos) (zK ta tb):=by
 intro pins s σ H Q I h;refine BoolOp_and (thn (ha pins s σ H _ I h) λv Y B=>?_)
 obtain⟨x,H1,L,Z,F⟩:=B;obtain⟨c,rfl,F⟩:=F;cases Z;refine GU ?_
 cases c with
 | true=>exact hb pins Y σ H1 Q L F
 | false=>exact⟨.bl false,H1,L,rfl,F⟩
theorem jS (ha:PE X a ta) (hb:PE X (.BoolOp .Or (b :: rest) pos) tb):PE X (.BoolOp .Or (a :: b :: rest) pos) (C8 ta tb):=by
 intro pins s σ H Q I h;refine BoolOp_or (thn (ha pins s σ H _ I h) λv Y B=>?_)
 obtain⟨x,H1,L,Z,F⟩:=B;obtain⟨c,rfl,F⟩:=F;cases Z;refine GU ?_
 cases c with
 | false=>exact hb pins Y σ H1 Q L F
 | true=>exact⟨.bl true,H1,L,rfl,F⟩
theorem AR (ha:PE X a ta):PE X (.UnaryOp .Not a pos) (AD ta):=by
 intro pins s σ H Q I h;refine UnaryOp_ (thn (ha pins s σ H _ I h) λv Z B=>?_)
 obtain⟨x,H1,L,Y,F⟩:=B;obtain⟨c,rfl,F⟩:=F;cases Y;exact not_of (GU ⟨.bl (!c),H1,L,rfl,F⟩)
end
def SqL (K:j_) (H:Hp) (a:Addr) (xs:List V):Prop :=
 Rd H a (.lst xs) \/
  ∃(o:Obj) (its:Array Value) (n:Nat),K.lookup a=some o/\o.cls = .type "list" /\ o.dict=none/\o.data = .seq its n/\its.size<=l_/\bu xs its.toList
def SqT (K:j_) (H:Hp) (a:Addr) (xs:List V):Prop :=
 Rd H a (.tup xs) \/
  ∃(o:Obj) (its:Array Value) (n:Nat),K.lookup a=some o/\o.cls = .type "tuple" /\ o.data = .seq its n/\its.size<=l_/\bu xs its.toList
def EO:Value->Option V
 | .none=>some .non
 | .bool b=>some (.bl b)
 | .int i _=>some (.int i)
 | .str x _=>some (.str x)
 | .bytes b _=>some (.byt b)
 | .float b _=>some (.flt b)
 | .ref a=>some (.ref a)
 | .type n=>some (.ty n)
 | _=>none
theorem bv.abs {x:V} (r:bv x u):EO u=some x:=by
 cases x with
 | non=>cases r;rfl
 | bl _=>cases r;rfl
 | int _=>obtain⟨t,rfl⟩:=r;rfl
 | str _=>obtain⟨t,rfl⟩:=r;rfl
 | byt _=>obtain⟨t,rfl⟩:=r;rfl
 | flt _=>obtain⟨t,rfl⟩:=r;rfl
 | ref _=>cases r;rfl
 | ty _=>cases r;rfl
theorem bv.inj {x y:V} {u:Value} (r:bv x u) (q:bv y u):x=y:=h_ (r.abs.symm.trans q.abs)
theorem bu.inj : ∀{xs ys:List V} {us:List Value},bu xs us->bu ys us->xs=ys
 | _,_,_,.nil,.nil=>rfl
 | _,_,_,.cons r t,.cons r' t'=>by rw[r.inj r',bu.inj t t']
section
variable {X:Cx} {σ:St} {H:Hp} {xs ys:List V}
theorem SqL.of (h:H a*>xs):SqL K H a xs:=.inl (.inl h)
theorem SqT.of (h:H a>>xs):SqT K H a xs:=.inl (.inl h)
theorem Inv.list (I:Inv X pins σ H s) (h:SqL X.K H a xs) : ∃its:List Value,bu xs its/\PlainL s.heap a its.toArray/\xs.length<=l_:=by
 rcases h with h | ⟨o,its,n,hk,hc,hd,hs,hz,r⟩
 .obtain⟨z,its,n,r,e⟩:=h.ok I.hok
  exact⟨its,r,⟨_,n,e,rfl,rfl,rfl⟩,z⟩
 .refine⟨its.toList,r,⟨o,n,I.kIn a o hk,hc,hd,by simpa using hs⟩,?_⟩
  have e:=r.length;simp only[GY] at e;omega
theorem Inv.tuple (I:Inv X pins σ H s) (h:SqT X.K H a xs) : ∃its:List Value,bu xs its/\IsTup s.heap a its.toArray/\xs.length<=l_:=by
 rcases h with h | ⟨o,its,n,hk,hc,hs,hz,r⟩
 .obtain⟨z,its,r,p⟩:=h.ok I.hok
  exact⟨its,r,p,z⟩
 .refine⟨its.toList,r,⟨o,I.kIn a o hk,hc,n,by simpa using hs⟩,?_⟩
  have e:=r.length;simp only[GY] at e;omega
theorem Inv.list_inj (I:Inv X pins σ H s) (h:SqL X.K H a xs) (h':SqL X.K H a ys):xs=ys:=by
 obtain⟨its,r,⟨o,n,e,_,_,d⟩,_⟩:=I.list h;obtain⟨its',r',⟨o',F,B,_,_,d'⟩,_⟩:=I.list h';rw[e] at B;cases B;rw[d] at d'
 injection d' with d1 _
 have:its=its':=by simpa using congrArg Array.toList d1
 subst this;exact r.inj r'
theorem Inv.tuple_inj (I:Inv X pins σ H s) (h:SqT X.K H a xs) (h':SqT X.K H a ys):xs=ys:=by
 obtain⟨its,r,⟨o,e,_,n,d⟩,_⟩:=I.tuple h;obtain⟨its',r',⟨o',B,_,F,d'⟩,_⟩:=I.tuple h';rw[e] at B;cases B;rw[d] at d'
 injection d' with d1 _
 have:its=its':=by simpa using congrArg Array.toList d1
 subst this;exact r.inj r'
end
abbrev Cx.wish (X:Cx) (E:Value->Shared->Prop):Cx:={ X with xe:=E }
abbrev Cx.nox (X:Cx):Cx:=X.wish λ_ _=>False
theorem Cx.Ok.wish {X:Cx} (ok:X.Ok) (E:Value->Shared->Prop):(X.wish E).Ok :=
 ⟨ok.mod,ok.kind,ok.glob,ok.blt,ok.above,ok.inj,ok.has,ok.cab,ok.hd,ok.frames,ok.stk,ok.exf,ok.bs,ok.bsz,ok.noex,ok.exfs,ok.funs,ok.frf⟩
theorem Cx.Ok.unwish {X:Cx} (ok:(X.wish E).Ok):X.Ok :=
 ⟨ok.mod,ok.kind,ok.glob,ok.blt,ok.above,ok.inj,ok.has,ok.cab,ok.hd,ok.frames,ok.stk,ok.exf,ok.bs,ok.bsz,ok.noex,ok.exfs,ok.funs,ok.frf⟩
section
variable {X:Cx} {σ:St} {H:Hp}
theorem Inv.wish (I:Inv X pins σ H s) (E:Value->Shared->Prop):Inv (X.wish E) pins σ H s:=⟨I.ok.wish E,I.os,I.bare,I.base,I.loc,I.cell,I.free,I.freeC,I.pin,I.hok,I.len⟩
theorem Inv.unwish (I:Inv (X.wish E) pins σ H s):Inv X pins σ H s:=⟨I.ok.unwish,I.os,I.bare,I.base,I.loc,I.cell,I.free,I.freeC,I.pin,I.hok,I.len⟩
theorem SP.unwish {D:nE} {f:Flow} {s':Shared} (h:SP (X.wish E) pins D f s'):SP X pins D f s':=by
 cases f with
 | next=>obtain⟨σ',H',I,q⟩:=h;exact⟨σ',H',I.unwish,q⟩
 | brk=>obtain⟨σ',H',I,q⟩:=h;exact⟨σ',H',I.unwish,q⟩
 | cont=>obtain⟨σ',H',I,q⟩:=h;exact⟨σ',H',I.unwish,q⟩
 | ret u=>obtain⟨v,σ',H',I,r,q⟩:=h;exact⟨v,σ',H',I.unwish,r,q⟩
theorem PSs.nox {st:List Stmt} {t:TS} (h:PSs X.nox st t):PSs X st t:=λpins s σ H D I B =>
 G0 (h pins s σ H D (I.wish _) B) (λ_ _ q=>q.unwish) λ_ _ z=>G1 z
end
section
variable {X:Cx} {t u:TS} {te:TE}
def AB:TS:=λD σ H=>D.nx σ H
def mf (t u:TS):TS:=λD σ H=>t { D with nx:=u D } σ H
theorem aV:PSs X [] AB:=λ_ _ σ H _ I h=>wpAny_execs_nil ⟨σ,H,I,h⟩
theorem ak (h1:PS X st t) (h2:PSs X rest u):PSs X (st :: rest) (mf t u):=by
 intro pins s σ H D I h;refine wpAny_execs_cons (thn (h1 pins s σ H { D with nx:=u D } I h) λf B q=>?_)
 cases f with
 | next =>
  obtain⟨σ',H',F,q⟩:=q;exact h2 pins B σ' H' D F q
 | ret v=>exact q
 | brk=>exact q
 | cont=>exact q
theorem ay (h1:PS X st t):PSs X [st] t:=by
 intro pins s σ H D I h;refine wpAny_execs_cons (thn (h1 pins s σ H D I h) λf B q=>?_)
 cases f with
 | next=>exact wpAny_execs_nil q
 | ret v=>exact q
 | brk=>exact q
 | cont=>exact q
theorem Inv.quiet {σ:St} {H:Hp} (I:Inv X pins σ H s):interactive X.env=false:=by simp[interactive,I.ok.kind]
def zH (te:TE):TS:=λD σ H=>te σ H λ_ H1=>D.nx σ H1
theorem dz (Z:PE X e te) (L:IQ e none pos.line X.env=pure false:=by rfl):PS X (.Expr e pos) (zH te):=by
 intro pins s σ H D I h;exact wpAny_Expr_any (thn (Z pins s σ H _ I h) λv s1 B=>by obtain⟨x,H1,F,r1,Y⟩:=B;exact(⟨σ,H1,F,Y⟩)) I.quiet L
def DG (te:TE):TS:=λD σ H=>te σ H D.rt
theorem aI (Z:PE X e te):PS X (.Return (some e) pos) (DG te):=by
 intro pins s σ H D I h;exact wpAny_Return_some (thn (Z pins s σ H _ I h) λv s1 B=>by obtain⟨x,H1,F,L,Y⟩:=B;exact(⟨x,σ,H1,F,L,Y⟩))
def Df (c:TT) (t u:TS):TS:=λD σ H=>c σ H λb H1=>if b=true then t D σ H1 else u D σ H1
theorem bS {c:Expr} {a b:List Stmt} {tc:TT} (hc:PT X c tc) (ha:PSs X a t) (Z:PSs X b u):PS X (.If c a b pos) (Df tc t u):=by
 intro pins s σ H D I h;refine wpAny_If (thn (hc pins s σ H _ I h) λd F B=>?_)
 obtain⟨H1,L,Y⟩:=B;cases d with
 | true=>exact ha pins F σ H1 D L Y
 | false=>exact Z pins F σ H1 D L Y
def wc:TS:=λ_ _ _=>False
theorem eS:PS X st wc:=λ_ _ _ _ _ _ h=>h.elim
end
abbrev TG:=V->St->Hp->(St->Hp->Prop)->Prop
abbrev TGs:=List V->St->Hp->(St->Hp->Prop)->Prop
def PG (X:Cx) (B:Expr) (t:TG):Prop :=
 ∀ (pins:List (Addr × Obj)) (s:Shared) (σ:St) (H:Hp) (v:V) (u:Value) (Q:St->Hp->Prop),Inv X pins σ H s->bv v u->t v σ H Q ->
  wpAny (model X.prog X.w) X.A (assign B X.env u) (λ_ s'=>∃ σ' H',Inv X pins σ' H' s'/\Q σ' H') X.xe s
def PGs (X:Cx) (ts:List Expr) (t:TGs):Prop :=
 ∀ (pins:List (Addr × Obj)) (s:Shared) (σ:St) (H:Hp) (vs:List V) (us:List Value) (Q:St->Hp->Prop),Inv X pins σ H s->bu vs us->t vs σ H Q ->
  wpAny (model X.prog X.w) X.A (assignInOrder ((Ix ts X.env).map (·.2)) us) (λ_ s'=>∃ σ' H',Inv X pins σ' H' s'/\Q σ' H') X.xe s
abbrev TIp:=V->V->Hp->VK->Prop
def PIp (X:Cx) (B:Operator) (t:TIp):Prop :=
 ∀ (pins:List (Addr × Obj)) (s:Shared) (σ:St) (H:Hp) (x y:V) (v u:Value) (Q:VK),Inv X pins σ H s->bv x v->bv y u->t x y H Q ->
  wpAny (model X.prog X.w) X.A (inplaceOp B v u) (EP X pins σ Q) X.xe s
section
variable {X:Cx}
def gv (i:Nat):TG:=λv σ H Q=>Q (σ.set i (some v)) H
theorem aJ (i:Nat) {x:Str} (Y:X.N.Nodup:=by first | assumption | exact of_decide_eq_true (by kernel_rfl)) (hi:X.N[i]? = some x:=by exact rfl) (F:Loc X.env.scope x:=by first | exact Or.inl rfl | exact Or.inr rfl) (L:X.fn x=true\/X.env.scope.names.lookup x=some .local:=by first | exact .inl rfl | exact .inr rfl | assumption):PG X (.Name x pos) (gv i):=by
 intro pins s σ H v u Q I r h;exact wpAny_assign_Name (pz I Y hi F r (λs' B=>⟨_,H,B,h⟩) L)
def zx:TGs:=λvs σ H Q=>vs=[]/\Q σ H
def oZ (t:TG) (u:TGs):TGs:=λvs σ H Q=>∃v r,vs=v :: r/\t v σ H λσ' H'=>u r σ' H' Q
theorem jG:PGs X [] zx:=by
 intro pins s σ H vs us Q I r h;obtain⟨e,h⟩:=h;subst e;cases r;exact assignInOrder_nil ⟨σ,H,I,h⟩
theorem dM {t:TG} {u:TGs} (h1:PG X e t) (h2:PGs X es u)
  (Y:(Ix (e :: es) X.env).map (·.2)=assign e X.env ::(Ix es X.env).map (·.2):=by rfl):PGs X (e :: es) (oZ t u):=by
 intro pins s σ H vs us Q I r h;obtain⟨v,vr,e1,h⟩:=h;subst e1;cases r with
 | cons r rr =>
  rw[Y];refine assignInOrder_cons (thn (h1 pins s σ H _ _ _ I r h) λ_ L B=>?_)
  obtain⟨F,H1,Z,q1⟩:=B;exact h2 pins L F H1 _ _ Q Z rr q1
def E7 (K:j_) (n:Nat) (t:TGs):TG:=λv σ H Q=>∃a xs,v = .ref a/\SqT K H a xs/\xs.length=n/\t xs σ H Q
theorem DB {t:TGs} (hc:X.calm=true) (h:PGs X es t)
  (hn:(Ix es X.env).length=n:=by rfl) (F:(Ix es X.env).findIdx? (·.1)=none:=by rfl):PG X (.Tuple es k pos) (E7 X.K n t):=by
 intro pins s σ H v u Q I r B;obtain⟨a,xs,e1,Z,hl,B⟩:=B;subst e1;cases r;obtain⟨its,L,Y,hz⟩:=I.tuple Z;refine assign_Tuple_tuple (I.ok.hd hc) Y (by simp[hn,<- hl,L.length]) F λh' hx=>?_
 have I1:Inv X pins σ H { s with heap:=h' }:=I.kept (t':=s.toks) λb o e=>hx b o (E_ (e_ e)) e
 exact h pins _ σ H xs _ Q I1 (by simpa using L) B
def yj (te:TE) (g:TG):TS:=λD σ H=>te σ H λx H1=>g x σ H1 D.nx
theorem CP {te:TE} {g:TG} (he:PE X e te) (hg:PG X tg g) (Z:swapsWithSole [tg] e pos.line X.env=pure false:=by rfl) (F:swappedStores [tg] e X.env=pure none:=by rfl)
  (h1:(Ix [tg] X.env).map (·.2)=[assign tg X.env]:=by rfl):PS X (.Assign [tg] e pos) (yj te g):=by
 intro pins s σ H D I h;refine wpAny_Assign_stores (thn (he pins s σ H _ I h) λv L B=>?_) Z F
 obtain⟨x,H1,I1,Y,q1⟩:=B;rw[h1];exact thn (hg pins L σ H1 x v _ I1 Y q1) λ_ s2 q=>q
theorem aL (i:Nat) {x:Str} {e:Expr} {te:TE} {pos':Pos} (he:PE X e te) (hN:X.N.Nodup:=by assumption) (hi:X.N[i]? = some x:=by exact rfl) (hx:Loc X.env.scope x:=by first | exact Or.inl rfl | exact Or.inr rfl) (Y:IQ e (some (.Name x pos')) pos.line X.env=pure false:=by rfl) (Z:X.fn x=true\/X.env.scope.names.lookup x=some .local:=by first | exact .inl rfl | exact .inr rfl | assumption) :
  PS X (.Assign [.Name x pos'] e pos) (yj te (gv i)):=by
 intro pins s σ H D I h;refine wpAny_Assign_Name (thn (he pins s σ H _ I h) λv s1 B=>?_) Y
 obtain⟨y,H1,I1,F,q1⟩:=B;exact pz I1 hN hi hx F (λs2 L=>⟨_,H1,L,q1⟩) Z
def Da (i:Nat) (te:TE) (B:TIp):TS:=λD σ H=>∃x,σ[i]? = some (some x)/\te σ H λy H1=>B x y H1 λz H2=>D.nx (σ.set i (some z)) H2
theorem Du (i:Nat) {x:Str} {e:Expr} {te:TE} {op:Operator} {ti:TIp} {pos':Pos} (he:PE X e te) (ho:PIp X op ti) (hN:X.N.Nodup:=by assumption) (hi:X.N[i]? = some x:=by exact rfl) (hx:Loc X.env.scope x:=by first | exact Or.inl rfl | exact Or.inr rfl) (hf:X.fn x=true\/X.env.scope.names.lookup x=some .local:=by first | exact .inl rfl | exact .inr rfl | assumption) :
  PS X (.AugAssign (.Name x pos') op e pos) (Da i te ti):=by
 intro pins s σ H D I h;obtain⟨v,e1,h⟩:=h;obtain⟨m,hn,hl⟩:=I.loc;have aa:Vis X.env.scope x:=by rcases hx with k | k;exact .inl k;exact .inr (.inl k)
 obtain⟨u,r,l⟩:=hl i x v hi e1 aa;refine wpAny_AugAssign_Name ?_
 have go:wpAny (model X.prog X.w) X.A (eval e X.env) (λw Y=>wpAny (model X.prog X.w) X.A (inplaceOp op u w) (λr Z=>wpAny (model X.prog X.w) X.A (storeName X.env x r) (λ_=>SP X pins D .next) X.xe Z) X.xe Y) X.xe s:=by
  refine thn (he pins s σ H _ I h) λw s1 F=>?_
  obtain⟨y,H1,I1,r1,q1⟩:=F;refine thn (ho pins s1 σ H1 v y u w _ I1 r r1 q1) λz s2 B=>?_
  obtain⟨zv,H2,I2,r2,q2⟩:=B;exact pz I2 hN hi hx r2 (λs3 I3=>⟨_,H2,I3,q2⟩) hf
 rcases l with⟨L,hm⟩ | ⟨L,c,hc,hcell⟩
 .exact wpAny_loadName_local I.ok.kind L hn hm go
 .rcases L with L | L
  .exact wpAny_loadName_cell I.ok.kind L hc hcell go
  .rcases hx with k | k
   .have:X.env.scope.names.lookup x=some .free:=L
    rw[k] at this;cases this
   .have:X.env.scope.names.lookup x=some .free:=L
    rw[k] at this;cases this
end
section
variable {X:Cx}
def vX (c:TT) (tb:TS):TS:=λD σ H=>∃W:Nat->St->Hp->Prop,(∃m,W m σ H)/\∀m σ H,W m σ H ->
 c σ H λb H1=>if b=true then ∃N:St->Hp->Prop,(∀ σ' H',N σ' H'->∃B,B < m/\W B σ' H')/\tb { D with nx:=N,ct:=N,bk:=D.nx } σ H1 else D.nx σ H1
theorem ub {c:Expr} {tc:TT} {tb:TS} (hp:PassesOwn (model X.prog X.w) X.A X.env X.xe) (hc:PT X c tc) (hb:PSs X body tb):PS X (.While c body [] pos) (vX tc tb):=by
 intro pins s σ H D I h;obtain⟨W,⟨m0,w0⟩,Z⟩:=h;refine wpAny_While (codeAny_whileLoop (λn s'=>∃ σ' H',Inv X pins σ' H' s'/\W n σ' H') ?_ m0 ⟨σ,H,I,w0⟩)
 rintro n s1 ⟨L,H1,I1,w1⟩
 refine Hh hp (thn (hc pins s1 L H1 _ I1 (Z n L H1 w1)) λb s2 F=>?_)
 obtain⟨H2,I2,q2⟩:=F;cases b with
 | true =>
  obtain⟨N,hN,q2⟩:=q2;rw[if_pos rfl];refine Hh hp (thn (hb pins s2 L H2 _ I2 q2) λf s3 q3=>?_)
  cases f with
  | next =>
   obtain⟨B,Y,I3,n3⟩:=q3;obtain⟨m',hm,w3⟩:=hN B Y n3;exact⟨m',hm,B,Y,I3,w3⟩
  | cont =>
   obtain⟨B,Y,I3,n3⟩:=q3;obtain⟨m',hm,w3⟩:=hN B Y n3;exact⟨m',hm,B,Y,I3,w3⟩
  | brk=>exact q3
  | ret v=>exact q3
 | false =>
  rw[if_neg x_];exact wpAny_execs_nil ⟨L,H2,I2,q2⟩
end
structure It where
 go:Nat->Hp->Prop
 yld:Nat->Hp->V->Hp->Prop
 stop:Nat->Hp->Prop
def pF (X:Cx) (pins:List (Addr × Obj)) (H:Hp) (b:Addr):Prop :=
 H b=none/\b≠X.env.locals/\b∉X.fs/\(b∈X.ex\/X.s₀.heap.objs.size<=b)/\(∀x c,X.env.cells.lookup x=some c->c≠b)/\∀p∈X.pn++pins,p.1≠b
theorem Inv.fpOk {X:Cx} {σ:St} {H H':Hp} (I:Inv X pins σ H s) (B:s.heap.objs.size<=b) (F:H' b=none):pF X pins H' b:=by
 refine⟨F,Gd (n_ I.lt B),I.nofs B,.inr (w_ I.sz B),λx c e z=>?_,λp hp z=>?_⟩
 .obtain⟨v,q⟩:=I.cell x c e
  exact absurd (n_ q.lt (by rw[z];exact B)) (Gg _)
 .exact absurd (n_ (e_ (I.pin p hp).1) (by rw[z];exact B)) (Gg _)
structure sA (P:Program) (w:World) (K:j_) (tg:Expr) (J:It) (fp:List Addr) (it:Addr) (tn:Nat->Heap->Prop):Prop where
 mem:it∈fp
 obj : ∀i h,tn i h->∀b∈fp,∃o,h.get? b=some o/\∀v,o.data≠.cell v
 keep : ∀i h h',tn i h->(∀b∈fp,∀o,h.get? b=some o->h'.get? b=some o)->tn i h'
 item : ∀(X:Cx),X.prog=P->X.w=w->X.K=K->X.calm=true->∀(i:Nat) (pins:List (Addr × Obj)) (s:Shared) (σ:St) (H:Hp) (E:Value->Shared->Prop),Inv X pins σ H s->(∀b∈fp,pF X pins H b)->tn i s.heap->J.go i H ->
  wpAny (model P w) X.A (HR (.ref it)) (λr s1=>∃u,r=some u /\
   wpAny (model P w) X.A (letOwnedTupleGo tg (.ref it) u) (λ_ s2=>∃x H',Inv X pins σ H' s2/\bv x u/\J.yld i H x H'/\tn (i+1) s2.heap/\∀b∈fp,H' b=none) E s1) E s
 done : ∀(X:Cx),X.prog=P->X.w=w->X.K=K->X.calm=true->∀(i:Nat) (pins:List (Addr × Obj)) (s:Shared) (σ:St) (H:Hp) (E:Value->Shared->Prop),Inv X pins σ H s->(∀b∈fp,pF X pins H b)->tn i s.heap->J.stop i H ->
  wpAny (model P w) X.A (HR (.ref it)) (λr s1=>r=none/\Inv X pins σ H s1) E s
 self : ∀(A:Around) (i:Nat) (s:Shared) (Q:Value->Shared->Prop) (E:Value->Shared->Prop),tn i s.heap->Q (.ref it) s->wpAny (model P w) A (pyIter (.ref it)) Q E s
abbrev TI:=St->Hp->(It->Hp->Prop)->Prop
def PIE (X:Cx) (pins:List (Addr × Obj)) (σ:St) (tg:Expr) (R:It->Hp->Prop) (B:Value) (F:Shared):Prop :=
 ∃(it:Addr) (fp:List Addr) (L:Nat->Heap->Prop) (J:It) (H':Hp),B = .ref it/\Inv X pins σ H' F/\sA X.prog X.w X.K tg J fp it L/\L 0 F.heap/\(∀b∈fp,pF X pins H' b)/\R J H'
def PI (X:Cx) (tg iter:Expr) (wi:TI):Prop :=
 ∀ (pins:List (Addr × Obj)) (s:Shared) (σ:St) (H:Hp) (R:It->Hp->Prop),Inv X pins σ H s->wi σ H R ->
  wpAny (model X.prog X.w) X.A (eval iter X.env) (λv B=>wpAny (model X.prog X.w) X.A (pyIter v) (PIE X pins σ tg R) X.xe B) X.xe s
theorem qV {o:Obj} {n:String} {vs:Array Value} {Q:Unit->Shared->Prop} (L:s.heap.get? it=some o) (Z:o.cls = .type n) (F:o.data = .fields vs)
    (Y:["enumerate","zip","dict_itemiterator","dict_reverseitemiterator","odict_iterator","itertools.zip_longest","itertools.pairwise"].contains n=false) (B:Q Unit.unit s):wpAny M A (letOwnedTupleGo tg (.ref it) u) Q E s:=by
  unfold letOwnedTupleGo;cases tg <;> first
    | exact ee B
    | (cases u <;> first
        | exact ee B
        | (refine a_ (wpAny_load L ?_)
           rw[Z,F]
           show wpAny M A (if (["enumerate","zip","dict_itemiterator","dict_reverseitemiterator","odict_iterator","itertools.zip_longest","itertools.pairwise"].contains n && vs[0]? == some (GJ _))=true then _ else _) Q E s
           rw[if_neg (by intro h;rw[Y,Bool.false_and] at h;cases h)]
           exact ee B))
def Itl (K:j_) (a:Addr):It :=
 ⟨λi H=>∃xs x,SqL K H a xs/\xs[i]? = some x,λi H x H'=>H'=H/\∀xs,SqL K H a xs->xs[i]? = some x,λi H=>∃xs,SqL K H a xs/\xs.length<=i⟩
def Itt (K:j_) (a:Addr):It :=
 ⟨λi H=>∃xs x,SqT K H a xs/\xs[i]? = some x,λi H x H'=>H'=H/\∀xs,SqT K H a xs->xs[i]? = some x,λi H=>∃xs,SqT K H a xs/\xs.length<=i⟩
def Itr (lo:Int) (n:Nat):It:=⟨λi _=>i < n,λi H x H'=>H'=H/\x = .int (lo+i),λi _=>n<=i⟩
theorem yl (a it:Addr):sA P w K tg (Itl K a) [it] it (λi h=>h.IsListIter it a i) where
 mem:=by simp
 obj:=λi h st b B=>by
  have e:b=it:=by simpa using B
  subst e;obtain⟨o,e,c,d⟩:=st;exact⟨o,e,λv z=>by rw[d] at z;cases z⟩
 keep:=λi h h' st k=>st.at λo e=>k it (by simp) o e
 item:=by
  intro X hP Z hK hc i pins s σ H E I Y st hg;subst hP Z hK;obtain⟨xs,x,L,hx⟩:=hg;obtain⟨its,rv,p,hz⟩:=I.list L;obtain⟨u,hu,ru⟩:=rv.get hx;obtain⟨f0,f1,f2,f3,f4,f5⟩:=Y it (by simp)
  refine wpAny_pyNext_list_item st p.isList (x:=u) (by simpa using hu) λh' F sb=>?_
  have I1:Inv X pins σ H { s with heap:=h' }:=I.turned (t':=s.toks) (λb o B e=>(sb.2 b B).trans e) f0 f1 f3 f4 f5
  obtain⟨o,e,c,d⟩:=id F;exact⟨u,rfl,qV (s:={ s with heap:=h' }) e c d ∅ ⟨x,H,I1,ru,⟨rfl,λys hy=>by rw[I.list_inj hy L];exact hx⟩,F,λb B=>(Y b B).1⟩⟩
 done:=by
  intro X hP Z hK hc i pins s σ H E I Y st hg;subst hP Z hK;obtain⟨xs,L,hx⟩:=hg;obtain⟨its,rv,p,hz⟩:=I.list L;obtain⟨f0,f1,f2,f3,f4,f5⟩:=Y it (by simp)
  have hl:=rv.length;exact wpAny_pyNext_list_end (I.ok.hd hc) st p.isList (by simp;omega) λh' eb=>⟨rfl,I.turned (t':=s.toks) (λb o B e=>eb b o B e) f0 f1 f3 f4 f5⟩
 self:=λ_ _ _ _ _ st h=>wpAny_pyIter_listiter st h
theorem wH (a it:Addr):sA P w K tg (Itt K a) [it] it (λi h=>h.IsTupleIter it a i) where
 mem:=by simp
 obj:=λi h st b B=>by
  have e:b=it:=by simpa using B
  subst e;obtain⟨o,e,c,d⟩:=st;exact⟨o,e,λv z=>by rw[d] at z;cases z⟩
 keep:=λi h h' st k=>st.at λo e=>k it (by simp) o e
 item:=by
  intro X hP Z hK hc i pins s σ H E I Y st hg;subst hP Z hK;obtain⟨xs,x,L,hx⟩:=hg;obtain⟨its,rv,p,hz⟩:=I.tuple L;obtain⟨u,hu,ru⟩:=rv.get hx;obtain⟨f0,f1,f2,f3,f4,f5⟩:=Y it (by simp)
  refine wpAny_pyNext_tuple_item st (show s.heap.IsTuple a its.toArray from p) (x:=u) (by simpa using hu) λh' F sb=>?_
  have I1:Inv X pins σ H { s with heap:=h' }:=I.turned (t':=s.toks) (λb o B e=>(sb.2 b B).trans e) f0 f1 f3 f4 f5
  obtain⟨o,e,c,d⟩:=id F;exact⟨u,rfl,qV (s:={ s with heap:=h' }) e c d ∅ ⟨x,H,I1,ru,⟨rfl,λys hy=>by rw[I.tuple_inj hy L];exact hx⟩,F,λb B=>(Y b B).1⟩⟩
 done:=by
  intro X hP Z hK hc i pins s σ H E I Y st hg;subst hP Z hK;obtain⟨xs,L,hx⟩:=hg;obtain⟨its,rv,p,hz⟩:=I.tuple L;obtain⟨f0,f1,f2,f3,f4,f5⟩:=Y it (by simp)
  have hl:=rv.length;exact wpAny_pyNext_tuple_end (I.ok.hd hc) st (show s.heap.IsTuple a its.toArray from p) (by simp;omega) λh' eb=>⟨rfl,I.turned (t':=s.toks) (λb o B e=>eb b o B e) f0 f1 f3 f4 f5⟩
 self:=λ_ _ _ _ _ st h=>wpAny_pyIter_tupleiter st h
theorem vt (it:Addr) (lo:Int) (n:Nat):sA P w K tg (Itr lo n) [it] it (λi h=>IsRangeIter h it (lo+(i:Nat) * 1) ((n:Int) - (i:Nat)) 1) where
 mem:=by simp
 obj := λi h st b B=>by
  have e:b=it:=by simpa using B
  subst e;exact⟨_,st,λv z=>by
   have z':Data.fields _=Data.cell v:=z
   cases z'⟩
 keep:=λi h h' st k=>k it (by simp) _ st
 item:=by
  intro X hP Y hK hc i pins s σ H E I L st hg;subst hP Y hK;obtain⟨f0,f1,f2,f3,Z,f5⟩:=L it (by simp)
  have W:=Walks.range (prog:=X.prog) (w:=X.w) (I.ok.hd hc) it lo 1 n;refine W.item i s _ _ hg st λv h' tk hv F kk=>?_
  obtain⟨t,rfl⟩:=hv;have I1:Inv X pins σ H { s with heap:=h',toks:=tk }:=I.turned (λb o B e=>kk b o (by simpa using B) e) f0 f1 f3 Z f5
  refine⟨_,rfl,qV (s:={ s with heap:=h',toks:=tk }) (n := "range_iterator") F rfl rfl ∅ ⟨.int (lo+i),H,I1,⟨t,?_⟩,⟨rfl,rfl⟩,F,λb B=>(L b B).1⟩⟩
  rw[Int.mul_one]
 done:=by
  intro X hP Y hK hc i pins s σ H E I L st hg;subst hP Y hK;obtain⟨f0,f1,f2,f3,Z,f5⟩:=L it (by simp)
  exact wpAny_pyNext_range_end (I.ok.hd hc) st (by have:n<=i:=hg;omega) λh' eb=>⟨rfl,I.turned (t':=s.toks) (λb o B e=>eb b o B e) f0 f1 f3 Z f5⟩
 self:=λ_ _ _ _ _ st h=>wpAny_pyIter_rangeiter st h
section
variable {X:Cx}
theorem An {σ:St} {H:Hp} {R:It->Hp->Prop} {hi:Int} {t u v:Tok} (I:Inv X pins σ H s) (h1 : -(2 ^ 62)<=lo) (h2:lo < 2 ^ 62) (L : -(2 ^ 62)<=hi) (F:hi < 2 ^ 62)
  (q:R (Itr lo (hi - lo).toNat) H):wpAny (model X.prog X.w) X.A (pyIter (.ref s.heap.objs.size)) (PIE X pins σ tg R) E { s with heap:=s.heap.push { cls:=.type "range",data:=.fields #[.int lo t,.int hi u,.int 1 v] },toks:=tk }:=by
 refine wpAny_pyIter_range (IsRange.new ..) (small_one h1 h2 L F) ?_
 have B:Inv X pins σ H { s with heap:=s.heap.push { cls:=.type "range",data:=.fields #[.int lo t,.int hi u,.int 1 v] },toks:=tk }:=I.kept λb o e=>c_ _ e
 refine⟨(s.heap.push { cls:=.type "range",data:=.fields #[.int lo t,.int hi u,.int 1 v] }).objs.size,[(s.heap.push { cls:=.type "range",data:=.fields #[.int lo t,.int hi u,.int 1 v] }).objs.size],_,_,H,rfl,
  B.kept (t':=tk) λb o e=>c_ _ e,vt _ lo (hi - lo).toNat,?_,λb Y=>?_,q⟩
 .have e1:lo+((0:Nat):Int) * 1=lo:=by simp
  have e2:(((hi - lo).toNat:Nat):Int) - ((0:Nat):Int)=Builtin.Range.rangeSize lo hi 1:=by rw[rangeSize_one];split <;> omega
  show IsRangeIter _ _ (lo+((0:Nat):Int) * 1) ((((hi - lo).toNat:Nat):Int) - ((0:Nat):Int)) 1
  rw[e1,e2];exact k_ _ rfl
 .have e:b=(s.heap.push { cls:=.type "range",data:=.fields #[.int lo t,.int hi u,.int 1 v] }).objs.size:=by simpa using Y
  subst e;exact B.fpOk (s_ _) (B.hok.fresh (s_ _))
def Ab (ta:TA):TI:=λσ H R=>ta σ H λvs H1=>∃j:Int,vs=[.int j]/\-(2 ^ 62)<=j/\j < 2 ^ 62/\R (Itr 0 j.toNat) H1
theorem fD {a:Expr} {ta:TA} {p:Pos} (hg:Gl X "range") (L:X.mg "range" = none) (ha:PA X [a] ta) (Z:y9 [a] X.env=[(false,eval a X.env)]:=by rfl):PI X tg (.Call (.Name "range" p) [a] [] pos) (Ab ta):=by
 intro pins s σ H R I h;refine Call_ (gL I hg L boot_range (F8 (thn (ha pos pins s σ H _ I h) λus s1 B=>?_) Z rfl))
 obtain⟨vs,H1,I1,Y,F⟩:=B;obtain⟨j,e,F,q2,q⟩:=F;subst e;cases Y with
 | cons r rr =>
  cases rr;obtain⟨t,rfl⟩:=r;exact call_range_1 (An I1 () () F q2 (by simpa using q))
def Ey (wi:TI) (g:TG) (tb:TS):TS:=λD σ H=>wi σ H λJ H1=>∃W:Nat->Nat->St->Hp->Prop,(∃m,W 0 m σ H1)/\∀i m σ H,W i m σ H ->
 (J.stop i H/\D.nx σ H)\/(J.go i H/\∃N:St->Hp->Prop,(∀ σ' H',N σ' H'->∃F,F < m/\W (i+1) F σ' H')/\∀x H',J.yld i H x H'->g x σ H' λB H2=>tb { D with nx:=N,ct:=N,bk:=D.nx } B H2)
def oq (fp:List Addr) (h:Heap):List (Addr × Obj):=fp.filterMap λb=>(h.get? b).map λo=>(b,o)
theorem ku {o:Obj} (B:b∈fp) (e:h.get? b=some o):(b,o)∈oq fp h:=List.mem_filterMap.mpr ⟨b,B,by rw[e];rfl⟩
theorem xX {p:Addr × Obj} (hp:p∈oq fp h):p.1∈fp/\h.get? p.1=some p.2:=by
 obtain⟨b,B,e⟩:=List.mem_filterMap.mp hp;cases q:h.get? b with
 | none=>rw[q] at e;cases e
 | some o =>
  rw[q] at e;have F:(b,o)=p:=h_ e
  subst F;exact⟨B,q⟩
theorem Inv.pinned {σ:St} {H:Hp} (I:Inv X pins σ H s) (L : ∀b∈fp,pF X pins H b) (Z : ∀b∈fp,∃o,s.heap.get? b=some o/\∀v,o.data≠.cell v):Inv X (pins++oq fp s.heap) σ H s :=
 I.pins_of λp hp=>(y8.mp hp).elim (λz=>I.pin p (Ga _ z)) λz=>by
  obtain⟨F,e⟩:=xX z;obtain⟨f0,f1,Y,_⟩:=L p.1 F;obtain⟨o,B,d⟩:=Z p.1 F;rw[e] at B;cases B;exact⟨e,f0,f1,Y,d⟩
theorem Inv.unpinned {pl:List (Addr × Obj)} {σ:St} {H:Hp} (I:Inv X (pins++pl) σ H s):Inv X pins σ H s:=I.pins_of λp hp=>I.pin p (Ga _ (A_ _ hp))
theorem bD {wi:TI} {g:TG} {tb:TS} (hi:PI X tg iter wi) (hg:PG X tg g) (L:PSs X body tb) (hp:PassesOwn (model X.prog X.w) X.A X.env X.xe:=by exact PassesOwn.never) (hc:X.calm=true:=by exact rfl)
  (hs : ∀x,foldedSetIterable iter X.env x=pure x:=by intro _;rfl):PS X (.For tg iter body [] pos) (Ey wi g tb):=by
 intro pins s σ H D I h;refine wpAny_For (thn (hi pins s σ H _ I h) λv s1 h1=>thn h1 λaq s2 h2=>?_) hs
 obtain⟨it,fp,tn,J,H2,e,I2,T,ap,f2,W,⟨m0,w0⟩,ag⟩:=h2;subst e;have aa : ∀{H':Hp},(∀b∈fp,H' b=none)->∀b∈fp,pF X pins H' b:=λhn b L=>⟨hn b L,(f2 b L).2⟩
 refine codeAny_forLoop_any (λn s'=>∃i σ' H',Inv X pins σ' H' s'/\tn i s'.heap/\(∀b∈fp,H' b=none)/\W i n σ' H') ?_ m0 ⟨0,σ,H2,I2,ap,λb L=>(f2 b L).1,w0⟩
 rintro n s3 ⟨i,Z,H3,I3,ai,ak,w3⟩
 rcases ag i n Z H3 w3 with⟨aj,qn⟩ | ⟨go,N,hN,step⟩
 .refine Hh hp (thn (T.done X rfl rfl rfl hc i pins s3 Z H3 X.xe I3 (aa ak) ai aj) λr s4 ac=>?_)
  obtain⟨hr,I4⟩:=ac;subst hr;exact wpAny_execs_nil ⟨Z,H3,I4,qn⟩
 .refine Hh hp (thn (T.item X rfl rfl rfl hc i pins s3 Z H3 X.xe I3 (aa ak) ai go) λr s4 ae=>?_)
  obtain⟨u,hr,h4⟩:=ae;subst hr;refine Hh hp (thn h4 λ_ s5 ad=>?_)
  obtain⟨x,H5,I5,r5,y5,af,an⟩:=ad;have am:=I5.pinned (aa an) (T.obj _ _ af);refine Hh hp (thn (hg _ s5 Z H5 x u _ am r5 (step x H5 y5)) λ_ s6 ab=>?_)
  obtain⟨ao,H6,I6,q6⟩:=ab;refine Hh hp (thn (L _ s6 ao H6 _ I6 q6) λf s7 q7=>?_)
  have Y : ∀{B:St} {H7:Hp},Inv X (pins++oq fp s5.heap) B H7 s7->N B H7->∃m,m < n/\∃i σ' H',Inv X pins σ' H' s7/\tn i s7.heap/\(∀b∈fp,H' b=none)/\W i m σ' H':=λ{B H7} F n7=>by
   obtain⟨m',hm,w7⟩:=hN B H7 n7;refine⟨m',hm,i+1,B,H7,F.unpinned,T.keep _ _ _ af λb L o e=>(F.pin (b,o) (Ga _ (Ga _ (ku L e)))).1,λb L=>?_,w7⟩
   obtain⟨o,e,d⟩:=T.obj _ _ af b L;exact(F.pin (b,o) (Ga _ (Ga _ (ku L e)))).2.1
  cases f with
  | next=>obtain⟨B,H7,F,n7⟩:=q7;exact Y F n7
  | cont=>obtain⟨B,H7,F,n7⟩:=q7;exact Y F n7
  | brk=>obtain⟨B,H7,F,q7⟩:=q7;exact⟨B,H7,F.unpinned,q7⟩
  | ret v=>obtain⟨x7,B,H7,F,r7,q7⟩:=q7;exact⟨x7,B,H7,F.unpinned,r7,q7⟩
end
abbrev R2:=V->V->Hp->VK->Prop
def OpR (X:Cx) (f:Value->Value->Sem Value) (r:R2):Prop :=
 ∀ (pins:List (Addr × Obj)) (s:Shared) (σ:St) (H:Hp) (x y:V) (v u:Value) (Q:VK),Inv X pins σ H s->bv x v->bv y u->r x y H Q ->
  wpAny (model X.prog X.w) X.A (f v u) (EP X pins σ Q) X.xe s
def UnR (X:Cx) (f:Value->Sem Value) (r:V->Hp->VK->Prop):Prop :=
 ∀ (pins:List (Addr × Obj)) (s:Shared) (σ:St) (H:Hp) (x:V) (v:Value) (Q:VK),Inv X pins σ H s->bv x v->r x H Q ->
  wpAny (model X.prog X.w) X.A (f v) (EP X pins σ Q) X.xe s
def cA (X:Cx) (f:Value) (r:List V->Hp->VK->Prop):Prop :=
 ∀ (pins:List (Addr × Obj)) (s:Shared) (σ:St) (H:Hp) (xs:List V) (us:List Value) (Q:VK),Inv X pins σ H s->bu xs us->r xs H Q ->
  wpAny (model X.prog X.w) X.A (call f us) (EP X pins σ Q) X.xe s
def tOp (r:R2) (ta tb:TE):TE:=λσ H Q=>ta σ H λx H1=>tb σ H1 λy H2=>r x y H2 Q
def tUn (r:V->Hp->VK->Prop) (ta:TE):TE:=λσ H Q=>ta σ H λx H1=>r x H1 Q
def rI (C:Int->Int->Prop) (g:Int->Int->V):R2:=λx y H Q=>∃i j,x = .int i/\y = .int j/\C i j/\Q (g i j) H
def rI0 (g:Int->Int->V):R2:=λx y H Q=>∃i j,x = .int i/\y = .int j/\Q (g i j) H
def rU (g:Int->V):V->Hp->VK->Prop:=λx H Q=>∃i,x = .int i/\Q (g i) H
section
variable {X:Cx} {a b c:Expr} {ta tb tc:TE}
theorem Dt (ha:PE X a ta) (hb:PE X b tb) {pins:List (Addr × Obj)} {s:Shared} {σ:St} {H:Hp} {R:V->V->Hp->Prop} (I:Inv X pins σ H s)
  (h:ta σ H λx H1=>tb σ H1 λy H2=>R x y H2) {Q:Value->Shared->Prop} {f:Value->Value->Sem Value}
  (hf : ∀v u Y x y H2,Inv X pins σ H2 Y->bv x v->bv y u->R x y H2->wpAny (model X.prog X.w) X.A (f v u) Q X.xe Y) :
  wpAny (model X.prog X.w) X.A (eval a X.env) (λv s₁=>wpAny (model X.prog X.w) X.A (eval b X.env) (λu L=>wpAny (model X.prog X.w) X.A (f v u) Q X.xe L) X.xe s₁) X.xe s:=by
 refine thn (ha pins s σ H _ I h) λv s1 F=>?_
 obtain⟨x,H1,I1,r1,q1⟩:=F;refine thn (hb pins s1 σ H1 _ I1 q1) λu Y B=>?_
 obtain⟨y,H2,I2,Z,q2⟩:=B;exact hf v u Y x y H2 I2 r1 Z q2
theorem aT {B:Operator} {r:R2} (Z:OpR X (G_ B) r) (ha:PE X a ta) (Y:PE X b tb):PE X (.BinOp a B b pos) (tOp r ta tb):=by
 intro pins s σ H Q I h;exact wpAny_BinOp (Dt ha Y I h λv u L x y H2 F rx ry q=>Z pins L σ H2 x y v u Q F rx ry q)
theorem mW {F:UnaryOp} {r:V->Hp->VK->Prop} (ho:UnR X (unaryOp F) r) (ha:PE X a ta):PE X (.UnaryOp F a pos) (tUn r ta):=by
 intro pins s σ H Q I h;exact UnaryOp_ (thn (ha pins s σ H _ I h) λv L B=>by obtain⟨x,H1,Z,Y,q1⟩:=B;exact(ho pins L σ H1 x v Q Z Y q1))
theorem opI {f:Value->Value->Sem Value} {C:Int->Int->Prop} {g:Int->Int->Int}
  (B : ∀(i j:Int) (t u:Tok) (s:Shared) (Q:Value->Shared->Prop) (E:Value->Shared->Prop),C i j->Q (.int (g i j) s.toks) { s with toks:=s.toks+1 }->wpAny (model X.prog X.w) X.A (f (.int i t) (.int j u)) Q E s) :
  OpR X f (rI C λi j=>.int (g i j)):=by
 intro pins s σ H x y v u Q I F L h;obtain⟨i,j,rfl,rfl,Y,q⟩:=h;obtain⟨t,rfl⟩:=F;obtain⟨t',rfl⟩:=L;exact B i j t t' s _ _ Y ⟨.int (g i j),H,I.tok _,⟨_,rfl⟩,q⟩
theorem Ee {f:Value->Value->Sem Value} {g:Int->Int->Int}
  (B : ∀(i j:Int) (t u:Tok) (s:Shared) (Q:Value->Shared->Prop) (E:Value->Shared->Prop),Q (.int (g i j) s.toks) { s with toks:=s.toks+1 }->wpAny (model X.prog X.w) X.A (f (.int i t) (.int j u)) Q E s) :
  OpR X f (rI0 λi j=>.int (g i j)):=by
 intro pins s σ H x y v u Q I F L h;obtain⟨i,j,rfl,rfl,q⟩:=h;obtain⟨t,rfl⟩:=F;obtain⟨t',rfl⟩:=L;exact B i j t t' s _ _ ⟨.int (g i j),H,I.tok _,⟨_,rfl⟩,q⟩
theorem Bi {f:Value->Value->Sem Value} {g:Int->Int->Bool}
  (B : ∀(i j:Int) (t u:Tok) (s:Shared) (Q:Value->Shared->Prop) (E:Value->Shared->Prop),Q (.bool (g i j)) s->wpAny (model X.prog X.w) X.A (f (.int i t) (.int j u)) Q E s) :
  OpR X f (rI0 λi j=>.bl (g i j)):=by
 intro pins s σ H x y v u Q I F L h;obtain⟨i,j,rfl,rfl,q⟩:=h;obtain⟨t,rfl⟩:=F;obtain⟨t',rfl⟩:=L;exact B i j t t' s _ _ ⟨.bl (g i j),H,I,rfl,q⟩
def yd (i j:Int):Prop:=(-(2 ^ 64) < i/\i < 2 ^ 64)\/(-(2 ^ 64) < j/\j < 2 ^ 64)
theorem yd.ok {i j:Int} (h:yd i j):IntMulOk i j:=by
 rcases h with⟨h1,h2⟩ | ⟨h1,h2⟩
 .exact .of_left (intBits_le_64 h1 h2)
 .exact .of_right (intBits_le_64 h1 h2)
theorem br:OpR X (G_ .Add) (rI0 λi j=>.int (i+j)):=Ee λ_ _ _ _ _ _ _ q=>add_int q
theorem iB:OpR X (G_ .Sub) (rI0 λi j=>.int (i - j)):=Ee λ_ _ _ _ _ _ _ q=>sub_int q
theorem gO:OpR X (G_ .Mult) (rI yd λi j=>.int (i * j)):=opI λ_ _ _ _ _ _ _ B q=>mul_int q B.ok
theorem iy:OpR X (G_ .Mod) (rI (λ_ j=>0 < j) λi j=>.int (i % j)):=opI λi j _ _ _ _ _ B q=>by
 have h1:(0:Int) < j:=B
 exact mod_int' () (by rw[Int.fmod_eq_emod_of_nonneg i ()];exact q)
theorem unI {f:Value->Sem Value} {g:Int->Int}
  (B : ∀(i:Int) (t:Tok) (s:Shared) (Q:Value->Shared->Prop) (E:Value->Shared->Prop),Q (.int (g i) s.toks) { s with toks:=s.toks+1 }->wpAny (model X.prog X.w) X.A (f (.int i t)) Q E s) :
  UnR X f (rU λi=>.int (g i)):=by
 intro pins s σ H x v Q I F h;obtain⟨i,rfl,q⟩:=h;obtain⟨t,rfl⟩:=F;exact B i t s _ _ ⟨.int (g i),H,I.tok _,⟨_,rfl⟩,q⟩
theorem jw:UnR X (unaryOp .USub) (rU λi=>.int (Neg.neg i)):=unI λ_ _ _ _ _ q=>neg_int q
end
def uc:V->V->Bool
 | .non,.non=>true | .non,.int _=>true | .int _,.non=>true | .non,.bl _=>true | .bl _,.non=>true | .non,.str _=>true | .str _,.non=>true
 | .int _,.int _=>true | .bl _,.bl _=>true | .str _,.str _=>true | .byt _,.byt _=>true
 | .int _,.str _=>true | .str _,.int _=>true | .bl _,.str _=>true | .str _,.bl _=>true
 | _,_=>false
def rEq:R2:=λx y H Q=>uc x y=true/\Q (.bl (decide (x=y))) H
def rNe:R2:=λx y H Q=>uc x y=true/\Q (.bl (!decide (x=y))) H
theorem xy {i j:Int}:decide (V.int i=V.int j)=(i == j):=by
 rw[FY];simp
theorem zE {i j:Bool}:decide (V.bl i=V.bl j)=(i == j):=by
 rw[FY];simp
theorem xf {i j:Str}:decide (V.str i=V.str j)=(i == j):=by
 rw[FY];simp
theorem xx {i j:Array UInt8}:decide (V.byt i=V.byt j)=(i.toList == j.toList):=by
 rw[FY];cases i;cases j;simp
section
variable {X:Cx} {a b c:Expr} {ta tb tc:TE}
theorem bP {σ:St} {H:Hp} {Q:VK} {k B:Bool} (I:Inv X pins σ H s) (q:Q (.bl k) H) (e:k=B):EP X pins σ Q (.bool B) s:=by
 subst e;exact⟨.bl k,H,I,rfl,q⟩
theorem cI:OpR X (Gi .Eq) rEq:=by
 intro pins s σ H x y v u Q I L B h;obtain⟨F,q⟩:=h;cases x with
 | non =>
  cases L;cases y with
  | non=>cases B;exact PySem.EqNone.eq_none_none (bP I q (by simp))
  | bl j=>cases B;exact PySem.EqNone.eq_none_bool (bP I q (by simp))
  | int j=>obtain⟨t',rfl⟩:=B;exact PySem.EqNone.eq_none_int (bP I q (by simp))
  | str j=>obtain⟨t',rfl⟩:=B;exact PySem.EqNone.eq_none_str (bP I q (by simp))
  | _=>exact absurd (show false=true from F) x_
 | bl i =>
  cases L;cases y with
  | non=>cases B;exact PySem.EqNone.eq_bool_none (bP I q (by simp))
  | bl j=>cases B;exact eq_bool (bP I q zE)
  | str j=>obtain⟨t',rfl⟩:=B;exact PySem.EqMixed.eq_bool_str (bP I q (by simp))
  | _=>exact absurd (show false=true from F) x_
 | int i =>
  obtain⟨t,rfl⟩:=L;cases y with
  | non=>cases B;exact PySem.EqNone.eq_int_none (bP I q (by simp))
  | int j=>obtain⟨t',rfl⟩:=B;exact eq_int (bP I q xy)
  | str j=>obtain⟨t',rfl⟩:=B;exact PySem.EqMixed.eq_int_str (bP I q (by simp))
  | _=>exact absurd (show false=true from F) x_
 | str i =>
  obtain⟨t,rfl⟩:=L;cases y with
  | non=>cases B;exact PySem.EqNone.eq_str_none (bP I q (by simp))
  | bl j=>cases B;exact PySem.EqMixed.eq_str_bool (bP I q (by simp))
  | int j=>obtain⟨t',rfl⟩:=B;exact PySem.EqMixed.eq_str_int (bP I q (by simp))
  | str j=>obtain⟨t',rfl⟩:=B;exact eq_str (bP I q xf)
  | _=>exact absurd (show false=true from F) x_
 | byt i =>
  obtain⟨t,rfl⟩:=L;cases y with
  | byt j=>obtain⟨t',rfl⟩:=B;exact PySem.W.eq_bytes (bP I q xx)
  | _=>exact absurd (show false=true from F) x_
 | _=>cases y <;> exact absurd (show false=true from F) x_
theorem Ez:OpR X (Gi .NotEq) rNe:=by
 intro pins s σ H x y v u Q I L B h;obtain⟨F,q⟩:=h;cases x with
 | non =>
  cases L;cases y with
  | non=>cases B;exact PySem.EqNone.ne_none_none (bP I q (by simp))
  | bl j=>cases B;exact PySem.EqNone.ne_none_bool (bP I q (by simp))
  | int j=>obtain⟨t',rfl⟩:=B;exact PySem.EqNone.ne_none_int (bP I q (by simp))
  | str j=>obtain⟨t',rfl⟩:=B;exact PySem.EqNone.ne_none_str (bP I q (by simp))
  | _=>exact absurd (show false=true from F) x_
 | bl i =>
  cases L;cases y with
  | non=>cases B;exact PySem.EqNone.ne_bool_none (bP I q (by simp))
  | bl j=>cases B;exact ne_bool (bP I q (congrArg not zE))
  | str j=>obtain⟨t',rfl⟩:=B;exact PySem.EqMixed.ne_bool_str (bP I q (by simp))
  | _=>exact absurd (show false=true from F) x_
 | int i =>
  obtain⟨t,rfl⟩:=L;cases y with
  | non=>cases B;exact PySem.EqNone.ne_int_none (bP I q (by simp))
  | int j=>obtain⟨t',rfl⟩:=B;exact ne_int (bP I q (congrArg not xy))
  | str j=>obtain⟨t',rfl⟩:=B;exact PySem.EqMixed.ne_int_str (bP I q (by simp))
  | _=>exact absurd (show false=true from F) x_
 | str i =>
  obtain⟨t,rfl⟩:=L;cases y with
  | non=>cases B;exact PySem.EqNone.ne_str_none (bP I q (by simp))
  | bl j=>cases B;exact PySem.EqMixed.ne_str_bool (bP I q (by simp))
  | int j=>obtain⟨t',rfl⟩:=B;exact PySem.EqMixed.ne_str_int (bP I q (by simp))
  | str j=>obtain⟨t',rfl⟩:=B;exact ne_str (bP I q (congrArg not xf))
  | _=>exact absurd (show false=true from F) x_
 | byt i =>
  obtain⟨t,rfl⟩:=L;cases y with
  | byt j=>obtain⟨t',rfl⟩:=B;exact PySem.W.ne_bytes (bP I q (congrArg not xx))
  | _=>exact absurd (show false=true from F) x_
 | _=>cases y <;> exact absurd (show false=true from F) x_
theorem zW:OpR X (Gi .Lt) (rI0 λi j=>.bl (decide (i < j))):=Bi λ_ _ _ _ _ _ _ q=>lt_int q
theorem ji:OpR X (Gi .LtE) (rI0 λi j=>.bl (decide (i<=j))):=Bi λ_ _ _ _ _ _ _ q=>le_int q
theorem mS:OpR X (Gi .Gt) (rI0 λi j=>.bl (decide (j < i))):=Bi λ_ _ _ _ _ _ _ q=>gt_int q
theorem Er:OpR X (Gi .GtE) (rI0 λi j=>.bl (decide (j<=i))):=Bi λ_ _ _ _ _ _ _ q=>ge_int q
theorem nomark (b:Expr) {B:CmpOp} (h:B≠.In:=by decide) (h2:B≠.NotIn:=by decide):Hi B b=false:=by
 have e1:(B == CmpOp.In)=false:=by cases B <;> first | rfl | exact absurd rfl h
 have e2:(B == CmpOp.NotIn)=false:=by cases B <;> first | rfl | exact absurd rfl h2
 cases b <;> simp[Hi,e1,e2]
theorem aX {B:CmpOp} {r:R2} (ho:OpR X (Gi B) r) (ha:PE X a ta) (Z:PE X b tb) (F:Hi B b=false:=by first | exact nomark _ | with_unfolding_all rfl):PE X (.Compare a [B] [b] pos) (tOp r ta tb):=by
 intro pins s σ H Q I h;exact wpAny_Compare1 (Dt ha Z I h λv u Y x y H2 L rx ry q=>ho pins Y σ H2 x y v u Q L rx ry q) F
def qB (t:TE):TT:=λσ H Q=>t σ H λx H'=>∃k,x = .bl k/\Q k H'
theorem aS {B:CmpOp} {r:R2} (ho:OpR X (Gi B) r) (ha:PE X a ta) (Z:PE X b tb) (F:Hi B b=false:=by first | exact nomark _ | with_unfolding_all rfl):PT X (.Compare a [B] [b] pos) (qB (tOp r ta tb)):=by
 intro pins s σ H Q I h;refine wpAny_isTrue_Compare1 (thn (ha pins s σ H _ I h) λv L ⟨x,H1,I1,r1,q1⟩=>thn (Z pins L σ H1 _ I1 q1) λu Y ⟨y,H2,I2,r2,q2⟩ =>
  thn (ho pins Y σ H2 x y v u _ I2 r1 r2 q2) λc s3 ⟨z,H3,I3,r3,k,e,q3⟩=>?_) F
 subst e;cases r3;exact GU ⟨H3,I3,q3⟩
def vP (r r':R2) (ta tb tc:TE):TE:=λσ H Q=>ta σ H λx H1=>tb σ H1 λy H2=>r x y H2 λz B=>∃k,z = .bl k /\
 (if k=true then tc σ B λL F=>r' y L F Q else Q (.bl false) B)
theorem AV {L B:CmpOp} {r r':R2} (ho:OpR X (Gi L) r) (F:OpR X (Gi B) r') (ha:PE X a ta) (hb:PE X b tb) (hc:PE X c tc)
  (hm:lastMarks [L,B] [b,c]=false:=by with_unfolding_all rfl):PE X (.Compare a [L,B] [b,c] pos) (vP r r' ta tb tc):=by
 intro pins s σ H Q I h;refine Compare_chain (thn (ha pins s σ H _ I h) λv s1 ⟨x,H1,I1,r1,q1⟩=>chain_link (thn (hb pins s1 σ H1 _ I1 q1) λu s2 ⟨y,H2,I2,r2,q2⟩ =>
  thn (ho pins s2 σ H2 x y v u _ I2 r1 r2 q2) λd s3 ⟨z,H3,I3,r3,k,e,q3⟩=>?_)) hm
 subst e;cases r3;refine GU ?_
 cases k with
 | false=>exact ite_ff ⟨.bl false,H3,I3,rfl,q3⟩
 | true=>exact ite_tt (chain_last (thn (hc pins s3 σ H3 _ I3 q3) λZ s4 Y=>by obtain⟨z',H4,I4,r4,q4⟩:=Y;exact(F pins s4 σ H4 y z' u Z Q I4 r2 r4 q4)))
theorem mz:(l_:Nat) < 2 ^ 63:=by rw[sizeLine_eq];decide
theorem vO:OpR X (G_ .Add) (λx y H Q=>∃i j,x = .str i/\y = .str j/\i.length+j.length<=l_/\Q (.str (i++j)) H):=by
 intro pins s σ H x y v u Q I F L h;obtain⟨i,j,rfl,rfl,B,q⟩:=h;obtain⟨t,rfl⟩:=F;obtain⟨t',rfl⟩:=L;exact add_str (λt' tk=>⟨.str (i++j),H,I.tok _,⟨_,rfl⟩,q⟩) B
theorem eB {x:V} (r:bu [x] us) : ∃u,us=[u]/\bv x u:=by
 cases r with
 | cons B F=>cases F;exact⟨_,rfl,B⟩
theorem vi {x y:V} (r:bu [x,y] us) : ∃u B,us=[u,B]/\bv x u/\bv y B:=by
 cases r with
 | cons F L =>
  cases L with
  | cons Y Z=>cases Z;exact⟨_,_,rfl,F,Y⟩
theorem rn (F:X.calm=true):cA X (.builtin "max") (λxs H Q=>∃i j,xs=[.int i,.int j]/\Q (.int (if j > i then j else i)) H):=by
 intro pins s σ H xs us Q I r h;obtain⟨i,j,rfl,q⟩:=h;obtain⟨u,L,rfl,⟨t,rfl⟩,⟨t',rfl⟩⟩:=vi r;refine max_two_ints (I.ok.hd F) λh' tk k=>⟨_,H,I.kept k,?_,q⟩
 by_cases B:j > i
 .rw[if_pos B,if_pos B];exact⟨_,rfl⟩
 .rw[if_neg B,if_neg B];exact⟨_,rfl⟩
theorem qE (F:X.calm=true):cA X (.builtin "min") (λxs H Q=>∃i j,xs=[.int i,.int j]/\Q (.int (if j < i then j else i)) H):=by
 intro pins s σ H xs us Q I r h;obtain⟨i,j,rfl,q⟩:=h;obtain⟨u,L,rfl,⟨t,rfl⟩,⟨t',rfl⟩⟩:=vi r;refine min_two_ints (I.ok.hd F) λh' tk k=>⟨_,H,I.kept k,?_,q⟩
 by_cases B:j < i
 .rw[if_pos B,if_pos B];exact⟨_,rfl⟩
 .rw[if_neg B,if_neg B];exact⟨_,rfl⟩
theorem xS:cA X (.type "int") (λxs H Q=>(∃i,xs=[.int i]/\Q (.int i) H)\/∃k,xs=[.bl k]/\Q (.int (if k then 1 else 0)) H):=by
 intro pins s σ H xs us Q I r h;rcases h with⟨i,rfl,q⟩ | ⟨k,rfl,q⟩
 .obtain⟨u,rfl,t,rfl⟩:=eB r
  exact call_int_int ⟨.int i,H,I,⟨_,rfl⟩,q⟩
 .obtain⟨u,rfl,r1⟩:=eB r
  cases r1;exact call_int_bool ⟨.int (if k then 1 else 0),H,I.tok _,⟨_,rfl⟩,q⟩
end
structure wj (h:Heap) (x dx C:Addr) (mA:Str->Option Value):Prop where
 obj:h.get? x=some (instObj C dx)
 ns:h.Ns1 dx mA
 ne:dx≠x
theorem xK (n:h.Ns1 dx mA) : ∃od,h.get? dx=some od/\∀name,lookIn name od=some (mA name):=by
 obtain⟨o,es,ep,ho,hd,Y,_,L⟩:=n;refine⟨o,ho,λname=>?_⟩
 have e:=L name;unfold nsFind findBy at e;rw[<- Array.find?_toList] at e;unfold lookIn;rw[hd];dsimp only
 split
 .rename_i y q
  rw[q] at e;exact congrArg some e
 .rename_i q
  rw[q] at e;have a:es.toList.any (·.refKey)=false:=by
   rw[List.any_eq_false];intro y Z;obtain⟨z,t,B⟩:=Y y (Array.mem_toList_iff.mp Z);simp[DictEntry.refKey,B]
  have F : ¬ es.toList.any (·.refKey)=true:=by rw[a];exact x_
  rw[if_neg F];exact congrArg some e
theorem wj.look {x:Addr} (I:wj h x dx C mA) : ∃od,PySem.W.InstAt h x (instObj C dx) C (some od)/\∀name,lookIn name od=some (mA name) :=
 let ⟨od,ho,hl⟩:=xK I.ns
 ⟨od,⟨I.obj,rfl,rfl,ho⟩,hl⟩
section
variable {x:Addr} {v:Value}
theorem BR {B:Bool} (X:K.In s.heap) (I:wj s.heap x dx C mA) (Y:Hx K C name=true) (Z:Ht K C=true)
  (ha:y7 K (.ref C) name=some none) (L:mA name=some v) (F:handedIn v=true) (h:Q v { s with toks:=s.toks+1 }) :
  wpAny (model prog w) A (getAttr (.ref x) name B) Q E s:=by
 obtain⟨od,J,hl⟩:=I.look;exact PySem.W.get_value X J (plainGet_of Y).1 (PySem.W.findObj_own Z ha rfl (by rw[hl,L])) F h
theorem zt {Q:Value × List Value->Shared->Prop} (X:K.In s.heap) (I:wj s.heap x dx C mA) (B:Hx K C name=true)
  (Y:y7 K (.ref C) name=some (-f)) (L:isFn K (.ref f)=true) (F:mA name=none) (h:Q (.ref f,[.ref x]) s) :
  wpAny (model prog w) A (getMethod (.ref x) name pl) Q E s:=by
 obtain⟨od,J,hl⟩:=I.look;exact PySem.W.method_fn X J (plainGet_of B).1 (plainGet_of B).2 Y (beq_iff_eq.mp L) (by show(lookIn name od).map (·.isSome)=some false;rw[hl,F];rfl) h
theorem BN {ns:List Str} {Q:Unit->Shared->Prop} (X:K.In s.heap) (I:wj s.heap x dx C mA)
  (hs:y7 K (.ref C) "__setattr__" = some (some (.builtin "object.__setattr__"))) (hp:HP K C=true) (ht:takerIn K C name=some none) (hh:Ht K C=true)
  (hw:PySem.Within mA ns) (hsz:ns.length<=l_)
  (h : ∀h',wj h' x dx C (λy=>if y=name then some v else mA y)->IP dx s.heap h'->Q Unit.unit { s with heap:=h',toks:=s.toks+2 }) :
  wpAny (model prog w) A (setAttr (.ref x) name v) Q E s:=by
 obtain⟨od,J,hl⟩:=I.look;refine PySem.W.set_plain X J hs (PySem.W.osa_open (s:={ s with toks:=s.toks+1 }) (r:=none) X J hp ht λb=>?_)
 obtain⟨cd,hc,L⟩:=PySem.W.any_some hh;have hx:s.heap.get? x=some ⟨.ref C,some dx,.plain,#[]⟩:=I.obj
 refine a_ (ee (a_ (a_ (wpAny_loadPart hx (a_ (PySem.W.Looks.here (s:={ s with toks:=s.toks+1 }) (PySem.W.looks_clsIn X hc) ?_))))))
 rw[L];refine ee (a:=some dx) (a_ (ee (a_ ?_)))
 refine wpAny_nsSet1 (s:={ s with toks:=s.toks+1 }) I.ns λh' F B=>?_
 obtain⟨oD,ab,ac,aa,Y,Z⟩:=F.count (PySem.Within.cons name v hw);refine a_ (wpAny_lookBehind aa (by rw[Y];exact pastItsLine_dict (w_ Z (by rw[GG];omega))) ?_)
 exact ee (h _ ⟨(B.2 _ (Gp I.ne)).trans I.obj,F,I.ne⟩ B)
theorem Aq {vs:List Value} (X:K.In s.heap) (F:makesIn K C=true)
  (hi:y7 K (.ref C) "__init__" = some (-f)) (L:PySem.W.typeIn K (.ref f)=some (.type "function"))
  (h:Ii (model prog w) (A.under (.builtin "type.__call__" ⟨.ref C :: vs,kw⟩)) (.call (.ref f) ⟨.ref (s.heap.objs.size+1) :: vs,kw⟩) (PySem.W.InitBack (s.heap.objs.size+1) R)
   { s with heap:=(s.heap.push HN).push (instObj C s.heap.objs.size) }) :
  Ii (model prog w) A (.call (.ref C) ⟨vs,kw⟩) R s:=by
 obtain⟨Z,g,d,t,Y⟩:=s;exact PySem.W.make_core (PySem.W.makes_of X F) (PySem.W.looks_findIn X hi) (λB=>PySem.W.bind_fn X B L) (.inl rfl) h
end
def cW (f:Str) (v:V):List (Str × V)->List (Str × V)
 | []=>[(f,v)]
 | (g,x) :: r=>if g=f then(g,v) :: r else(g,x) :: cW f v r
theorem cy (f g:Str) (v:V) : ∀fs:List (Str × V),(cW f v fs).lookup g=if g=f then some v else fs.lookup g
 | []=>by
  show IE g [(f,v)]=_
  by_cases h:g=f
  .have hb:(g == f)=true:=beq_iff_eq.mpr h
   simp only[IE,hb,if_pos h]
  .have hb:(g == f)=false:=beq_eq_false_iff_ne.mpr h
   simp only[IE,hb,if_neg h]
 | (k, x) :: r=>by
  have F:=cy f g v r;rw[show cW f v ((k,x) :: r)=(if k=f then(k,v) :: r else(k,x) :: cW f v r) from rfl]
  by_cases B:k=f
  .rw[if_pos B]
   by_cases h:g=k
   .have hb:(g == k)=true:=beq_iff_eq.mpr h
    simp only[IE,hb,if_pos (h.trans B)]
   .have hb:(g == k)=false:=beq_eq_false_iff_ne.mpr h
    simp only[IE,hb,if_neg (λe:g=f=>h (e.trans B.symm))]
  .rw[if_neg B]
   by_cases h:g=k
   .have hb:(g == k)=true:=beq_iff_eq.mpr h
    simp only[IE,hb,if_neg (λe:g=f=>B (h.symm.trans e))]
   .have hb:(g == k)=false:=beq_eq_false_iff_ne.mpr h
    simp only[IE,hb];exact F
theorem mL (f:Str) (v:V) : ∀fs:List (Str × V),f∈(cW f v fs).map (·.1)/\∀g,g∈fs.map (·.1)->g∈(cW f v fs).map (·.1)
 | []=>⟨by simp[cW],λg h=>by simp at h⟩
 | (k, x) :: r=>by
  obtain⟨L,F⟩:=mL f v r;rw[show cW f v ((k,x) :: r)=(if k=f then(k,v) :: r else(k,x) :: cW f v r) from rfl]
  by_cases B:k=f
  .rw[if_pos B]
   subst B;exact⟨by simp,λg h=>by simpa using h⟩
  .rw[if_neg B]
   refine⟨?_,λg h=>?_⟩
   .rw[y3]
    exact zc _ L
   .rw[y3] at h ⊢
    rcases u_.mp h with e | e
    .exact u_.mpr (.inl e)
    .exact zc _ (F g e)
theorem nk (f:Str) (v:V) : ∀fs:List (Str × V),(cW f v fs).length<=fs.length+1
 | []=>by simp[cW]
 | (k,x) :: r=>by
  have F:=nk f v r;rw[show cW f v ((k,x) :: r)=(if k=f then(k,v) :: r else(k,x) :: cW f v r) from rfl]
  by_cases B:k=f
  .rw[if_pos B,GG,GG];omega
  .rw[if_neg B,GG,GG];omega
theorem iF.some_of {v:V} {o:Option Value} (r:iF (some v) o) : ∃u,o=some u/\bv v u:=by
 cases o with
 | none=>exact(show False from r).elim
 | some u=>exact⟨u,rfl,r⟩
theorem iF.none_of {o:Option Value} (r:iF none o):o=none:=by
 cases o with
 | none=>rfl
 | some u=>exact(show False from r).elim
theorem yn {v:V} (r:bv v u):handedIn u=true:=by
 cases v with
 | non=>cases (show u=GA from r);rfl
 | bl b=>cases (show u=HQ b from r);rfl
 | int i=>obtain⟨t,e⟩:=(show ∃t,u=Value.int i t from r);cases e;rfl
 | str x=>obtain⟨t,e⟩:=(show ∃t,u=Value.str x t from r);cases e;rfl
 | byt b=>obtain⟨t,e⟩:=(show ∃t,u=Value.bytes b t from r);cases e;rfl
 | flt b=>obtain⟨t,e⟩:=(show ∃t,u=Value.float b t from r);cases e;rfl
 | ref a=>cases (show u=y6 a from r);rfl
 | ty n=>cases (show u=GL n from r);rfl
section
variable {H H':Hp} {fs fs':List (Str × V)}
theorem nX (B:HOk P w H h) (e:H a=some (.ins C dx fs)) : ∃mA,wj h a dx C mA/\(∀f,iF (fs.lookup f) (mA f))/\PySem.Within mA (fs.map (·.1))/\fs.length<=1000/\H dx=some (.own a):=by
 obtain⟨d,z,ne,ob,mA,n,r,q⟩:=(show bO P w H h a (.ins C dx fs) from B a _ e)
 exact⟨mA,⟨ob,n,ne⟩,r,q,z,d⟩
end
structure Cls (K:j_) (C:Addr):Prop where
 pg:Hx K C Ir=true
 hd:Ht K C=true
 po:HP K C=true
 sa:y7 K (.ref C) "__setattr__" = some (some (.builtin "object.__setattr__"))
theorem Cls.get (c:Cls K C) (f:Str):Hx K C f=true:=c.pg
def bI (K:j_) (C:Addr) (f:Str):Prop:=y7 K (.ref C) f=some none
theorem bI.taker {f:Str} (n:bI K C f):takerIn K C f=some none:=by
 unfold takerIn;rw[show y7 K (.ref C) f=some none from n]
 rfl
structure aN (K:j_) (C:Addr) (m:Str) (f:Addr):Prop where
 at_:y7 K (.ref C) m=some (-f)
 fn:isFn K (.ref f)=true
 kp:v_ K (.ref f)=true
section
variable {X:Cx} {σ:St} {H:Hp} {fs:List (Str × V)} {f:Str} {v:V}
theorem wI {b:Bool} (I:Inv X pins σ H s) (e:H a=some (.ins C dx fs)) (c:Cls X.K C) (n:bI X.K C f) (l:fs.lookup f=some v)
  (h : ∀u s',Inv X pins σ H s'->bv v u->Q u s'):wpAny (model X.prog X.w) A (getAttr (.ref a) f b) Q E s:=by
 obtain⟨mA,O,r,_,_,_⟩:=nX I.hok e;obtain⟨u,F,B⟩:=iF.some_of (v:=v) (o:=mA f) (by rw[<- l];exact r f)
 exact BR I.kIn O (c.get f) c.hd n F (yn B) (h u _ (I.tok _) B)
theorem pN {m:Str} {g:Addr} {Q:Value × List Value->Shared->Prop} (I:Inv X pins σ H s) (e:H a=some (.ins C dx fs)) (c:Cls X.K C) (k:aN X.K C m g) (l:fs.lookup m=none)
  (h:Q (.ref g,[.ref a]) s):wpAny (model X.prog X.w) A (getMethod (.ref a) m pl) Q E s:=by
 obtain⟨mA,O,r,_,_,_⟩:=nX I.hok e;have B:mA m=none:=iF.none_of (by rw[<- l];exact r m)
 exact zt I.kIn O (c.get m) k.at_ k.fn B h
theorem vG {y:V} {Q:Unit->Shared->Prop} (I:Inv X pins σ H s) (e:H a=some (.ins C dx fs)) (c:Cls X.K C) (n:bI X.K C f) (hl:fs.length < 1000) (Z:bv y u)
  (h : ∀s',Inv X pins σ (upd H a (.ins C dx (cW f y fs))) s'->Q Unit.unit s'):wpAny (model X.prog X.w) A (setAttr (.ref a) f u) Q E s:=by
 obtain⟨mA,O,r,wi,_,F⟩:=nX I.hok e;have L:(fs.map (·.1)).length<=l_:=by rw[d_,sizeLine_eq];omega
 refine BN I.kIn O c.sa c.po n.taker c.hd wi L λh' B sb=>h _ ?_
 have hd : ∃o,h'.get? dx=some o:=let ⟨o,_,_,e',_⟩:=B.ns;⟨o,e'⟩
 refine I.write (x:=a) (e:=dx) (by rw[e];exact Gf) (.inr F) (λb q Y z=>(sb.2 b Y).trans z) hd ?_
 refine⟨by rw[ao O.ne];exact F,?_,O.ne,B.obj,_,B.ns,λg=>?_,λg hg=>?_⟩
 .have:=nk f y fs;omega
 .show iF ((cW f y fs).lookup g) (if g=f then some u else mA g)
  rw[cy]
  by_cases q:g=f
  .rw[if_pos q,if_pos q];exact Z
  .rw[if_neg q,if_neg q];exact r g
 .by_cases q:g=f
  .rw[q];exact(mL f y fs).1
  .refine(mL f y fs).2 g (wi g λz=>hg ?_)
   show(if g=f then some u else mA g)=none
   rw[if_neg q];exact z
theorem Inv.made (I:Inv X pins σ H s):Inv X pins σ (upd (upd H s.heap.objs.size (.own (s.heap.objs.size+1))) (s.heap.objs.size+1) (.ins C s.heap.objs.size []))
  { s with heap:=(s.heap.push HN).push (instObj C s.heap.objs.size) }:=by
 have e1:(s.heap.push HN).get? s.heap.objs.size=some HN:=k_ s.heap rfl
 have e2:((s.heap.push HN).push (instObj C s.heap.objs.size)).get? (s.heap.objs.size+1)=some (instObj C s.heap.objs.size):=by
  have:=k_ (s.heap.push HN) (o:=instObj C s.heap.objs.size) rfl
  rwa [FU] at this
 have L:(s.heap.push HN).Ns s.heap.objs.size (λ_=>none):=⟨HN,#[],_,e1,rfl,(λe Y=>absurd Y (by simp)),λ_=>rfl⟩
 have B:=I.laid (a:=s.heap.objs.size) (o:=.own (s.heap.objs.size+1)) (h':=s.heap.push HN) (t':=s.toks) (λb u q=>c_ _ q) (s_ _) ⟨_,e1⟩
 refine B.laid (a:=s.heap.objs.size+1) (o:=.ins C s.heap.objs.size []) (t':=s.toks) (λb u q=>c_ _ q) (le_of_eq (FU _ _)) ?_
 have ne:s.heap.objs.size≠s.heap.objs.size+1:=E_ (G8 _)
 refine⟨by rw[ao ne,ah],GR _,ne,e2,λ_=>none,(Heap.Ns1.of_empty L).at λo q=>c_ _ q,λ_=>Gf,λy F=>absurd rfl F⟩
theorem Bq {f:Str} (B:ID e f env (eval e env)=eval e env)
  (h:wpAny (model prog w) A (eval e env) (λo s₁=>wpAny (model prog w) A (getAttr o f true) Q E s₁) E s):wpAny (model prog w) A (eval (.Attribute e f pos) env) Q E s :=
 Attribute_any_ h (by rw[arm_eval_Attribute,B])
end
section
variable {X:Cx} {σ:St} {H:Hp} {c:Value} {b:Bool}
inductive mH (K:j_) (H:Hp):V->Value->Prop where
 | non:mH K H .non (.type "NoneType")
 | bl (x:Bool):mH K H (.bl x) (.type "bool")
 | int (i:Int):mH K H (.int i) (.type "int")
 | str (x:Str):mH K H (.str x) (.type "str")
 | flt (x:UInt64):mH K H (.flt x) (.type "float")
 | lst {a:Addr} {xs:List V} (e:H a*>xs):mH K H (.ref a) (.type "list")
 | frz {a:Addr} {o:Obj} {xs:List V} (e:H a=some (.frz o (.lst xs))):mH K H (.ref a) (.type "list")
 | tup {a:Addr} {xs:List V} (e:H a>>xs):mH K H (.ref a) (.type "tuple")
 | dK {a:Addr} {kvs:List (Key × V)} (e:H a<*kvs):mH K H (.ref a) (.type "dict")
 | dT {a:Addr} {kvs:List (List Key × V)} (e:H a=some (.dT kvs)):mH K H (.ref a) (.type "dict")
 | ins {a C dx:Addr} {fs:List (Str × V)} (e:H a=some (.ins C dx fs)) (cl:Cls K C) (ha:y7 K (.ref C) "__class__" = some (some (.builtin "object.__class__")))
   (hn:specialIn K (.builtin "object.__class__") "__get__" = some (some (.builtin "getset_descriptor.__get__"))) (htk:PySem.W.takesIn K (.builtin "object.__class__")=some true)
   (hm:PySem.W.mroIn K C (.type "object")=some true):mH K H (.ref a) (.ref C)
theorem yD {x:V} {t:Value} (I:Inv X pins σ H s) (B:bv x u) (ty:mH X.K H x t) (e:kitOne X.K t c=some b) (h : ∀tk,Q (.bool b) { s with toks:=tk }) :
  wpAny (model X.prog X.w) A (call (.builtin "isinstance") [u,c]) Q E s:=by
 cases ty with
 | non=>cases (show u=GA from B);exact Ig PySem.W.kitx_none I.kIn Gf e (λz=>nomatch z) h
 | bl y=>cases (show u=HQ y from B);exact Ig PySem.W.kitx_bool I.kIn Gf e (λz=>nomatch z) h
 | int i=>obtain⟨t,q⟩:=(show ∃t,u=Value.int i t from B);cases q;exact Ig PySem.W.kitx_int I.kIn Gf e (λz=>nomatch z) h
 | str y=>obtain⟨t,q⟩:=(show ∃t,u=Value.str y t from B);cases q;exact Ig PySem.W.kitx_str I.kIn Gf e (λz=>nomatch z) h
 | flt y=>obtain⟨t,q⟩:=(show ∃t,u=Value.float y t from B);cases q;exact Ig PySem.W.kitx_float I.kIn Gf e (λz=>nomatch z) h
 | @lst a xs ea =>
  cases (show u=y6 a from B)
  obtain⟨_,_,n,_,h1⟩:=(show bO X.prog X.w H s.heap a (.lst xs) from I.hok a _ ea)
  exact Ig kitx_list I.kIn ⟨_,h1,rfl⟩ e (λz=>nomatch z) h
 | @frz a ob xs ea =>
  cases (show u=y6 a from B)
  obtain⟨_,_,_,n,_,h1⟩:=(show bO X.prog X.w H s.heap a (.frz ob (.lst xs)) from I.hok a _ ea)
  exact Ig kitx_list I.kIn ⟨_,h1,rfl⟩ e (λz=>nomatch z) h
 | @tup a xs ea =>
  cases (show u=y6 a from B)
  obtain⟨_,_,_,p⟩:=(show bO X.prog X.w H s.heap a (.tup xs) from I.hok a _ ea)
  obtain⟨o,h1,h2,_⟩:=p;exact Ig PySem.W.kitx_tuple I.kIn ⟨o,h1,h2⟩ e (λz=>nomatch z) h
 | @dK a kvs ea =>
  cases (show u=y6 a from B)
  obtain⟨_,_,vs,_,p⟩:=(show bO X.prog X.w H s.heap a (.dK kvs) from I.hok a _ ea)
  obtain⟨o,es,F,h1,h2,_⟩:=p;exact Ig kitx_dict I.kIn ⟨o,h1,h2.1⟩ e (λz=>nomatch z) h
 | @dT a kvs ea =>
  cases (show u=y6 a from B)
  obtain⟨_,_,xs,_,o,es,F,h1,h2,_⟩:=(show bO X.prog X.w H s.heap a (.dT kvs) from I.hok a _ ea)
  exact Ig kitx_dict I.kIn ⟨o,h1,h2.1⟩ e (λz=>nomatch z) h
 | @ins a C dx fs ea cl ha hn htk hm =>
  cases (show u=y6 a from B)
  obtain⟨mA,O,_⟩:=nX I.hok ea;obtain⟨od,J,_⟩:=O.look;exact Ig (PySem.W.kitx_own (cl.get _) cl.hd ha hn htk hm) I.kIn J e (λz=>nomatch z) h
end
structure eJ (k:Nat) (A:Around):Prop where
 hd:A.handled=none
 dp:A.depth+3 * k+5 < recursionLimit
 un:A.units+16 * k+200 < cLine
theorem eJ.mono (r:eJ k A) (h:j<=k):eJ j A:=⟨r.hd,by have:=r.dp;omega,by have:=r.un;omega⟩
theorem eJ.deeper {k:Nat} {A:Around} (r:eJ (k+1) A) (env:Env):eJ k (A.deeper env) :=
 ⟨r.hd,by have:=r.dp;show A.depth+1+3 * k+5 < _;omega,by have:=r.un;show A.units+3+16 * k+200 < _;omega⟩
theorem wN:(A.under (.builtin "type.__call__" ⟨.ref C :: us,kw⟩)).depth=A.depth+1:=by
 first | rfl | simp[Around.under,Code.weight,Code.isCreation,Code.isGuard,Code.isCaller,Code.frames,Code.isFrame,guardIds]
theorem vz:(A.under (.builtin "type.__call__" ⟨.ref C :: us,kw⟩)).units=A.units+1:=by
 first | rfl | simp[Around.under,Code.cUnits,Code.frames,Code.isFrame]
theorem eJ.make (r:eJ (k+1) A) (C:Addr) (us:List Value) (kw:List (Str × Value)):eJ k (A.under (.builtin "type.__call__" ⟨.ref C :: us,kw⟩)) :=
 ⟨r.hd,by have:=r.dp;rw[wN];omega,by have:=r.un;rw[vz];omega⟩
theorem eJ.depth {k:Nat} {A:Around} (r:eJ k A):A.depth < recursionLimit:=by have:=r.dp;omega
theorem eJ.units {k:Nat} {A:Around} (r:eJ k A):A.units+64 < cLine:=by have:=r.un;omega
def vL:TA:=λ_ H Q=>Q [] H
def jQ (ta:TE) (B:TA):TA:=λσ H Q=>ta σ H λx H1=>B σ H1 λxs H2=>Q (x :: xs) H2
section
variable {X:Cx} {te:TE} {t:TA}
theorem ap:PA X [] vL:=λ_ _ _ _ H Q I h=>Ib ⟨[],H,I,.nil,h⟩
theorem af (ha:PE X e te) (hr:PA X es t) (hs:y9 (e :: es) X.env=(false,eval e X.env) :: y9 es X.env:=by rfl):PA X (e :: es) (jQ te t):=by
 intro pos pins s σ H Q I h;rw[hs]
 show wpAny _ _ (spliced ((false,eval e X.env) :: GS pos (y9 es X.env))) _ _ s
 refine HS (thn (ha pins s σ H _ I h) λu Y B=>?_)
 obtain⟨x,H1,I1,Z,q1⟩:=B;exact thn (hr pos pins Y σ H1 _ I1 q1) λus s2 F=>by obtain⟨xs,H2,I2,L,q2⟩:=F;exact(⟨x :: xs,H2,I2,.cons Z L,q2⟩)
def Cj (t:TA):TE:=λσ H Q=>t σ H λxs H1=>xs.length<=l_/\∀p,H1 p=none->Q (.ref p) (upd H1 p (.tup xs))
def BY (t:TA):TE:=λσ H Q=>t σ H λxs H1=>xs.length<=l_/\∀p,H1 p=none->Q (.ref p) (upd H1 p (.lst xs))
theorem cX {x1} (h:PA X es t):PE X (.Tuple es x1 pos) (Cj t):=by
 intro pins s σ H Q I F;refine wpAny_Tuple_spliced (thn (h pos pins s σ H _ I F) λus B ⟨xs,H1,I1,r,z,q⟩=>⟨by rw[<- r.length];exact z,?_⟩)
 have L:H1 B.heap.objs.size=none:=I1.hok.fresh (s_ _)
 refine⟨.ref B.heap.objs.size,upd H1 B.heap.objs.size (.tup xs),I1.laid (t':=B.toks) (λb u e=>c_ _ e) (s_ _) ?_,rfl,q _ L⟩
 exact⟨z,us,r,⟨_,k_ _ rfl,rfl,_,rfl⟩⟩
theorem dA (h:PA X es t):PE X (.List es pos) (BY t):=by
 intro pins s σ H Q I F;refine wpAny_List_spliced (thn (h pos pins s σ H _ I F) λus B ⟨xs,H1,I1,r,z,q⟩=>⟨by rw[<- r.length];exact z,?_⟩)
 have L:H1 B.heap.objs.size=none:=I1.hok.fresh (s_ _)
 refine⟨.ref B.heap.objs.size,upd H1 B.heap.objs.size (.lst xs),I1.laid (t':=B.toks) (λb u e=>c_ _ e) (s_ _) ?_,rfl,q _ L⟩
 exact⟨z,us,0,r,k_ _ rfl⟩
end
abbrev Sp:=List V->Hp->VK->XK->Prop
abbrev CXT:=List Env->Hp->Shared->XK->Value->Shared->Prop
structure wM (P:Program) (w:World) (K:j_) (mg:Str->Option Value) (base:Heap) (A:Around) (outer:List Env) (s:Shared) (H:Hp):Prop where
 frames:A.frames=some outer
 mod:Mod K mg base
 bs : ∀b o,base.get? b=some o->s.heap.get? b=some o/\H b=none
 bsz:base.objs.size<=s.heap.objs.size
 funs:s.heap.FunFrames base outer
 frf : ∀b∈frs outer,H b=none
 hok:HOk P w H s.heap
 bare:AllBare s.gens
def CE (outer:List Env) (P:Program) (w:World) (H:Hp) (s:Shared) (Q:VK) (u:Value) (s':Shared):Prop :=
 ∃v H',s'.os=s.os/\AllBare s'.gens/\Un (frs outer) [] H H' s.heap s'.heap/\HOk P w H' s'.heap/\bv v u/\Q v H'
def CR (CX:CXT) (outer:List Env) (P:Program) (w:World) (H:Hp) (s:Shared) (Q:VK) (E:XK) (r:Result) (s':Shared):Prop :=
 match r with
 | .ok (.ret u)=>CE outer P w H s Q u s'
 | .ok _=>False
 | .error e=>CX outer H s E e s'
structure iH (P:Program) (w:World) (K:j_) (mg:Str->Option Value) (base:Heap) (CX:CXT) (k:Nat) (f:Addr) (fd:FuncData) (ps:List Str) (sp:Sp):Prop where
 len : ∀vs H Q E,sp vs H Q E->vs.length=ps.length
 run : ∀(A:Around) (outer:List Env) (s:Shared) (H:Hp) (args:Args) (us:List Value) (vs:List V) (Q:VK) (E:XK),eJ k A->wM P w K mg base A outer s H->BindsTo s fd args (ps.zip us)->bu vs us->sp vs H Q E ->
  Ii (model P w) A (.call (.ref f) args) (CR CX outer P w H s Q E) s
theorem iH.mono {P:Program} {w:World} {K:j_} {mg:Str->Option Value} {base:Heap} {CX:CXT} {j k:Nat} {f:Addr} {fd:FuncData} {ps:List Str} {sp:Sp} (F:iH P w K mg base CX j f fd ps sp) (h:j<=k) :
  iH P w K mg base CX k f fd ps sp:=⟨F.len,λA outer s H args us vs Q E B=>F.run A outer s H args us vs Q E (B.mono h)⟩
theorem iH.imp {CX:CXT} {sp sp':Sp} (F:iH P w K mg base CX k f fd ps sp)
  (h : ∀vs H Q E,sp' vs H Q E->sp vs H Q E):iH P w K mg base CX k f fd ps sp' :=
 ⟨λvs H Q E q=>F.len vs H Q E (h _ _ _ _ q),λA outer s H args us vs Q E Y he L Z B=>F.run A outer s H args us vs Q E Y he L Z (h _ _ _ _ B)⟩
theorem wM.make {H:Hp} (e:wM P w K mg base A outer s H) (C:Addr) (us:List Value) (kw:List (Str × Value)) :
  wM P w K mg base (A.under (.builtin "type.__call__" ⟨.ref C :: us,kw⟩)) outer s H:=⟨by first | exact e.frames | (simpa [Around.under,Code.envs,Code.isFrame,pushEnvs] using e.frames),e.mod,e.bs,e.bsz,e.funs,e.frf,e.hok,e.bare⟩
section
variable {X:Cx} {σ:St} {H:Hp}
theorem Inv.env0 (I:Inv X pins σ H s):wM X.prog X.w X.K X.mg X.base X.A X.stack s H :=
 ⟨I.ok.frames,I.ok.mod,I.bs,w_ I.ok.bsz I.sz,I.stack,I.stkFree,I.hok,I.bare⟩
theorem Inv.after {Q:VK} (I:Inv X pins σ H s) (h:CE X.stack X.prog X.w H s Q u s'):EP X pins σ Q u s':=by
 obtain⟨v,H',os,B,un,F,r,q⟩:=h;obtain⟨Y,g,d,t,L⟩:=s';obtain rfl:L=s.os:=os
 exact⟨v,H',I.call (h':=Y) (g':=g) (d':=d) (t':=t) (ch:=[]) un F B (λb z=>absurd z (by simp)),r,q⟩
end
def tP (sp:Sp) (dvs:List V) (E:XK) (t:TA):TE:=λσ H Q=>t σ H λvs H1=>sp (vs++dvs) H1 Q E
def jc (K:j_) (fd:FuncData) (ps:List Str) (ds:List Value):Prop :=
 ∀(s:Shared) (us:List Value),K.In s.heap->(us++ds).length=ps.length->BindsTo s fd ⟨us,[]⟩ (ps.zip (us++ds))
theorem jc.all (h : ∀us:List Value,us.length=ps.length->bindArgs fd ⟨us,[]⟩=pure (ps.zip us)):jc K fd ps []:=λs us _ hl=>by
 rw[append_nil] at hl ⊢;exact .of_eq (h us hl)
def tE (CX:CXT) (X:Cx) (E:XK):Prop:=∀(pins:List (Addr × Obj)) (σ:St) (H:Hp) (s:Shared) (e:Value) (s':Shared),Inv X pins σ H s->CX X.stack H s E e s'->X.xe e s'
section
variable {X:Cx} {CX:CXT} {sp:Sp} {dvs:List V} {E:XK} {m:Str} {p:Pos} {o:Expr} {ta:TE} {t:TA}
theorem pi {σ:St} {H:Hp} {Q:VK} {vs:List V} (F:iH X.prog X.w X.K X.mg X.base CX k f fd ps sp) (hr:eJ k X.A) (Z:jc X.K fd ps ds) (hd:bu dvs ds) (hx:tE CX X E)
  (I:Inv X pins σ H s) (r:bu vs us) (h:sp (vs++dvs) H Q E):wpAny (model X.prog X.w) X.A (call (.ref f) us) (EP X pins σ Q) X.xe s:=by
 have L:bu (vs++dvs) (us++ds):=r.append hd
 have hl:(us++ds).length=ps.length:=by rw[<- L.length];exact F.len _ _ _ _ h
 refine wpAny_call (IR (F.run X.A X.stack s H ⟨us,[]⟩ (us++ds) (vs++dvs) Q E hr I.env0 (Z s us I.kIn hl) L h) λr s' B=>?_)
 cases r with
 | error e=>exact hx pins σ H s e s' I B
 | ok Y =>
  cases Y with
  | ret u=>exact I.after B
  | next=>exact G1 B
  | brk=>exact G1 B
  | cont=>exact G1 B
theorem Bk (F:iH X.prog X.w X.K X.mg X.base CX k f fd ps sp) (hr:eJ k X.A) (hg:Gl X x) (Y:X.mg x=-f) (Z:v_ X.K (.ref f)=true) (hb:jc X.K fd ps ds) (hd:bu dvs ds) (hx:tE CX X E)
  (ha:PA X (e :: es) t) (L:(x ==("__debug__" : Str))=false:=by decide) (he:y9 (e :: es) X.env=(false,eval e X.env) :: y9 es X.env:=by rfl) (B:(GS pos (y9 es X.env)).any (·.1)=false:=by rfl) :
  PE X (.Call (.Name x p) (e :: es) [] pos) (tP sp dvs E t):=by
 intro pins s σ H Q I h;refine GO (nU I hg Y ?_ L)
 refine callWith_K (h₀:=X.base) I.ok.mod.kin Z (thn (ha pos pins s σ H _ I h) λus s1 ⟨vs,H1,I1,r,q⟩=>⟨I1.kIn,?_⟩) he B
 exact pi F hr hb hd hx I1 r q
structure Mk (K:j_) (C f:Addr):Prop where
 makes:makesIn K C=true
 init:y7 K (.ref C) "__init__" = some (-f)
 fn:isFn K (.ref f)=true
 kp:v_ K (.ref C)=true
theorem zL {σ:St} {H:Hp} {Q:VK} {vs:List V} (M:Mk X.K C f) (F:iH X.prog X.w X.K X.mg X.base CX k f fd ps sp) (hr:eJ (k+1) X.A) (hb:jc X.K fd ps ds) (hd:bu dvs ds)
  (hx:tE CX X E) (I:Inv X pins σ H s) (r:bu vs us)
  (h : ∀x dx,H x=none->H dx=none->dx≠x->sp (.ref x ::(vs++dvs)) (upd (upd H dx (.own x)) x (.ins C dx [])) (λv H2=>v = .non/\Q (.ref x) H2) E) :
  wpAny (model X.prog X.w) X.A (call (.ref C) us) (EP X pins σ Q) X.xe s:=by
 have Z:=h (s.heap.objs.size+1) s.heap.objs.size (I.hok.fresh (le_succ _)) (I.hok.fresh (s_ _)) (E_ (G8 _));have L:=Inv.made (C:=C) I;have Y:bu (V.ref (s.heap.objs.size+1) ::(vs++dvs)) (y6 (s.heap.objs.size+1) ::(us++ds)):=.cons rfl (r.append hd)
 have hl:(y6 (s.heap.objs.size+1) :: us++ds).length=ps.length:=by
  have e:=Y.length;rw[F.len _ _ _ _ Z] at e;exact e.symm
 refine wpAny_call (Aq (f:=f) I.kIn M.makes M.init (beq_iff_eq.mp M.fn) (IR (F.run _ X.stack _ _ ⟨y6 (s.heap.objs.size+1) :: us,[]⟩ (y6 (s.heap.objs.size+1) ::(us++ds)) _ _ E (hr.make C us [])
  (L.env0.make C us []) (hb _ (y6 (s.heap.objs.size+1) :: us) L.kIn hl) Y Z) λr s' B=>?_))
 cases r with
 | error e=>exact hx pins σ _ _ e s' L B
 | ok fl =>
  cases fl with
  | ret u =>
   obtain⟨v,H',I3,rv,ev,q3⟩:=L.after B;subst ev;exact⟨rv,⟨V.ref (s.heap.objs.size+1),H',I3,rfl,q3⟩⟩
  | next=>exact G1 B
  | brk=>exact G1 B
  | cont=>exact G1 B
end
structure aH (N P:List Str) (sc:Scope):Prop where
 kind:sc.kind = .function
 co:sc.isCoroutine=false
 gen:sc.isGenerator=false
 nd:N.Nodup
 pre:N.take P.length=P
 par : ∀x∈P,sc.names.lookup x=some .local\/sc.names.lookup x=some .cell
 nofree : ∀y∈sc.names,y.2≠.free
theorem rA {B:Str->Option GP} {x:Str} : ∀{binds:List (Str × Value)} {m:Str->Option Value},(∀v,(x,v)∉binds)->bindL B binds m x=m x
 | [],_,_=>rfl
 | (n,v) :: r,m,h=>by
  unfold bindL;rw[rA λw F=>h w (zc _ F)]
  split
  .have:x≠n:=by rintro rfl;exact h v FT
   simp[this]
  .rfl
theorem qM {B:Str->Option GP} {x:Str} : ∀{binds:List (Str × Value)} {m:Str->Option Value},(∀v,(x,v)∉binds)->bindC B binds m x=m x
 | [],_,_=>rfl
 | (n,v) :: r,m,h=>by
  unfold bindC;rw[qM λw F=>h w (zc _ F)]
  split
  .rfl
  .have:x≠n:=by rintro rfl;exact h v FT
   simp[this]
theorem qY {B:Str->Option GP} {x:Str} {v:Value} : ∀{P:List Str} {vs:List Value} {i:Nat} {m:Str->Option Value},P.Nodup->P[i]? = some x->vs[i]? = some v->B x=some .local ->
  bindL B (P.zip vs) m x=some v
 | [],_,_,_,_,h,_,_=>by simp at h
 | _ :: _,[],_,_,_,_,h,_=>by simp at h
 | p :: P,w :: vs,0,m,nd,h1,h2,hk=>by
  simp at h1 h2;subst h1;subst h2
  show bindL B ((p,w) :: P.zip vs) m p=_
  unfold bindL;rw[rA λv F=>(FG.mp nd).1 (of_mem_zip F).1,if_pos hk]
  simp
 | p :: P,w :: vs,i+1,m,nd,h1,h2,hk=>by
  show bindL B ((p,w) :: P.zip vs) m x=_
  unfold bindL;exact qY (i:=i) (FG.mp nd).2 (by simpa using h1) (by simpa using h2) hk
theorem qR {B:Str->Option GP} {x:Str} {v:Value} : ∀{P:List Str} {vs:List Value} {i:Nat} {m:Str->Option Value},P.Nodup->P[i]? = some x->vs[i]? = some v->B x≠some .local ->
  bindC B (P.zip vs) m x=some v
 | [],_,_,_,_,h,_,_=>by simp at h
 | _ :: _,[],_,_,_,_,h,_=>by simp at h
 | p :: P,w :: vs,0,m,nd,h1,h2,hk=>by
  simp at h1 h2;subst h1;subst h2
  show bindC B ((p,w) :: P.zip vs) m p=_
  unfold bindC;rw[qM λv F=>(FG.mp nd).1 (of_mem_zip F).1,if_neg hk]
  simp
 | p :: P,w :: vs,i+1,m,nd,h1,h2,hk=>by
  show bindC B ((p,w) :: P.zip vs) m x=_
  unfold bindC;exact qR (i:=i) (FG.mp nd).2 (by simpa using h1) (by simpa using h2) hk
def iO (N:List Str) (vs:List V):St:=vs.map some++List.replicate (N.length - vs.length) none
def sj (CX:CXT) (P:Program) (w:World) (K:j_) (mg:Str->Option Value) (base:Heap) (N:List Str) (qual:Str) (scope:Scope) (f:Addr) (cd:Value) (A:Around) (outer:List Env) (s:Shared) (H:Hp) (E:XK):Cx where
 prog:=P
 w:=w
 K:=K
 mg:=mg
 base:=base
 A:=A.deeper (envOfC qual scope s.heap.objs.size f cd)
 N:=N
 s₀:=s
 H₀:=H
 env:=envOfC qual scope s.heap.objs.size f cd
 outer:=outer
 stack:=envOfC qual scope s.heap.objs.size f cd :: outer
 ex:=[]
 calm:=true
 fn:=λ_=>true
 pn:=[]
 xe:=λe s'=>wpAny (model P w) (A.deeper (envOfC qual scope s.heap.objs.size f cd)) (leaving (envOfC qual scope s.heap.objs.size f cd) e) (λ_ B=>CX outer H s E e B) (λF B=>CX outer H s E F B) s'
theorem uh (h:sc.names.lookup x=some .cell) : ∃c,(FZ n sc.names []).lookup x=some c:=by
 have q:=PySem.W.cellsFrom_some sc.names n [] (.inl h);exact Hn.mp q
theorem yH {CX:CXT} {Z:Shared} {H:Hp} {E:XK} {vs:List V}
  (S:aH N ps scope) (hd:A.handled=none) (B:wM P w K mg base A outer s H) (hl:vs.length=ps.length) (r:bu vs us)
  (x:InCallC s s.heap.objs.size (bindL (envOfC qual scope s.heap.objs.size f cd).kindOf (ps.zip us) λ_=>none) (FZ (s.heap.objs.size+1) scope.names []) (bindC (envOfC qual scope s.heap.objs.size f cd).kindOf (ps.zip us) λ_=>none) Z) :
  Inv (sj CX P w K mg base N qual scope f cd A outer s H E) [] (iO N vs) H Z:=by
 have aa:ps.length<=N.length:=by have:=congrArg List.length S.pre;rw[G6] at this;omega
 obtain⟨h1,tk,rfl,hk⟩:=x.done;have L : ∀b:Addr,b∉(sj CX P w K mg base N qual scope f cd A outer s H E).ex:=λb z=>absurd (show b∈([]:List Addr) from z) (by simp)
 refine⟨⟨B.mod,S.kind,rfl,rfl,s_ _,λy z c h1 h2=>?_,λy F=>?_,λy c _ h=>?_,λ_=>hd,Around.frames_deeper B.frames,.inr ⟨rfl,rfl⟩,λb z=>absurd z (L b),B.bs,B.bsz,λb _ _=>L b,λb z=>absurd z (L b),B.funs,B.frf⟩,
  rfl,B.bare,Un.kept hk,⟨_,x.toInCall.ns,λi y v h1 h2 h3=>?_⟩,λy c h=>⟨_,x.cell y c h⟩,B.hok.fresh (s_ _),λy c h=>?_,λp hp=>absurd (show p∈([]:List (Addr × Obj)) from hp) (by simp),B.hok.kept hk,?_⟩
 .exact name_of_addr x.apart (HF h1) (HF h2)
 .have F:scope.names.lookup y=some .cell\/scope.names.lookup y=some .free:=F
  rcases F with F | F
  .exact uh F
  .exact absurd rfl (S.nofree _ (HF F))
 .exact Hd (x.above y c (HF h))
 .have hi:i < vs.length:=by
   unfold iO at h2
   by_cases hi:i < vs.length
   .exact hi
   .rw[Gx (by simpa using hi)] at h2
    rw[List.getElem?_replicate] at h2
    split at h2 <;> cases h2
  have ha:vs[i]? = some v:=by
   unfold iO at h2;rw[Gn (by simpa using hi),f_] at h2
   cases e:vs[i]? with
   | none=>rw[e] at h2;cases h2
   | some a=>rw[e] at h2;cases h2;rfl
  obtain⟨u,hu,rv⟩:=r.get ha;have hp:ps[i]? = some y:=by
   rw[<- S.pre,List.getElem?_take_of_lt ()];exact h1
  have Y:ps.Nodup:=by rw[<- S.pre];exact S.nd.sublist (If _ _)
  refine⟨u,rv,?_⟩
  rcases S.par y (m_ hp) with k | k
  .exact .inl ⟨k,qY Y hp hu k⟩
  .obtain⟨c,e⟩:=uh (n:=s.heap.objs.size+1) k
   refine .inr ⟨.inl k,c,e,?_⟩
   have q:=x.cell y c e;rw[qR Y hp hu (by show scope.names.lookup y≠_;rw[k];decide)] at q
   exact q
 .exact B.hok.fresh (Hd (x.above y c (HF h)))
 .unfold iO
  show _=N.length
  rw[Gh,d_,List.length_replicate];omega
theorem El {CX:CXT} {dV kV:Value} {an:Option Addr}
   {sp:Sp} (lk:K.lookup f=some ⟨oc,od,.func (fnOf name qual params body scope dV kV doc pm an cdv ct),osl⟩) (ad:y_ K cdv qual=true) (S:aH N ps scope)
  (Y : ∀vs H Q E,sp vs H Q E->vs.length=ps.length)
  (F : ∀(A:Around) (outer:List Env) (s:Shared) (H:Hp) (vs:List V) (Q:VK) (E:XK),eJ k (A.deeper (envOfC qual scope s.heap.objs.size f cdv))->sp vs H Q E ->
   ∃t,PSs (sj CX P w K mg base N qual scope f cdv A outer s H E) body t/\t { nx:=λ_ H'=>Q .non H',rt:=Q } (iO N vs) H) :
  iH P w K mg base CX (k+1) f (fnOf name qual params body scope dV kV doc pm an cdv ct) ps sp:=by
 refine⟨Y,λA outer s H args us vs Q E hr Z hb r ab=>?_⟩
 have hl:=Y _ _ _ _ ab;have KX:K.In s.heap:=Z.mod.kin.keeps λb o e=>(Z.bs b o e).1
 have ac:s.heap.NoLimit:=Z.mod.nolimit.keeps λb o e=>(Z.bs b o e).1
 have B : ∀y∈ps.zip us,scope.names.lookup y.1=some .local\/(scope.names.lookup y.1=some .cell/\((FZ (s.heap.objs.size+1) scope.names []).lookup y.1).isSome=true):=λ⟨n,v⟩ hy=>by
  rcases S.par n (of_mem_zip hy).1 with q | q
  .exact .inl q
  .exact .inr ⟨q,PySem.W.cellsFrom_some _ _ _ (.inl q)⟩
 refine codeAny_call_function hr.depth (KX _ _ lk) rfl S.co S.gen rfl (PySem.W.codeRec_of KX ad) (hb _ _ _ _ ?_)
 refine wpAny_newFunctionEnv_cells S.kind B λenv he s1 x=>?_
 subst he;refine⟨ac.keeps x.toInCall.keep,codeAny_func ?_⟩
 obtain⟨t,ht,hq⟩:=F A outer s H vs Q E (hr.deeper _) ab;have I:Inv (sj CX P w K mg base N qual scope f cdv A outer s H E) [] (iO N vs) H s1:=yH S hr.hd Z hl r x
 refine G0 (ht [] s1 (iO N vs) H _ I hq) (λfl s' L=>?_) λe s' L=>L
 have aa : ∀{σ':St} {H':Hp} {v:V} {u:Value},Inv (sj CX P w K mg base N qual scope f cdv A outer s H E) [] σ' H' s'->bv v u->Q v H'->CE outer P w H s Q u s' :=
  λ{σ' H' v u} J rv q=>⟨v,H',J.os,J.bare,J.base,J.hok,rv,q⟩
 cases fl with
 | ret u =>
  obtain⟨v,σ',H',J,rv,q⟩:=L;exact aa J rv q
 | next =>
  obtain⟨σ',H',J,q⟩:=L;exact aa (v:=V.non) (u:=GA) J rfl q
 | brk =>
  obtain⟨_,_,_,q⟩:=L;exact G1 q
 | cont =>
  obtain⟨_,_,_,q⟩:=L;exact G1 q
section
variable {X:Cx} {p:Pos} {t:TA} {id T:String} {r:List V->Hp->VK->Prop}
def tCB (r:List V->Hp->VK->Prop) (t:TA):TE:=λσ H Q=>t σ H λvs H1=>r vs H1 Q
theorem aM (hc:cA X (.builtin id) r) (Y:X.mg x=none) (ha:PA X (e :: es) t) (hg:Gl X x:=by exact rfl) (hv:GN x=some (.builtin id):=by decide+kernel) (hn:x ≠ "__name__" := by decide) (L:(x ==("__debug__" : Str))=false:=by decide)
  (he:y9 (e :: es) X.env=(false,eval e X.env) :: y9 es X.env:=by rfl) (B:(GS pos (y9 es X.env)).any (·.1)=false:=by rfl):PE X (.Call (.Name x p) (e :: es) [] pos) (tCB r t):=by
 intro pins s σ H Q I h;refine GO (gL I hg Y hv ?_ hn L)
 exact PyProof.Rows.callWith_builtin1 (thn (ha pos pins s σ H _ I h) λus Z F=>by obtain⟨vs,H1,I1,r1,q1⟩:=F;exact(hc pins Z σ H1 vs us Q I1 r1 q1)) he B
theorem bL (hc:cA X (.type T) r) (Y:X.mg x=none) (ha:PA X (e :: es) t) (hg:Gl X x:=by exact rfl) (hv:GN x=some (.type T):=by decide+kernel) (hn:x ≠ "__name__" := by decide) (L:(x ==("__debug__" : Str))=false:=by decide)
  (he:y9 (e :: es) X.env=(false,eval e X.env) :: y9 es X.env:=by rfl) (F:(GS pos (y9 es X.env)).any (·.1)=false:=by rfl):PE X (.Call (.Name x p) (e :: es) [] pos) (tCB r t):=by
 intro pins s σ H Q I h;refine GO (gL I hg Y hv ?_ hn L)
 exact F8 (thn (ha pos pins s σ H _ I h) λus Z B=>by obtain⟨vs,H1,I1,r1,q1⟩:=B;exact(hc pins Z σ H1 vs us Q I1 r1 q1)) he F
end
end L2
variable {CX:L2.CXT} {Cs:List (PySem.Addr × L2.Sp)} {D:L2.nE} {H H' H1 H2:L2.Hp} {J:L2.It} {X:L2.Cx} {dvs vs xs zs:List L2.V} {fs fs':List (HK × L2.V)} {kvs kvs':List (L2.Key × L2.V)} {o o' u0:L2.HO} {r r':L2.V->Option Int->Option Int->L2.Hp->L2.VK->Prop} {sp sp':L2.Sp} {ta tb td te to tv ty:L2.TE} {tc:L2.TT} {trs:List (L2.TE × L2.TE)} {vb:List (L2.Key × He)} {wi:L2.TI} {y:L2.V} {σ σ0:L2.St} {σ':List (Option L2.V)}
namespace HT
open PySem PyProof.Rows
theorem cat_tup {t:Addr} {vs ws:List Value} (ht:IsTup s.heap t vs.toArray) (hb:IsTup s.heap b ws.toArray) (hv:vs≠[])
  (h1:ws=[]->Q (.ref t) s) (h2:ws≠[]->Q (.ref s.heap.objs.size) { s with heap:=s.heap.push { cls:=.type "tuple",data:=.seq (vs++ws).toArray } })
  (hsz:vs.length+ws.length<=l_):wpAny (model prog w) A (G_ .Add (.ref t) (.ref b)) Q E s:=by
 obtain⟨⟨cls,dd,data,sl⟩,ho,hc,n,hd⟩:=id ht;obtain⟨⟨ac,L,ab,Z⟩,B,Y,n2,aa⟩:=id hb;simp only at hc hd Y aa;subst hc hd Y aa;have e:vs.toArray++ws.toArray=(vs++ws).toArray:=by simp
 by_cases hw:ws=[]
 .exact concat_meets ⟨_,ho,rfl⟩ ⟨_,B,rfl⟩ noFill_tuple_add seq_tuple_add PySem.F.slot_tuple_add PySem.F.entry_tuple_add (PySem.F.args_tuple_add_2 _ _)
   (tuple_addW1 t b vs.toArray ws.toArray n n2 dd L sl Z (by simpa using hv) (by simp[hw])) ⟨ho,B,h1 hw⟩
 .refine concat_meets ⟨_,ho,rfl⟩ ⟨_,B,rfl⟩ noFill_tuple_add seq_tuple_add PySem.F.slot_tuple_add PySem.F.entry_tuple_add (PySem.F.args_tuple_add_2 _ _)
   (tuple_addW2 t b vs.toArray ws.toArray n n2 dd L sl Z (by simpa using hv) (by simpa using hw) (by rw[y4,y4];exact hsz)) ⟨ho,B,?_⟩
  rw[e];exact h2 hw
def sIx (n d:Nat):Option Int->Nat
 | none=>d
 | some v=>if v < 0 then(v+(n:Int)).toNat else min v.toNat n
theorem sIx_none (n d:Nat):sIx n d none=d:=rfl
theorem sIx_nat (n d k:Nat):sIx n d (some (k:Int))=min k n:=by
 show(if (k:Int) < 0 then((k:Int)+(n:Int)).toNat else min (k:Int).toNat n)=min k n
 rw[if_neg (),Ic]
theorem sIx_le (n d:Nat) (F:d<=n) (o:Option Int):sIx n d o<=n:=by
 cases o with
 | none=>exact F
 | some v =>
  show(if v < 0 then(v+(n:Int)).toNat else min v.toNat n)<=n
  by_cases B:v < 0
  .rw[if_pos B];omega
  .rw[if_neg B];exact Nat.min_le_right _ _
theorem wT (v:Int) (n d:Nat):(if v < 0 then max (v+(n:Int)) 0 else min v (n:Int))=((sIx n d (some v):Nat):Int):=by
 show(if v < 0 then max (v+(n:Int)) 0 else min v (n:Int))=(((if v < 0 then(v+(n:Int)).toNat else min v.toNat n):Nat):Int)
 by_cases B:v < 0
 .simp only[if_pos B];omega
 .simp only[if_neg B];omega
theorem vv (lo hi:Option Int) (n:Nat):Builtin.Slice.sliceAdjust lo hi 1 (n:Int)=(((sIx n 0 lo:Nat):Int),((sIx n n hi:Nat):Int)):=by
 have h1 : ¬ ((1:Int) < 0):=()
 unfold Builtin.Slice.sliceAdjust;simp only[h1,if_false];refine Prod.ext ?_ ?_
 .cases lo with
  | none=>rfl
  | some v=>exact wT v n 0
 .cases hi with
  | none=>rfl
  | some v=>exact wT v n n
theorem vV (i j:Nat):Hr (i:Int) (j:Int) 1=j - i:=by
 unfold Hr;have h1:(1:Int) > 0:=()
 simp only[h1,if_true,Int.ediv_one]
 split <;> omega
theorem oW {v:Value} {o:Option Int} {Q:Option Int->Shared->Prop} (p:IsPart v o) (h:Q o s):wpAny (model prog w) A (Builtin.Slice.slicePartIndex v) Q E s:=by
 cases p with
 | none=>exact slicePart_none h
 | int i t=>exact slicePart_int h
theorem im {lo:Option Int} {Q:Int × Int × Nat->Shared->Prop} (Y:s.heap.IsSliceOf sl vl vu .none) (pl:IsPart vl lo) (Z:IsPart vu hi)
  (h:Q (((sIx n 0 lo:Nat):Int),1,sIx n n hi - sIx n 0 lo) s):wpAny (model prog w) A (Builtin.Slice.sliceApplied (.ref sl) (pure (n:Int))) Q E s:=by
 obtain⟨os,F,L,B⟩:=id Y;unfold Builtin.Slice.sliceApplied Builtin.Slice.sliceFields;refine a_ (a_ (D_ F B (x:=vl) rfl (a_ (D_ F B (x:=vu) rfl (a_ (D_ F B (x:=.none) rfl (ee ?_)))))))
 refine a_ (slicePart_none ?_)
 show wpAny _ _ (if ((1:Int) == 0)=true then _ else _) _ _ s
 rw[if_neg ∅]
 refine a_ (oW pl (a_ (oW Z (a_ (ee ?_)))))
 show wpAny _ _ (match Builtin.Slice.sliceAdjust lo hi 1 (n:Int) with | (lo,hi)=>pure (lo,(1:Int),Hr lo hi 1)) _ _ s
 rw[vv lo hi n]
 show wpAny _ _ (pure (((sIx n 0 lo:Nat):Int),(1:Int),Hr ((sIx n 0 lo:Nat):Int) ((sIx n n hi:Nat):Int) 1)) _ _ s
 rw[vV];exact ee h
theorem zF (xs:Array Value) (i k:Nat):((range k).filterMap λ(m:Nat)=>xs[((i:Int)+(m:Int) * 1).toNat]?).toArray=((xs.toList.drop i).take k).toArray:=by
 have e:(λ(m:Nat)=>xs[((i:Int)+(m:Int) * 1).toNat]?)=λm=>xs[i+m]? := by
  funext m
  have:((i:Int)+(m:Int) * 1).toNat=i+m:=()
  rw[this]
 rw[e];have:=pick_run xs i k
 rw[List.filterMap_map] at this;have e2:((λx=>xs[x]?) ∘ λx=>i+x)=λm=>xs[i+m]? := rfl
 rw[e2] at this;rw[this]
theorem getItem_tuple_cut {t:Addr} {lo:Option Int} (F:IsTup s.heap t items) (hs:s.heap.IsSliceOf sl vl vu .none) (pl:IsPart vl lo) (pu:IsPart vu hi)
  (hw : ¬ (sIx items.size 0 lo=0/\sIx items.size items.size hi=items.size))
  (h:Q (.ref s.heap.objs.size) { s with heap:=s.heap.push { cls:=.type "tuple",data:=.seq ((items.toList.drop (sIx items.size 0 lo)).take (sIx items.size items.size hi - sIx items.size 0 lo)).toArray } })
  (hsz:items.size<=l_):wpAny (model prog w) A (getItem (.ref t) (.ref sl)) Q E s:=by
 have B:sizeOk (.seq ((items.toList.drop (sIx items.size 0 lo)).take (sIx items.size items.size hi - sIx items.size 0 lo)).toArray):=by
  show((items.toList.drop (sIx items.size 0 lo)).take (sIx items.size items.size hi - sIx items.size 0 lo)).toArray.size<=l_
  rw[y4,G6,HX,GY];omega
 have hj:sIx items.size items.size hi<=items.size:=sIx_le _ _ (s_ _) hi
 obtain⟨os,Z,L,ab⟩:=id hs;have aa:s.TypeIs (.ref sl) "slice" :=⟨os,Z,L⟩
 unfold getItem
 try with_reducible refine Gy ?_
 first | refine a_ (ee ?_) | skip
 refine a_ (wpAny_sequenceKey F.typeIs ∅ ?_)
 refine a_ (FS (name:=b_ "__getitem__") F.typeIs Gw
  (FW Gw F.typeIs entry_tuple_getitem ?_ (args_tuple_getitem _ _)))
 show wpAny _ _ (Builtin.Tuple.tupleItemsOf (.ref t) >>= _) _ _ s
 refine a_ (tupleItemsOf_ F ?_)
 refine a_ (IS aa ?_)
 rw[if_pos ∅]
 refine a_ (im hs pl pu ?_)
 have Y : ¬ ((((sIx items.size 0 lo:Nat):Int) == 0 && (1:Int) == 1 && (sIx items.size items.size hi - sIx items.size 0 lo) == items.size)=true):=by
  intro q;rw[B_,B_] at q;have q1:((sIx items.size 0 lo:Nat):Int)=0:=eq_of_beq q.1.1
  have q2:sIx items.size items.size hi - sIx items.size 0 lo=items.size:=eq_of_beq q.2
  exact hw ⟨(),()⟩
 show wpAny _ _ (if (((sIx items.size 0 lo:Nat):Int) == 0 && (1:Int) == 1 && (sIx items.size items.size hi - sIx items.size 0 lo) == items.size)=true then _ else _) _ _ s
 rw[if_neg Y,zF]
 first
  | exact a_ (m:=Hy _) (GB (ee ⟨_,rfl,ee h⟩) B)
  | exact a_ (m:=Hy _) (GB (a_ (ee (ee ⟨_,rfl,ee h⟩))) B)
  | exact a_ (a_ (m:=Hy _) (GB (ee (ee ⟨_,rfl,ee h⟩)) B))
  | exact a_ (a_ (m:=Hy _) (GB (ee ⟨_,rfl,ee h⟩) B))
end HT
namespace L2
open PySem PySem.Spec PyProof.Rows
abbrev TO:=St->Hp->(Option Int->Hp->Prop)->Prop
def PO (X:Cx) (e:Option Expr) (t:TO):Prop :=
 ∀ (pins:List (Addr × Obj)) (s:Shared) (σ:St) (H:Hp) (Q:Option Int->Hp->Prop),Inv X pins σ H s->t σ H Q ->
  wpAny (model X.prog X.w) X.A (evalPart e X.env) (λu s'=>∃o H',Inv X pins σ H' s'/\IsPart u o/\Q o H') X.xe s
def kW:TO:=λ_ H Q=>Q none H
def uI (t:TE):TO:=λσ H Q=>t σ H λx H1=>∃i,x = .int i/\Q (some i) H1
theorem eZ : ∀{us:List Value},bu (ns.map V.int) us->IT us ns:=by
 induction ns with
 | nil=>intro us r;rw[map_nil] at r;cases r;exact .nil
 | cons n ns B =>
  intro us r;rw[y3] at r;cases r with
  | cons F L =>
   obtain⟨t,e⟩:=F;subst e;exact .cons n t (B L)
section
variable {lo hi:Option Expr} {tl th:TO}
theorem dJ:PO X none kW:=by
 intro pins s σ H Q I h;rw[evalPart_none];exact ee ⟨none,H,I,.none,h⟩
theorem dr (h:PE X e te):PO X (some e) (uI te):=by
 intro pins s σ H Q I F;rw[evalPart_some];refine thn (h pins s σ H _ I F) λu s1 B=>?_
 obtain⟨x,H1,Y,L,Z⟩:=B;obtain⟨i,rfl,q⟩:=Z;obtain⟨t,rfl⟩:=L;exact⟨some i,H1,Y,.int i t,q⟩
def SlR (X:Cx) (r:V->Option Int->Option Int->Hp->VK->Prop):Prop :=
 ∀ (pins:List (Addr × Obj)) (s:Shared) (σ:St) (H:Hp) (x:V) (v vl vu:Value) (lo hi:Option Int) (sl:Addr) (Q:VK),Inv X pins σ H s->bv x v->s.heap.IsSliceOf sl vl vu .none->IsPart vl lo->IsPart vu hi->r x lo hi H Q ->
  ∃T id,Iy (.type T) "__getitem__" = pure (some (.builtin id))/\s.TypeIs v T/\wpAny (model X.prog X.w) X.A (getItem v (.ref sl)) (EP X pins σ Q) X.xe s
def tSl (r:V->Option Int->Option Int->Hp->VK->Prop) (te:TE) (tl th:TO):TE:=λσ H Q=>te σ H λx H1=>tl σ H1 λl H2=>th σ H2 λu B=>r x l u B Q
theorem cJ (hr:SlR X r) (he:PE X e te) (hl:PO X lo tl) (hu:PO X hi th):PE X (.Subscript e (.Slice lo hi none p2) pos) (tSl r te tl th):=by
 intro pins s σ H Q I h;refine Subscript_ (thn (he pins s σ H _ I h) λv s1 L=>?_)
 obtain⟨x,H1,I1,r1,q1⟩:=L;refine wpAny_Slice (thn (hl pins s1 σ H1 _ I1 q1) λvl s2 ⟨l,H2,I2,pl,q2⟩=>thn (hu pins s2 σ H2 _ I2 q2) λvu B F=>?_)
 obtain⟨u,Y,I3,pu,q3⟩:=F;rw[evalPart_none];refine ee ?_
 have I4:Inv X pins σ Y { B with heap:=B.heap.push { cls:=.type "slice",data:=.fields #[vl,vu,.none] } }:=I3.kept (t':=B.toks) λb ob q=>c_ _ q
 obtain⟨T,id,hT,Z,hg⟩:=hr pins { B with heap:=B.heap.push { cls:=.type "slice",data:=.fields #[vl,vu,.none] } } σ Y x v vl vu l u B.heap.objs.size Q I4 r1 (Heap.IsSliceOf.new ..) pl pu q3
 show wpAny (model X.prog X.w) X.A (subscriptTail e (.Slice lo hi none p2) v (.ref B.heap.objs.size)) (EP X pins σ Q) X.xe { B with heap:=B.heap.push { cls:=.type "slice",data:=.fields #[vl,vu,.none] } }
 exact tail_any (ops:=[.ref B.heap.objs.size,v]) Z hT hg (by with_unfolding_all rfl)
def gP (xs:List V) (lo hi:Option Int):List V:=(xs.drop (HT.sIx xs.length 0 lo)).take (HT.sIx xs.length xs.length hi - HT.sIx xs.length 0 lo)
theorem nc (xs:List V) (lo hi:Option Int):(gP xs lo hi).length<=xs.length:=by
 unfold gP;rw[G6,HX];omega
def FK (K:j_):V->Option Int->Option Int->Hp->VK->Prop:=λx lo hi H Q=>∃a xs,x = .ref a/\SqT K H a xs /\
 ¬ (HT.sIx xs.length 0 lo=0/\HT.sIx xs.length xs.length hi=xs.length)/\∀p,H p=none->Q (.ref p) (upd H p (.tup (gP xs lo hi)))
theorem DE:SlR X (FK X.K):=by
 intro pins s σ H x v vl vu lo hi sl Q I rx hs pl Z h;obtain⟨a,xs,rfl,hx,Y,q⟩:=h;cases rx;obtain⟨its,r,F,L⟩:=I.tuple hx;have B:its.toArray.size=xs.length:=by rw[y4];exact r.length.symm
 refine⟨"tuple",_,Gw.lookup,F.typeIs,?_⟩
 refine HT.getItem_tuple_cut F hs pl Z (by rw[B];exact Y) ?_ (by rw[B];exact L)
 rw[B];refine⟨.ref s.heap.objs.size,_,I.laid (t':=s.toks) (o:=.tup (gP xs lo hi)) (λb ob q=>c_ _ q) (s_ _) ?_,rfl,q _ (I.hok.fresh (s_ _))⟩
 exact⟨w_ (nc xs lo hi) L,_,(r.drop (HT.sIx xs.length 0 lo)).take (HT.sIx xs.length xs.length hi - HT.sIx xs.length 0 lo),IsTup.new _ _⟩
def Ev (K:j_):R2:=λx y H Q=>∃a b xs ys,x = .ref a/\y = .ref b/\SqT K H a xs/\SqT K H b ys/\xs≠[]/\xs.length+ys.length<=l_ /\
 (ys=[]->Q (.ref a) H)/\(ys≠[]->∀p,H p=none->Q (.ref p) (upd H p (.tup (xs++ys))))
theorem bu.nil_iff (r:bu xs us):us=[]↔xs=[]:=by
 cases r with
 | nil=>simp
 | cons _ _=>simp
theorem BG:OpR X (G_ .Add) (Ev X.K):=by
 intro pins s σ H x y v u Q I rx ry h;obtain⟨a,b,xs,ys,rfl,rfl,ha,Z,hx,L,q1,q2⟩:=h;cases rx;cases ry;obtain⟨its,F,p1,_⟩:=I.tuple ha;obtain⟨Y,B,p2,_⟩:=I.tuple Z;refine HT.cat_tup p1 p2 (λz=>hx (F.nil_iff.mp z)) (λz=>⟨.ref a,H,I,rfl,q1 (B.nil_iff.mp z)⟩) (λz=>?_) (by rw[<- F.length,<- B.length];exact L)
 refine⟨.ref s.heap.objs.size,_,I.laid (t':=s.toks) (o:=.tup (xs++ys)) (λb ob q=>c_ _ q) (s_ _) ?_,rfl,q2 (λw=>z (B.nil_iff.mpr w)) _ (I.hok.fresh (s_ _))⟩
 exact⟨by rw[Gh];exact L,_,F.append B,IsTup.new _ _⟩
end
def ixN (n:Nat) (i:Int):Option Nat:=if 0<=i then(if i < n then some i.toNat else none) else if -(n:Int)<=i then some (i+n).toNat else none
def atI {α:Type} (xs:List α) (i:Int):Option α:=(ixN xs.length i).bind λj=>xs[j]?
theorem BS {i:Int} (h:ixN n i=some j):seqIndex? i n=some j/\j < n/\-(n:Int)<=i/\i < n:=by
 unfold ixN at h
 by_cases B:0<=i
 .rw[if_pos B] at h
  by_cases h1:i < n
  .rw[if_pos h1] at h
   have e:i.toNat=j:=h_ h
   exact⟨by rw[seqIndex_of B h1,e],(),(),h1⟩
  .rw[if_neg h1] at h;cases h
 .rw[if_neg B] at h
  by_cases h1 : -(n:Int)<=i
  .rw[if_pos h1] at h
   have e:(i+n).toNat=j:=h_ h
   exact⟨by rw[seqIndex_neg () h1,e],(),h1,()⟩
  .rw[if_neg h1] at h;cases h
theorem tG {xs:List α} {i:Int} {v:α} (h:atI xs i=some v) : ∃j,seqIndex? i xs.length=some j/\xs[j]? = some v/\j < xs.length/\-(xs.length:Int)<=i/\i < xs.length:=by
 unfold atI at h;cases e:ixN xs.length i with
 | none=>rw[e] at h;cases h
 | some j =>
  rw[e] at h;obtain⟨h1,h2,F,B⟩:=BS e;exact⟨j,h1,h,h2,F,B⟩
theorem da {xs:List α} {v:α} (h:xs[j]? = some v):atI xs (j:Int)=some v:=by
 have B:j < xs.length:=(p_.mp h).1
 have e:ixN xs.length (j:Int)=some j:=by
  unfold ixN;rw[if_pos (),if_pos ()];simp
 unfold atI;rw[e];exact h
theorem oI (xs:List α) (v:α):atI (xs++[v]) (-1)=some v:=by
 have hl:(xs++[v]).length=xs.length+1:=by simp
 have e:ixN (xs++[v]).length (-1)=some xs.length:=by
  unfold ixN;rw[hl,if_neg ∅,if_pos ()]
  congr 1
  omega
 unfold atI;rw[e]
 show(xs++[v])[xs.length]? = some v
 simp
def xp (b:Expr):Prop:=∀o i,subscripted b false o i=operate [o,i] (getItem o i)
def IxR (X:Cx) (r:R2):Prop :=
 ∀ (value B:Expr) (pins:List (Addr × Obj)) (s:Shared) (σ:St) (H:Hp) (x y:V) (v u:Value) (Q:VK),Inv X pins σ H s->bv x v->bv y u->r x y H Q ->
  subscripted B false v u=operate [v,u] (getItem v u)->wpAny (model X.prog X.w) X.A (subscriptTail value B v u) (EP X pins σ Q) X.xe s
def MtR (X:Cx) (id:String) (r:V->List V->Hp->VK->Prop):Prop :=
 ∀ (pins:List (Addr × Obj)) (s:Shared) (σ:St) (H:Hp) (x:V) (xs:List V) (v:Value) (us:List Value) (Q:VK),Inv X pins σ H s->bv x v->bu xs us->r x xs H Q ->
  wpAny (model X.prog X.w) X.A (call (.builtin id) (v :: us)) (EP X pins σ Q) X.xe s
section
variable {a b:Expr}
theorem aK {r:R2} (hr:IxR X r) (ha:PE X a ta) (Y:PE X b tb) (L:xp b:=by exact λ_ _=>rfl):PE X (.Subscript a b pos) (tOp r ta tb):=by
 intro pins s σ H Q I h;exact Subscript_ (Dt ha Y I h λv u F x y H2 B Z ry q=>hr a b pins F σ H2 x y v u Q B Z ry q (L _ _))
def FO (K:j_):R2:=λx y H Q=>∃p xs i v,x = .ref p/\y = .int i/\SqL K H p xs/\atI xs i=some v/\Q v H
def EM (K:j_):R2:=λx y H Q=>∃p xs i v,x = .ref p/\y = .int i/\SqT K H p xs/\atI xs i=some v/\Q v H
def EV:R2:=λx y H Q=>∃z i c,x = .str z/\y = .int i/\z.length<=l_/\atI z.cps.toList i=some c/\Q (.str ⟨#[c]⟩) H
theorem Cm:IxR X (FO X.K):=by
 intro value F pins s σ H x y v u Q I rx ry h Z;obtain⟨p,xs,i,z,rfl,rfl,hq,he,q⟩:=h;cases rx;obtain⟨t,rfl⟩:=ry;obtain⟨its,r,pl,hz⟩:=I.list hq;obtain⟨j,h1,h2,h3,h4,h5⟩:=tG he;obtain⟨w,Y,L⟩:=r.get h2;have hl:=r.length;have hn:=mz;have B:EP X pins σ Q w s:=⟨z,H,I,L,q⟩
 by_cases h0:0<=i
 .have hj:i.toNat=j:=by
   rw[seqIndex_of h0 h5] at h1;exact h_ h1
  exact item_listR pl.isList h0 () (by rw[hj];simpa using Y) B Z
 .have hj:(i+(its.toArray.size:Int)).toNat=j:=by
   rw[seqIndex_neg () h4] at h1
   rw[y4,<- hl];exact h_ h1
  exact subscriptTail_builtinR (x:=w) pl.isList.typeIs slot_list_getitem.lookup
   (wpAny_getItem_list_neg (Q:=λr s'=>r=w/\EP X pins σ Q r s') pl.isList () (by rw[y4] <;> omega) () (by rw[hj];simpa using Y) ⟨rfl,B⟩) Z
theorem DI:IxR X (EM X.K):=by
 intro value B pins s σ H x y v u Q I rx ry h hs;obtain⟨p,xs,i,z,rfl,rfl,Z,he,q⟩:=h;cases rx;obtain⟨t,rfl⟩:=ry;obtain⟨its,r,pl,hz⟩:=I.tuple Z;obtain⟨j,h1,h2,h3,h4,h5⟩:=tG he;obtain⟨w,Y,F⟩:=r.get h2;have hl:=r.length;have hn:=mz;have L:EP X pins σ Q w s:=⟨z,H,I,F,q⟩
 exact subscriptTail_builtinR (x:=w) pl.typeIs slot_tuple_getitem.lookup
  (getItem_tuple (j:=j) (Q:=λr s'=>r=w/\EP X pins σ Q r s') pl () () (by rw[y4,<- hl];exact h1) (by simpa using Y) ⟨rfl,L⟩) hs
theorem Dw:IxR X EV:=by
 intro value B pins s σ H x y v u Q I Y ry h L;obtain⟨z,i,c,rfl,rfl,hz,he,q⟩:=h;obtain⟨t,rfl⟩:=Y;obtain⟨t',rfl⟩:=ry;obtain⟨j,h1,h2,h3,F,Z⟩:=tG he;have hl:z.cps.toList.length=z.length:=by simp[Str.length]
 rw[hl] at h1 F Z;have hn:=mz;exact tail_any (typeIs_str s z t) slot_str_getitem.lookup (getItem_str (c:=c) (by
  have e1:decide (i < -(2 ^ 63:Int))=false:=decide_eq_false ()
  have e2:decide (i >= 2 ^ 63)=false:=decide_eq_false ()
  rw[e1,e2,Bool.or_false]) (by rw[h1];simpa using h2) ⟨.str ⟨#[c]⟩,H,I.tok _,⟨_,rfl⟩,q⟩) L
theorem sO (lo hi:Option Int) (n:Nat):(IF lo hi none n).1=((HT.sIx n 0 lo:Nat):Int)/\(IF lo hi none n).2.1=((HT.sIx n n hi:Nat):Int)/\(IF lo hi none n).2.2=1:=by
 refine⟨?_,?_,rfl⟩
 .cases lo with
  | none=>simp[IF,HT.sIx]
  | some i =>
   simp only[IF,HT.sIx,getD_none,show(1:Int) > 0 by decide,if_true]
   by_cases h:i < 0
   .simp only[h,if_true] <;> omega
   .simp only[h,if_false] <;> omega
 .cases hi with
  | none=>simp[IF,HT.sIx]
  | some i =>
   simp only[IF,HT.sIx,getD_none,show(1:Int) > 0 by decide,if_true]
   by_cases h:i < 0
   .simp only[h,if_true] <;> omega
   .simp only[h,if_false] <;> omega
theorem pZ (its:List Value) (lo hi:Option Int):slicePick its.toArray lo hi none=((its.drop (HT.sIx its.length 0 lo)).take (HT.sIx its.length its.length hi - HT.sIx its.length 0 lo)).toArray:=by
 obtain⟨h1,h2,B⟩:=sO lo hi its.toArray.size;unfold slicePick;rw[h1,h2,B];simp only[sliceRange_one,pick_run,y4] <;> rfl
def EX (K:j_):V->Option Int->Option Int->Hp->VK->Prop:=λx lo hi H Q=>∃a xs,x = .ref a/\SqL K H a xs/\∀p,H p=none->Q (.ref p) (upd H p (.lst (gP xs lo hi)))
theorem xH:SlR X (EX X.K):=by
 intro pins s σ H x v vl vu lo hi sl Q I rx Z pl L h;obtain⟨a,xs,rfl,hx,q⟩:=h;cases rx;obtain⟨its,r,F,Y⟩:=I.list hx;have B:=r.length;refine⟨"list",_,slot_list_getitem.lookup,F.isList.typeIs,?_⟩
 refine wpAny_getItem_list_slice F.isList Z pl L .none (by simp) ?_ (by rw[y4] <;> omega)
 rw[pZ,<- B];refine⟨.ref s.heap.objs.size,_,I.laid (t':=s.toks) (o:=.lst (gP xs lo hi)) (λb ob q=>c_ _ q) (s_ _) ?_,rfl,q _ (I.hok.fresh (s_ _))⟩
 exact⟨w_ (nc xs lo hi) Y,_,0,(r.drop (HT.sIx xs.length 0 lo)).take (HT.sIx xs.length xs.length hi - HT.sIx xs.length 0 lo),k_ _ rfl⟩
def gH:V->Bool
 | .non=>true
 | .bl _=>true
 | .int _=>true
 | .str _=>true
 | _=>false
def eqV:V->V->Bool
 | .non,.non=>true
 | .bl a,.bl b=>a == b
 | .bl a,.int b=>(if a then 1 else 0) == b
 | .int a,.bl b=>a ==(if b then 1 else 0)
 | .int a,.int b=>a == b
 | .str a,.str b=>a == b
 | _,_=>false
theorem Dq {x:V} {v:Value} (F:bv y u) (B:bv x v) (Y:gH y=true) (L:gH x=true):SeqAt.EqAt A s u v (eqV y x):=by
 cases y with
 | non =>
  cases F;cases x with
  | non=>cases B;exact SeqAt.EqAt.same _
  | bl b=>cases B;exact SeqAt.EqAt.none_bool b
  | int b=>obtain⟨t,rfl⟩:=B;exact SeqAt.EqAt.none_int b t
  | str b=>obtain⟨t,rfl⟩:=B;exact SeqAt.EqAt.none_str b t
  | _=>exact absurd (show false=true from L) x_
 | bl a =>
  cases F;cases x with
  | non=>cases B;exact SeqAt.EqAt.bool_none a
  | bl b=>cases B;exact SeqAt.EqAt.bool_bool a b
  | int b=>obtain⟨t,rfl⟩:=B;exact SeqAt.EqAt.bool_int a b t
  | str b=>obtain⟨t,rfl⟩:=B;exact SeqAt.EqAt.bool_str a b t
  | _=>exact absurd (show false=true from L) x_
 | int a =>
  obtain⟨t',rfl⟩:=F;cases x with
  | non=>cases B;exact SeqAt.EqAt.int_none a t'
  | bl b=>cases B;exact SeqAt.EqAt.int_bool a t' b
  | int b=>obtain⟨t,rfl⟩:=B;exact SeqAt.EqAt.int_int a t' b t
  | str b=>obtain⟨t,rfl⟩:=B;exact SeqAt.EqAt.int_str a t' b t
  | _=>exact absurd (show false=true from L) x_
 | str a =>
  obtain⟨t',rfl⟩:=F;cases x with
  | non=>cases B;exact SeqAt.EqAt.str_none a t'
  | bl b=>cases B;exact SeqAt.EqAt.str_bool a t' b
  | int b=>obtain⟨t,rfl⟩:=B;exact SeqAt.EqAt.str_int a t' b t
  | str b=>obtain⟨t,rfl⟩:=B;exact SeqAt.EqAt.str_str a t' b t
  | _=>exact absurd (show false=true from L) x_
 | _=>exact absurd (show false=true from Y) x_
def eqU (x:V) (u:Value):Bool:=match u with
 | .none=>eqV .non x
 | .bool b=>eqV (.bl b) x
 | .int i _=>eqV (.int i) x
 | .str z _=>eqV (.str z) x
 | _=>false
theorem yJ {x:V} (r:bv y u) (f:gH y=true):eqU x u=eqV y x:=by
 cases y with
 | non=>cases r;rfl
 | bl b=>cases r;rfl
 | int i=>obtain⟨t,rfl⟩:=r;rfl
 | str z=>obtain⟨t,rfl⟩:=r;rfl
 | _=>exact absurd (show false=true from f) x_
theorem lj {x:V} : ∀{xs:List V} {us:List Value},bu xs us->xs.all gH=true->us.any (eqU x)=xs.any λy=>eqV y x
 | _,_,.nil,_=>rfl
 | y :: xs,u :: us,.cons r t,f=>by
  rw[List.all_cons,B_] at f;rw[any_cons,any_cons,yJ r f.1,lj t f.2]
theorem jm {A:Around} {s:Shared} {x:V} {v:Value} (L:bv x v) (F:gH x=true) : ∀{xs:List V} {us:List Value},bu xs us->xs.all gH=true->∀u∈us,SeqAt.EqAt A s u v (eqU x u)
 | _,_,.nil,_=>λu B=>by cases B
 | y :: xs,u :: us,.cons r t,f=>λY B=>by
  rw[List.all_cons,B_] at f;rcases u_.mp B with rfl | B
  .rw[yJ r f.1];exact Dq r L f.1 F
  .exact jm L F t f.2 Y B
def inV (x:V) (xs:List V):Bool:=xs.any λy=>eqV y x
def rIn (K:j_) (B:Bool):R2:=λx y H Q=>∃p xs,y = .ref p/\(SqL K H p xs\/SqT K H p xs)/\gH x=true/\xs.all gH=true/\Q (.bl (if B then !inV x xs else inV x xs)) H
theorem qN:OpR X (Gi .In) (rIn X.K false):=by
 intro pins s σ H x y v u Q I Y Z h;obtain⟨p,xs,rfl,B,L,fs,q⟩:=h;cases Z;rcases B with B | B
 .obtain⟨its,r,pl,hz⟩:=I.list B
  refine SeqAt.in_listAt (eqU x) pl.isList (λw F=>jm Y L r fs w (by simpa using F)) ⟨.bl _,H,I,rfl,?_⟩
  rw[show its.toArray.any (eqU x)=its.any (eqU x) by simp,lj r fs]
  exact q
 .obtain⟨its,r,pl,hz⟩:=I.tuple B
  refine SeqAt.in_tupleAt (eqU x) pl (λw F=>jm Y L r fs w (by simpa using F)) ⟨.bl _,H,I,rfl,?_⟩
  rw[show its.toArray.any (eqU x)=its.any (eqU x) by simp,lj r fs]
  exact q
theorem rL:OpR X (Gi .NotIn) (rIn X.K true):=by
 intro pins s σ H x y v u Q I Y Z h;obtain⟨p,xs,rfl,B,L,fs,q⟩:=h;cases Z;rcases B with B | B
 .obtain⟨its,r,pl,hz⟩:=I.list B
  refine SeqAt.notIn_listAt (eqU x) pl.isList (λw F=>jm Y L r fs w (by simpa using F)) ⟨.bl _,H,I,rfl,?_⟩
  rw[show its.toArray.any (eqU x)=its.any (eqU x) by simp,lj r fs]
  exact q
 .obtain⟨its,r,pl,hz⟩:=I.tuple B
  refine SeqAt.notIn_tupleAt (eqU x) pl (λw F=>jm Y L r fs w (by simpa using F)) ⟨.bl _,H,I,rfl,?_⟩
  rw[show its.toArray.any (eqU x)=its.any (eqU x) by simp,lj r fs]
  exact q
theorem kS:cA X (.builtin "len") (λxs H Q=>∃p ys,xs=[.ref p]/\(SqL X.K H p ys\/SqT X.K H p ys)/\Q (.int ys.length) H):=by
 intro pins s σ H xs us Q I r h;obtain⟨p,ys,rfl,F,q⟩:=h;obtain⟨u,rfl,L⟩:=eB r;cases L;have Y:=mz;rcases F with F | F
 .obtain⟨its,r',pl,hz⟩:=I.list F
  have B:=r'.length;exact Calls.call_len_list pl.isList (by simp only[y4] <;> omega) ⟨.int ys.length,H,I.tok _,⟨s.toks+1,by rw[y4,B]⟩,q⟩
 .obtain⟨its,r',pl,hz⟩:=I.tuple F
  have B:=r'.length;exact len_tuple pl (by simp only[y4] <;> omega) ⟨.int ys.length,H,I.tok _,⟨s.toks+1,by rw[y4,B]⟩,q⟩
theorem tK:cA X (.builtin "len") (λxs H Q=>∃z,xs=[.str z]/\z.length<=l_/\Q (.int z.length) H):=by
 intro pins s σ H xs us Q I r h;obtain⟨z,rfl,F,q⟩:=h;obtain⟨u,rfl,t,rfl⟩:=eB r;have B:=mz;exact len_str () ⟨.int z.length,H,I.tok _,⟨_,rfl⟩,q⟩
theorem tf:cA X (.type "list") (λxs H Q=>∃p ys,xs=[.ref p]/\(SqL X.K H p ys\/SqT X.K H p ys)/\∀l,H l=none->Q (.ref l) (upd H l (.lst ys))):=by
 intro pins s σ H xs us Q I r h;obtain⟨p,ys,rfl,Y,q⟩:=h;obtain⟨u,rfl,rx⟩:=eB r;cases rx;have Z : ∀(its:List Value),bu ys its->ys.length<=l_->∀(h':Heap) (B:Nat),(∀b o',s.heap.get? b=some o'->h'.get? b=some o') ->
   h'.get? s.heap.objs.size=some { cls:=.type "list",dict:=none,data:=.seq its.toArray B,slots := #[] }->EP X pins σ Q (.ref s.heap.objs.size) { s with heap:=h' }:=λits r' L h' B kp e =>
  ⟨.ref s.heap.objs.size,_,I.laid (t':=s.toks) kp (s_ _) (show bO X.prog X.w _ h' _ (.lst ys) from⟨L,its,B,r',e⟩),rfl,q _ (I.hok.fresh (s_ _))⟩
 rcases Y with Y | Y
 .obtain⟨its,r',pl,L⟩:=I.list Y
  have F:=r'.length;obtain⟨o,ho,hc,n,hd⟩:=pl.isList;exact call_list_seq p (.inl rfl) ho hc hd (λh' B kp e=>Z its r' L h' B kp e) (by simp only[y4] <;> omega)
 .obtain⟨its,r',pl,L⟩:=I.tuple Y
  have F:=r'.length;obtain⟨o,ho,hc,n,hd⟩:=pl;exact call_list_seq p (.inr rfl) ho hc hd (λh' B kp e=>Z its r' L h' B kp e) (by simp only[y4] <;> omega)
theorem qc:cA X (.type "tuple") (λxs H Q=>∃p ys,xs=[.ref p]/\((SqL X.K H p ys/\∀l,H l=none->Q (.ref l) (upd H l (.tup ys)))\/(SqT X.K H p ys/\Q (.ref p) H))):=by
 intro pins s σ H xs us Q I r h;obtain⟨p,ys,rfl,h⟩:=h;obtain⟨u,rfl,Z⟩:=eB r;cases Z;rcases h with⟨B,q⟩ | ⟨B,q⟩
 .obtain⟨its,r',pl,hz⟩:=I.list B
  have F:=r'.length;refine call_tuple_list pl.isList (λh' kp=>?_) (by simp only[y4] <;> omega)
  have L:Inv X pins σ H { s with heap:=h' }:=I.kept (t':=s.toks) kp
  have Y:Inv X pins σ (upd H h'.objs.size (.tup ys)) { s with heap:=h'.push { cls:=.type "tuple",data:=.seq its.toArray } } :=
   L.laid (t':=s.toks) (λb o e=>c_ _ e) (s_ _) (show bO X.prog X.w _ _ _ (.tup ys) from⟨hz,its,r',IsTup.new _ _⟩)
  exact⟨.ref h'.objs.size,_,Y,rfl,q _ (L.hok.fresh (s_ _))⟩
 .obtain⟨its,r',pl,hz⟩:=I.tuple B
  exact call_tuple_same pl ⟨.ref p,H,I,rfl,q⟩
def tyV (K:j_) (T:String) (x:V) (H:Hp):Prop:=match x with
 | .str _=>T = "str"
 | .int _=>T = "int"
 | .ref p=>(T = "list"/\∃xs,SqL K H p xs)\/(T = "tuple"/\∃o,K.lookup p=some o/\o.cls = .type "tuple" /\ o.dict=none) \/
   (T = "dict" /\((∃kvs,H p<*kvs)\/∃kvs,H p=some (.dT kvs)))\/(T = "set"/\∃S n,H p=some (.set S n))
 | _=>False
theorem vI {T:String} {x:V} {v:Value} (I:Inv X pins σ H s) (r:bv x v) (ty:tyV X.K T x H) :
  s.TypeIs v T/\∀a,v = .ref a->∃ob,s.heap.get? a=some ob/\ob.dict=none:=by
 cases x with
 | str z =>
  obtain⟨t,rfl⟩:=r;cases (show T = "str" from ty)
  exact⟨typeIs_str s z t,λ_ e=>nomatch e⟩
 | int i =>
  obtain⟨t,rfl⟩:=r;cases (show T = "int" from ty)
  exact⟨typeIs_int s i t,λ_ e=>nomatch e⟩
 | ref p =>
  cases r;rcases ty with⟨rfl,xs,L⟩ | ⟨rfl,o,B,hc,F⟩ | ⟨rfl,B⟩ | ⟨rfl,S,n,B⟩
  .obtain⟨its,_,pl,_⟩:=I.list L
   refine⟨pl.isList.typeIs,λa e=>?_⟩
   cases e;obtain⟨o,n,e,c,F,_⟩:=pl;exact⟨o,e,F⟩
  .refine⟨⟨o,I.kIn p o B,hc⟩,λa e=>?_⟩
   cases e;exact⟨o,I.kIn _ o B,F⟩
  .have z : ∃o,s.heap.get? p=some o/\o.ExactDict:=by
    rcases B with⟨kvs,B⟩ | ⟨kvs,B⟩
    .obtain⟨_,_,_,_,o,_,_,e,ex,_⟩:=I.hok p _ B
     exact⟨o,e,ex⟩
    .obtain⟨_,_,_,_,o,_,_,e,ex,_⟩:=I.hok p _ B
     exact⟨o,e,ex⟩
   obtain⟨o,e,ex⟩:=z;refine⟨⟨o,e,ex.1⟩,λa e2=>?_⟩
   cases e2;exact⟨o,e,ex.2.1⟩
  .obtain⟨o,_,_,_,e,ex,_⟩:=I.hok p _ B
   refine⟨⟨o,e,ex.1⟩,λa e2=>?_⟩
   cases e2;exact⟨o,e,ex.2.1⟩
 | _=>exact G1 ty
variable {o:Expr} {t:TA} {T id:String} {r:V->List V->Hp->VK->Prop}
end
def MtM (X:Cx) (id:String) (r:V->List V->Hp->VK->Prop):Prop :=
 ∀ (pins:List (Addr × Obj)) (s:Shared) (σ:St) (H:Hp) (x:V) (xs:List V) (v:Value) (us:List Value) (Q:VK),Inv X pins σ H s->bv x v->bu xs us->r x xs H Q ->
  wpAny (model X.prog X.w) X.A (call (.builtin id) (v :: us)) (EP X pins σ Q) X.xe s
theorem bu.one : ∀{x:V} {us:List Value},bu [x] us->∃u,us=[u]/\bv x u
 | _,_,.cons r .nil=>⟨_,rfl,r⟩
theorem bu.zero : ∀{us:List Value},bu [] us->us=[]
 | _,.nil=>rfl
theorem bu.dropLast {xs:List V} {us:List Value} (h:bu xs us):bu xs.dropLast us.dropLast:=by
 induction h with
 | nil=>exact .nil
 | cons r t B =>
  cases t with
  | nil=>exact .nil
  | cons q t'=>exact .cons r B
theorem bu.eraseIdx : ∀{xs:List V} {us:List Value} (i:Nat),bu xs us->bu (xs.eraseIdx i) (us.eraseIdx i)
 | _,_,_,.nil=>.nil
 | _,_,0,.cons _ t=>t
 | _,_,i+1,.cons r t=>.cons r (bu.eraseIdx i t)
theorem bu.reverse {xs:List V} {us:List Value} (h:bu xs us):bu xs.reverse us.reverse:=by
 induction h with
 | nil=>exact .nil
 | cons r t B=>rw[List.reverse_cons,List.reverse_cons];exact bu.append B (.cons r .nil)
theorem wL (l:List α):l.eraseIdx (l.length - 1)=l.dropLast:=by
 induction l with
 | nil=>rfl
 | cons a r B =>
  cases r with
  | nil=>rfl
  | cons b r =>
   have e:(a :: b :: r).length - 1=((b :: r).length - 1)+1:=by
    have h1:(a :: b :: r).length=r.length+2:=rfl
    have h2:(b :: r).length=r.length+1:=rfl
    omega
   rw[e,List.eraseIdx_cons_succ,B]
   all_goals rfl
theorem qP {α:Type} : ∀(l:List α) (i:Nat),(l.eraseIdx i).length<=l.length
 | [],_=>s_ _
 | _ :: _,0=>le_succ _
 | _ :: r,i+1=>Nat.succ_le_succ (qP r i)
section
variable {ys:List V}
theorem Inv.lset {its':List Value} {f:Array Value->Array Value} (I:Inv X pins σ H s) (B:H l*>xs)
  (e:s.heap.get? l=some { cls:=.type "list",data:=.seq its.toArray n }) (Y:f its.toArray=its'.toArray) (L:bu ys its') (Z:ys.length<=l_) :
  Inv X pins σ (upd H l (.lst ys)) { s with heap:=s.heap.update l (GI f),toks:=t' }:=by
 have q:=PySem.IsL.update e f;rw[Y] at q;refine I.write (x:=l) (e:=l) (by rw[B];exact trivial) (.inl rfl) (λb' u F hu=>(GW s.heap (GI f) (Gp F)).trans hu) ⟨_,q⟩ ?_
 exact⟨Z,its',_,L,q⟩
theorem Inv.lnew (I:Inv X pins σ H s) (B:bu ys its) (F:ys.length<=l_) :
  Inv X pins σ (upd H s.heap.objs.size (.lst ys)) { s with heap:=s.heap.push { cls:=.type "list",data:=.seq its.toArray },toks:=t' } :=
 I.laid (λ_ _ q=>c_ _ q) (s_ _) ⟨F,its,0,B,k_ _ rfl⟩
theorem Inv.fresh (I:Inv X pins σ H s):H s.heap.objs.size=none:=I.hok.fresh (s_ _)
theorem Inv.lstM (I:Inv X pins σ H s) (B:H l*>xs):xs.length<=l_/\∃(its:List Value) (n:Nat),bu xs its/\xs.length=its.length/\s.heap.get? l=some { cls:=.type "list",data:=.seq its.toArray n }:=by
 obtain⟨z,its,n,r,e⟩:=I.hok l _ B;exact⟨z,its,n,r,r.length,e⟩
end
def Bc:V->List V->Hp->VK->Prop:=λx vs H Q=>∃l xs y,x = .ref l/\vs=[y]/\H l*>xs/\xs.length < l_/\Q .non (upd H l (.lst (xs++[y])))
theorem ri:MtM X "list.append" Bc:=by
 intro pins s σ H x vs v us Q I Y Z h;obtain⟨l,xs,y,rfl,rfl,B,hz,q⟩:=h;cases Y;obtain⟨u,rfl,L⟩:=Z.one;obtain⟨z,its,n,r,hl,e⟩:=I.lstM B;refine call_meets F.slot_list_append ⟨_,e,rfl⟩ F.entry_list_append (F.args_list_append_2 _ _) (PySem.list_append l its.toArray n u (by rw[y4];omega)) ⟨e,?_⟩
 refine⟨.non,_,I.lset (its':=its++[u]) B e (by simp) (r.append (.cons L .nil)) ?_,rfl,q⟩
 rw[Gh,List.length_singleton];omega
def ED:V->List V->Hp->VK->Prop:=λx vs H Q=>∃l xs y,x = .ref l/\vs=[]/\H l*>xs/\xs[xs.length - 1]? = some y/\Q y (upd H l (.lst xs.dropLast))
theorem Dz:MtM X "list.pop" ED:=by
 intro pins s σ H x vs v us Q I rx rv h;obtain⟨l,xs,y,rfl,rfl,Y,hy,q⟩:=h;cases rx;have B:=rv.zero;subst B;obtain⟨z,its,n,r,hl,e⟩:=I.lstM Y;obtain⟨u,hu,Z⟩:=r.get hy;have L:its.toArray[its.toArray.size - 1]? = some u:=by
  show its.toArray[its.length - 1]? = some u
  rw[<- Array.getElem?_toList,<- hl];exact hu
 refine call_meets F.slot_list_pop ⟨_,e,rfl⟩ F.entry_list_pop (F.args_list_pop_1 _) (MeetsSeq.list_pop_last l its.toArray n u L (by rw[y4];omega)) ⟨e,?_⟩
 refine⟨y,_,I.lset (its':=its.dropLast) Y e ?_ r.dropLast ?_,Z,q⟩
 .show its.toArray.eraseIdxIfInBounds (its.toArray.size - 1)=its.dropLast.toArray
  rw[y4,List.eraseIdxIfInBounds_toArray,wL]
 .rw[List.length_dropLast]
  omega
def Do:V->List V->Hp->VK->Prop:=λx vs H Q=>∃l xs i k y,x = .ref l/\vs=[.int i]/\H l*>xs/\-(2 ^ 63)<=i/\i < 2 ^ 63/\seqIndex? i xs.length=some k/\xs[k]? = some y/\Q y (upd H l (.lst (xs.eraseIdx k)))
theorem Ax:MtM X "list.pop" Do:=by
 intro pins s σ H x vs v us Q I rx rv h;obtain⟨l,xs,i,k,y,rfl,rfl,L,h1,h2,hk,hy,q⟩:=h;cases rx;obtain⟨u,rfl,Z⟩:=rv.one;obtain⟨t,rfl⟩:=Z;obtain⟨z,its,n,r,hl,e⟩:=I.lstM L;obtain⟨w,Y,B⟩:=r.get hy;refine call_meets F.slot_list_pop ⟨_,e,rfl⟩ F.entry_list_pop (F.args_list_pop_2 _ _)
  (MeetsSeq.list_pop_at l its.toArray n i t k w (fitsIndex_both h1 h2) (by rw[y4,<- hl];exact hk) (by rw[<- Array.getElem?_toList];exact Y) (by rw[y4];omega)) ⟨e,?_⟩
 refine⟨y,_,I.lset (its':=its.eraseIdx k) L e ?_ (r.eraseIdx k) ?_,B,q⟩
 .show its.toArray.eraseIdxIfInBounds k=(its.eraseIdx k).toArray
  rw[List.eraseIdxIfInBounds_toArray]
 .have:=qP xs k
  omega
def EZ:R2:=λx y H Q=>∃l b xs zs,x = .ref l/\y = .ref b/\H l*>xs/\H b*>zs/\xs.length+zs.length<=l_/\∀p,H p=none->Q (.ref p) (upd H p (.lst (xs++zs)))
theorem Dj:OpR X (G_ .Add) EZ:=by
 intro pins s σ H x y v u Q I rx ry h;obtain⟨l,b,xs,zs,rfl,rfl,Z,hB,hz,q⟩:=h;cases rx;cases ry;obtain⟨z,its,n,r,hl,e⟩:=I.lstM Z;obtain⟨z2,B,n2,F,L,e2⟩:=I.lstM hB;refine PySem.P.add_list e e2 ?_ (by rw[y4,y4];omega)
 have Y:its.toArray++B.toArray=(its++B).toArray:=by simp
 rw[Y];exact⟨.ref _,_,I.lnew (t':=s.toks) (r.append F) (by rw[Gh];omega),rfl,q _ I.fresh⟩
section
variable [DecidableEq κ]
def bY (kvs:List (κ × V)) (k:κ):Option V:=(kvs.find? λB=>decide (B.1=k)).map (·.2)
def bE (kvs:List (κ × V)) (k:κ) (v:V):List (κ × V) :=
 if (kvs.any λB=>decide (B.1=k))=true then kvs.map (λB=>if B.1=k then(B.1,v) else B) else kvs++[(k,v)]
theorem gg {k:κ}:bY ([]:List (κ × V)) k=none:=rfl
theorem bN {p:κ × V} {r:List (κ × V)} {k:κ} (e:p.1=k):bY (p :: r) k=some p.2:=by simp[bY,Hq,e]
theorem bb {p:κ × V} {r:List (κ × V)} {k:κ} (e : ¬ p.1=k):bY (p :: r) k=bY r k:=by simp[bY,Hq,e]
theorem gQ (k:κ) : ∀kvs:List (κ × V),(kvs.any λB=>decide (B.1=k))=(bY kvs k).isSome
 | []=>rfl
 | p :: r=>by
  rw[any_cons]
  by_cases e:p.1=k
  .simp only[bN e,decide_eq_true e,Bool.true_or,isSome_some]
  .rw[bb e,decide_eq_false e,Bool.false_or];exact gQ k r
theorem uA (k j:κ) (y:V) : ∀kvs:List (κ × V),bY (kvs.map λB=>if B.1=k then(B.1,y) else B) j=(bY kvs j).map λx=>if j=k then y else x
 | []=>rfl
 | p :: r=>by
  have F:=uA k j y r;rw[y3]
  by_cases h:p.1=k
  .rw[if_pos h]
   by_cases e:p.1=j
   .rw[bN (p:=(p.1,y)) e,bN e,Iv,if_pos (e.symm.trans h)]
   .rw[bb (p:=(p.1,y)) e,bb e,F]
  .rw[if_neg h]
   by_cases e:p.1=j
   .rw[bN (p:=p) e,bN e,Iv,if_neg (λz=>h (e.trans z))]
   .rw[bb (p:=p) e,bb e,F]
theorem qG (k j:κ) (y:V) : ∀kvs:List (κ × V),bY kvs k=none->bY (kvs++[(k,y)]) j=if j=k then some y else bY kvs j
 | [],_=>by
  by_cases e:k=j
  .rw[if_pos e.symm];exact bN (p:=(k,y)) e
  .rw[if_neg (λz=>e z.symm)];exact bb (p:=(k,y)) e
 | p :: r,hn=>by
  rw[cons_append];have B : ¬ p.1=k:=λz=>by rw[bN z] at hn;cases hn
  rw[bb B] at hn;have F:=qG k j y r hn
  by_cases e:p.1=j
  .rw[bN e,bN e,if_neg (λz=>B (e.trans z))]
  .rw[bb e,bb e,F]
theorem jb (kvs:List (κ × V)) (k j:κ) (y:V):bY (bE kvs k y) j=if j=k then some y else bY kvs j:=by
 unfold bE
 by_cases a:(kvs.any λB=>decide (B.1=k))=true
 .rw[if_pos a,uA]
  rw[gQ] at a
  by_cases e:j=k
  .obtain⟨x,hx⟩:=Hn.mp a
   rw[if_pos e,e,hx,Iv,if_pos rfl]
  .rw[if_neg e]
   cases bY kvs j with
   | none=>rfl
   | some x=>rw[Iv,if_neg e]
 .rw[if_neg a]
  refine qG k j y kvs ?_
  rw[gQ] at a;cases q:bY kvs k with
  | none=>rfl
  | some x=>rw[q] at a;exact(a rfl).elim
theorem du (kvs:List (κ × V)) (k:κ) (v:V):(bE kvs k v).length<=kvs.length+1:=by
 unfold bE
 split
 .rw[d_];omega
 .rw[Gh,GG,length_nil];omega
theorem gj {kvs:List (κ × V)} {k:κ} (v:V) (h:bY kvs k=none):bE kvs k v=kvs++[(k,v)]:=by
 unfold bE;rw[gQ,h];exact if_neg ∅
theorem iF.isSome_eq {o:Option V} {u:Option Value} (r:iF o u):o.isSome=u.isSome:=by
 cases o with
 | none=>cases u with
  | none=>rfl
  | some _=>exact(show False from r).elim
 | some _=>cases u with
  | none=>exact(show False from r).elim
  | some _=>rfl
theorem iF.getD {o:Option V} {u:Option Value} {d:V} {d':Value} (r:iF o u) (B:bv d d'):bv (o.getD d) (u.getD d'):=by
 cases o with
 | none=>cases u with
  | none=>exact B
  | some _=>exact(show False from r).elim
 | some _=>cases u with
  | none=>exact(show False from r).elim
  | some _=>exact r
theorem KV.val {kvs:List (κ × V)} {vs:List (κ × Value)} (r:KV kvs vs) (k:κ):iF (bY kvs k) (valueAt vs k):=by
 unfold KV at r
 induction r with
 | nil=>exact Gf
 | @cons p q ps qs h t ih =>
  obtain⟨h1,h2⟩:=h
  by_cases e:p.1=k
  .have e':q.1=k:=h1.symm.trans e
   have b:valueAt (q :: qs) k=some q.2:=by simp[valueAt,Hq,e']
   rw[bN e,b];exact h2
  .have e' : ¬ q.1=k:=λz=>e (h1.trans z)
   have b:valueAt (q :: qs) k=valueAt qs k:=by simp[valueAt,Hq,e']
   rw[bb e,b];exact ih
theorem KV.any {kvs:List (κ × V)} {vs:List (κ × Value)} (r:KV kvs vs) (k:κ):(kvs.any λB=>decide (B.1=k))=vs.any λB=>decide (B.1=k):=by
 unfold KV at r
 induction r with
 | nil=>rfl
 | cons h t F=>rw[any_cons,any_cons,F,h.1]
theorem KV.repl {kvs:List (κ × V)} {vs:List (κ × Value)} (r:KV kvs vs) (k:κ) {y:V} {u:Value} (F:bv y u) :
  KV (kvs.map λB=>if B.1=k then(B.1,y) else B) (vs.map λB=>if B.1=k then(B.1,u) else B):=by
 unfold KV at r ⊢
 induction r with
 | nil=>exact .nil
 | @cons p q ps qs h t ih =>
  rw[y3,y3];refine .cons ?_ ih
  obtain⟨h1,h2⟩:=h
  by_cases e:p.1=k
  .rw[if_pos e,if_pos (h1.symm.trans e)];exact⟨h1,F⟩
  .rw[if_neg e,if_neg (λz=>e (h1.trans z))];exact⟨h1,h2⟩
theorem KV.put {kvs:List (κ × V)} {vs:List (κ × Value)} (r:KV kvs vs) (k:κ) {y:V} {u:Value} (B:bv y u):KV (bE kvs k y) (stored vs k u):=by
 unfold bE stored;rw[r.any k]
 by_cases e:(vs.any λF=>decide (F.1=k))=true
 .rw[if_pos e,if_pos e];exact r.repl k B
 .rw[if_neg e,if_neg e];exact Paired.snoc r ⟨rfl,B⟩
theorem KV.keys {kvs:List (κ × V)} {vs:List (κ × Value)} (r:KV kvs vs):kvs.map (·.1)=vs.map (·.1):=by
 unfold KV at r
 induction r with
 | nil=>rfl
 | cons h t B=>rw[y3,y3,B,h.1]
theorem KV.length {kvs:List (κ × V)} {vs:List (κ × Value)} (r:KV kvs vs):kvs.length=vs.length:=Paired.length r
end
theorem ou {k:Key} (r:bv (kV k) u):(bA P w).is k u=true:=by
 cases k with
 | inl i=>obtain⟨t,e⟩:=(show ∃t,u=Value.int i t from r);subst e;exact uu P w i t
 | inr x=>obtain⟨t,e⟩:=(show ∃t,u=Value.str x t from r);subst e;exact uM P w x t
theorem qx {P:Program} {w:World} : ∀{ks:List Key} {us:List Value},bu (ks.map kV) us->ItemsAre (bA P w) ks us
 | [],_,r=>by rw[map_nil] at r;cases r;exact .nil
 | k :: ks,_,r=>by
  rw[y3] at r;cases r with
  | cons h t=>exact .cons (ou h) (qx t)
abbrev KT (H:Hp):List (List Key × V)->List (List Key × Addr × Value)->Prop:=Paired λp q=>p.1=q.1/\H q.2.1>>(p.1.map kV)/\bv p.2 q.2.2
theorem KT.val {kvs:List (List Key × V)} {xs:List (List Key × Addr × Value)} (r:KT H kvs xs) (k:List Key):iF (bY kvs k) ((atKey xs k).map (·.2)):=by
 induction r with
 | nil=>exact Gf
 | @cons p q ps qs h t ih =>
  obtain⟨h1,_,h2⟩:=h
  by_cases e:p.1=k
  .have e':q.1=k:=h1.symm.trans e
   have b:atKey (q :: qs) k=some q.2:=by simp[atKey,Hq,e']
   rw[bN e,b];exact h2
  .have e' : ¬ q.1=k:=λz=>e (h1.trans z)
   have b:atKey (q :: qs) k=atKey qs k:=by simp[atKey,Hq,e']
   rw[bb e,b];exact ih
theorem KT.repl {kvs:List (List Key × V)} {xs:List (List Key × Addr × Value)} (r:KT H kvs xs) (k:List Key) {y:V} {u:Value} (L:bv y u) :
  KT H (kvs.map λB=>if B.1=k then(B.1,y) else B) (xs.map (putAt k u)):=by
 induction r with
 | nil=>exact .nil
 | @cons p q ps qs h t ih =>
  rw[y3,y3];refine .cons ?_ ih
  obtain⟨h1,h2,F⟩:=h;unfold putAt
  by_cases e:p.1=k
  .rw[if_pos e,if_pos (h1.symm.trans e)];exact⟨h1,h2,L⟩
  .rw[if_neg e,if_neg (λz=>e (h1.trans z))];exact⟨h1,h2,F⟩
theorem KT.put {kvs:List (List Key × V)} {xs:List (List Key × Addr × Value)} (r:KT H kvs xs) (k:List Key) {b:Addr} {y:V} {u:Value} (F:H b>>(k.map kV)) (B:bv y u) :
  KT H (bE kvs k y) (storedH xs k b u):=by
 have e:(kvs.any λL=>decide (L.1=k))=(atKey xs k).isSome:=by
  rw[gQ,(r.val k).isSome_eq,isSome_map]
 unfold bE storedH;rw[e]
 by_cases q:(atKey xs k).isSome=true
 .rw[if_pos q,if_pos q];exact r.repl k B
 .rw[if_neg q,if_neg q];exact Paired.snoc r ⟨rfl,F,B⟩
theorem KT.keeps {kvs:List (List Key × V)} {xs:List (List Key × Addr × Value)} (r:KT H kvs xs) (B : ∀b ys,H b>>ys->H' b>>ys):KT H' kvs xs :=
 Paired.mapP r λ_ _ z=>⟨z.1,B _ _ z.2.1,z.2.2⟩
theorem Co {u:HO} (ok:HOk P w H h) (e:Rd H a u):bO P w H h a u:=e.ok ok
theorem nv (ok:HOk P w H h) (e:Rd H a (.dK kvs)):kvs.length<=l_/\(a == G9)=false/\∃vs,KV kvs vs/\h.DictOf (bA P w) a vs :=
 show bO P w H h a (.dK kvs) from Co ok e
theorem kG (ok:HOk P w H h) (e:H a<*kvs):kvs.length<=l_/\(a == G9)=false/\∃vs,KV kvs vs/\h.DictOf (bA P w) a vs:=nv ok (.inl e)
theorem lO {ks:List Key} (ok:HOk P w H h) (e:H a>>(ks.map kV)):(Hv (bA P w)).is h ks a:=by
 obtain⟨_,its,r,o,h1,h2,n,B⟩:=(show bO P w H h a (.tup (ks.map kV)) from ok a _ e)
 exact⟨o,its.toArray,n,h1,h2,B,by simpa using qx r⟩
theorem nB {kvs:List (List Key × V)} (ok:HOk P w H h) (e:Rd H a (.dT kvs)):kvs.length<=l_/\(a == G9)=false /\
  ∃xs,KT H kvs xs/\h.DictOfH (Hv (bA P w)) a xs:=by
 obtain⟨z,y,xs,r,o,es,Y,h1,h2,L,F,Z⟩:=(show bO P w H h a (.dT kvs) from Co ok e)
 refine⟨z,y,xs,r,o,es,Y,h1,h2,L,F,λx B=>?_,Z⟩
 have all : ∀{l:List (List Key × V)} {m:List (List Key × Addr × Value)},KT H l m->∀x∈m,(Hv (bA P w)).is h x.1 x.2.1:=by
  intro l m q
  induction q with
  | nil=>intro x B;exact nomatch B
  | @cons p q ps qs hq t ih =>
   intro x B;rcases u_.mp B with e | B
   .subst e
    exact lO ok (by rw[<- hq.1];exact hq.2.1)
   .exact ih x B
 exact all r x B
theorem Em {kvs:List (List Key × V)} (ok:HOk P w H h) (e:H a=some (.dT kvs)):kvs.length<=l_/\(a == G9)=false /\
  ∃xs,KT H kvs xs/\h.DictOfH (Hv (bA P w)) a xs:=nB ok (.inl e)
def kc (H:Hp) (a:Addr) (y:V) (r:Option V):Prop :=
 (∃kvs k,Rd H a (.dK kvs)/\y=kV k/\r=bY kvs k)\/∃kvs k b,Rd H a (.dT kvs)/\y = .ref b/\H b>>(k.map kV)/\r=bY kvs k
def ww (H:Hp) (a:Addr) (y v:V) (H':Hp):Prop :=
 (∃kvs k,H a<*kvs/\y=kV k/\kvs.length < l_/\H'=upd H a (.dK (bE kvs k v))) \/
 ∃kvs k b,H a=some (.dT kvs)/\y = .ref b/\H b>>(k.map kV)/\kvs.length < l_/\H'=upd H a (.dT (bE kvs k v))
theorem kc.t {kvs:List (List Key × V)} {k:List Key} (e:H a=some (.dT kvs)) (B:H b>>(k.map kV)):kc H a (.ref b) (bY kvs k):=.inr ⟨kvs,k,b,.inl e,rfl,B,rfl⟩
theorem ww.t {kvs:List (List Key × V)} {k:List Key} {v:V} (e:H a=some (.dT kvs)) (B:H b>>(k.map kV)) (hl:kvs.length < l_) :
  ww H a (.ref b) v (upd H a (.dT (bE kvs k v))):=.inr ⟨kvs,k,b,e,rfl,B,hl,rfl⟩
section
variable {v:V} {r:Value} {o:Option V}
theorem Inv.big (I:Inv X pins σ H s):G9 < s.heap.objs.size:=by
 have h:i_ < s.heap.objs.size:=(I.mod.glob.keeps I.bk).lt
 exact lt_trans ∅ h
theorem qJ (hu:A.units+1 < cLine) (I:Inv X pins σ H s) (g:kc H a y (some v)) (ry:bv y u) (h : ∀L s',Inv X pins σ H s'->bv v L->Q L s') :
  wpAny (model X.prog X.w) A (getItem (.ref a) u) Q E s:=by
 rcases g with⟨kvs,k,e,ey,l⟩ | ⟨kvs,k,b,e,ey,eb,l⟩
 .subst ey
  obtain⟨z,hd,vs,B,Y⟩:=nv I.hok e;obtain⟨L,Z,F⟩:=iF.some_of (v:=v) (o:=valueAt vs k) (by rw[l];exact B.val k)
  exact wpAny_getItem_of (ou ry) Y.mapOf Z (h L _ (I.tok _) F)
 .subst ey
  cases (show u=y6 b from ry)
  obtain⟨z,hd,xs,B,Y⟩:=nB I.hok e;obtain⟨L,Z,F⟩:=iF.some_of (v:=v) (o:=(atKey xs k).map (·.2)) (by rw[l];exact B.val k)
  obtain⟨p,hp,aa⟩:=Option.map_eq_some_iff.mp Z;refine wpAny_getItem_heap (Hf hu) (lO I.hok eb) Y hp ?_
  rw[aa];exact h L _ (I.tok _) F
theorem ER (hu:A.units+1 < cLine) (I:Inv X pins σ H s) (g:kc H a y o) (Z:bv y u) (h : ∀s',Inv X pins σ H s'->Q (.bool o.isSome) s') :
  wpAny (model X.prog X.w) A (Gi .In u (.ref a)) Q E s:=by
 rcases g with⟨kvs,k,e,L,l⟩ | ⟨kvs,k,b,e,L,eb,l⟩
 .subst L
  obtain⟨z,Y,vs,B,F⟩:=nv I.hok e;refine wpAny_in_of (ou Z) Y F.mapOf ?_
  rw[<- (B.val k).isSome_eq,<- l];exact h _ (I.tok _)
 .subst L
  cases (show u=y6 b from Z)
  obtain⟨z,Y,xs,B,F⟩:=nB I.hok e;refine wpAny_in_heap (Hf hu) (lO I.hok eb) Y F ?_
  have q:=(B.val k).isSome_eq;rw[isSome_map] at q;rw[<- q,<- l];exact h _ (I.tok _)
theorem xh (hu:A.units+1 < cLine) (I:Inv X pins σ H s) (g:kc H a y o) (Z:bv y u) (h : ∀s',Inv X pins σ H s'->Q (.bool (!o.isSome)) s') :
  wpAny (model X.prog X.w) A (Gi .NotIn u (.ref a)) Q E s:=by
 rcases g with⟨kvs,k,e,L,l⟩ | ⟨kvs,k,b,e,L,eb,l⟩
 .subst L
  obtain⟨z,Y,vs,B,F⟩:=nv I.hok e;refine wpAny_notIn_of (ou Z) Y F.mapOf ?_
  rw[<- (B.val k).isSome_eq,<- l];exact h _ (I.tok _)
 .subst L
  cases (show u=y6 b from Z)
  obtain⟨z,Y,xs,B,F⟩:=nB I.hok e;refine wpAny_notIn_heap (Hf hu) (lO I.hok eb) Y F ?_
  have q:=(B.val k).isSome_eq;rw[isSome_map] at q;rw[<- q,<- l];exact h _ (I.tok _)
theorem oa {ob:HO} (I:Inv X pins σ H s) (F:Mut (H a)) (L:IP a s.heap h') (Y : ∃q,h'.get? a=some q) (new:bO X.prog X.w (upd H a ob) h' a ob) :
  Inv X pins σ (upd H a ob) { s with heap:=h',toks:=t' } :=
 I.write (x:=a) (e:=a) F (.inl rfl) (λb q B z=>(L.2 b B).trans z) Y new
theorem AG {vs:List (Key × Value)} (z:kvs.length<=l_) (L:(a == G9)=false) (B:KV kvs vs) (F:h'.DictOf (bA P w) a vs) :
  bO P w H' h' a (.dK kvs):=⟨z,L,vs,B,F⟩
theorem rg {Q:Unit->Shared->Prop} (hu:A.units+1 < cLine) (I:Inv X pins σ H s) (g:ww H a y v H') (ry:bv y u) (rv:bv v r) (h : ∀s',Inv X pins σ H' s'->Q Unit.unit s') :
  wpAny (model X.prog X.w) A (setItem (.ref a) u r) Q E s:=by
 rcases g with⟨kvs,k,e,ey,l,Z⟩ | ⟨kvs,k,b,e,ey,eb,l,Z⟩
 .subst ey Z
  obtain⟨z,hd,vs,B,Y⟩:=kG I.hok e;have hz:vs.length<=l_:=by rw[<- B.length];exact z
  have hl:(bE kvs k v).length<=l_:=by have:=du kvs k v;omega
  refine wpAny_setItem_pairs (hsz:=hz) (ou ry) Y λh' F hs=>h _ ?_
  have he : ∃q,h'.get? a=some q:=let ⟨q,_,_,L,_⟩:=F;⟨q,L⟩
  exact oa I (by rw[e];exact Gf) hs he (AG hl hd (B.put k rv) F)
 .subst ey Z
  cases (show u=y6 b from ry)
  obtain⟨z,hd,xs,B,Y⟩:=Em I.hok e;have hz:xs.length<=l_:=by rw[<- Paired.length B];exact z
  have hl:(bE kvs k v).length<=l_:=by have:=du kvs k v;omega
  refine wpAny_setItem_heap (hsz:=hz) (Hf hu) (lO I.hok eb) Y λh' F hs=>h _ ?_
  obtain⟨q,es,ep,L,h2,h3,h4,_,h5⟩:=F;refine oa I (by rw[e];exact Gf) hs ⟨q,L⟩ ⟨hl,hd,_,(B.put k eb rv).keeps λc ys ec=>?_,q,es,ep,L,h2,h3,h4,h5⟩
  rw[ao (bo ec e (λz=>nomatch z))]
  exact ec
end
section
variable {k:Key}
theorem DW (I:Inv X pins σ H s) (e:Rd H a (.dK kvs)) (h : ∀t s',Inv X pins σ H s'->Q (.int kvs.length t) s'):wpAny (model X.prog X.w) A (call (.builtin "len") [.ref a]) Q E s:=by
 obtain⟨z,L,vs,B,F⟩:=nv I.hok e;refine call_len_dict L F (by rw[<- B.length];rw[sizeLine_eq] at z;omega) ?_
 rw[<- B.length];exact h _ _ (I.tok _)
end
def CZ (i:Expr):Prop:=∀B F,subscripted i false B F=operate [B,F] (getItem B F)
theorem xB {B:Expr} {T id:String}
  (hl:Iy (.type T) "__getitem__" = pure (some (.builtin id))) (hs:CZ B)
  (h:wpAny (model prog w) A (eval value env) (λo s₁=>wpAny (model prog w) A (eval B env) (λi F=>F.TypeIs o T/\wpAny (model prog w) A (getItem o i) Q E F) E s₁) E s) :
  wpAny (model prog w) A (eval (.Subscript value B pos) env) Q E s:=by
 refine Subscript_ (G0 h (λo s₁ ab=>G0 ab (λi F L=>?_) λ_ _ x=>x) λ_ _ x=>x)
 obtain⟨hT,L⟩:=L;unfold subscriptTail;refine a_ ?_
 rw[getitemInPython_of_ne hT.not_modules];refine a_ (GM hT hl ?_)
 have Z:wpAny (model prog w) A (subscripted B false o i) (λr Y=>wpAny (model prog w) A (letTemporaryGo value o r >>= λ_=>pure r) Q E Y) E F:=by
  rw[hs o i];exact wpAny_operating (G0 L (λr Y aa=>a_ (wpAny_letTemporaryGo (ee aa))) λ_ _ x=>x)
 first
  | exact ee (a_ Z)
  | exact a_ (ee (a_ Z))
  | exact a_ Z
theorem mT {o:Option V} (I:Inv X pins σ H s) (g:kc H a y o):s.TypeIs (.ref a) "dict" := by
 rcases g with⟨kvs,k,e,_,_⟩ | ⟨kvs,k,b,e,_,_,_⟩
 .obtain⟨_,_,vs,_,dd⟩:=nv I.hok e
  exact dd.typeIs
 .obtain⟨_,_,xs,_,dd⟩:=nB I.hok e
  exact dd.typeIs
def Cv (td ty:TE):TE:=λσ H Q=>td σ H λx H1=>ty σ H1 λy H2=>∃a v,x = .ref a/\kc H2 a y (some v)/\Q v H2
def wS (ty td:TE):TE:=λσ H Q=>ty σ H λy H1=>td σ H1 λx H2=>∃a o,x = .ref a/\kc H2 a y o/\Q (.bl (!o.isSome)) H2
def wU (td ty tv:TE):TS:=λD σ H=>tv σ H λv H1=>td σ H1 λx H2=>ty σ H2 λy F=>∃a B,x = .ref a/\ww F a y v B/\D.nx σ B
section
variable {o i:Expr} {tpos:Pos}
theorem Cf (hu:X.A.units+1 < cLine) (ho:PE X o td) (hi:PE X i ty) (hs:CZ i:=by exact λ_ _=>rfl):PE X (.Subscript o i pos) (Cv td ty):=by
 intro pins s σ H Q I h;refine xB PySem.F.slot_dict_getitem.lookup hs (thn (ho pins s σ H _ I h) λu Z ⟨x,H1,I1,rx,q1⟩=>thn (hi pins Z σ H1 _ I1 q1) λiv s2 B=>?_)
 obtain⟨y,H2,Y,ry,a,v,ex,g,q2⟩:=B;subst ex;obtain rfl:u=y6 a:=rx
 exact⟨mT Y g,qJ hu Y g ry λw' s3 I3 L=>⟨v,H2,I3,L,q2⟩⟩
theorem yE (hu:X.A.units+1 < cLine) (hi:PE X i ty) (Z:PE X o td):PC X .NotIn i o (wS ty td):=by
 intro pins s σ H Q I h;refine thn (hi pins s σ H _ I h) λiv F ⟨y,H1,I1,ry,q1⟩=>thn (Z pins F σ H1 _ I1 q1) λu s2 B=>?_
 obtain⟨x,H2,L,rx,a,ov,ex,g,q2⟩:=B;subst ex;obtain rfl:u=y6 a:=rx
 exact xh hu L g ry λs3 Y=>⟨.bl (!ov.isSome),H2,Y,rfl,q2⟩
theorem xA (hu:X.A.units+1 < cLine) (ho:PE X o td) (hi:PE X i ty) (hv:PE X value tv) (Z:IQ value (some (.Subscript o i pos')) pos.line X.env=pure false) :
  PS X (.Assign [.Subscript o i pos'] value pos) (wU td ty tv):=by
 intro pins s σ H D I h;refine wpAny_Assign_Subscript (thn (hv pins s σ H _ I h) λr F ⟨v,H1,I1,rv,q1⟩=>thn (ho pins F σ H1 _ I1 q1) λu Y ⟨x,H2,I2,rx,q2⟩=>thn (hi pins Y σ H2 _ I2 q2) λiv s3 B=>?_) Z
 obtain⟨y,H3,L,ry,a,H4,ex,g,q3⟩:=B;subst ex;obtain rfl:u=y6 a:=rx
 exact rg hu L g ry rv λs4 I4=>⟨σ,H4,I4,q3⟩
end
theorem uN (h:Heap) (B:G9 < h.objs.size):bO P w H (h.push { cls:=.type "dict",data:=.dict #[] }) h.objs.size (.dK []) :=
 ⟨GR _,beq_eq_false_iff_ne.mpr (Gp (E_ B)),[],.nil,Heap.DictOf.new h⟩
theorem yQ (h:Heap) (B:G9 < h.objs.size):bO P w H (h.push { cls:=.type "dict",data:=.dict #[] }) h.objs.size (.dT []) :=
 ⟨GR _,beq_eq_false_iff_ne.mpr (Gp (E_ B)),[],.nil,_,#[],0,k_ _ rfl,⟨rfl,rfl,rfl⟩,rfl,rfl,List.nodup_nil⟩
def sZ:TE:=λ_ H Q=>∀p,H p=none->Q (.ref p) (upd H p (.dK []))
def wp:TE:=λ_ H Q=>∀p,H p=none->Q (.ref p) (upd H p (.dT []))
theorem gh:PE X (.Dict [] [] pos) sZ:=λpins s σ H Q I h =>
 wpAny_Dict_empty ⟨.ref s.heap.objs.size,_,I.laid (a:=s.heap.objs.size) (o:=.dK []) (t':=s.toks) (λ_ _ q=>c_ _ q) (s_ _) (uN s.heap I.big),rfl,h _ (I.hok.fresh (s_ _))⟩
theorem uS:PE X (.Dict [] [] pos) wp:=λpins s σ H Q I h =>
 wpAny_Dict_empty ⟨.ref s.heap.objs.size,_,I.laid (a:=s.heap.objs.size) (o:=.dT []) (t':=s.toks) (λ_ _ q=>c_ _ q) (s_ _) (yQ s.heap I.big),rfl,h _ (I.hok.fresh (s_ _))⟩
def oO:List (TE × TE)->St->Hp->(List (V × V)->Hp->Prop)->Prop
 | [],_,H,Q=>Q [] H
 | (tk,tv) :: r,σ,H,Q=>tk σ H λx H1=>tv σ H1 λy H2=>oO r σ H2 λps B=>Q ((x,y) :: ps) B
abbrev VV:List (V × V)->List (Value × Value)->Prop:=Paired λp q=>bv p.1 q.1/\bv p.2 q.2
def PPs (X:Cx) (pos:Pos) (keys:List (Option Expr)) (values:List Expr) (trs:List (TE × TE)):Prop :=
 ∀ (pins:List (Addr × Obj)) (s:Shared) (σ:St) (H:Hp) (Q:List (V × V)->Hp->Prop),Inv X pins σ H s->oO trs σ H Q ->
  wpAny (model X.prog X.w) X.A (evalPairs (pairTrees keys values X.env pos)) (λvs s'=>∃ps H',Inv X pins σ H' s'/\VV ps vs/\Q ps H') X.xe s
theorem rH:PPs X pos [] [] []:=λpins s σ H Q I h=>pairTrees_nil_walk ⟨[],H,I,.nil,h⟩
theorem il {k v:Expr} {ks:List (Option Expr)} {vs:List Expr} {tk:TE} (Y:PE X k tk) (hv:PE X v tv) (hr:PPs X pos ks vs trs) :
  PPs X pos (some k :: ks) (v :: vs) ((tk,tv) :: trs):=λpins s σ H Q I h =>
 pairTrees_cons_walk (thn (Y pins s σ H _ I h) λu L ⟨x,H1,I1,rx,q1⟩=>thn (hv pins L σ H1 _ I1 q1) λw2 s2 ⟨y,H2,I2,ry,q2⟩ =>
  thn (hr pins s2 σ H2 _ I2 q2) λws s3 B=>by obtain⟨ps,Z,I3,F,q3⟩:=B;exact(⟨(x,y) :: ps,Z,I3,.cons ⟨rx,ry⟩ F,q3⟩))
def iW (kvs B:List (Key × V)):List (Key × V):=B.foldl (λF L=>bE F L.1 L.2) kvs
theorem KV.merge : ∀{B:List (Key × V)} {F:List (Key × Value)} {kvs:List (Key × V)} {vs:List (Key × Value)},KV B F->KV kvs vs->KV (iW kvs B) (merged vs F):=by
 intro B F kvs vs r;unfold KV at r
 induction r generalizing kvs vs with
 | nil=>intro q;exact q
 | @cons p q ps qs h t ih =>
  intro L;have e:KV (bE kvs p.1 p.2) (stored vs q.1 q.2):=by
   have:=L.put p.1 h.2
   rw[<- h.1];exact this
  exact ih e
theorem jR : ∀(B kvs:List (Key × V)),(iW kvs B).length<=kvs.length+B.length
 | [],kvs=>by show kvs.length<=kvs.length+0;omega
 | p :: r,kvs=>by
  have h1:=jR r (bE kvs p.1 p.2);have h2:=du kvs p.1 p.2
  show(iW (bE kvs p.1 p.2) r).length<=_
  rw[GG];omega
theorem oX {P:Program} {w:World} : ∀{kvs:List (Key × V)} {ws:List (Value × Value)},VV (kvs.map λF=>(kV F.1,F.2)) ws->∃B,Carries (bA P w) ws B/\KV kvs B
 | [],_,r=>by rw[map_nil] at r;cases r;exact⟨[],Gf,.nil⟩
 | p :: kvs,_,r=>by
  rw[y3] at r;cases r with
  | @cons a b as bs h t =>
   obtain⟨B,c,q⟩:=oX (P:=P) (w:=w) t;obtain⟨Y,L⟩:=b;exact⟨(p.1,L) :: B,⟨ou h.1,rfl,c⟩,.cons ⟨rfl,h.2⟩ q⟩
def Aj (trs:List (TE × TE)):TE:=λσ H Q=>∀p,H p=none->oO trs σ (upd H p (.dK [])) λps H2=>H2 p<*[]/\∃kvs:List (Key × V),ps=kvs.map (λB=>(kV B.1,B.2))/\kvs.length<=15/\Q (.ref p) (upd H2 p (.dK (iW [] kvs)))
theorem sI {keys:List (Option Expr)} (h:PPs X pos keys values trs) (F:keys.all (·.isSome)=true) (hl:keys.length=values.length) (h0:keys≠[])
  (Y:keys.length<=15):PE X (.Dict keys values pos) (Aj trs):=by
 intro pins s σ H Q I q;have hn:=I.hok.fresh (s_ s.heap.objs.size);have I1:=I.laid (a:=s.heap.objs.size) (o:=.dK []) (h':=s.heap.push { cls:=.type "dict",data:=.dict #[] }) (t':=s.toks) (λ_ _ q=>c_ _ q) (s_ _) (uN s.heap I.big)
 refine wpAny_Dict_walk (knd:=bA X.prog X.w) F hl h0 Y (thn (h pins _ σ _ _ I1 (q _ hn)) λws s2 B=>?_)
 obtain⟨ps,H2,I2,Z,e,kvs,ep,lk,q2⟩:=B;subst ep;obtain⟨rs,c,rk⟩:=oX (P:=X.prog) (w:=X.w) Z;obtain⟨z,hd,aa,r0,dd⟩:=kG I2.hok e;cases r0;refine⟨rs,c,dd,λh' L hs=>⟨.ref s.heap.objs.size,_,?_,rfl,q2⟩⟩
 have hz:(iW [] kvs).length<=l_:=by
  have h1:=jR kvs [];rw[length_nil] at h1;rw[sizeLine_eq];omega
 have he : ∃q,h'.get? s.heap.objs.size=some q:=let ⟨q,_,_,hq,_⟩:=L;⟨q,hq⟩
 exact oa I2 (by rw[e];exact Gf) hs he (AG hz hd (rk.merge .nil) L)
structure M1 (X:Cx) (o:Expr) (m:Str) (apos:Pos) (e:Expr) (cpos:Pos):Prop where
 base:ID o m X.env (eval o X.env)=eval o X.env
 few:((GS cpos (y9 [e] X.env)).all (λx=>!x.1) && (backToKw cpos (IG [] X.env)).all (λx=>x.1.isSome)
  && decide (([e]:List Expr).length+([]:List Keyword).length+(if ([]:List Keyword).isEmpty then 0 else 1) < 30))=true
 line:(apos.endLine == cpos.line)=true
 trees:GS cpos (y9 [e] X.env)=[(false,eval e X.env)]
def IsD (H:Hp) (a:Addr):Prop:=(∃kvs,Rd H a (.dK kvs))\/∃kvs,Rd H a (.dT kvs)
theorem Db (I:Inv X pins σ H s) (d:IsD H a) :
  s.TypeIs (.ref a) "dict" /\(∀b,y6 a = .ref b->∃ob,s.heap.get? b=some ob/\ob.dict=none)/\(a == G9)=false:=by
 rcases d with⟨kvs,e⟩ | ⟨kvs,e⟩
 .obtain⟨_,hd,vs,_,dd⟩:=nv I.hok e
  refine⟨dd.typeIs,λb q=>?_,hd⟩
  cases q;obtain⟨ob,_,_,h1,h2,_⟩:=dd;exact⟨ob,h1,h2.2.1⟩
 .obtain⟨_,hd,xs,_,dd⟩:=nB I.hok e
  refine⟨dd.typeIs,λb q=>?_,hd⟩
  cases q;obtain⟨ob,_,_,h1,h2,_⟩:=dd;exact⟨ob,h1,h2.2.1⟩
section
variable {d:V} {r:Value} {o:Option V}
theorem CV (hu:A.units+1 < cLine) (I:Inv X pins σ H s) (g:kc H a y o) (ry:bv y u) (h : ∀w' s',Inv X pins σ H s'->bv (o.getD .non) w'->Q w' s') :
  wpAny (model X.prog X.w) A (call (.builtin "dict.get") [.ref a,u]) Q E s:=by
 rcases g with⟨kvs,k,e,Y,l⟩ | ⟨kvs,k,b,e,Y,eb,l⟩
 .subst Y
  obtain⟨z,Z,vs,B,L⟩:=nv I.hok e;refine call_meetsIn Ij L.typeIs PySem.F.entry_dict_get (PySem.F.args_dict_get_2 _ _) (meets_dict_get (bA X.prog X.w) a (ou ry) Z) ⟨_,L.mapOf,h _ _ (I.tok _) ?_⟩
  rw[l];exact(B.val k).getD rfl
 .subst Y
  cases (show u=y6 b from ry)
  obtain⟨z,Z,xs,B,L⟩:=nB I.hok e;refine call_meetsIn Ij L.typeIs PySem.F.entry_dict_get (PySem.F.args_dict_get_2 _ _) (meetsH_dict_get (Hv (bA X.prog X.w)) a b Z) ⟨Hf hu,k,xs,lO I.hok eb,L,h _ _ (I.tok _) ?_⟩
  rw[l];exact(B.val k).getD rfl
end
end L2
namespace Att
open PySem PySem.W PySem.Calls PyProof.Rows
theorem nC {P:Params} : ∀(ns:List Int) (vs:List Value),WellAll P h vs (ns.map WData.int)->IT vs ns:=by
 intro ns
 induction ns with
 | nil =>
  intro vs w;rw[map_nil] at w;cases w;exact .nil
 | cons n ns B =>
  intro vs w;rw[y3] at w;cases w with
  | cons a b =>
   cases a;exact .cons _ _ (B _ b)
theorem yu {l:OpenLaw} (hn:l.most=some n) {P:Params} {h:Heap} {args:List WData} {F:List Value}
  (B:l.row.toRowW.claim.pre args=true) (aa:WellAll P h F args) :
  ∃a vs ns,F=[y6 a]/\args=[WData.list (ns.map WData.int)]/\h.get? a=some { cls:=.type "list",data:=.seq vs.toArray }/\IT vs ns/\ns.length<=n:=by
 have ab:WShape.hasAll [] args [.list .int]=true:=(pre_splitW B).1
 have hc:l.pre.holds [] { args:=args }=true:=(pre_splitW B).2
 obtain⟨d,r,rfl,h1,h2⟩:=hasAllW_cons ab;obtain rfl:=hasAllW_nil h2
 obtain⟨xs,rfl,h3⟩:=hasW_list h1;obtain⟨ns,rfl⟩:=items_int h3;have L:ns.length<=n:=by
  unfold OpenLaw.pre at hc;have Z:(WTm.not (.lt (.lit (.int (n:Int))) (.len (.arg 0)))).holds [] { args:=[.list (ns.map .int)] }=true:=by
   have Z:=(holds_andW hc).1;rw[hn] at Z;exact Z
  have h5:=condW_of Z (w_not (w_lt w_lit (w_len_list (w_arg rfl))));rw[d_] at h5;refine Nat.le_of_not_lt λq=>?_
  have q':(n:Int) < ((ns.length:Nat):Int):=()
  first
   | (rw[decide_eq_true q'] at h5;exact absurd h5 ∅)
   | (simp at h5;omega)
 cases aa with
 | cons w1 w2 =>
  cases w2;cases w1 with
  | list ho Y=>exact⟨_,_,ns,rfl,rfl,ho,nC ns _ Y,L⟩
theorem xV (l:OpenLaw) (args:List WData):l.row.toRowW.claim.post args (.bool true) args=true :=
 postW_of (r:=l.row.toRowW) (X:=(true == true))
  (show WShape.has [] (.bool true) .bool=true by first | rfl | decide | simp[WShape.has,WShape.arms,WShape.armsAll])
  (show(WTm.eq .res (.lit (.bool true))).value [] { args:=args,res:=some (.bool true),after:=args }=some (.bool (true == true)) from w_eq_bool (w_res rfl) w_lit) rfl
theorem attach_call {l:OpenLaw} {d:DefRec}
  (hn:l.most=some n) (ad:d.params.defaults=[])
  (call : ∀(w:World) (B s₁:Shared) (mg mb:Str->Option Value) (fa:Addr) (o:Obj) (pm cd doc:Value) (a:Addr) (vs:List Value) (ns:List Int),
   Ground q loose [] XP w B mg mb s₁.heap->YP w s₁.heap ->
   s₁.heap.get? fa=some o->o.data = .func (docDef d.name d.params d.body d.scope pm cd doc)->s₁.heap.CodeRec cd d.name->mg d.name=some (.ref fa) ->
   s₁.heap.get? a=some { cls:=.type "list",data:=.seq vs.toArray }->IT vs ns->ns.length<=n->s₁.gens = #[] ->
   Ii (model l.prog w) callerA (.call (.ref fa) ⟨[.ref a],[]⟩) (λr s'=>r = .ok (.ret (.bool true))/\OldK s₁.heap s'.heap/\s'.os=s₁.os/\AllBare s'.gens) s₁) :
  WalkO q loose XP YP l.row.toRowW d [] (λf vs=>PySem.call f vs):=by
 intro w B s₁ mg mb G Y fa o pm cd doc dV kV ho hd ae hD ac hg args ag as Z af ai ab aj;obtain rfl:dV = .none:=Dflts.none hD ad
 obtain rfl:kV = .none:=Dflts.noKw hD
 obtain⟨a,vs,ns,rfl,rfl,aa,F,L⟩:=yu hn Z ab;refine enter_call (IR (call w B s₁ mg mb fa o pm cd doc a vs ns G Y ho (fd_plain hd) ae ac aa F L hg) λr s' hq=>?_)
 obtain⟨rfl,h2,h3,h4⟩:=hq;exact⟨.inl ⟨.bool true,.bool true,[],rfl,λ_=>rfl,.bool true,xV l _,λ_=>⟨List.Pairwise.nil,λ_ hm=>(nomatch hm)⟩⟩,h2,h3,h4⟩
end Att
namespace L2
open PySem PySem.Spec PyProof.Rows
theorem mG : ∀{vs:List Value} {ns:List Int},IT vs ns->bu (ns.map V.int) vs
 | _,_,.nil=>.nil
 | _,_,.cons n t h=>.cons ⟨t,rfl⟩ (mG h)
def CU (H:Hp):Prop:=∀b,H b=none\/∃o xs,H b=some (.frz o (.lst xs))
theorem zD {vs:List Value}
  (KX:K.In s₁.heap) (ad:s₁.heap.Ns i_ mg) (L:s₁.heap.Ns builtinsNs mb) (an : ∀x:Str,x ≠ "__name__" -> mb x=GN x) (ae:s₁.heap.NoLimit) (hg:s₁.gens = #[])
  (ha:s₁.heap.get? a=some { cls:=.type "list",data:=.seq vs.toArray }) (hi:IT vs ns) (hl:ns.length<=l_) (hr:eJ k callerA)
  (F : ∀base:Heap,K.In base->base.Ns i_ mg->iH P w K mg base CX k fa fd [x] sp) (aa : ∀(s:Shared) (u:Value),BindsTo s fd ⟨[u],[]⟩ [(x,u)])
  (am : ∀H:Hp,CU H->SqL K H a (ns.map V.int)->sp [.ref a] H (λv _=>v = .bl true) λ_ _ _=>False)
  (aj : ∀H e s',CX [] H s₁ (λ_ _ _=>False) e s'->False) :
  Ii (model P w) callerA (.call (.ref fa) ⟨[.ref a],[]⟩) (λr s'=>r = .ok (.ret (.bool true))/\OldK s₁.heap s'.heap/\s'.os=s₁.os/\AllBare s'.gens) s₁:=by
 have rv:=mG hi;have ai:=hi.length;have Z : ∀H:Hp,CU H->SqL K H a (ns.map V.int)->HOk P w H s₁.heap->(∀b,H b≠none->b=a)->(H a≠none->K.lookup a=none) ->
   Ii (model P w) callerA (.call (.ref fa) ⟨[.ref a],[]⟩) (λr s'=>r = .ok (.ret (.bool true))/\OldK s₁.heap s'.heap/\s'.os=s₁.os/\AllBare s'.gens) s₁:=by
  intro H hO hS ab hA hK;have B : ∀{b:Addr} {o:Obj},s₁.heap.get? b=some o->H b=none->(rB s₁.heap H).get? b=some o:=λe n=>AZ e n
  have ak : ∀{b:Addr} {o:Obj} {es:Array DictEntry} {ep:Nat},s₁.heap.get? b=some o->o.data = .dict es ep->H b=none:=λ{b o es ep} e d=>by
   cases q:H b with
   | none=>rfl
   | some u =>
    have e':b=a:=hA b (by rw[q];simp)
    subst e';rw[ha] at e;cases e;have d':Data.seq vs.toArray _=Data.dict es ep:=d
    cases d'
  have Y : ∀{b:Addr} {m:Str->Option Value},s₁.heap.Ns b m->(rB s₁.heap H).Ns b m:=λ{b m} zq8=>by obtain⟨o,es,ep,e,d,r⟩:=zq8;exact(⟨o,es,ep,B e (ak e d),d,r⟩)
  have af:K.In (rB s₁.heap H):=λb o e=>B (KX b o e) (by
   cases q:H b with
   | none=>rfl
   | some u =>
    have e':b=a:=hA b (by rw[q];simp)
    subst e';rw[hK (by rw[q];simp)] at e;cases e)
  have hM:Mod K mg (rB s₁.heap H):=⟨af,Y ad,⟨mb,Y L,an⟩,let ⟨mc,h1,h2⟩:=ae;⟨mc,Y h1,h2⟩⟩
  have e0:wM P w K mg (rB s₁.heap H) callerA [] s₁ H:=⟨rfl,hM,λb o e=>Cg e,le_of_eq (xL _ _),trivial,λb L=>absurd (show b∈([]:List Addr) from L) (by simp),ab,.of_eq hg⟩
  refine IR ((F _ af (Y ad)).run callerA [] s₁ H ⟨[.ref a],[]⟩ [.ref a] [.ref a] _ _ hr e0 (aa s₁ (.ref a)) (.cons rfl .nil) (am H hO hS)) λr s' h=>?_
  cases r with
  | error e=>exact(aj H e s' h).elim
  | ok fl =>
   cases fl with
   | next=>exact G1 h
   | brk=>exact G1 h
   | cont=>exact G1 h
   | ret u =>
    obtain⟨v,H',os,ac,un,ag,r',q⟩:=h;have q':v = .bl true:=q
    subst q';obtain rfl:u=HQ true:=r'
    refine⟨rfl,OldK.of_keep λb o e=>?_,os,ac⟩
    cases q:H b with
    | none=>exact un.keep b o e q (by intro z;exact absurd (show b∈([]:List Addr) from z) (by simp)) (by simp)
    | some u =>
     rcases hO b with z | ⟨ob,xs,z⟩
     .rw[q] at z;cases z
     .have z2:=un.frzs b ob _ z
      obtain⟨e1,_⟩:=ab b _ z;obtain⟨e2,_⟩:=ag b _ z2;rw[e] at e1;cases e1;exact e2
 cases hk:K.lookup a with
 | some o =>
  have e:=KX a o hk;rw[ha] at e;cases e;refine Z (λ_=>none) (λ_=>.inl rfl) (.inr ⟨_,vs.toArray,_,hk,rfl,rfl,rfl,by rw[y4,ai];exact hl,by simpa using rv⟩) (λb u z=>by have z':(none:Option HO)=some u:=z;cases z') (λb z=>absurd rfl z) λz=>absurd rfl z
 | none =>
  refine Z (λb=>if b=a then some (.frz { cls:=.type "list",data:=.seq vs.toArray } (.lst (ns.map V.int))) else none) (λb=>?_) (.inl (.inr ⟨{ cls:=.type "list",data:=.seq vs.toArray },if_pos rfl⟩)) (λb u z=>?_) (λb z=>?_) λ_=>hk
  .by_cases L:b=a
   .exact .inr ⟨_,_,if_pos L⟩
   .exact .inl (if_neg L)
  .by_cases L:b=a
   .have z':=(if_pos L).symm.trans z
    cases z';subst L;exact⟨ha,by rw[d_];exact hl,vs,_,rv,ha⟩
   .have z':=(if_neg L).symm.trans z
    cases z'
  .by_cases L:b=a
   .exact L
   .exact absurd (if_neg L) z
theorem Ce {l:PySem.W.OpenLaw} {d:DefRec} {K:Params->j_} {CX:World->CXT} {sp:World->Sp}
  (hn:l.most=some n) (ab:n<=l_) (ad:d.params.defaults=[]) (hr:eJ k callerA)
  (hY : ∀(w:World) (h:Heap),YP w h->(K w.params).In h)
  (F : ∀(w:World) (mg:Str->Option Value) (fa:Addr) (h:Heap),(K w.params).In h->h.Ns i_ mg->mg d.name=some (.ref fa) ->
   ∃ fd:FuncData,(∀(s:Shared) (u:Value),BindsTo s fd ⟨[u],[]⟩ [(x,u)]) /\
    ∀base:Heap,(K w.params).In base->base.Ns i_ mg->iH l.prog w (K w.params) mg base (CX w) k fa fd [x] (sp w))
  (ae : ∀(w:World) (H:Hp) (a:Addr) (ns:List Int),ns.length<=n->CU H->SqL (K w.params) H a (ns.map V.int)->sp w [.ref a] H (λv _=>v = .bl true) λ_ _ _=>False)
  (ac : ∀(w:World) (H:Hp) (s:Shared) (e:Value) (s':Shared),CX w [] H s (λ_ _ _=>False) e s'->False) :
  PySem.W.WalkO q loose XP YP l.row.toRowW d [] (λf vs=>PySem.call f vs):=by
 refine Att.attach_call hn ad λw af s₁ mg mb fa o pm cd doc a vs ns G Y ho hd ag aa Z L B hg=>?_
 have KX:=hY w _ Y;obtain⟨fd,hb,hF⟩:=F w mg fa _ KX G.T.g aa;exact zD KX G.T.g G.T.b G.T.builtins G.T.nolimit hg Z L (w_ B ab) hr hF hb (λH hO hS=>ae w H a ns B hO hS) λH e s'=>ac w H s₁ e s'
def bc (s:Stmt) (j:Nat):Stmt:=match s with
 | .ClassDef _ _ _ body _ _ _ _ _ _ _=>body.getD j (.Pass ⟨0,0,0,0⟩)
 | _=>.Pass ⟨0,0,0,0⟩
def aG (s:Stmt):Arguments:=match s with
 | .FunctionDef _ a _ _ _ _ _ _ _ _=>a
 | _=>{ posonlyargs:=[],args:=[],vararg:=none,kwonlyargs:=[],kw_defaults:=[],kwarg:=none,defaults:=[] }
def aF (s:Stmt):List Stmt:=match s with
 | .FunctionDef _ _ b _ _ _ _ _ _ _=>b
 | _=>[]
def aj (s:Stmt):Scope:=match s with
 | .FunctionDef _ _ _ _ _ _ sc _ _ _=>sc
 | _=>{ kind:=.function,names:=[],isGenerator:=false,isCoroutine:=false }
abbrev CX0:CXT:=λ_ _ _ _ _ _=>False
abbrev E0:XK:=λ_ _ _=>False
theorem qz:tE CX0 X E0:=λ_ _ _ _ _ _ _ h=>h.elim
structure Fun (K:j_) (x qual:Str) (st:Stmt) (f:Addr) (fd:FuncData):Prop where
 ex : ∃(oc:Value) (od:Option Addr) (kV doc pm:Value) (an:Option Addr) (cdv ct:Value) (osl:Array (Option Value)),
  fd=fnOf x qual (aG st) (aF st) (aj st) .none kV doc pm an cdv ct/\K.lookup f=some ⟨oc,od,.func fd,osl⟩/\y_ K cdv qual=true
 kp:v_ K (.ref f)=true
section
variable {P:Program} {w:World} {K:j_} {mg:Str->Option Value} {base:Heap}
theorem Fun.ok (F:Fun K x qual st f fd) (S:aH N ps (aj st)) (L : ∀vs H Q E,sp vs H Q E->vs.length=ps.length)
  (B : ∀(cdv:Value) (A:Around) (outer:List Env) (s:Shared) (H:Hp) (vs:List V) (Q:VK) (E:XK),eJ k (A.deeper (envOfC qual (aj st) s.heap.objs.size f cdv))->sp vs H Q E ->
   ∃t,PSs (sj CX0 P w K mg base N qual (aj st) f cdv A outer s H E).nox (aF st) t/\t { nx:=λ_ H'=>Q .non H',rt:=Q } (iO N vs) H):iH P w K mg base CX0 (k+1) f fd ps sp:=by
 obtain⟨oc,od,kV,doc,pm,an,cdv,ct,osl,rfl,lk,Y⟩:=F.ex;refine El lk Y S L λA outer s H vs Q E hr Z=>?_
 obtain⟨t,h,q⟩:=B cdv A outer s H vs Q E hr Z;exact⟨t,h.nox,q⟩
theorem Fun.binds (F:Fun K x qual st f fd)
  (h : ∀(kV doc pm:Value) (B:Option Addr) (cdv ct:Value) (us:List Value),us.length=ps.length->bindArgs (fnOf x qual (aG st) (aF st) (aj st) .none kV doc pm B cdv ct) ⟨us,[]⟩=pure (ps.zip us)):jc K fd ps []:=by
 obtain⟨oc,od,kV,doc,pm,B,cdv,ct,osl,rfl,Y,L⟩:=F.ex;exact .all (h kV doc pm B cdv ct)
theorem oC {B:Option Addr} {kV:Value} (l:K.lookup f=some ⟨oc,od,.func (fnOf x qual (aG st) (aF st) (aj st) .none kV doc pm B cdv ct),osl⟩)
  (c:y_ K cdv qual=true) (k:v_ K (.ref f)=true):Fun K x qual st f (fnOf x qual (aG st) (aF st) (aj st) .none kV doc pm B cdv ct):=⟨⟨oc,od,kV,doc,pm,B,cdv,ct,osl,rfl,l,c⟩,k⟩
end
theorem Cp (B:eJ k A):A.units+1 < cLine:=Gc (Nat.add_le_add_left (by decide:1<=64) _) B.units
theorem aU (h:n<=1000):n < l_:=Gc h ∅
theorem fF {c A B:Prop} [Decidable c] (h1:c->A) (h2 : ¬ c->B):if c then A else B:=by
 by_cases h:c
 .rw[if_pos h]
  exact h1 h
 .rw[if_neg h]
  exact h2 h
def aA (H H':Hp):Prop:=∀b o,H b=some o->H' b=some o
theorem aA.refl (H:Hp):aA H H:=λ_ _ h=>h
theorem aA.trans (a:aA H H1) (b:aA H1 H2):aA H H2:=λc o h=>b c o (a c o h)
theorem aA.free (e:aA H H') {l:Addr} (h:H' l=Option.none):H l=Option.none:=by
 cases q:H l with
 | none=>rfl
 | some o =>
  rw[e l o q] at h;cases h
theorem aA.seq (e:aA H H') (h:SqL K H a xs):SqL K H' a xs:=by
 rcases h with(h | ⟨o,h⟩) | h
 .exact .inl (.inl (e _ _ h))
 .exact .inl (.inr ⟨o,e _ _ h⟩)
 .exact .inr h
theorem yC:cA X (.builtin "len") (λxs H Q=>∃a kvs,xs=[V.ref a]/\H a<*kvs/\Q (.int kvs.length) H):=by
 intro pins s σ H xs us Q I r h;obtain⟨a,kvs,rfl,ha,q⟩:=h;obtain⟨u,rfl,B⟩:=eB r;cases B;exact DW I (.inl ha) λt s' F=>⟨.int kvs.length,H,F,⟨t,rfl⟩,q⟩
theorem rR {B:Expr} {it ac:Value} (I:Nat->Shared->Prop)
  (ag : ∀ n s,I n s->wpAny (model prog w) A (HR it) (λr s₁=>match r with
   | none=>R (.ok .next) s₁
   | some v=>wpAny (model prog w) A (letOwnedTupleGo B it v) (λ_ s₁=>wpAny (model prog w) A (assign B env v) (λ_ Y =>
     wpAny (model prog w) A (forIn ifs true λc r=>if r=true then do let ok <- isTrue c env (eval c env);pure (HU ok) else pure (HU r)) (λok L =>
      if ok=true then wpAny (model prog w) A (eval elt env) (λx ab =>
       wpAny (model prog w) A (call (.builtin "list.append") [ac,x]) (λ_ aa=>∃m,m < n/\I m aa) (notedBy (model prog w) A env λe s'=>R (.error e) s') ab) (notedBy (model prog w) A env λe s'=>R (.error e) s') L
      else ∃m,m < n/\I m L) (notedBy (model prog w) A env λe s'=>R (.error e) s') Y) (notedBy (model prog w) A env λe s'=>R (.error e) s') s₁) (notedBy (model prog w) A env λe s'=>R (.error e) s') s₁) (notedBy (model prog w) A env λe s'=>R (.error e) s') s)
  (n:Nat) (h:I n s) :
  Ii (model prog w) A (.compLoop (.ListComp elt [⟨B,iter,ifs,0⟩] scope pos) 0 it ac env) R s:=by
 refine codeAny_loop rfl I (λn s hI=>?_) n h
 show wpAny _ A ((compTurn (.ListComp elt [⟨B,iter,ifs,0⟩] scope pos) 0 it ac env).onRaise (λx=>do noteFrame x env;theTreesLotGoes x)) _ _ s
 refine wpAny_noted ?_
 rw[compTurn_list];refine a_ (wpAny_standAt (a_ (G0 (ag n s hI) (λr s₁ F=>?_) λ_ _ h'=>h')))
 cases r with
 | none=>exact ee F
 | some v =>
  refine a_ (G0 F (λ_ s₁ F=>?_) λ_ _ h'=>h')
  refine a_ (G0 F (λ_ Y ad=>a_ (G0 ad (λok L Z=>?_) λ_ _ h'=>h')) λ_ _ h'=>h')
  cases ok with
  | false=>exact ee ⟨rfl,Z⟩
  | true =>
   exact a_ (a_ (G0 Z (λx ab ae=>a_ (G0 ae (λ_ aa af=>ee (ee ⟨rfl,af⟩)) λ_ _ h'=>h')) λ_ _ h'=>h'))
def PTs (X:Cx) (ifs:List Expr) (t:TT):Prop :=
 ∀ (pins:List (Addr × Obj)) (s:Shared) (σ:St) (H:Hp) (Q:Bool->Hp->Prop),Inv X pins σ H s->t σ H Q ->
  wpAny (model X.prog X.w) X.A (forIn ifs true λc r=>if r=true then do let ok <- isTrue c X.env (eval c X.env);pure (HU ok) else pure (HU r)) (TP X pins σ Q) X.xe s
def tW:TT:=λ_ H Q=>Q true H
theorem cF:PTs X [] tW:=λ_ _ _ H _ I h=>wpAny_tests_nil ⟨H,I,h⟩
theorem gb {c:Expr} {t:TT} (B:PT X c t):PTs X [c] t:=λpins s σ H Q I h=>wpAny_tests_one (B pins s σ H Q I h)
theorem jV {env:Env} : ∀(names:List (Str × GP)) (B:List (Str × Addr)),(∀x∈names,x.2 = .free->∃c,env.cells.lookup x.1=some c) ->
  ∃ cl,(forIn (m:=Sem) names B λx r=>match x with
   | (name,kind)=>if (kind == Gm)=true then do let c <- cellOf env name;pure (HU ((name,c) :: r)) else pure (HU r))=pure cl /\
   (∀x c,cl.lookup x=some c->B.lookup x=some c\/env.cells.lookup x=some c)/\(∀x,(B.lookup x).isSome=true->(cl.lookup x).isSome=true)/\(∀x,(x,Gm)∈names->(cl.lookup x).isSome=true)
 | [],B,_=>⟨B,rfl,λx c h=>.inl h,λx h=>h,λx h=>nomatch h⟩
 | (n, k) :: r,B,h=>by
  by_cases Y:k = .free
  .subst Y
   obtain⟨c,Z⟩:=h (n,.free) FT rfl;obtain⟨cl,e,h1,h2,L⟩:=jV r ((n,c) :: B) (λx F=>h x (zc _ F))
   refine⟨cl,?_,λx d hd=>?_,λx F=>h2 x ?_,λx F=>?_⟩
   .simp only[HM,beq_self_eq_true,if_true,cellOf,Z]
    exact e
   .rcases h1 x d hd with q | q
    .simp only[Gv] at q
     split at q
     .rename_i hb
      have:x=n:=by simpa using hb
      subst this;cases q;exact .inr Z
     .exact .inl q
    .exact .inr q
   .simp only[Gv]
    split
    .rfl
    .exact F
   .rcases u_.mp F with q | q
    .cases q
     exact h2 n (by simp)
    .exact L x q
  .obtain⟨cl,e,h1,h2,L⟩:=jV r B (λx F=>h x (zc _ F))
   refine⟨cl,?_,h1,h2,λx F=>?_⟩
   .have:(k == Gm)=false:=by simpa using Y
    simp only[HM,this,q_,if_false];exact e
   .rcases u_.mp F with q | q
    .cases q
     exact absurd rfl Y
    .exact L x q
def gf (nt:Nat) (js:List Nat) (σ:St):St:=List.replicate nt none++js.map λj=>(σ[j]?).join
def Wk (σ0 B:St):Prop:=σ0.length=B.length/\∀(i:Nat) v,σ0[i]? = some (some v)->B[i]? = some (some v)
def Ae (g:TG) (nt:Nat):Prop:=∀(x:V) (σ0:St) (H:Hp) (Q:St->Hp->Prop),(∀i,i < nt->σ0[i]? = some none)->g x σ0 H Q->g x σ0 H λB H2=>Wk σ0 B/\Q B H2
theorem Wk.set {σ0:St} {i:Nat} {v:V} (h:σ0[i]? = some none):Wk σ0 (σ0.set i (some v)):=by
 refine⟨by simp,λj w e=>?_⟩
 by_cases B:j=i
 .subst B;rw[h] at e;cases e
 .rw[Iw (Gp B)];exact e
theorem Wk.trans {a b c:St} (h:Wk a b) (h':Wk b c):Wk a c:=⟨h.1.trans h'.1,λi v e=>h'.2 i v (h.2 i v e)⟩
theorem aZ (hi:i < nt:=by decide):Ae (gv i) nt:=λx σ0 H Q h q=>⟨Wk.set (h i hi),q⟩
theorem oE : ∀i,i < nt->(gf nt js σ)[i]? = some none:=λi hi=>by
 unfold gf;rw[Gn (by simpa using hi)]
 simp[hi]
def xI (nt:Nat) (js:List Nat) (wi:TI) (g:TG) (tc:TT) (te:TE):TE:=λσ H Q=>wi σ H λJ H1=>∀D,H1 D=none->∃W:Nat->Nat->List V->Hp->Prop,(∃m,W 0 m [] (upd H1 D (.lst []))) /\
 ∀ i m ys H2,W i m ys H2->(J.stop i H2/\Q (.ref D) H2)\/(J.go i H2/\∃N:List V->Hp->Prop,(∀B H',N B H'->∃Y,Y < m/\W (i+1) Y B H') /\
  ∀x H',J.yld i H2 x H'->g x (gf nt js σ) H' λF H3=>tc F H3 λb L=>if b=true then te F L λy Z=>Z D*>ys/\ys.length < l_/\N (ys++[y]) (upd Z D (.lst (ys++[y]))) else N ys L)
theorem gw {env:Env} : ∀{names:List (Str × GP)} {x:Str},names.lookup x=some .free ->
  ((names.map λ(n,k)=>if (k == Gm && env.scope.kind == .function && env.kindOf n == some .cell) then(n,GD) else(n,k)).lookup x=some .cell\/(names.map λ(n,k)=>if (k == Gm && env.scope.kind == .function && env.kindOf n == some .cell) then(n,GD) else(n,k)).lookup x=some .free)
 | [],_,h=>by simp at h
 | (n,k) :: r,x,h=>by
  have F:=@gw env r x;simp only[y3];cases B:x == n with
  | true =>
   simp only[Gv,B] at h;cases h
   by_cases q:(Gm == Gm && env.scope.kind == .function && env.kindOf n == some .cell)=true
   .rw[if_pos q];simp only[Gv,B];simp
   .rw[if_neg q];simp only[Gv,B];simp
  | false =>
   simp only[Gv,B] at h
   by_cases q:(k == Gm && env.scope.kind == .function && env.kindOf n == some .cell)=true
   .rw[if_pos q];simp only[Gv,B];exact F h
   .rw[if_neg q];simp only[Gv,B];exact F h
theorem Inv.wk {Y:Cx} {B:St} (I:Inv Y pins B H s) (h:Wk σ0 B):Inv Y pins σ0 H s:=I.weak h.1 h.2
end L2
namespace PySem
theorem yb:Iy (.type "list_reverseiterator") "__len__" = pure none:=by rw[GV,Gu];kernel_rfl
theorem yT:Iy (.type "list_reverseiterator") "__length_hint__" = pure (some (.builtin "list_reverseiterator.__length_hint__")):=by rw[GV,Gu];kernel_rfl
theorem wu (hh:A.handled=none) (S:Addr) (res:Value) (ad:Nat) (hS:s.heap.get? S=some { cls:=.type "list",data:=.seq #[] ad })
  {I l:Addr} {items:Array Value} (hi:s.heap.IsRevIter I l ((items.size:Int) - 1)) (hl:s.heap.IsList l items) (ag:l≠I) (ab:S≠I) (am:S≠l)
  (hR : ∀h' tk B Z,(∀b o,b≠S->b≠I->s.heap.get? b=some o->h'.get? b=some o)->h'.get? S=some { cls:=.type "list",dict:=none,data:=.seq B Z,slots := #[] } ->
   ItemsOf (λi v=>items[items.size - 1 - i]? = some v) B items.size->R (.ok (.ret res)) { s with heap:=h',toks:=tk }) (hn:items.size<=l_) :
  wpAny (model prog w) A.in1 (F_ (.ref S) (.ref I) res)
   (λaj s'=>match aj with | .done f=>R (.ok f) s' | .again Z=>Z.quiet=true/\Ii (model prog w) A Z R s') (λe s'=>R (.error e) s') s:=by
 have W:=(Walks.listRev (prog:=prog) (w:=w) (A:=A.in1) hh I l ag items);have ai:S∉[I,l]:=λhm=>by
  rcases u_.mp hm with e | e
  .exact ab e
  .exact am (g_.mp e)
 have ac:0<=items.size/\s.heap.IsRevIter I l ((items.size:Int) - 1 - ((0:Nat):Int))/\s.heap.IsList l items:=⟨GR _,by simpa using hi,hl⟩
 unfold F_;refine a_ (IS hi.typeIs ?_)
 have h1:Hz (.ref S) (.ref I)=false:=by simp[Hz,ab]
 have h2:(GL "list_reverseiterator" == GL "list")=false:=∅
 have h3:(GL "list_reverseiterator" == GL "tuple")=false:=∅
 simp only[h1,h2,h3,Bool.or_false,q_,if_false];refine a_ (W.self 0 _ _ _ ac ?_)
 refine a_ (Gy ?_)
 unfold Builtin.List.listLengthHint;refine a_ (GM hi.typeIs yb ?_)
 show wpAny _ A.in1 (specialOf (y6 I) (b_ "__length_hint__") >>= _) _ _ _
 refine a_ (GM hi.typeIs yT ?_)
 (generalize Y:("list_reverseiterator.__length_hint__" : String)=ae;(fail_if_success (clear Y ae));wp_delta;rw[show splitId ae=some ("list_reverseiterator","__length_hint__") from by subst Y;decide+kernel];subst Y)
 refine a_ (HA (b:=true) hi.typeIs (by rw[Ik];kernel_rfl) ?_)
 refine ee ?_
 rw[if_neg ∅]
 refine ee ⟨plainId_quiet HG _,codeAny_extend_loopS W.toS hn _ ai _ items.size 0 _ _ _ rfl (GR _) ac hS (ItemsOf.nil _) λs' B Z hm af aa=>?_⟩
 rw[Moved.eq_with hm];refine hR s'.heap s'.toks B Z (λb ob hb ak e=>hm.heap b ob (λL=>?_) e) af aa
 rcases u_.mp L with e' | L
 .exact hb e'
 .exact ak (g_.mp L)
theorem qb (hh:A.handled=none) (S:Addr) (hS:s.heap.get? S=some { cls:=.type "list",data:=.seq #[] })
  {I l:Addr} {items:Array Value} (hi:s.heap.IsRevIter I l ((items.size:Int) - 1)) (hl:s.heap.IsList l items) (ad:l≠I) (aa:S≠I) (ab:S≠l)
  (hR : ∀h' tk B Y,(∀b o,b≠S->b≠I->s.heap.get? b=some o->h'.get? b=some o)->h'.get? S=some { cls:=.type "list",dict:=none,data:=.seq B Y,slots := #[] } ->
   ItemsOf (λi v=>items[items.size - 1 - i]? = some v) B items.size->R (.ok (.ret .none)) { s with heap:=h',toks:=tk }) (hn:items.size<=l_) :
  wpAny (model prog w) A.in1 (Builtin.«list.__init__» ⟨[.ref S,.ref I],[]⟩)
   (λaf s'=>match af with | .done f=>R (.ok f) s' | .again Y=>Y.quiet=true/\Ii (model prog w) A Y R s') (λe s'=>R (.error e) s') s:=by
 show wpAny _ _ (do let ae <- HY (.ref S);Builtin.List.listUpdate (.ref S) (λ_ => #[]);letGo ae.toList.reverse;F_ (.ref S) (.ref I) .none) _ _ s
 refine a_ ?_
 unfold HY;refine a_ (GE hS rfl (ee ?_))
 show wpAny _ _ (updateSeq S (λ_ => #[]) >>= λ_=>letGo (#[]:Array Value).toList.reverse >>= λ_=>F_ (.ref S) (.ref I) .none) _ _ s
 refine a_ (IK hS rfl ?_)
 have F:=G4 (GI (λ_=>(#[]:Array Value))) hS rfl
 have L : ∀b o,b≠S->s.heap.get? b=some o->(s.heap.update S (GI (λ_=>(#[]:Array Value)))).get? b=some o :=
  λb o hb e=>(GW _ _ (Gp hb)).trans e
 refine a_ (wpAny_letGo ?_)
 refine wu (s:={ s with heap:=s.heap.update S (GI (λ_=>(#[]:Array Value))) }) hh S .none _ F (hi.at λo e=>L _ o (Gp aa) e) (hl.at λo e=>L _ o (Gp ab) e) ad aa ab (λh' tk B Y hk ac Z=>?_) hn
 exact hR h' tk B Y (λb o hb ag e=>hk b o hb ag (L b o hb e)) ac Z
theorem qw (hh:A.handled=none) {I l:Addr} {items:Array Value} (hi:s.heap.IsRevIter I l ((items.size:Int) - 1)) (hl:s.heap.IsList l items) (aa:l≠I)
  (hQ : ∀h' tk B c',(∀b o,b≠I->s.heap.get? b=some o->h'.get? b=some o) ->
   h'.get? s.heap.objs.size=some { cls:=.type "list",dict:=none,data:=.seq B c',slots := #[] }->ItemsOf (λi v=>items[items.size - 1 - i]? = some v) B items.size->Q (.ref s.heap.objs.size) { s with heap:=h',toks:=tk }) (hn:items.size<=l_) :
  wpAny (model prog w) A (call (.type "list") [.ref I]) Q E s:=by
 refine callType_codes (Q₁:=λobj s₁=>obj = .ref s.heap.objs.size/\s₁={ s with heap:=s.heap.push { cls:=.type "list",data:=.seq #[] } }) F.called_list (F.typeCall_list_1 _) F.entry_list_init
  (code_list_new _ ⟨rfl,rfl⟩) λobj s₁ Y=>?_
 obtain⟨rfl,rfl⟩:=Y;have hS:(s.heap.push { cls:=.type "list",data:=.seq #[] }).get? s.heap.objs.size=some { cls:=.type "list",data:=.seq #[] }:=k_ _ rfl
 have up : ∀b o,s.heap.get? b=some o->(s.heap.push { cls:=.type "list",data:=.seq #[] }).get? b=some o:=λb o e=>c_ _ e
 obtain⟨oi,ac,_⟩:=id hi;obtain⟨ol,ab,_⟩:=id hl;refine⟨⟨_,hS,rfl⟩,F.args_list_init_2 _ _,qb (s:={ s with heap:=s.heap.push { cls:=.type "list",data:=.seq #[] } }) (A:=A.in1) hh _ hS (hi.at λo e=>up _ o e) (hl.at λo e=>up _ o e) aa (Gd (e_ ac)) (Gd (e_ ab)) (λh' tk B c' hk Z L=>?_) hn⟩
 exact⟨rfl,hQ h' tk B c' (λb o hb e=>hk b o (E_ (e_ e)) hb (up b o e)) Z L⟩
end PySem
namespace L2
open PySem PySem.Spec PyProof.Rows
mutual
inductive Rep (K:j_) (H:Hp):V->IU->Prop
 | non:Rep K H .non .none
 | bl (b:Bool):Rep K H (.bl b) (.bool b)
 | int (i:Int):Rep K H (.int i) (.int i)
 | str (x:Str):Rep K H (.str x) (.str x)
 | tup {a:Addr} {vs:List V} {ds:List IU}:SqT K H a vs->hU K H vs ds->Rep K H (.ref a) (.tuple ds)
 | lst {a:Addr} {vs:List V} {ds:List IU}:SqL K H a vs->hU K H vs ds->Rep K H (.ref a) (.list ds)
inductive hU (K:j_) (H:Hp):List V->List IU->Prop
 | nil:hU K H [] []
 | cons {v:V} {vs:List V} {d:IU} {ds:List IU}:Rep K H v d->hU K H vs ds->hU K H (v :: vs) (d :: ds)
end
theorem aA.seqT (e:aA H H') (h:SqT K H a xs):SqT K H' a xs:=by
 rcases h with(h | ⟨o,h⟩) | h
 .exact .inl (.inl (e _ _ h))
 .exact .inl (.inr ⟨o,e _ _ h⟩)
 .exact .inr h
theorem hU.ints {K:j_} {H:Hp} : ∀(ns:List Int),hU K H (ns.map V.int) (ns.map G2)
 | []=>.nil
 | _ :: ns=>.cons (.int _) (hU.ints ns)
theorem hU.strs {K:j_} {H:Hp} : ∀(ns:List Str),hU K H (ns.map V.str) (ns.map PyData.str)
 | []=>.nil
 | _ :: ns=>.cons (.str _) (hU.strs ns)
mutual
theorem Inv.reads (I:Inv X pins σ H s) : ∀{v:V} {d:IU} {u:Value},Rep X.K H v d->bv v u->∃as,Reads s.heap u d as
 | _,_,_,.non,r=>by cases r;exact⟨_,.none⟩
 | _,_,_,.bl b,r=>by cases r;exact⟨_,.bool b⟩
 | _,_,_,.int b,r=>by obtain⟨t,rfl⟩:=r;exact⟨_,.int b t⟩
 | _,_,_,.str b,r=>by obtain⟨t,rfl⟩:=r;exact⟨_,.str b t⟩
 | _,_,_,.tup h q,r=>by
  cases r;obtain⟨its,B,⟨o,L,Y,n,F⟩,_⟩:=I.tuple h;obtain⟨as,ra⟩:=Inv.readsAll I q B;exact⟨_,.tuple L Y F (by simpa using ra)⟩
 | _,_,_,.lst h q,r=>by
  cases r;obtain⟨its,B,⟨o,n,L,Y,_,F⟩,_⟩:=I.list h;obtain⟨as,ra⟩:=Inv.readsAll I q B;exact⟨_,.list L Y F (by simpa using ra)⟩
theorem Inv.readsAll (I:Inv X pins σ H s) : ∀{v:List V} {d:List IU} {u:List Value},hU X.K H v d->bu v u->∃as,ReadsAll s.heap u d as
 | _,_,_,.nil,r=>by cases r;exact⟨_,.nil⟩
 | _,_,_,.cons h q,r=>by
  cases r with
  | cons F L =>
   obtain⟨as,ra⟩:=Inv.reads I h F;obtain⟨bs,B⟩:=Inv.readsAll I q L;exact⟨_,.cons ra B⟩
end
section
variable {a b c:Expr} {tc:TE}
def Dg (K:j_):R2:=λx y H Q=>∃dx B,Rep K H x dx/\Rep K H y B/\dx.canLay0=true/\B.canLay0=true/\dx.depth<=100/\Q (.bl (G3 dx B)) H
theorem tz (hu:X.A.units+100 < cLine):OpR X (Gi .Eq) (Dg X.K):=by
 intro pins s σ H x y v u Q I Z ry h;obtain⟨dx,dy,h1,h2,F,B,h5,q⟩:=h;obtain⟨as,Y⟩:=I.reads h1 Z;obtain⟨bs,L⟩:=I.reads h2 ry;exact PySem.SeqAt.compareEq_reads Y L F B () ⟨.bl _,H,I,rfl,q⟩
def EH (K:j_):List V->Hp->VK->Prop:=λxs H Q=>∃x t T k,xs=[x,.ty T]/\mH K H x t/\kitOne K t (.type T)=some k/\Q (.bl k) H
theorem zp:cA X (.builtin "isinstance") (EH X.K):=by
 intro pins s σ H xs us Q I r h;obtain⟨x,t,T,k,rfl,ty,e,q⟩:=h;obtain⟨u,L,rfl,F,B⟩:=vi r;cases B;exact yD I F ty e λtk=>⟨.bl k,H,I.tok tk,rfl,q⟩
theorem Ec {T:String} (Y:Gl X x) (B:X.mg x=none) (L:GN x=some (.type T)) (Z:x ≠ "__name__" := by decide) (F:(x ==("__debug__" : Str))=false:=by decide):PE X (.Name x pos) (tC (.ty T)) :=
 Bz Y B L rfl Z F
theorem jz {its:Array Value} {bs:List Bool} (h:bu (bs.map V.bl) its.toList):TruthOf prog w A (λi v=>its[i]? = some v) (λi=>bs.getD i true):=by
 intro i v s Q E Z F;have h1:its.toList[i]? = some v:=by simpa using Z
 have B:i < its.toList.length:=(p_.mp h1).1
 have hl:=h.length;have L:i < bs.length:=by rw[<- hl] at B;simpa using B
 obtain⟨u,Y,ru⟩:=h.get (i:=i) (x:=V.bl bs[i]) (by simp[L])
 rw[h1] at Y;cases Y;cases ru;refine GU ?_
 have e:bs.getD i true=bs[i]:=by simp[List.getD,L]
 show Q bs[i] s
 have F:Q (bs.getD i true) s:=F
 rw[e] at F;exact F
theorem yy (bs:List Bool):(range bs.length).all (λi=>bs.getD i true)=bs.all id:=by
 rw[FY];simp only[GQ,IM]
 constructor
 .intro h b hb
  obtain⟨i,hi,e⟩:=Gt hb;have:=h i hi
  simp[List.getD,hi,e] at this
  simpa using this
 .intro h i hi
  have:=h bs[i] (HD hi)
  simpa [List.getD,hi] using this
theorem xP (bs:List Bool):(range bs.length).any (λi=>bs.getD i true)=bs.any id:=by
 rw[FY];simp only[GK,IM]
 constructor
 .rintro⟨i,hi,e⟩
  refine⟨bs[i],HD hi,?_⟩
  simpa [List.getD,hi] using e
 .rintro⟨b,hb,e⟩
  obtain⟨i,hi,B⟩:=Gt hb;refine⟨i,hi,?_⟩
  simp only[List.getD,C_ hi,Option.getD_some,B];exact e
def CW (K:j_):List V->Hp->VK->Prop:=λxs H Q=>∃(p:Addr) (bs:List Bool),xs=[.ref p]/\SqL K H p (bs.map V.bl)/\Q (.bl (bs.all id)) H
def CK (K:j_):List V->Hp->VK->Prop:=λxs H Q=>∃(p:Addr) (bs:List Bool),xs=[.ref p]/\SqL K H p (bs.map V.bl)/\Q (.bl (bs.any id)) H
theorem vA (hc:X.calm=true):cA X (.builtin "all") (CW X.K):=by
 intro pins s σ H xs us Q I r h;obtain⟨p,bs,rfl,Y,q⟩:=h;obtain⟨u,rfl,rx⟩:=eB r;cases rx;obtain⟨its,F,pl,hz⟩:=I.list Y;refine call_all_walk (wpAny_pyIter_list pl.isList ?_)
 have B:p≠s.heap.objs.size:=by
  obtain⟨o,n,Z,_⟩:=pl;exact E_ (e_ Z)
 refine⟨_,_,_,_,_,_,λi=>bs.getD i true,rfl,Walks.list (A:=X.A.in1) (I.ok.hd hc) _ p B its.toArray,⟨⟨_,k_ _ rfl,rfl,rfl⟩,pl.isList.at λo e=>c_ _ e⟩,jz (by simpa using F),λh' tk L=>?_⟩
 have hl:its.toArray.size=bs.length:=by have:=F.length;simp at this ⊢;omega
 rw[hl,yy];exact⟨.bl (bs.all id),H,I.kept λb o e=>L b o (by simp;exact E_ (e_ e)) (c_ _ e),rfl,q⟩
theorem wf (hc:X.calm=true):cA X (.builtin "any") (CK X.K):=by
 intro pins s σ H xs us Q I r h;obtain⟨p,bs,rfl,Y,q⟩:=h;obtain⟨u,rfl,rx⟩:=eB r;cases rx;obtain⟨its,F,pl,hz⟩:=I.list Y;refine call_any_walk (wpAny_pyIter_list pl.isList ?_)
 have B:p≠s.heap.objs.size:=by
  obtain⟨o,n,Z,_⟩:=pl;exact E_ (e_ Z)
 refine⟨_,_,_,_,_,_,λi=>bs.getD i true,rfl,Walks.list (A:=X.A.in1) (I.ok.hd hc) _ p B its.toArray,⟨⟨_,k_ _ rfl,rfl,rfl⟩,pl.isList.at λo e=>c_ _ e⟩,jz (by simpa using F),λh' tk L=>?_⟩
 have hl:its.toArray.size=bs.length:=by have:=F.length;simp at this ⊢;omega
 rw[hl,xP];exact⟨.bl (bs.any id),H,I.kept λb o e=>L b o (by simp;exact E_ (e_ e)) (c_ _ e),rfl,q⟩
theorem no (ns:List Int) : ∀n,n<=ns.length->preSum (λi=>ns.getD i 0) n=(ns.take n).sum
 | 0,_=>by simp[preSum]
 | n+1,h=>by
  have B:=no ns n ()
  have e:ns[n]? = some (ns[n]'()):=by simp
  show preSum (λi=>ns.getD i 0) n+ns.getD n 0=_
  rw[B,za,e,List.sum_append,List.getD,e];simp
theorem uL (ns:List Int):preSum (λi=>ns.getD i 0) ns.length=ns.sum:=by
 rw[no ns _ (s_ _),FV]
def BH (K:j_):List V->Hp->VK->Prop:=λxs H Q=>∃(p:Addr) (ns:List Int),xs=[.ref p]/\SqL K H p (ns.map V.int)/\Q (.int ns.sum) H
theorem kz (hc:X.calm=true):cA X (.builtin "sum") (BH X.K):=by
 intro pins s σ H xs us Q I r h;obtain⟨p,ns,rfl,hq,q⟩:=h;obtain⟨u,rfl,rx⟩:=eB r;cases rx;obtain⟨its,Z,pl,hz⟩:=I.list hq;refine call_sum_walkG (wpAny_pyIter_list pl.isList ?_)
 have L:p≠s.heap.objs.size:=by
  obtain⟨o,n,Y,_⟩:=pl;exact E_ (e_ Y)
 refine⟨_,_,_,_,_,_,λi=>ns.getD i 0,rfl,Walks.list (A:=X.A.in1) (I.ok.hd hc) _ p L its.toArray,⟨⟨_,k_ _ rfl,rfl,rfl⟩,pl.isList.at λo e=>c_ _ e⟩,λb F=>?_,λi v hv=>?_,λh' tk t' hk=>?_⟩
 .obtain⟨o,n,Y,_⟩:=pl
  rcases u_.mp F with e | e
  .rw[e];exact n_ (G8 _) (by simp)
  .rw[g_.mp e];exact n_ (e_ Y) (by simp)
 .have h1:its[i]? = some v:=by simpa using hv
  have B:i < its.length:=(p_.mp h1).1
  have hl:=Z.length;have F:i < ns.length:=by rw[<- hl] at B;simpa using B
  obtain⟨u,hu,t,ru⟩:=Z.get (i:=i) (x:=V.int ns[i]) (by simp[F])
  rw[h1] at hu;cases hu;exact⟨t,by rw[ru];simp[List.getD,F]⟩
 .have hl:its.toArray.size=ns.length:=by have:=Z.length;simp at this ⊢;omega
  rw[hl,uL];exact⟨.int ns.sum,H,I.kept λb o e=>hk b o (by simp;exact E_ (e_ e)) (c_ _ e),⟨t',rfl⟩,q⟩
def om (t:TE):TE:=λσ H Q=>t σ H λx H1=>∃p,x = .ref p/\∃ys,H1 p*>ys/\∀l,H1 l=none->Q (.ref l) (upd H1 l (.lst ys.reverse))
end
section
variable {a b c:Expr} {tc:TE} {p pos2:Pos}
theorem oz (hc:X.calm=true) (hg:Gl X "list") (hm:X.mg "list" = none) (ab:Gl X "reversed") (ac:X.mg "reversed" = none) (he:PE X e te) (aa:y9 [e] X.env=[(false,eval e X.env)]:=by rfl) :
  PE X (.Call (.Name "list" p) [.Call (.Name "reversed" p2) [e] [] pos2] [] pos) (om te):=by
 intro pins s σ H Q I h;refine GO (gL I hg hm (by decide+kernel:GN "list" = some (.type "list")) ?_)
 refine F8 (HS ?_) rfl rfl
 refine GO (gL I ab ac boot_reversed ?_)
 refine F8 (Q:=_) ?_ aa rfl
 rw[aa];refine HS (thn (he pins s σ H _ I h) λu L ⟨x,H1,I1,r1,pp,e1,ys,hq',q⟩=>Ib ?_)
 subst e1;cases r1;have hq:SqL X.K H1 pp ys:=.of hq'
 obtain⟨its,rv,pl,hz⟩:=I1.list hq;have ae:=rv.length;refine call_reversed_list pl.isList ?_
 have ad:pp < L.heap.objs.size:=by
  obtain⟨o,n,ho,_⟩:=pl;exact e_ ho
 refine Ib (qw (I.ok.hd hc) (I:=L.heap.objs.size) (l:=pp) (items:=its.toArray) ⟨_,k_ _ rfl,rfl,rfl⟩ (pl.isList.at λo e=>c_ _ e) (E_ ad) (λh' tk B c' hk hS F=>?_) (by simp only[y4];omega))
 have kp : ∀b o,L.heap.get? b=some o->h'.get? b=some o:=λb o e=>hk b o (E_ (e_ e)) (c_ _ e)
 have Z:B=its.reverse.toArray:=by
  apply Array.ext_getElem?
  intro i;have Y:=F.1;simp only[y4] at Y
  by_cases hi:i < its.length
  .have h1:B[i]? = some (B[i]'()):=by simp[Y,hi]
   have h2:=F.2 i _ h1;rw[h1,<- h2];simp only[y4,Il];rw[Im hi]
  .simp only[Il]
   rw[HZ (),List.getElem?_eq_none (by simp;omega)]
 subst Z;have hsz:L.heap.objs.size<=(L.heap.push (revObj pp ((its.toArray.size:Int) - 1))).objs.size:=by rw[FU];exact le_succ _
 exact⟨.ref (L.heap.push (revObj pp ((its.toArray.size:Int) - 1))).objs.size,upd H1 _ (.lst ys.reverse),I1.laid (t':=tk) kp hsz ⟨by simp;omega,its.reverse,c',rv.reverse,hS⟩,rfl,q _ (I1.hok.fresh hsz)⟩
def Bv:V->Option Int->Option Int->Hp->VK->Prop:=λx lo hi H Q=>∃z,x = .str z/\z.length<=l_/\Q (.str (Hb z lo hi)) H
theorem wD:SlR X Bv:=by
 intro pins s σ H x v vl vu lo hi sl Q I rx hs pl pu h;obtain⟨z,rfl,Y,q⟩:=h;obtain⟨t,rfl⟩:=rx;refine⟨"str",_,F.slot_str_getitem.lookup,typeIs_str _ _ _,?_⟩
 have B : ∀(t':Tok) (k:Nat),EP X pins σ Q (.str (Hb z lo hi) t') { s with toks:=k }:=λt' k=>⟨.str _,H,I.tok k,⟨t',rfl⟩,q⟩
 obtain⟨o,h1,h2,L⟩:=hs;cases pl with
 | none=>cases pu with
  | none=>exact HH (l:=none) (u:=none) (st:=none) ⟨o,h1,h2,L⟩ rfl (post_val_or_str ⟨w_ (Io z _ _) Y,λt' k=>B t' k⟩)
  | int j Z=>exact HH (l:=none) (u:=some (j,Z)) (st:=none) ⟨o,h1,h2,L⟩ rfl (post_val_or_str ⟨w_ (Io z _ _) Y,λt' k=>B t' k⟩)
 | int i ui=>cases pu with
  | none=>exact HH (l:=some (i,ui)) (u:=none) (st:=none) ⟨o,h1,h2,L⟩ rfl (post_val_or_str ⟨w_ (Io z _ _) Y,λt' k=>B t' k⟩)
  | int j Z=>exact HH (l:=some (i,ui)) (u:=some (j,Z)) (st:=none) ⟨o,h1,h2,L⟩ rfl (post_val_or_str ⟨w_ (Io z _ _) Y,λt' k=>B t' k⟩)
end
def FnL (K:j_) (mg:Str->Option Value) (x:Str) (st:Stmt) (ps:List Str):Prop :=
 ∃f fd,Fun K x x st f fd/\mg x=some (.ref f)/\jc K fd ps []
def Fn (P:Program) (w:World) (K:j_) (mg:Str->Option Value) (base:Heap) (x:Str) (k:Nat) (ps:List Str) (sp:Sp):Prop :=
 ∃f fd,iH P w K mg base CX0 k f fd ps sp/\mg x=some (.ref f)/\v_ K (.ref f)=true/\jc K fd ps []
section
variable {P:Program} {w:World} {K:j_} {mg:Str->Option Value} {base:Heap}
theorem FnL.ok {x:Str} {st:Stmt} {N ps:List Str} {k:Nat} {sp:Sp} (F:FnL K mg x st ps) (S:aH N ps (aj st)) (L : ∀vs H Q E,sp vs H Q E->vs.length=ps.length)
  (B : ∀(f:Addr) (cdv:Value) (A:Around) (outer:List Env) (s:Shared) (H:Hp) (vs:List V) (Q:VK) (E:XK),eJ k (A.deeper (envOfC x (aj st) s.heap.objs.size f cdv))->sp vs H Q E ->
   ∃t,PSs (sj CX0 P w K mg base N x (aj st) f cdv A outer s H E).nox (aF st) t/\t { nx:=λ_ H'=>Q .non H',rt:=Q } (iO N vs) H):Fn P w K mg base x (k+1) ps sp:=by
 obtain⟨f,fd,F,m,b⟩:=F;exact⟨f,fd,F.ok S L (B f),m,F.kp,b⟩
theorem Fn.mono {x:Str} {j k:Nat} {ps:List Str} {sp:Sp} (F:Fn P w K mg base x j ps sp) (h:j<=k):Fn P w K mg base x k ps sp:=by
 obtain⟨f,fd,F,m,B,b⟩:=F;exact⟨f,fd,F.mono h,m,B,b⟩
theorem bK {B:Option Addr} {kV:Value} (X:K.In h) (G:h.Ns i_ mg)
  (a:nsIn K i_ x=some (-f))
  (l:K.lookup f=some ⟨oc,od,.func (fnOf x x (aG st) (aF st) (aj st) .none kV doc pm B cdv ct),osl⟩)
  (c:y_ K cdv x=true) (k:v_ K (.ref f)=true)
  (F : ∀(kV doc pm:Value) (B:Option Addr) (cdv ct:Value) (us:List Value),us.length=ps.length->bindArgs (fnOf x x (aG st) (aF st) (aj st) .none kV doc pm B cdv ct) ⟨us,[]⟩=pure (ps.zip us)):FnL K mg x st ps :=
 ⟨f,_,oC l c k,mg_of X G a,(oC l c k).binds F⟩
end
section
variable {p:Pos} {t:TA}
theorem aC (F:Fn X.prog X.w X.K X.mg X.base x k ps sp) (ha:PA X (e :: es) t) (Y:eJ k X.A:=by exact eJ.mono (by assumption) (by first | decide | omega)) (hg:Gl X x:=by exact rfl) (B:(x ==("__debug__" : Str))=false:=by decide)
  (he:y9 (e :: es) X.env=(false,eval e X.env) :: y9 es X.env:=by rfl) (L:(GS pos (y9 es X.env)).any (·.1)=false:=by rfl) :
  PE X (.Call (.Name x p) (e :: es) [] pos) (tP sp [] E0 t):=by
 obtain⟨f,fd,F,m,Z,b⟩:=F;exact Bk F Y hg m Z b .nil qz ha B he L
end
structure Wlk (J:It) (xs:List V) (C:Hp->Prop):Prop where
 go : ∀i H,C H->i < xs.length->J.go i H
 yld : ∀i H x H',C H->i < xs.length->J.yld i H x H'->xs[i]? = some x/\H'=H
 stop : ∀i H,C H->xs.length<=i->J.stop i H
theorem dD:Wlk (Itl K a) xs (λH=>SqL K H a xs) :=
 ⟨λi H h hi=>⟨xs,xs[i],h,by simp[hi]⟩,λi H x H' h _ y=>⟨y.2 xs h,y.1⟩,λi H h hi=>⟨xs,h,hi⟩⟩
theorem ba:Wlk (Itt K a) xs (λH=>SqT K H a xs) :=
 ⟨λi H h hi=>⟨xs,xs[i],h,by simp[hi]⟩,λi H x H' h _ y=>⟨y.2 xs h,y.1⟩,λi H h hi=>⟨xs,h,hi⟩⟩
def vZ (lo:Int) (n:Nat):List V:=(range n).map λ(i:Nat)=>V.int (lo+(i:Int))
theorem aY (lo:Int) (n:Nat):(vZ lo n).length=n:=by simp[vZ]
theorem lh (h:i < n):(vZ lo n)[i]? = some (.int (lo+i)):=by simp[vZ,h]
theorem eE:Wlk (Itr lo n) (vZ lo n) (λ_=>True) :=
 ⟨λi H _ hi=>by rw[aY] at hi;exact hi,λi H x H' _ hi y=>by
  obtain⟨e,y⟩:=y;rw[aY] at hi;rw[lh hi,y];exact⟨rfl,e⟩,λi H _ hi=>by rw[aY] at hi;exact hi⟩
theorem Cl {C:Hp->Prop} (w:Wlk J xs C) {g:TG} {tb:TS} {D:nE} {σ:St} {H:Hp} (F:Nat->St->Hp->Prop) (h0:F 0 σ H) (hl : ∀i σ H,F i σ H->C H)
  (Z : ∀i x σ H,i < xs.length->xs[i]? = some x->F i σ H->g x σ H λL H2=>tb { D with nx:=F (i+1),ct:=F (i+1),bk:=D.nx } L H2) (hd : ∀ σ H,F xs.length σ H->D.nx σ H) :
  ∃ W:Nat->Nat->St->Hp->Prop,(∃m,W 0 m σ H)/\∀i m σ H,W i m σ H ->
   (J.stop i H/\D.nx σ H)\/(J.go i H/\∃N:St->Hp->Prop,(∀ σ' H',N σ' H'->∃Y,Y < m/\W (i+1) Y σ' H')/\∀x H',J.yld i H x H'->g x σ H' λL H2=>tb { D with nx:=N,ct:=N,bk:=D.nx } L H2):=by
 refine⟨λi m σ H=>m=xs.length - i/\i<=xs.length/\F i σ H,⟨xs.length,by simp,GR _,h0⟩,?_⟩
 rintro i m σ H ⟨rfl,hi,p⟩
 have q:=hl i σ H p
 by_cases B:i < xs.length
 .refine .inr ⟨w.go i H q B,F (i+1),λσ' H' p'=>⟨xs.length - (i+1),(),rfl,B,p'⟩,λx H' y=>?_⟩
  obtain⟨e1,e2⟩:=w.yld i H x H' q B y;subst e2;exact Z i x σ _ B e1 p
 .have e:i=xs.length:=()
  subst e;exact .inl ⟨w.stop _ H q (s_ _),hd σ H p⟩
theorem yO {C:Hp->Prop} (w:Wlk J xs C) {g:TG} {tc:TT} {te:TE} {σ0:St} {Q:VK} {H1:Hp} {D:Addr} (L:Nat->List V->Hp->Prop) (h0:L 0 [] (upd H1 D (.lst []))) (hl : ∀i ys H,L i ys H->C H)
  (hs : ∀i x ys H,i < xs.length->xs[i]? = some x->L i ys H->g x σ0 H λB H3=>tc B H3 λb Z=>if b=true then te B Z λy H5=>H5 D*>ys/\ys.length < l_/\L (i+1) (ys++[y]) (upd H5 D (.lst (ys++[y]))) else L (i+1) ys Z)
  (hd : ∀ys H,L xs.length ys H->Q (.ref D) H) :
  ∃ W : Nat->Nat->List V->Hp->Prop,(∃m,W 0 m [] (upd H1 D (.lst []))) /\
   ∀ i m ys H2,W i m ys H2->(J.stop i H2/\Q (.ref D) H2)\/(J.go i H2/\∃N:List V->Hp->Prop,(∀Y H',N Y H'->∃m',m' < m/\W (i+1) m' Y H') /\
    ∀x H',J.yld i H2 x H'->g x σ0 H' λB H3=>tc B H3 λb Z=>if b=true then te B Z λy H5=>H5 D*>ys/\ys.length < l_/\N (ys++[y]) (upd H5 D (.lst (ys++[y]))) else N ys Z):=by
 refine⟨λi m ys H=>m=xs.length - i/\i<=xs.length/\L i ys H,⟨xs.length,by simp,GR _,h0⟩,?_⟩
 rintro i m ys H ⟨rfl,hi,p⟩
 have q:=hl i ys H p
 by_cases F:i < xs.length
 .refine .inr ⟨w.go i H q F,L (i+1),λσ' H' p'=>⟨xs.length - (i+1),(),rfl,F,p'⟩,λx H' y=>?_⟩
  obtain⟨e1,e2⟩:=w.yld i H x H' q F y;subst e2;exact hs i x ys _ F e1 p
 .have e:i=xs.length:=()
  subst e;exact .inl ⟨w.stop _ H q (s_ _),hd ys H p⟩
end L2
namespace HT
open PySem PyProof.Rows
open PySem.SeqAt
open PySem.AutoSeq1 (wpAny_loadPart')
open PySem.MeetsSeq PySem.MeetsSeq2 PySem.MeetsSeq3
theorem getItem_tuple_whole {t:Addr} {lo:Option Int} (B:IsTup s.heap t items) (Z:s.heap.IsSliceOf sl vl vu .none) (pl:IsPart vl lo) (pu:IsPart vu hi)
  (h1:sIx items.size 0 lo=0) (h2:sIx items.size items.size hi=items.size)
  (h:Q (.ref t) s):wpAny (model prog w) A (getItem (.ref t) (.ref sl)) Q E s:=by
 obtain⟨os,Y,F,aa⟩:=id Z;have L:s.TypeIs (.ref sl) "slice" :=⟨os,Y,F⟩
 unfold getItem
 try with_reducible refine Gy ?_
 first | refine a_ (ee ?_) | skip
 refine a_ (wpAny_sequenceKey B.typeIs ∅ ?_)
 refine a_ (FS (name:=b_ "__getitem__") B.typeIs Gw
  (FW Gw B.typeIs entry_tuple_getitem ?_ (args_tuple_getitem _ _)))
 show wpAny _ _ (Builtin.Tuple.tupleItemsOf (.ref t) >>= _) _ _ s
 refine a_ (tupleItemsOf_ B ?_)
 refine a_ (IS L ?_)
 rw[if_pos ∅]
 refine a_ (im Z pl pu ?_)
 rw[h1,h2]
 show wpAny _ _ (if (((0:Nat):Int) == 0 && (1:Int) == 1 && (items.size - 0) == items.size)=true then _ else _) _ _ s
 rw[if_pos (by simp)]
 unfold Builtin.Tuple.tupleIsExact;refine a_ (a_ (IS B.typeIs (ee ?_)))
 rw[if_pos ∅]
 exact a_ (wpAny_rule (ee ⟨_,rfl,ee h⟩))
end HT
namespace L2
open PySem PySem.Spec PyProof.Rows
def iI (xs:List (Str × GP)) (x:Str):Bool:=xs.lookup x == some .cell || xs.lookup x == some .free
theorem jp {xs:List (Str × GP)} (h:iI xs x=true):xs.lookup x=some .cell\/xs.lookup x=some .free:=by
 unfold iI at h;rw[Bool.or_eq_true] at h;simpa using h
def DX (K:j_):V->Option Int->Option Int->Hp->VK->Prop:=λx lo hi H Q=>∃a xs,x = .ref a/\SqT K H a xs/\(gP xs lo hi=xs->Q (.ref a) H)/\(∀p,H p=none->Q (.ref p) (upd H p (.tup (gP xs lo hi))))
theorem Bp:SlR X (DX X.K):=by
 intro pins s σ H x v vl vu lo hi sl Q I rx Z pl Y h;obtain⟨a,xs,e,hx,q1,q2⟩:=h
 by_cases F:HT.sIx xs.length 0 lo=0/\HT.sIx xs.length xs.length hi=xs.length
 .subst e
  cases rx;obtain⟨its,r,L,hz⟩:=I.tuple hx;have B:its.toArray.size=xs.length:=by rw[y4];exact r.length.symm
  refine⟨"tuple",_,Gw.lookup,L.typeIs,?_⟩
  refine HT.getItem_tuple_whole L Z pl Y (by rw[B];exact F.1) (by rw[B];exact F.2) ⟨.ref a,H,I,rfl,q1 ?_⟩
  unfold gP;rw[F.1,F.2];simp
 .exact DE pins s σ H x v vl vu lo hi sl Q I rx Z pl Y ⟨a,xs,e,hx,F,q2⟩
theorem DP {s:Str} {P:Key->Prop}:(∃k,V.str s=kV k/\P k)↔P (t_ s):=by
 constructor
 .rintro⟨k,e,p⟩
  cases k with
  | inl i=>cases e
  | inr x=>cases e;exact p
 .exact λp=>⟨_,rfl,p⟩
theorem Eg {i:Int} {P:Key->Prop}:(∃k,V.int i=kV k/\P k)↔P (o_ i):=by
 constructor
 .rintro⟨k,e,p⟩
  cases k with
  | inl i=>cases e;exact p
  | inr x=>cases e
 .exact λp=>⟨_,rfl,p⟩
section
variable {o i:Expr}
def tDG (td ty:TE):TE:=λσ H Q=>td σ H λx H1=>ty σ H1 λy H2=>∃a,x = .ref a/\∃k,y=kV k/\∃kvs v,H2 a<*kvs/\bY kvs k=some v/\Q v H2
theorem cm (hu:X.A.units+1 < cLine) (ho:PE X o td) (hi:PE X i ty) (hs:CZ i:=by exact λ_ _=>rfl):PE X (.Subscript o i pos) (tDG td ty):=by
 intro pins s σ H Q I h;refine xB PySem.F.slot_dict_getitem.lookup hs (thn (ho pins s σ H _ I h) λu Z ⟨x,H1,I1,rx,q1⟩=>thn (hi pins Z σ H1 _ I1 q1) λiv s2 B=>?_)
 obtain⟨y,H2,Y,ry,a,ex,k,ey,kvs,v,hd,hv,q2⟩:=B;subst ex;obtain rfl:u=y6 a:=rx
 have g:kc H2 a y (some v):=.inl ⟨kvs,k,.inl hd,ey,hv.symm⟩
 exact⟨mT Y g,qJ hu Y g ry λw' s3 I3 L=>⟨v,H2,I3,L,q2⟩⟩
def sDP (td ty tv:TE):TS:=λD σ H=>tv σ H λv H1=>td σ H1 λx H2=>ty σ H2 λy B=>∃a,x = .ref a/\∃k,y=kV k/\∃kvs,B a<*kvs/\kvs.length < l_/\D.nx σ (upd B a (.dK (bE kvs k v)))
theorem iq (hu:X.A.units+1 < cLine) (ho:PE X o td) (hi:PE X i ty) (hv:PE X value tv) (hs:IQ value (some (.Subscript o i pos')) pos.line X.env=pure false) :
  PS X (.Assign [.Subscript o i pos'] value pos) (sDP td ty tv):=by
 intro pins s σ H D I h;refine wpAny_Assign_Subscript (thn (hv pins s σ H _ I h) λr L ⟨v,H1,I1,rv,q1⟩=>thn (ho pins L σ H1 _ I1 q1) λu Z ⟨x,H2,I2,rx,q2⟩=>thn (hi pins Z σ H2 _ I2 q2) λiv s3 B=>?_) hs
 obtain⟨y,F,Y,ry,a,ex,k,ey,kvs,hd,hl,q3⟩:=B;subst ex;obtain rfl:u=y6 a:=rx
 have g:ww F a y v (upd F a (.dK (bE kvs k v))):=.inl ⟨kvs,k,hd,ey,hl,rfl⟩
 exact rg hu Y g ry rv λs4 I4=>⟨σ,_,I4,q3⟩
def tDI (ty td:TE):TE:=λσ H Q=>ty σ H λy H1=>td σ H1 λx H2=>∃a,x = .ref a/\∃k,y=kV k/\∃kvs,H2 a<*kvs/\Q (.bl (bY kvs k).isSome) H2
end
theorem tY {c:TT} {tb:TS} (W:Nat->St->Hp->Prop) (B:St->Hp->Prop) (Y : ∃m,W m σ H)
  (Z : ∀R:St->Hp->Prop,(∀ σ H,B σ H->R σ H)->∀m σ H,W m σ H->c σ H λb H1=>if b=true then ∃N:St->Hp->Prop,(∀ σ' H',N σ' H'->∃L,L < m/\W L σ' H')/\tb { D with nx:=N,ct:=N,bk:=R } σ H1 else R σ H1)
  (F : ∀ σ H,B σ H->D.nx σ H):vX c tb D σ H:=⟨W,Y,λm σ H w=>Z D.nx F m σ H w⟩
theorem cxK {q:Str} {o:List Env} {E:XK} :
  (sj CX P w K mg base N q sc f cd A o s H E).K=K:=rfl
theorem A9 (i j:Int):uc (.int i) (.int j)=true:=rfl
theorem BV (i j:Str):uc (.str i) (.str j)=true:=rfl
theorem Bf (i j:Bool):uc (.bl i) (.bl j)=true:=rfl
theorem Bm:uc .non .non=true:=rfl
theorem Bx (i:Int):uc (.int i) .non=true:=rfl
theorem BZ (s:Str) (i:Int):uc (.str s) (.int i)=true:=rfl
section
variable {a b o l:Expr} {t:TA}
theorem OpR.imp {f:Value->Value->Sem Value} {r r':R2} (h:OpR X f r) (i : ∀x y H Q,r' x y H Q->r x y H Q):OpR X f r':=λpins s σ H x y v u Q I F B q=>h pins s σ H x y v u Q I F B (i _ _ _ _ q)
theorem cA.imp {f:Value} {r r':List V->Hp->VK->Prop} (h:cA X f r) (i : ∀x H Q,r' x H Q->r x H Q):cA X f r':=λpins s σ H xs us Q I B q=>h pins s σ H xs us Q I B (i _ _ _ q)
theorem IxR.imp {r r':R2} (h:IxR X r) (i : ∀x y H Q,r' x y H Q->r x y H Q):IxR X r':=λvalue B pins s σ H x y v u Q I L Y q F=>h value B pins s σ H x y v u Q I L Y (i _ _ _ _ q) F
theorem SlR.imp (h:SlR X r) (i : ∀x lo hi H Q,r' x lo hi H Q->r x lo hi H Q):SlR X r':=λpins s σ H x v vl vu lo hi sl Q I L F pl B q=>h pins s σ H x v vl vu lo hi sl Q I L F pl B (i _ _ _ _ _ q)
def ze:List V->Hp->VK->Prop:=λxs H Q=>∃p,xs=[.ref p]/\∃ys,H p*>ys/\Q (.int ys.length) H
def zR:List V->Hp->VK->Prop:=λxs H Q=>∃p,xs=[.ref p]/\∃ys,H p>>ys/\Q (.int ys.length) H
theorem ck:cA X (.builtin "len") ze:=kS.imp λ_ _ _ B=>by obtain⟨p,e,ys,h,q⟩:=B;exact(⟨p,ys,e,.inl (.of h),q⟩)
theorem jE:cA X (.builtin "len") zR:=kS.imp λ_ _ _ B=>by obtain⟨p,e,ys,h,q⟩:=B;exact(⟨p,ys,e,.inr (.of h),q⟩)
def rIL:R2:=λx y H Q=>∃p,x = .ref p/\∃i,y = .int i/\∃xs,H p*>xs/\∃v,atI xs i=some v/\Q v H
def rIT:R2:=λx y H Q=>∃p,x = .ref p/\∃i,y = .int i/\∃xs,H p>>xs/\∃v,atI xs i=some v/\Q v H
theorem iR:IxR X rIL:=Cm.imp λ_ _ _ _ B=>by obtain⟨p,e,i,e2,xs,h,v,ha,q⟩:=B;exact(⟨p,xs,i,v,e,e2,.of h,ha,q⟩)
theorem bg:IxR X rIT:=DI.imp λ_ _ _ _ B=>by obtain⟨p,e,i,e2,xs,h,v,ha,q⟩:=B;exact(⟨p,xs,i,v,e,e2,.of h,ha,q⟩)
def rIS:R2:=λx y H Q=>∃z,x = .str z/\∃i,y = .int i/\z.length<=l_/\∃c,atI z.cps.toList i=some c/\Q (.str ⟨#[c]⟩) H
theorem Cn:IxR X rIS:=Dw.imp λ_ _ _ _ B=>by obtain⟨z,e,i,e2,h,c,ha,q⟩:=B;exact(⟨z,i,c,e,e2,h,ha,q⟩)
def rSL:V->Option Int->Option Int->Hp->VK->Prop:=λx lo hi H Q=>∃a,x = .ref a/\∃xs,H a*>xs/\∀p,H p=none->Q (.ref p) (upd H p (.lst (gP xs lo hi)))
theorem C4:SlR X rSL:=xH.imp λ_ _ _ _ _ B=>by obtain⟨a,e,xs,h,q⟩:=B;exact(⟨a,xs,e,.of h,q⟩)
def rSQ (K:j_):V->Option Int->Option Int->Hp->VK->Prop:=λx lo hi H Q=>∃a,x = .ref a/\∃xs,SqL K H a xs/\∀p,H p=none->Q (.ref p) (upd H p (.lst (gP xs lo hi)))
theorem Ex:SlR X (rSQ X.K):=xH.imp λ_ _ _ _ _ B=>by obtain⟨a,e,xs,h,q⟩:=B;exact(⟨a,xs,e,h,q⟩)
def rST:V->Option Int->Option Int->Hp->VK->Prop:=λx lo hi H Q=>∃a,x = .ref a/\∃xs,H a>>xs/\(gP xs lo hi=xs->Q (.ref a) H)/\(∀p,H p=none->Q (.ref p) (upd H p (.tup (gP xs lo hi))))
theorem EN:SlR X rST:=Bp.imp λ_ _ _ _ _ B=>by obtain⟨a,e,xs,h,q⟩:=B;exact(⟨a,xs,e,.of h,q⟩)
def iL (K:j_) (tl:TE):TI:=λσ H R=>tl σ H λx H1=>∃a,x = .ref a/\∃xs,H1 a*>xs/\R (Itl K a) H1
def iT (K:j_) (tl:TE):TI:=λσ H R=>tl σ H λx H1=>∃a,x = .ref a/\∃xs,H1 a>>xs/\R (Itt K a) H1
theorem EA {tl:TE} (hl:PE X l tl):PI X tg l (iL X.K tl):=by
 intro pins s σ H R I h;refine thn (hl pins s σ H _ I h) λv F B=>?_
 obtain⟨x,H1,L,Y,a,e,xs,Z,q⟩:=B;subst e;cases Y;obtain⟨its,rv,p,hz⟩:=L.list (SqL.of Z);refine wpAny_pyIter_list p.isList ?_
 refine⟨F.heap.objs.size,[F.heap.objs.size],_,_,H1,rfl,L.kept (t':=F.toks) λb o e=>c_ _ e,yl a _,⟨_,k_ _ rfl,rfl,rfl⟩,λb hb=>?_,q⟩
 have e:b=F.heap.objs.size:=by simpa using hb
 subst e;exact L.fpOk (s_ _) (L.hok.fresh (s_ _))
theorem E5 {tl:TE} (hl:PE X l tl):PI X tg l (iT X.K tl):=by
 intro pins s σ H R I h;refine thn (hl pins s σ H _ I h) λv F B=>?_
 obtain⟨x,H1,L,Y,a,e,xs,Z,q⟩:=B;subst e;cases Y;obtain⟨its,rv,p,hz⟩:=L.tuple (SqT.of Z);refine GH (show F.heap.IsTuple a its.toArray from p) ?_
 refine⟨F.heap.objs.size,[F.heap.objs.size],_,_,H1,rfl,L.kept (t':=F.toks) λb o e=>c_ _ e,wH a _,⟨_,k_ _ rfl,rfl,rfl⟩,λb hb=>?_,q⟩
 have e:b=F.heap.objs.size:=by simpa using hb
 subst e;exact L.fpOk (s_ _) (L.hok.fresh (s_ _))
abbrev RM:=Addr->List V->Hp->VK->Prop
def MtL (X:Cx) (id:String) (r:RM):Prop:=MtR X id λx vs H Q=>∃p,x = .ref p/\r p vs H Q
def tML (r:RM) (to:TE) (t:TA):TE:=λσ H Q=>to σ H λx H1=>∃p,x = .ref p/\(∃xs,H1 p*>xs)/\t σ H1 λvs H2=>r p vs H2 Q
variable {id:String} {r:RM}
theorem jP (ab:Slot "list" name id) (ac:typeOf (.builtin id)=pure (.type "method_descriptor")) (hm:MtL X id r) (ho:PE X o to) (ha:PA X (e :: es) t)
  (Y:ID o name X.env (eval o X.env)=eval o X.env:=by rfl)
  (aa:((GS cpos (y9 (e :: es) X.env)).all (λx=>!x.1) && (backToKw cpos (IG [] X.env)).all (λx=>x.1.isSome)
   && decide ((e :: es).length+([]:List Keyword).length+(if ([]:List Keyword).isEmpty then 0 else 1) < 30))=true:=by rfl)
  (Z:(apos.endLine == cpos.line)=true:=by rfl) (hs:y9 (e :: es) X.env=(false,eval e X.env) :: y9 es X.env:=by rfl) (L:(GS cpos (y9 es X.env)).any (·.1)=false:=by rfl) :
  PE X (.Call (.Attribute o name apos) (e :: es) [] cpos) (tML r to t):=by
 intro pins s σ H Q I h;refine wpAny_Call_method_late Y aa Z rfl (thn (ho pins s σ H _ I h) λv s1 ⟨x,H1,I1,r1,p,ex,⟨xs,hp⟩,q1⟩=>?_)
 subst ex;have ty:tyV X.K "list" (.ref p) H1:=.inl ⟨rfl,xs,.of hp⟩
 obtain⟨h1,h2⟩:=vI I1 r1 ty;refine⟨"list",id,PySem.F.plainAttrs_list,ab,ac,h1,h2,?_⟩
 have hA:=ha cpos pins s1 σ H1 _ I1 q1;rw[hs] at hA ⊢;refine H0 (by show(false || (GS cpos (y9 es X.env)).any (·.1))=false;rw[L] <;> rfl) (Calls.evalArgs_plain ?_)
 refine thn hA λus s2 B=>?_
 obtain⟨vs,H2,I2,rr,q2⟩:=B;exact hm pins s2 σ H2 (.ref p) vs v us Q I2 r1 rr ⟨p,rfl,q2⟩
theorem Dh (Y:Slot "list" name id) (Z:typeOf (.builtin id)=pure (.type "method_descriptor")) (hm:MtL X id r) (ho:PE X o to)
  (L:ID o name X.env (eval o X.env)=eval o X.env:=by rfl) (B:(apos.endLine == cpos.line)=true:=by rfl):PE X (.Call (.Attribute o name apos) [] [] cpos) (tML r to vL):=by
 intro pins s σ H Q I h;refine wpAny_Call_method0_late L B (thn (ho pins s σ H _ I h) λv s1 ⟨x,H1,I1,r1,p,ex,⟨xs,hp⟩,q1⟩=>?_)
 subst ex;have ty:tyV X.K "list" (.ref p) H1:=.inl ⟨rfl,xs,.of hp⟩
 obtain⟨h1,h2⟩:=vI I1 r1 ty;exact⟨"list",id,PySem.F.plainAttrs_list,Y,Z,h1,h2,H0 rfl (PySem.evalArgs_none (hm pins s1 σ H1 _ [] v [] Q I1 r1 .nil ⟨p,rfl,q1⟩))⟩
def oP:RM:=λp vs H Q=>∃y,vs=[y]/\∃xs,H p*>xs/\xs.length < l_/\Q .non (upd H p (.lst (xs++[y])))
theorem eI:MtL X "list.append" oP:=λpins s σ H x vs v us Q I F L B=>by obtain⟨p,e,y,e2,xs,h,hl,q⟩:=B;exact(ri pins s σ H x vs v us Q I F L ⟨p,xs,y,e,e2,h,hl,q⟩)
def AA:RM:=λp vs H Q=>vs=[]/\∃xs,H p*>xs/\∃y,xs[xs.length - 1]? = some y/\Q y (upd H p (.lst xs.dropLast))
theorem CQ:MtL X "list.pop" AA:=λpins s σ H x vs v us Q I F L B=>by obtain⟨p,e,e2,xs,h,y,hl,q⟩:=B;exact(Dz pins s σ H x vs v us Q I F L ⟨p,xs,y,e,e2,h,hl,q⟩)
def rCL:R2:=λx y H Q=>∃l,x = .ref l/\∃b,y = .ref b/\∃xs,H l*>xs/\∃zs,H b*>zs/\xs.length+zs.length<=l_/\∀p,H p=none->Q (.ref p) (upd H p (.lst (xs++zs)))
theorem BQ:OpR X (G_ .Add) rCL:=Dj.imp λ_ _ _ _ B=>by obtain⟨l,e,b,e2,xs,h,zs,h2,hl,q⟩:=B;exact(⟨l,b,xs,zs,e,e2,h,h2,hl,q⟩)
def AX (B:Bool):R2:=λx y H Q=>∃p,y = .ref p/\∃xs,H p*>xs/\gH x=true/\xs.all gH=true/\Q (.bl (if B then !inV x xs else inV x xs)) H
def Bu (B:Bool):R2:=λx y H Q=>∃p,y = .ref p/\∃xs,H p>>xs/\gH x=true/\xs.all gH=true/\Q (.bl (if B then !inV x xs else inV x xs)) H
theorem tJ:OpR X (Gi .In) (AX false):=qN.imp λ_ _ _ _ B=>by obtain⟨p,e,xs,h,f1,F,q⟩:=B;exact(⟨p,xs,e,.inl (.of h),f1,F,q⟩)
theorem gS:OpR X (Gi .In) (Bu false):=qN.imp λ_ _ _ _ B=>by obtain⟨p,e,xs,h,f1,F,q⟩:=B;exact(⟨p,xs,e,.inr (.of h),f1,F,q⟩)
theorem qA:OpR X (Gi .NotIn) (Bu true):=rL.imp λ_ _ _ _ B=>by obtain⟨p,e,xs,h,f1,F,q⟩:=B;exact(⟨p,xs,e,.inr (.of h),f1,F,q⟩)
def zC:List V->Hp->VK->Prop:=λxs H Q=>∃p,xs=[.ref p]/\∃ys,H p*>ys/\∀l,H l=none->Q (.ref l) (upd H l (.tup ys))
theorem dO:cA X (.type "tuple") zC:=qc.imp λ_ _ _ B=>by obtain⟨p,e,ys,h,q⟩:=B;exact(⟨p,ys,e,.inl ⟨.of h,q⟩⟩)
def rCS:R2:=λx y H Q=>∃i,x = .str i/\∃j,y = .str j/\i.length+j.length<=l_/\Q (.str (i++j)) H
theorem tF:OpR X (G_ .Add) rCS:=vO.imp λ_ _ _ _ B=>by obtain⟨i,e,j,e2,h,q⟩:=B;exact(⟨i,j,e,e2,h,q⟩)
def Aw:List V->Hp->VK->Prop:=λxs H Q=>∃z,xs=[.str z]/\z.length<=l_/\Q (.int z.length) H
theorem xM:cA X (.builtin "len") Aw:=tK
end
def mR (J:It) (σ0:St) (g:TG) (tc:TT) (te:TE) (Q:VK) (H1:Hp) (D:Addr):Prop:=∃W:Nat->Nat->List V->Hp->Prop,(∃m,W 0 m [] (upd H1 D (.lst []))) /\
 ∀ i m ys H2,W i m ys H2->(J.stop i H2/\Q (.ref D) H2)\/(J.go i H2/\∃N:List V->Hp->Prop,(∀B H',N B H'->∃Y,Y < m/\W (i+1) Y B H') /\
  ∀x H',J.yld i H2 x H'->g x σ0 H' λF H3=>tc F H3 λb L=>if b=true then te F L λy Z=>Z D*>ys/\ys.length < l_/\N (ys++[y]) (upd Z D (.lst (ys++[y]))) else N ys L)
theorem zd (nt:Nat) (js:List Nat) (wi:TI) (g:TG) (tc:TT) (te:TE):xI nt js wi g tc te=λσ H Q=>wi σ H λJ H1=>∀D,H1 D=none->mR J (gf nt js σ) g tc te Q H1 D:=rfl
def C1 (J:It) (g:TG) (tb:TS) (D:nE) (σ:St) (H1:Hp):Prop:=∃W:Nat->Nat->St->Hp->Prop,(∃m,W 0 m σ H1)/\∀i m σ H,W i m σ H ->
 (J.stop i H/\D.nx σ H)\/(J.go i H/\∃N:St->Hp->Prop,(∀ σ' H',N σ' H'->∃F,F < m/\W (i+1) F σ' H')/\∀x H',J.yld i H x H'->g x σ H' λB H2=>tb { D with nx:=N,ct:=N,bk:=D.nx } B H2)
theorem Br (wi:TI) (g:TG) (tb:TS):Ey wi g tb=λD σ H=>wi σ H λJ H1=>C1 J g tb D σ H1:=rfl
theorem cL {C:Hp->Prop} (w:Wlk J xs C) {g:TG} {tb:TS} {D:nE} {σ:St} {H:Hp} (B:Nat->St->Hp->Prop) (Z:B 0 σ H) (hl : ∀i σ H,B i σ H->C H)
  (Y : ∀i x σ H,i < xs.length->xs[i]? = some x->B i σ H->g x σ H λF H2=>tb { D with nx:=B (i+1),ct:=B (i+1),bk:=D.nx } F H2) (L : ∀ σ H,B xs.length σ H->D.nx σ H):C1 J g tb D σ H :=
 Cl w B Z hl Y L
theorem gl {C:Hp->Prop} (w:Wlk J xs C) {g:TG} {tc:TT} {te:TE} {σ0:St} {Q:VK} {H1:Hp} {D:Addr} (B:Nat->List V->Hp->Prop) (h0:B 0 [] (upd H1 D (.lst []))) (hl : ∀i ys H,B i ys H->C H)
  (hs : ∀i x ys H,i < xs.length->xs[i]? = some x->B i ys H->g x σ0 H λF Z=>tc F Z λb L=>if b=true then te F L λy Y=>Y D*>ys/\ys.length < l_/\B (i+1) (ys++[y]) (upd Y D (.lst (ys++[y]))) else B (i+1) ys L)
  (hd : ∀ys H,B xs.length ys H->Q (.ref D) H):mR J σ0 g tc te Q H1 D:=yO w B h0 hl hs hd
theorem C6 (js:List Nat) (σ:St):gf 0 js σ=js.map λj=>(σ[j]?).join:=rfl
theorem DA (js:List Nat) (σ:St):gf 1 js σ=none :: js.map λj=>(σ[j]?).join:=rfl
theorem C9 (js:List Nat) (σ:St):gf 2 js σ=none :: none :: js.map λj=>(σ[j]?).join:=rfl
theorem DH (js:List Nat) (σ:St):gf 3 js σ=none :: none :: none :: js.map λj=>(σ[j]?).join:=rfl
theorem aA.upd_new (s:aA H H1) (hp:H1 p=none):aA H (upd H1 p o):=λb u e=>by
 have e1:=s b u e;rw[ao (az e1 hp)];exact e1
theorem aA.upd0 (hp:H p=none):aA H (upd H p o):=(aA.refl H).upd_new hp
def IsB (H:Hp) (x:V) (T:String) (k:Bool):Prop:=match x with
 | .non=>k=false
 | .bl _=>k=(T == "bool" || T == "int")
 | .int _=>k=(T == "int")
 | .str _=>k=(T == "str")
 | .ref a=>(∃vs,H a>>vs/\k=(T == "tuple"))\/(∃vs,H a*>vs/\k=(T == "list"))
 | _=>False
def CD:List V->Hp->VK->Prop:=λxs H Q=>∃x T,xs=[x,.ty T]/\(T = "int" \/ T = "str" \/ T = "bool" \/ T = "tuple" \/ T = "list")/\∃k,IsB H x T k/\Q (.bl k) H
theorem B9 (K:j_) {T:String} (h:T = "int" \/ T = "str" \/ T = "bool" \/ T = "tuple" \/ T = "list") :
  kitOne K (.type "NoneType") (.type T)=some false/\kitOne K (.type "bool") (.type T)=some (T == "bool" || T == "int")/\kitOne K (.type "int") (.type T)=some (T == "int") /\
  kitOne K (.type "str") (.type T)=some (T == "str")/\kitOne K (.type "tuple") (.type T)=some (T == "tuple")/\kitOne K (.type "list") (.type T)=some (T == "list"):=by
 rcases h with rfl | rfl | rfl | rfl | rfl
 all_goals exact⟨rfl,rfl,rfl,rfl,rfl,rfl⟩
theorem AU:cA X (.builtin "isinstance") CD:=zp.imp λxs H Q ⟨x,T,e,hT,k,hk,q⟩=>by
 obtain⟨F,k2,L,Y,Z,B⟩:=B9 X.K hT;cases x with
 | non=>cases hk;exact⟨_,_,T,_,e,.non,F,q⟩
 | bl b=>cases hk;exact⟨_,_,T,_,e,.bl b,k2,q⟩
 | int b=>cases hk;exact⟨_,_,T,_,e,.int b,L,q⟩
 | str b=>cases hk;exact⟨_,_,T,_,e,.str b,Y,q⟩
 | ref a =>
  rcases hk with⟨vs,h,rfl⟩ | ⟨vs,h,rfl⟩
  .exact⟨_,_,T,_,e,.tup h,Z,q⟩
  .exact⟨_,_,T,_,e,.lst h,B,q⟩
 | _=>exact hk.elim
def eQ (c:Nat):Bool:=decide (97<=c) && decide (c<=122)
theorem pA (a b:Str):(a++b).length=a.length+b.length:=by
 show(a++b).cps.size=a.cps.size+b.cps.size
 exact Array.size_append
theorem xC (B:eJ k A):A.units+100 < cLine:=by have:=B.un;omega
end L2
namespace HT
open PySem PyProof.Rows
theorem cat_tup0 {t:Addr} {vs ws:List Value} (ht:IsTup s.heap t vs.toArray) (hb:IsTup s.heap b ws.toArray) (hv:vs=[])
  (h1:Q (.ref b) s):wpAny (model prog w) A (G_ .Add (.ref t) (.ref b)) Q E s:=by
 obtain⟨⟨cls,dd,data,sl⟩,ho,hc,n,hd⟩:=id ht;obtain⟨⟨ac,Z,aa,ab⟩,B,L,n2,Y⟩:=id hb;simp only at hc hd L Y;subst hc hd L Y;exact concat_meets ⟨_,ho,rfl⟩ ⟨_,B,rfl⟩ noFill_tuple_add seq_tuple_add PySem.F.slot_tuple_add PySem.F.entry_tuple_add (PySem.F.args_tuple_add_2 _ _)
   (tuple_addW0 t b vs.toArray ws.toArray n n2 dd Z sl ab (by simp[hv])) ⟨ho,B,h1⟩
end HT
namespace L2
open PySem PySem.Spec PyProof.Rows
section
variable {a b o l:Expr} {t:TA}
def rCT:R2:=λx y H Q=>∃l,x = .ref l/\∃b,y = .ref b/\∃xs,H l>>xs/\∃ys,H b>>ys/\xs.length+ys.length<=l_ /\
 (xs=[]->Q (.ref b) H)/\(xs≠[]->ys=[]->Q (.ref l) H)/\(xs≠[]->ys≠[]->∀p,H p=none->Q (.ref p) (upd H p (.tup (xs++ys))))
theorem zu:OpR X (G_ .Add) rCT:=by
 intro pins s σ H x y v u Q I Y Z h;obtain⟨a,rfl,b,rfl,xs,ha,ys,L,hz,q0,q1,q2⟩:=h
 by_cases B:xs=[]
 .cases Y
  cases Z;obtain⟨its,r1,p1,_⟩:=I.tuple (SqT.of ha);obtain⟨F,r2,p2,_⟩:=I.tuple (SqT.of L);exact HT.cat_tup0 p1 p2 (r1.nil_iff.mpr B) ⟨.ref b,H,I,rfl,q0 B⟩
 .exact BG pins s σ H _ _ v u Q I Y Z ⟨a,b,xs,ys,rfl,rfl,.of ha,.of L,B,hz,q1 B,q2 B⟩
def DL (i j:Int):Prop:=0 < j/\j < 18446744073709551616
theorem yS:OpR X (G_ .FloorDiv) (rI DL λi j=>.int (i / j)):=opI λi j _ _ _ _ _ B q=>by
 have h1:(0:Int) < j:=B.1
 have h2:j < 18446744073709551616:=B.2
 refine floordiv_int () (by rw[Int.fdiv_eq_ediv_of_nonneg i ()];exact q) (.inl (PyProof.noPylong_of_log2 ?_))
 have F:j.natAbs < 2 ^ 64:=()
 exact lt_trans ((Nat.log2_lt ()).mpr F) ∅
abbrev RMS:=Str->List V->Hp->VK->Prop
def MtS (X:Cx) (id:String) (r:RMS):Prop:=MtR X id λx vs H Q=>∃p,x = .str p/\r p vs H Q
def tMS (r:RMS) (to:TE) (t:TA):TE:=λσ H Q=>to σ H λx H1=>∃p,x = .str p/\t σ H1 λvs H2=>r p vs H2 Q
variable {id:String} {r:RMS}
theorem Ct (ac:Slot "str" name id) (ad:typeOf (.builtin id)=pure (.type "method_descriptor")) (hm:MtS X id r) (ho:PE X o to) (ha:PA X (e :: es) t)
  (Z:ID o name X.env (eval o X.env)=eval o X.env:=by rfl)
  (ab:((GS cpos (y9 (e :: es) X.env)).all (λx=>!x.1) && (backToKw cpos (IG [] X.env)).all (λx=>x.1.isSome)
   && decide ((e :: es).length+([]:List Keyword).length+(if ([]:List Keyword).isEmpty then 0 else 1) < 30))=true:=by rfl)
  (aa:(apos.endLine == cpos.line)=true:=by rfl) (hs:y9 (e :: es) X.env=(false,eval e X.env) :: y9 es X.env:=by rfl) (Y:(GS cpos (y9 es X.env)).any (·.1)=false:=by rfl) :
  PE X (.Call (.Attribute o name apos) (e :: es) [] cpos) (tMS r to t):=by
 intro pins s σ H Q I h;refine wpAny_Call_method_late Z ab aa rfl (thn (ho pins s σ H _ I h) λv s1 B=>?_)
 obtain⟨x,H1,I1,r1,p,ex,q1⟩:=B;subst ex;obtain⟨h1,h2⟩:=vI I1 r1 (show tyV X.K "str" (.str p) H1 from rfl)
 refine⟨"str",id,PySem.F.plainAttrs_str,ac,ad,h1,h2,?_⟩
 have hA:=ha cpos pins s1 σ H1 _ I1 q1;rw[hs] at hA ⊢;refine H0 (by show(false || (GS cpos (y9 es X.env)).any (·.1))=false;rw[Y] <;> rfl) (Calls.evalArgs_plain ?_)
 refine thn hA λus s2 L=>?_
 obtain⟨vs,H2,I2,rr,q2⟩:=L;exact hm pins s2 σ H2 (.str p) vs v us Q I2 r1 rr ⟨p,rfl,q2⟩
theorem wG {ns:List Str} : ∀{us:List Value},bu (ns.map V.str) us->StrsAre us ns:=by
 induction ns with
 | nil=>intro us h;cases h;exact .nil
 | cons n ns B =>
  intro us h;cases h with
  | cons F L =>
   obtain⟨t,rfl⟩:=F;exact .cons _ _ (B L)
def vU:RMS:=λz vs H Q=>∃p,vs=[.ref p]/\∃ys:List Str,H p*>(ys.map V.str)/\(ys.map (·.length)).sum+ys.length * z.length<=16777216/\Q (.str (Txt.join z ys)) H
theorem BJ:MtS X "str.join" vU:=by
 intro pins s σ H x vs v us Q I L Y h;obtain⟨z,rfl,p,rfl,ys,hp,B,q⟩:=h;obtain⟨t,rfl⟩:=L;obtain⟨u,rfl,F⟩:=eB Y;cases F;obtain⟨its,r,pl,Z⟩:=I.list (SqL.of hp);exact join_list pl.isList (ys:=ys) (by simpa using wG r) B λt' k=>⟨.str _,H,I.tok k,⟨t',rfl⟩,q⟩
def nV:RMS:=λz vs H Q=>∃y,vs=[.str y]/\∃i rest,HI z y 0 z.length 1=i :: rest/\Q (.int (i:Nat)) H
theorem zQ:MtS X "str.index" nV:=by
 intro pins s σ H x vs v us Q I L Y h;obtain⟨z,rfl,y,rfl,i,rest,F,q⟩:=h;obtain⟨t,rfl⟩:=L;obtain⟨u,rfl,B⟩:=eB Y;obtain⟨t',rfl⟩:=B;exact SC.index F ⟨.int i,H,I.tok _,⟨_,rfl⟩,q⟩
end
theorem Ck {a b:Str} (h:a.cps.toList=b.cps.toList):a=b:=by
 cases a;cases b;congr 1;exact Array.ext' h
theorem kE (a b:Str):(a++b).cps.toList=a.cps.toList++b.cps.toList:=by
 show(a.cps++b.cps).toList=_
 simp
theorem io (l:List Nat) (s:Nat) : ∀n,s+n<=l.length->((range n).map λk=>s+k).filterMap (λi=>l[i]?)=(l.drop s).take n
 | 0,_=>by simp
 | n+1,h=>by
  rw[List.range_succ,Gz,List.filterMap_append,io l s n (),za]
  have e:l[s+n]? = some (l[s+n]'()):=by simp
  simp[e,List.getElem?_drop]
theorem Dy (lo hi:Option Int) (n:Nat):Builtin.Str.strSliceIndices lo hi 1 n=(range (HT.sIx n n hi - HT.sIx n 0 lo)).map λk=>HT.sIx n 0 lo+k:=by
 have B : ∀(v:Int) (d:Nat),(if (1:Int) > 0 then max 0 (min (if v < 0 then v+(n:Int) else v) (n:Int)) else max (-1) (min (if v < 0 then v+(n:Int) else v) ((n:Int) - 1)))=((HT.sIx n d (some v):Nat):Int):=λv d=>by
  rw[if_pos ∅]
  show max 0 (min (if v < 0 then v+(n:Int) else v) (n:Int))=(((if v < 0 then(v+(n:Int)).toNat else min v.toNat n):Nat):Int)
  split <;> rw[Int.max_def,Int.min_def] <;> split <;> split <;> omega
 have base : ∀(a b:Nat),sliceRange (a:Int) (b:Int) 1=(range (b - a)).map λk=>a+k:=λa b=>by
  unfold sliceRange;simp only[show(1:Int) > 0 by decide,if_true,Int.one_mul]
  have e:(if (a:Int) < (b:Int) then((b:Int) - (a:Int)+1 - 1) / 1 else 0).toNat=b - a:=by
   split
   .rw[Int.ediv_one];omega
   .show(0:Int).toNat=b - a
    rw[Int.toNat_zero];omega
  rw[e];refine Gb λk _=>?_
  omega
 unfold Builtin.Str.strSliceIndices;cases lo with
 | none=>cases hi with
  | none=>exact base 0 n
  | some v=>simp only[];rw[B v n];exact base 0 _
 | some u=>cases hi with
  | none=>simp only[];rw[B u 0];exact base _ n
  | some v=>simp only[];rw[B u 0,B v n];exact base _ _
theorem mO (x:Str) (lo hi:Option Int):(Hb x lo hi).cps.toList=(x.cps.toList.drop (HT.sIx x.length 0 lo)).take (HT.sIx x.length x.length hi - HT.sIx x.length 0 lo):=by
 have h1:=HT.sIx_le x.length x.length (s_ _) hi;have F:=HT.sIx_le x.length 0 (GR _) lo;have hl:x.cps.toList.length=x.length:=by show x.cps.toList.length=x.cps.size;simp
 unfold Hb;rw[Dy]
 split
 .rename_i h
  simp only[beq_self_eq_true,Bool.true_and,d_,List.length_range,beq_iff_eq] at h;have B:HT.sIx x.length 0 lo=0:=()
  rw[h,B,drop_zero,<- hl,FV]
 .show((List.map _ _).filterMap (λi=>x.cps[i]?)).toArray.toList=_
  rw[List.toList_toArray];rw[<- io _ _ _ ()]
  refine congrArg (λf=>List.filterMap f _) (funext λi=>?_)
  simp
theorem Az (ys:List Str):(Txt.join (b_ "") ys).cps.toList=ys.flatMap λy=>y.cps.toList:=by
 have F : ∀(l:List Str) (B:Array Nat),(l.foldl (λB p=>B++(b_ "").cps++p.cps) B).toList=B.toList++l.flatMap λy=>y.cps.toList:=by
  intro l
  induction l with
  | nil=>intro B;simp
  | cons a l L =>
   intro B;rw[List.foldl_cons,L];have e:(b_ "").cps = #[]:=by decide+kernel
   simp[e]
 show((ys.drop 1).foldl _ (ys.headD Ir).cps).toList=_
 rw[F];cases ys with
 | nil=>simp;decide+kernel
 | cons a l=>simp
structure gm (w:Str):Prop where
 pos:1<=w.length
 le:w.length<=8
 small : ∀c∈w.cps.toList,eQ c=true
theorem lm (x:Str):x.cps.toList.length=x.length:=by show x.cps.toList.length=x.cps.size;simp
theorem gm.cons {w:Str} (h:gm w) : ∃c cs,w.cps.toList=c :: cs/\eQ c=true/\(∀x∈cs,eQ x=true)/\cs.length<=7:=by
 have hl:=lm w;cases e:w.cps.toList with
 | nil=>rw[e] at hl;have:=h.pos;simp at hl;omega
 | cons c cs =>
  rw[e] at hl;have:=h.le
  exact⟨c,cs,rfl,h.small c (by rw[e];simp),λx B=>h.small x (by rw[e];simp[B]),by simp at hl;omega⟩
theorem gm.of {w:Str} {c:Nat} {cs:List Nat} (e:w.cps.toList=c :: cs) (L:eQ c=true) (B : ∀x∈cs,eQ x=true) (hl:cs.length<=7):gm w:=by
 have h:=lm w;rw[e] at h;simp at h
 refine⟨(),(),λx F=>?_⟩
 rw[e] at F;rcases u_.mp F with rfl | q
 .exact L
 .exact B x q
theorem pP {r:Int} (B:0<=r) (h1:r < 26):atI (b_ "abcdefghijklmnopqrstuvwxyz").cps.toList r=some (97+r.toNat):=by
 obtain⟨n,rfl⟩:=GT B;rw[show(b_ "abcdefghijklmnopqrstuvwxyz").cps.toList=List.range' 97 26 by decide+kernel]
 refine da ?_
 rw[List.getElem?_range' ()]
 simp
theorem ny:(b_ "abcdefghijklmnopqrstuvwxyz").length<=l_:=by decide+kernel
theorem qf {c:Nat} (h:eQ c=true):HI (b_ "abcdefghijklmnopqrstuvwxyz") ⟨#[c]⟩ 0 (b_ "abcdefghijklmnopqrstuvwxyz").length 1=(c - 97) :: []:=by
 have B : ∀i:Fin 26,HI (b_ "abcdefghijklmnopqrstuvwxyz") ⟨#[97+i.1]⟩ 0 (b_ "abcdefghijklmnopqrstuvwxyz").length 1=[i.1]:=by decide+kernel
 simp only[eQ,B_,decide_eq_true_eq] at h;have:=B ⟨c - 97,()⟩
 simp only[show 97+(c - 97)=c by omega] at this
 exact this
def uO (c:Nat):Nat:=97+(c - 97+1) % 26
def B0:List Nat->List Nat
 | []=>[]
 | c :: cs=>uO c :: cs
def pC (w:Str):Str:=⟨(B0 w.cps.toList).toArray⟩
def pE:Nat->Str->Str
 | 0,w=>w
 | n+1,w=>pE n (pC w)
theorem pe (c:Nat):eQ (uO c)=true:=by
 have:=Nat.mod_lt (c - 97+1) (show 0 < 26 by decide)
 unfold eQ uO;rw[B_,decide_eq_true_eq,decide_eq_true_eq];exact⟨(),()⟩
theorem BW {w:Str} (h:gm w):gm (pC w):=by
 obtain⟨c,cs,e,F,B,hl⟩:=h.cons;exact .of (c:=uO c) (cs:=cs) (by simp[pC,e,B0]) (pe c) B hl
theorem yP {c:Nat} {cs:List Nat} : ∀(n:Nat) {w:Str},w.cps.toList=c :: cs->eQ c=true->(pE n w).cps.toList=(97+(c - 97+n) % 26) :: cs:=by
 intro n
 induction n generalizing c with
 | zero =>
  intro w e B;simp only[eQ,B_,decide_eq_true_eq] at B;rw[pE,e]
  congr 1
  omega
 | succ n F =>
  intro w e B;rw[pE,F (c:=uO c) (by simp[pC,e,B0]) (pe c)]
  congr 1
  simp only[uO];omega
theorem fH {α:Type} [BEq α] [LawfulBEq α] : ∀{xs ys:List α},xs.Nodup->(∀x∈xs,x∈ys)->xs.length<=ys.length
 | [],_,_,_=>by simp
 | x :: xs,ys,hn,h=>by
  have B:=FG.mp hn;have L:=h x (by simp)
  have:=fH (xs:=xs) (ys:=ys.erase x) B.2 λz Y=>by
   have F:z≠x:=λe=>B.1 (e ▸ Y)
   exact(List.mem_erase_of_ne F).mpr (h z (by simp[Y]))
  rw[List.length_erase_of_mem L] at this;have:=Hm L
  simp
  omega
theorem yo {w:Str} (h:gm w) {F:List Str} (hF:F.length < 26) : ∃n,pE n w∉F:=by
 obtain⟨c,cs,e,hc,aa,hl⟩:=h.cons;have B : ∀i j,i < 26->j < 26->pE i w=pE j w->i=j:=λi j hi hj q=>by
  have q2:=congrArg (λz:Str=>z.cps.toList) q
  simp only[yP _ e hc] at q2;have q3:=(List.cons.inj q2).1;omega
 refine F7 λZ=>?_
 have L : ∀n,pE n w∈F:=λn=>F7 λq=>Z ⟨n,q⟩
 have Y:((range 26).map λn=>pE n w).Nodup:=by
  refine G7.mpr (Ha (λ{i j} hi hj q e=>q (B i j (IM.mp hi) (IM.mp hj) e)) (List.nodup_range (n:=26)))
 have:=fH (ys:=F) Y λx hx=>by
  obtain⟨n,_,rfl⟩:=r_.mp hx;exact L n
 simp at this
 omega
theorem Ci (a b:Str):eqV (.str a) (.str b)=decide (a=b):=by
 show(a == b)=decide (a=b)
 rw[FY];simp
theorem ua (x:Str) (ys:List Str):inV (.str x) (ys.map V.str)=decide (x∈ys):=by
 rw[FY];simp only[inV,any_map,GK,Function.comp,Ci,decide_eq_true_eq]
 constructor
 .rintro⟨y,hy,rfl⟩;exact hy
 .exact λh=>⟨x,h,rfl⟩
theorem yf (ys:List Str):(ys.map V.str).all gH=true:=by
 rw[GQ];intro x B;obtain⟨y,_,rfl⟩:=r_.mp B;rfl
def gs:List Str:=["in","from","to","end"]
structure gY (ws:List Str):Prop where
 nm : ∀w∈ws,gm w
 nd:ws.Nodup
 nomark : ∀w∈ws,w∉gs
theorem gY.nil:gY []:=⟨by simp,by simp,by simp⟩
theorem gY.snoc {w:Str} (h:gY ws) (L:gm w) (Z:w∉ws) (F:w∉gs):gY (ws++[w]):=by
 refine⟨λx B=>?_,?_,λx B=>?_⟩
 .rcases y8.mp B with q | q
  .exact h.nm x q
  .rw[g_.mp q];exact L
 .rw[Gr]
  refine⟨h.nd,by simp,λa ha b Y=>?_⟩
  rw[g_.mp Y];rintro rfl
  exact Z ha
 .rcases y8.mp B with q | q
  .exact h.nomark x q
  .rw[g_.mp q];exact F
theorem tS (x:α) (xs:List α):atI (x :: xs) 0=some x:=da (j:=0) rfl
theorem BM {z:Str} {r:Int} {c:Nat} (B:gm z) (Y:eQ c=true) (Z:0<=r) (r1:r < z.length):gm (Hb z none (some r)++(Str.mk #[c])++Hb z (some (r+1)) none):=by
 obtain⟨n,rfl⟩:=GT Z;have hn:n < z.length:=()
 have hl:=lm z;have e:(Hb z none (some (n:Int))++(Str.mk #[c])++Hb z (some ((n:Int)+1)) none).cps.toList=z.cps.toList.take n++[c]++z.cps.toList.drop (n+1):=by
  rw[kE,kE,mO,mO,HT.sIx_none,HT.sIx_nat,HT.sIx_none,show((n:Int)+1)=((n+1:Nat):Int) by omega,HT.sIx_nat,min_eq_left (),min_eq_left ()]
  rw[drop_zero,sub_zero,FX (i:=z.length - (n+1)) (by rw[HX,hl];omega)]
 have h8:=B.le;have F:(Hb z none (some (n:Int))++(Str.mk #[c])++Hb z (some ((n:Int)+1)) none).length=z.length:=by
  rw[<- lm,e];simp only[Gh,G6,HX,GG,length_nil,hl];omega
 refine⟨(),(),λx L=>?_⟩
 rw[e] at L;rcases y8.mp L with q | q
 .rcases y8.mp q with q | q
  .exact B.small x (Hg q)
  .rw[g_.mp q];exact Y
 .exact B.small x (List.mem_of_mem_drop q)
theorem vN (cs:List Nat):(Txt.join (b_ "") (cs.map λc=>Str.mk #[c])).cps.toList=cs:=by
 rw[Az]
 induction cs with
 | nil=>rfl
 | cons c cs B=>simp[B]
theorem yR (cs:List Nat):((cs.map λc=>Str.mk #[c]).map λx=>x.length).sum=cs.length:=by
 induction cs with
 | nil=>rfl
 | cons c cs B =>
  rw[y3,y3,List.sum_cons,B]
  show 1+cs.length=cs.length+1
  omega
def Bg:V->Option Int->Option Int->Hp->VK->Prop:=λx lo hi H Q=>∃a,x = .ref a/\∃xs,H a>>xs/\∀p H',H' p>>(gP xs lo hi)->aA H H'->Q (.ref p) H'
theorem mQ:SlR X Bg:=EN.imp λ_ _ _ _ _ B=>by obtain⟨a,e,xs,h,q⟩:=B;exact(⟨a,e,xs,h,λF=>q a _ (by rw[F];exact h) (aA.refl _),λp hp=>q p _ ah (aA.upd0 hp)⟩)
def Dl:R2:=λx y H Q=>∃l,x = .ref l/\∃b,y = .ref b/\∃xs,H l>>xs/\∃ys,H b>>ys/\xs.length+ys.length<=l_/\∀p H',H' p>>(xs++ys)->aA H H'->Q (.ref p) H'
theorem AM:OpR X (G_ .Add) Dl:=zu.imp λ_ _ _ _ ⟨l,e,b,e2,xs,h,ys,h2,hl,q⟩=>⟨l,e,b,e2,xs,h,ys,h2,hl,
 λF=>q b _ (by rw[F];exact h2) (aA.refl _),λ_ B=>q l _ (by rw[B,append_nil];exact h) (aA.refl _),λ_ _ p hp=>q p _ ah (aA.upd0 hp)⟩
theorem sx (f:α->V) (xs:List α) (n:Nat):gP (xs.map f) none (some (n:Int))=(xs.take n).map f:=by
 unfold gP;rw[HT.sIx_none,HT.sIx_nat,drop_zero,sub_zero,d_,map_take]
 by_cases h:n<=xs.length
 .rw[min_eq_left h]
 .rw[Nat.min_eq_right (),FX (by simp),FX (by simp;omega)]
theorem gB (f:α->V) (xs:List α) (n:Nat):gP (xs.map f) (some (n:Int)) none=(xs.drop n).map f:=by
 unfold gP;rw[HT.sIx_none,HT.sIx_nat,d_,map_drop]
 by_cases h:n<=xs.length
 .rw[min_eq_left h,FX (by simp)]
 .rw[Nat.min_eq_right (),List.drop_of_length_le (l:=List.map f xs) (i:=n) (by simp;omega)]
  simp
theorem EC (x:α) (xs:List α):atI (x :: xs) 0=some x:=da (j:=0) rfl
theorem FP (x y:α) (xs:List α):atI (x :: y :: xs) 1=some y:=da (j:=1) rfl
theorem E8 (x y z:α) (xs:List α):atI (x :: y :: z :: xs) 2=some z:=da (j:=2) rfl
theorem EK (x y z a:α) (xs:List α):atI (x :: y :: z :: a :: xs) 3=some a:=da (j:=3) rfl
theorem FN (x y z a b:α) (xs:List α):atI (x :: y :: z :: a :: b :: xs) 4=some b:=da (j:=4) rfl
theorem gy {a b:String}:(b_ a=b_ b)=(a=b):=by
 refine propext ⟨λh=>?_,λh=>by rw[h]⟩
 rw[Str.ofString_eq_toList,Str.ofString_eq_toList] at h;have h1:=congrArg (λs:Str=>s.cps.toList) h
 simp only[List.toList_toArray] at h1;have L : ∀(F B:List Char),F.map Char.toNat=B.map Char.toNat->F=B:=by
  intro F
  induction F with
  | nil=>intro B h;cases B with
   | nil=>rfl
   | cons a b=>cases h
  | cons a b Y=>intro B h;cases B with
   | nil=>cases h
   | cons c d =>
    rw[y3,y3,List.cons.injEq] at h;rw[Y d h.2,Char.toNat_inj.mp h.1]
 exact String.toList_injective (L _ _ h1)
theorem PG.imp {g g':TG} (h:PG X tg g) (i : ∀v σ H Q,g' v σ H Q->g v σ H Q):PG X tg g':=λpins s σ H v u Q I r q=>h pins s σ H v u Q I r (i _ _ _ _ q)
def uF (n:Nat) (t:TGs):TG:=λv σ H Q=>∃a,v = .ref a/\∃xs,H a>>xs/\xs.length=n/\t xs σ H Q
theorem jH {t:TGs} (L:X.calm=true) (h:PGs X es t)
  (Y:(Ix es X.env).length=n:=by rfl) (F:(Ix es X.env).findIdx? (·.1)=none:=by rfl):PG X (.Tuple es k pos) (uF n t) :=
 (DB L h Y F).imp λ_ _ _ _ B=>by obtain⟨a,e,xs,h,hl,q⟩:=B;exact(⟨a,xs,e,.of h,hl,q⟩)
theorem gm.lay {w:Str} (h:gm w):PyData.canLay0 (.str w)=true:=by
 show(w.cps.all (· < 0x110000))=true
 rw[Array.all_eq_true_iff_forall_mem];intro c B;have:=h.small c (by simpa using B)
 simp only[eQ,B_,decide_eq_true_eq] at this;exact decide_eq_true ()
theorem vg : ∀{ws:List Str},(∀w∈ws,gm w)->GC (ws.map PyData.str)=true
 | [],_=>rfl
 | w :: ws,h=>by
  rw[y3,GC,(h w (by simp)).lay,vg λx B=>h x (by simp[B])]
  rfl
theorem oY : ∀(ws:List Str),HV (ws.map PyData.str)=0
 | []=>rfl
 | w :: ws=>by
  rw[y3,HV,PyData.depth,oY ws];rfl
def vW:List V->Hp->VK->Prop:=λxs H Q=>∃p,xs=[.ref p]/\∃kvs,H p<*kvs/\∀q,H q=none->Q (.ref q) (upd H q (.dK kvs))
theorem jW:cA X (.type "dict") vW:=by
 intro pins s σ H xs us Q I r h;obtain⟨p,rfl,kvs,hp,q⟩:=h;obtain⟨u,rfl,Y⟩:=eB r;cases Y;obtain⟨z,Z,vs,B,L⟩:=kG I.hok hp;refine PySem.kt_call_dict Z L (by rw[<- B.length];exact z) λh' F sb=>?_
 have hold : ∀b o,s.heap.get? b=some o->h'.get? b=some o:=λb o e=>sb.extBut b o (E_ (e_ e)) (c_ _ e)
 exact⟨.ref s.heap.objs.size,_,I.laid (a:=s.heap.objs.size) (o:=.dK kvs) (t':=s.toks) hold (s_ _) ⟨z,beq_eq_false_iff_ne.mpr (Gp (E_ I.big)),vs,B,F⟩,rfl,q _ (I.hok.fresh (s_ _))⟩
def fb:V->Bool
 | .non=>true
 | .bl _=>true
 | .int _=>true
 | .str _=>true
 | .ref _=>true
 | _=>false
theorem xN {v:V} {a b:Value} (F:fb v=true) (ra:bv v a) (B:bv v b):SeqAt.EqAt A s a b true:=by
 cases v with
 | non=>cases ra;cases B;exact SeqAt.EqAt.same _
 | bl b=>cases ra;cases B;exact SeqAt.EqAt.same _
 | int i =>
  obtain⟨t,rfl⟩:=ra;obtain⟨t',rfl⟩:=B;have h:=SeqAt.EqAt.int_int (A:=A) (s:=s) i t i t';simpa using h
 | str i =>
  obtain⟨t,rfl⟩:=ra;obtain⟨t',rfl⟩:=B;have h:=SeqAt.EqAt.str_str (A:=A) (s:=s) i t i t';simpa using h
 | ref a=>cases ra;cases B;exact SeqAt.EqAt.same _
 | _=>exact absurd (show false=true from F) x_
theorem pf {κ:Type} [DecidableEq κ] : ∀{kvs:List (κ × V)} {k:κ} {v:V},(kvs.map (·.1)).Nodup->(k,v)∈kvs->bY kvs k=some v
 | (a,b) :: r,k,v,hn,hm=>by
  rw[y3,FG] at hn;rcases u_.mp hm with e | e
  .cases e
   exact bN rfl
  .have hne : ¬ a=k:=λz=>hn.1 (by subst z;exact r_.mpr ⟨(a,v),e,rfl⟩)
   rw[bb hne];exact pf hn.2 e
theorem qO (Y:KV kvs vb) : ∀{l:List (Key × V)} {F:List (Key × Value)},KV l F->(∀p∈l,bY kvs p.1=some p.2/\fb p.2=true)->PySem.W.KeqHits A s vb F true:=by
 intro l F r;unfold KV at r
 induction r with
 | nil=>intro _;exact .nil
 | @cons p q ps qs h _ ih =>
  intro B;obtain⟨k,v⟩:=p;obtain⟨k',u⟩:=q;obtain⟨e,L⟩:=h;dsimp only at e L;subst e;obtain⟨h1,h2⟩:=B (k,v) (by simp)
  dsimp only at h1 h2;obtain⟨y,Z,ry⟩:=iF.some_of (v:=v) (o:=valueAt vb k) (by rw[<- h1];exact Y.val k)
  exact PySem.W.KeqHits.hit (e:=true) (b:=true) Z (xN h2 L ry) (ih λp hp=>B p (by simp[hp]))
def Ad:R2:=λx y H Q=>∃a,x = .ref a/\∃b,y = .ref b/\∃kvs,H a<*kvs/\H b<*kvs/\(∀p∈kvs,fb p.2=true)/\Q (.bl true) H
def zO:R2:=λx y H Q=>∃a,x = .ref a/\∃b,y = .ref b/\∃kvs,H a<*kvs/\H b<*kvs/\(∀p∈kvs,fb p.2=true)/\Q (.bl false) H
theorem Be (hu:X.A.units < cLine):OpR X (Gi .Eq) Ad:=by
 intro pins s σ H x y v u Q I rx ry h;obtain⟨a,rfl,b,rfl,kvs,ha,hb,hp,q⟩:=h;cases rx;cases ry;obtain⟨z,hd,vs,F,dd⟩:=kG I.hok ha;obtain⟨z2,aa,ab,B,Z⟩:=kG I.hok hb;have Y:(vs.map (·.1)).Nodup:=let ⟨_,_,_,_,_,_,_,_,Y⟩:=dd;Y
 rw[<- F.keys] at Y;refine PySem.W.keq_eq (r:=true) hd aa dd Z hu (λ_=>qO B F λp L=>⟨pf Y L,hp p L⟩) ?_
 rw[<- F.length,<- B.length,beq_self_eq_true];exact⟨.bl true,H,I,rfl,q⟩
theorem Bl (hu:X.A.units < cLine):OpR X (Gi .NotEq) zO:=by
 intro pins s σ H x y v u Q I rx ry h;obtain⟨a,rfl,b,rfl,kvs,ha,hb,hp,q⟩:=h;cases rx;cases ry;obtain⟨z,hd,vs,F,dd⟩:=kG I.hok ha;obtain⟨z2,aa,ab,B,Z⟩:=kG I.hok hb;have Y:(vs.map (·.1)).Nodup:=let ⟨_,_,_,_,_,_,_,_,Y⟩:=dd;Y
 rw[<- F.keys] at Y;refine PySem.W.keq_ne (r:=true) hd aa dd Z hu (λ_=>qO B F λp L=>⟨pf Y L,hp p L⟩) ?_
 rw[<- F.length,<- B.length,beq_self_eq_true];exact⟨.bl false,H,I,rfl,q⟩
def rZ:RM:=λp vs H Q=>∃i,vs=[.int i]/\∃xs,H p*>xs/\0<=i/\i < xs.length/\xs.length<=1000/\∀y,xs[i.toNat]? = some y->Q y (upd H p (.lst (xs.eraseIdx i.toNat)))
theorem zm:MtL X "list.pop" rZ:=λpins s σ H x vs v us Q I L F ⟨p,e,i,e2,xs,h,i0,i1,hl,q⟩=>by
 have B:i.toNat < xs.length:=()
 exact Ax pins s σ H x vs v us Q I L F ⟨p,xs,i,i.toNat,xs[i.toNat],e,e2,h,(),(),seqIndex_of i0 i1,by simp[B],q _ (by simp[B])⟩
def au (mg:Str->Option Value) (x:Str):Addr:=match mg x with | some (.ref a)=>a | _=>0
theorem fM (h:mg x=-C):au mg x=C:=by unfold au;rw[h]
structure fE (K:j_) (C:Addr) (m:Str) (f:Addr):Prop where
 sp:specialIn K (.ref C) "__getattribute__" = some (some (.builtin "type.__getattribute__"))
 rd:readsIn K C (.type "type")=true
 fd:findCls K (.ref C) (.type "type") m=some (.val (.ref f))
 kp:v_ K (.ref f)=true
def bm (K:j_) (R:Addr->Prop) (x q:Str) (st:Stmt) (ps:List Str):Prop:=∃f fd,Fun K x q st f fd/\R f/\jc K fd ps []
def FnR (P:Program) (w:World) (K:j_) (mg:Str->Option Value) (base:Heap) (R:Addr->Prop) (k:Nat) (ps:List Str) (sp:Sp):Prop:=∃f fd,iH P w K mg base CX0 k f fd ps sp/\R f/\jc K fd ps []
section
variable {R:Addr->Prop}
theorem bm.ok {x q:Str} {st:Stmt} {N ps:List Str} {k:Nat} {sp:Sp} (F:bm K R x q st ps) (S:aH N ps (aj st)) (L : ∀vs H Q E,sp vs H Q E->vs.length=ps.length)
  (B : ∀(f:Addr) (cdv:Value) (A:Around) (outer:List Env) (s:Shared) (H:Hp) (vs:List V) (Q:VK) (E:XK),eJ k (A.deeper (envOfC q (aj st) s.heap.objs.size f cdv))->sp vs H Q E ->
   ∃t,PSs (sj CX0 P w K mg base N q (aj st) f cdv A outer s H E).nox (aF st) t/\t { nx:=λ_ H'=>Q .non H',rt:=Q } (iO N vs) H):FnR P w K mg base R (k+1) ps sp:=by
 obtain⟨f,fd,F,r,b⟩:=F;exact⟨f,fd,F.ok S L (B f),r,b⟩
theorem be {q:Str} {B:Option Addr} {kV:Value} (r:R f)
  (l:K.lookup f=some ⟨oc,od,.func (fnOf x q (aG st) (aF st) (aj st) .none kV doc pm B cdv ct),osl⟩)
  (c:y_ K cdv q=true) (k:v_ K (.ref f)=true)
  (F : ∀(kV doc pm:Value) (B:Option Addr) (cdv ct:Value) (us:List Value),us.length=ps.length->bindArgs (fnOf x q (aG st) (aF st) (aj st) .none kV doc pm B cdv ct) ⟨us,[]⟩=pure (ps.zip us)):bm K R x q st ps :=
 ⟨f,_,oC l c k,r,(oC l c k).binds F⟩
end
def zA (C:Addr) (ta:TE) (f:Str):TE:=λσ H Q=>ta σ H λx H1=>∃a,x = .ref a/\∃dx fs,H1 a=some (.ins C dx fs)/\∃v,fs.lookup f=some v/\Q v H1
def zk (C:Addr) (ta tv:TE) (f:Str):TS:=λD σ H=>tv σ H λy H1=>ta σ H1 λx H2=>∃a,x = .ref a/\∃dx fs,H2 a=some (.ins C dx fs)/\fs.length < 1000/\D.nx σ (upd H2 a (.ins C dx (cW f y fs)))
def vM (C:Addr) (m:Str) (sp:Sp) (ta:TE) (t:TA):TE:=λσ H Q=>ta σ H λx H1=>∃a,x = .ref a/\∃dx fs,H1 a=some (.ins C dx fs)/\fs.lookup m=none/\t σ H1 λvs H2=>sp (.ref a :: vs) H2 Q E0
def wB (C:Addr) (sp:Sp) (t:TA):TE:=λσ H Q=>t σ H λvs H1=>∀x dx,H1 x=none->H1 dx=none->dx≠x->sp (.ref x :: vs) (upd (upd H1 dx (.own x)) x (.ins C dx [])) (λv H2=>v = .non/\Q (.ref x) H2) E0
section
variable {o:Expr} {f m:Str} {p:Pos} {t:TA}
theorem aR (c:Cls X.K C) (n:bI X.K C f) (he:PE X e ta) (hb:ID e f X.env (eval e X.env)=eval e X.env:=by rfl):PE X (.Attribute e f pos) (zA C ta f):=by
 intro pins s σ H Q I h;refine Bq hb (thn (he pins s σ H _ I h) λu s1 B=>?_)
 obtain⟨x,H1,Z,rx,a,ex,dx,fs,Y,v,l,q⟩:=B;subst ex;obtain rfl:u=y6 a:=rx
 exact wI Z Y c n l λu' s2 L F=>⟨v,H1,L,F,q⟩
theorem bF (c:Cls X.K C) (n:bI X.K C f) (ha:PE X o ta) (hv:PE X value tv) (Z:IQ value (some (.Attribute o f pos')) pos.line X.env=pure false):PS X (.Assign [.Attribute o f pos'] value pos) (zk C ta tv f):=by
 intro pins s σ H D I h;refine plainObj_wpAny_Assign_Attribute (thn (hv pins s σ H _ I h) λu F ⟨y,H1,I1,ry,q⟩=>thn (ha pins F σ H1 _ I1 q) λov s2 B=>?_) Z
 obtain⟨x,H2,L,rx,a,ex,dx,fs,ea,l,q2⟩:=B;subst ex;obtain rfl:ov=y6 a:=rx
 exact vG L ea c n l ry λs3 Y=>⟨σ,_,Y,q2⟩
theorem bM (c:Cls X.K C) (F:FnR X.prog X.w X.K X.mg X.base (aN X.K C m) k ps sp) (hr:eJ k X.A) (he:PE X o ta) (ha:PA X (e :: es) t)
  (Y:y9 (e :: es) X.env=(false,eval e X.env) :: y9 es X.env:=by rfl) (L:(GS pos (y9 es X.env)).any (·.1)=false:=by rfl)
  (ht:eval (.Call (.Attribute o m apos) (e :: es) [] pos) X.env=(do
   let ov <- eval o X.env
   standAt apos.atName
   let (f,first) <- holding [ov] (getMethod ov m pl)
   callWith pos f first (GS pos (y9 (e :: es) X.env)) (backToKw pos (IG [] X.env))):=by rfl) :
  PE X (.Call (.Attribute o m apos) (e :: es) [] pos) (vM C m sp ta t):=by
 obtain⟨f,fd,F,Z,b⟩:=F;intro pins s σ H Q I h;refine methodCall_KW (pl:=pl) (thn (he pins s σ H _ I h) λu s1 B=>?_) ht
 obtain⟨x,H1,I1,rx,a,ex,dx,fs,ea,l,q⟩:=B;subst ex;obtain rfl:u=y6 a:=rx
 refine pN I1 ea c Z l ?_
 refine callWith_K (first:=[.ref a]) (h₀:=X.base) I.ok.mod.kin Z.kp (thn (ha pos pins s1 σ H1 _ I1 q) λus s2 ⟨vs,H2,I2,r,q2⟩=>⟨I2.kIn,?_⟩) Y L
 exact pi (us:=.ref a :: us) (vs:=.ref a :: vs) F hr b .nil qz I2 (.cons rfl r) (by rw[append_nil];exact q2)
theorem gK (F:FnR X.prog X.w X.K X.mg X.base (Mk X.K C) k ps sp) (Z:eJ (k+1) X.A) (hg:Gl X x) (Y:X.mg x=-C)
  (ha:PA X (e :: es) t) (L:(x ==("__debug__" : Str))=false:=by decide) (he:y9 (e :: es) X.env=(false,eval e X.env) :: y9 es X.env:=by rfl) (B:(GS pos (y9 es X.env)).any (·.1)=false:=by rfl) :
  PE X (.Call (.Name x p) (e :: es) [] pos) (wB C sp t):=by
 obtain⟨f,fd,F,M,b⟩:=F;intro pins s σ H Q I h;refine GO (nU I hg Y ?_ L)
 refine callWith_K (h₀:=X.base) I.ok.mod.kin M.kp (thn (ha pos pins s σ H _ I h) λus s1 ⟨vs,H1,I1,r,q⟩=>⟨I1.kIn,?_⟩) he B
 refine zL M F Z b .nil qz I1 r ?_
 rw[append_nil];exact q
theorem iJ (F:FnR X.prog X.w X.K X.mg X.base (fE X.K C m) k ps sp) (hr:eJ k X.A) (hg:Gl X x) (hm:X.mg x=-C) (ha:PA X (e :: es) t) (aa:(x ==("__debug__" : Str))=false:=by decide)
  (Y:y9 (e :: es) X.env=(false,eval e X.env) :: y9 es X.env:=by rfl) (L:(GS pos (y9 es X.env)).any (·.1)=false:=by rfl)
  (ht:eval (.Call (.Attribute (.Name x p) m apos) (e :: es) [] pos) X.env=(do
   let ov <- eval (.Name x p) X.env
   standAt apos.atName
   let (f,first) <- holding [ov] (getMethod ov m pl)
   callWith pos f first (GS pos (y9 (e :: es) X.env)) (backToKw pos (IG [] X.env))):=by rfl) :
  PE X (.Call (.Attribute (.Name x p) m apos) (e :: es) [] pos) (tP sp [] E0 t):=by
 obtain⟨f,fd,F,M,b⟩:=F;intro pins s σ H Q I h;have hC:PE X (.Name x p) (tC (.ref C)):=Cd hg hm rfl aa
 refine methodCall_KW (pl:=pl) (thn (hC pins s σ H (λv H1=>v = .ref C/\H1=H) I ⟨rfl,rfl⟩) λu s1 B=>?_) ht
 obtain⟨x,H1,Z,rx,ex,eH⟩:=B;subst ex;subst eH;obtain rfl:u=y6 C:=rx
 refine PySem.W.method_cls Z.kIn M.sp (PySem.W.cls_value Z.kIn M.rd M.fd rfl ?_)
 have I2:=Z.tok (s1.toks+1);refine callWith_K (first:=[]) (h₀:=X.base) I.ok.mod.kin M.kp (thn (ha pos pins _ σ H1 _ I2 h) λus s2 ⟨vs,H2,I3,r,q2⟩=>⟨I3.kIn,?_⟩) Y L
 exact pi F hr b .nil qz I3 r q2
end
def DY (B:ScopeKind) (A xs:List (Str × GP)):List (Str × GP):=xs.map λ(n,k)=>if (k == .free && B == .function && A.lookup n == some .cell) then(n,.cell) else(n,k)
section
variable {l:Expr} {tl:TE}
theorem ik (K:j_) (hl:PE X l tl) (hK:X.K=K:=by exact rfl):PI X tg l (iL K tl):=by subst hK;exact EA hl
theorem cK (K:j_) (hl:PE X l tl) (hK:X.K=K:=by exact rfl):PI X tg l (iT K tl):=by subst hK;exact E5 hl
def Af:List V->Hp->VK->Prop:=λxs H Q=>∃p,xs=[.ref p]/\∃bs:List Bool,H p*>(bs.map V.bl)/\Q (.bl (bs.all id)) H
def AO:List V->Hp->VK->Prop:=λxs H Q=>∃p,xs=[.ref p]/\∃bs:List Bool,H p*>(bs.map V.bl)/\Q (.bl (bs.any id)) H
theorem jA (F:X.calm=true):cA X (.builtin "all") Af:=(vA F).imp λ_ _ _ B=>by obtain⟨p,e,bs,h,q⟩:=B;exact(⟨p,bs,e,.of h,q⟩)
theorem gF (F:X.calm=true):cA X (.builtin "any") AO:=(wf F).imp λ_ _ _ B=>by obtain⟨p,e,bs,h,q⟩:=B;exact(⟨p,bs,e,.of h,q⟩)
end
theorem eW (f:Str) (v:V) : ∀fs:List (Str × V),(cW f v fs).length<=fs.length+1
 | []=>s_ _
 | (g,u) :: fs=>by
  unfold cW
  split
  .simp
  .simpa using eW f v fs
theorem dL {C:Hp->Prop} (w:Wlk J xs C) {tc:TT} {te:TE} {σ0:St} {Q:VK} {H1:Hp} {D:Addr} (p:V->Bool) (f:V->V) (hD:H1 D=none) (hC : ∀H',aA H1 H'->C H') (hn:xs.length<=1000)
  (hc : ∀(x:V) (H2:Hp) (F:Bool->Hp->Prop),x∈xs->aA H1 H2->(∀B,aA H2 B->F (p x) B)->tc (σ0.set 0 (some x)) H2 F)
  (he : ∀(x:V) (H2:Hp) (F:VK),x∈xs->p x=true->aA H1 H2->(∀B,aA H2 B->F (f x) B)->te (σ0.set 0 (some x)) H2 F)
  (Y : ∀H2,aA H1 H2->H2 D*>((xs.filter p).map f)->Q (.ref D) H2):mR J σ0 (gv 0) tc te Q H1 D:=by
 refine gl w (λi ys H=>ys=((xs.take i).filter p).map f/\i<=xs.length/\aA H1 H/\H D*>ys) ⟨by simp,GR _,aA.upd0 hD,ah⟩ (λi ys H h=>hC _ h.2.2.1) ?_ ?_
 .rintro i x ys H hi hx ⟨rfl,hle,sm,Y⟩
  refine hc x H _ (m_ hx) sm λB L=>?_
  have Z:((xs.take i).filter p).length<=xs.length:=w_ (List.length_filter_le _ _) (by simp;omega)
  cases hp:p x with
  | true =>
   simp only[if_true];refine he x B _ (m_ hx) hp (sm.trans L) λH4 s4=>⟨s4 _ _ (L _ _ Y),by simp;exact aU (),?_,hi,?_,ah⟩
   .rw[za,hx];simp[hp]
   .exact λb o e=>by rw[ao (az e hD)];exact s4 _ _ (L _ _ (sm b o e))
  | false =>
   simp only[q_,if_false];exact⟨by rw[za,hx];simp[hp],hi,sm.trans L,L _ _ Y⟩
 .rintro ys H ⟨rfl,_,sm,hd'⟩
  rw[FV] at hd';exact Y H sm hd'
theorem cQ {C:Hp->Prop} (w:Wlk J xs C) {te:TE} {σ0:St} {Q:VK} {H1:Hp} {D:Addr} (f:V->V) (Y:H1 D=none) (hC : ∀H',aA H1 H'->C H') (hn:xs.length<=10000)
  (he : ∀(x:V) (H2:Hp) (F:VK),x∈xs->aA H1 H2->(∀L,aA H2 L->F (f x) L)->te (σ0.set 0 (some x)) H2 F)
  (B : ∀H2,aA H1 H2->H2 D*>(xs.map f)->Q (.ref D) H2):mR J σ0 (gv 0) tW te Q H1 D:=by
 refine gl w (λi ys H=>ys=(xs.take i).map f/\i<=xs.length/\aA H1 H/\H D*>ys) ⟨by simp,GR _,aA.upd0 Y,ah⟩ (λi ys H h=>hC _ h.2.2.1) ?_ ?_
 .rintro i x ys H hi hx ⟨rfl,hle,sm,B⟩
  simp only[gv,tW,if_true];refine he x H _ (m_ hx) sm λH4 Z=>⟨Z _ _ B,by simp;exact Gc (w_ (Nat.min_le_right _ _) hn) ∅,?_,hi,?_,ah⟩
  .rw[za,hx];simp
  .exact λb o e=>by rw[ao (az e Y)];exact Z _ _ (sm b o e)
 .rintro ys H ⟨rfl,_,sm,hd'⟩
  rw[FV] at hd';exact B H sm hd'
theorem Bj (a b:Int):eqV (.int a) (.int b)=decide (a=b):=by
 show(a == b)=decide (a=b)
 rw[FY];simp
theorem dN (x:Int) (ys:List Int):inV (.int x) (ys.map V.int)=decide (x∈ys):=by
 rw[FY];simp only[inV,any_map,GK,Function.comp,Bj,decide_eq_true_eq]
 constructor
 .rintro⟨y,hy,rfl⟩;exact hy
 .exact λh=>⟨x,h,rfl⟩
theorem cR (ys:List Int):(ys.map V.int).all gH=true:=by
 rw[GQ];intro x B;obtain⟨y,_,rfl⟩:=r_.mp B;rfl
theorem xw (x:Bool) (ys:List Bool):inV (.bl x) (ys.map V.bl)=decide (x∈ys):=by
 rw[FY];simp only[inV,any_map,GK,Function.comp,decide_eq_true_eq]
 constructor
 .rintro⟨y,hy,h⟩
  have h:(y == x)=true:=h
  rw[<- eq_of_beq h];exact hy
 .exact λh=>⟨x,h,by show(x == x)=true;simp⟩
theorem tO (ys:List Bool):(ys.map V.bl).all gH=true:=by
 rw[GQ];intro x B;obtain⟨y,_,rfl⟩:=r_.mp B;rfl
theorem pO {α:Type} : ∀{l:List α} {n:Nat} (h:n < l.length),(l[n] :: l.eraseIdx n).Perm l
 | a :: l,0,h=>by simp
 | a :: l,n+1,h=>by
  have h':n < l.length:=by simpa using h
  have:=pO h'
  simp only[List.getElem_cons_succ,List.eraseIdx_cons_succ];exact(List.Perm.swap _ _ _).trans (List.Perm.cons a this)
theorem gi {α:Type} : ∀{l:List α} {i j:Nat} {x:α},l.Nodup->l[i]? = some x->l[j]? = some x->i=j
 | [],i,j,x,_,h,_=>by simp at h
 | a :: l,0,0,x,_,_,_=>rfl
 | a :: l,0,j+1,x,hn,h,h'=>by
  simp at h h'
  subst h;exact absurd (m_ h') (FG.mp hn).1
 | a :: l,i+1,0,x,hn,h,h'=>by
  simp at h h'
  subst h';exact absurd (m_ h) (FG.mp hn).1
 | a :: l,i+1,j+1,x,hn,h,h'=>by
  simp at h h'
  rw[gi (FG.mp hn).2 h h']
def Ek:TE:=λ_ _ _=>False
theorem AE:PE X e Ek:=λ_ _ _ _ _ _ h=>h.elim
def hV (ns:List Int):Nat:=(ns.foldl HW []).length
theorem mP : ∀(ns σ:List Int),σ.Nodup->(ns.foldl HW σ).length<=σ.length+ns.length/\((ns.foldl HW σ).length=σ.length+ns.length↔(σ++ns).Nodup)
 | [],σ,h=>by simp[h]
 | v :: ns,σ,h=>by
  rw[List.foldl_cons]
  by_cases B:σ.any (· == v)=true
  .have e:HW σ v=σ:=by unfold HW;rw[if_pos B]
   have F:v∈σ:=by
    obtain⟨x,hx,e⟩:=GK.mp B;rw[<- eq_of_beq e];exact hx
   rw[e];have L:=mP ns σ h;refine⟨by simp;omega,?_⟩
   constructor
   .intro z;simp at z;omega
   .intro z
    rw[Gr] at z;exact absurd rfl (z.2.2 v F v (by simp))
  .have e:HW σ v=σ++[v]:=by unfold HW;rw[if_neg B]
   have F:v∉σ:=λz=>B (GK.mpr ⟨v,z,by simp⟩)
   have hn:(σ++[v]).Nodup:=by
    rw[Gr];exact⟨h,by simp,λa ha b Z=>by rw[g_.mp Z];rintro rfl;exact F ha⟩
   rw[e];have L:=mP ns (σ++[v]) hn;have Y:(σ++[v]).length+ns.length=σ.length+(v :: ns).length:=by simp;omega
   rw[Y,append_assoc] at L;exact L
theorem ro (ns:List Int):hV ns=ns.length↔ns.Nodup:=by
 have:=(mP ns [] (by simp)).2
 simpa [hV] using this
theorem uz (ns:List Int):(range ns.length).map (λi=>ns.getD i 0)=ns:=by
 apply List.ext_getElem?
 intro i
 by_cases h:i < ns.length
 .simp[h]
 .simp[h]
section
def AN:List V->Hp->VK->Prop:=λxs H Q=>∃p,xs=[.ref p]/\∃ns:List Int,H p*>(ns.map V.int)/\ns.length<=1000/\∀q S,H q=none->Q (.ref q) (upd H q (.set S (hV ns)))
theorem ya (hc:X.calm=true):cA X (.type "set") AN:=by
 intro pins s σ H xs us Q I r h;obtain⟨p,rfl,ns,hp,hl,q⟩:=h;obtain⟨u,rfl,Z⟩:=eB r;cases Z;obtain⟨its,L,pl,hz⟩:=I.list (SqL.of hp);have B:=L.length;rw[d_] at B;refine call_set_list (I.ok.hd hc) pl.isList (by simpa using eZ L) (by simp only[y4];show its.length+1 < 4096;omega) λh' tk Y hold=>?_
 have e:firstMet (λi=>ns.getD i 0) its.toArray.size=ns.foldl HW []:=by
  unfold firstMet;rw[y4,<- B,uz]
 rw[e] at Y;exact⟨.ref s.heap.objs.size,_,I.laid (a:=s.heap.objs.size) (o:=.set _ (hV ns)) (t':=tk) (λb o F=>hold b o (e_ F) F) (s_ _) Y,rfl,q _ _ (I.hok.fresh (s_ _))⟩
def rV:List V->Hp->VK->Prop:=λxs H Q=>∃p,xs=[.ref p]/\∃S n,H p=some (.set S n)/\Q (.int n) H
theorem nj:cA X (.builtin "len") rV:=by
 intro pins s σ H xs us Q I r h;obtain⟨p,rfl,S,n,hp,q⟩:=h;obtain⟨u,rfl,F⟩:=eB r;cases F;have hS:s.heap.SetOf (intKind X.prog X.w) p S n:=I.hok p _ hp
 obtain⟨o,es,ep,t,Z,B,Y,_,_,hb,L,hn⟩:=hS;refine PySem.call_len_set Z B Y L (by have:scanBound=4096:=rfl;omega) ?_
 rw[hn];exact⟨.int n,H,I.tok _,⟨_,rfl⟩,q⟩
def CN (ty td:TE):TE:=λσ H Q=>ty σ H λy H1=>td σ H1 λx H2=>∃a,x = .ref a/\∃k,y=kV k/\∃kvs,H2 a<*kvs/\Q (.bl (!(bY kvs k).isSome)) H2
variable {o i:Expr}
theorem Bh (hu:X.A.units+1 < cLine) (hi:PE X i ty) (ho:PE X o td):PC X .In i o (tDI ty td):=by
 intro pins s σ H Q I h;refine thn (hi pins s σ H _ I h) λiv F ⟨y,H1,I1,ry,q1⟩=>thn (ho pins F σ H1 _ I1 q1) λu s2 B=>?_
 obtain⟨x,H2,L,rx,a,ex,k,Z,kvs,hd,q2⟩:=B;subst ex;subst Z;obtain rfl:u=y6 a:=rx
 have g:kc H2 a (kV k) (bY kvs k):=.inl ⟨kvs,k,.inl hd,rfl,rfl⟩
 exact ER hu L g ry λs3 Y=>⟨.bl (bY kvs k).isSome,H2,Y,rfl,q2⟩
theorem ir (hu:X.A.units+1 < cLine) (hi:PE X i ty) (ho:PE X o td):PC X .NotIn i o (CN ty td):=by
 intro pins s σ H Q I h;refine thn (hi pins s σ H _ I h) λiv F ⟨y,H1,I1,ry,q1⟩=>thn (ho pins F σ H1 _ I1 q1) λu s2 B=>?_
 obtain⟨x,H2,L,rx,a,ex,k,Z,kvs,hd,q2⟩:=B;subst ex;subst Z;obtain rfl:u=y6 a:=rx
 have g:kc H2 a (kV k) (bY kvs k):=.inl ⟨kvs,k,.inl hd,rfl,rfl⟩
 exact xh hu L g ry λs3 Y=>⟨.bl (!(bY kvs k).isSome),H2,Y,rfl,q2⟩
end
theorem Inv.retag (I:Inv X pins σ H s) (ha:H a=some u0) (n1 : ∀y,u0≠.own y) (n2 : ∀xs,u0≠.tup xs) (n3 : ∀ob u,X.H₀ a≠some (.frz ob u)) (n4 : ∀ps,u0≠.tbl ps)
  (ok:bO X.prog X.w H s.heap a o') (Z : ∀ob y,u0≠.frz ob (.own y):=by intro _ _ z;cases z):Inv X pins σ (upd H a o') s:=by
 have B : ∀b,H b=none->b≠a:=λb n z=>by subst z;rw[ha] at n;cases n
 have Y : ∀b y,H b=some (.own y)->upd H a o' b=some (.own y):=λb y e=>by
  rw[ao (λz=>by subst z;rw[ha] at e;exact n1 y (h_ e))];exact e
 have F : ∀b xs,H b>>xs->upd H a o' b>>xs:=λb xs e=>by
  rw[ao (λz=>by subst z;rw[ha] at e;exact n2 xs (h_ e))];exact e
 have L : ∀b ob y,H b=some (.frz ob (.own y))->upd H a o' b=some (.frz ob (.own y)):=λb ob y e=>by
  rw[ao (λz=>by subst z;rw[ha] at e;exact Z ob y (h_ e))];exact e
 refine⟨I.ok,I.os,I.bare,⟨I.base.keep,I.base.slot,λb o q n hx=>?_,I.base.there,λb xs q=>F b xs (I.base.tups b xs q),λb ob u q=>?_,λb ps q=>?_⟩,I.loc,I.cell,?_,λx c e=>?_,λp hp=>?_,λb u e=>?_,I.len⟩
 .have:=I.base.free b o q n hx
  rw[ao (B b this)];exact this
 .rw[ao (λz=>by subst z;exact n3 ob u q)];exact I.base.frzs b ob u q
 .obtain⟨more,e⟩:=I.base.tbls b ps q
  exact⟨more,by rw[ao (λz=>by subst z;rw[ha] at e;exact n4 _ (h_ e))];exact e⟩
 .rw[ao (B _ I.free)];exact I.free
 .have:=I.freeC x c e
  rw[ao (B c this)];exact this
 .obtain⟨p1,p2,p3⟩:=I.pin p hp
  exact⟨p1,by rw[ao (B _ p2)];exact p2,p3⟩
 .by_cases hb:b=a
  .subst hb
   rw[ah] at e;cases e;exact ok.stay (λ_ _ _ q=>q) (λc q=>Y c _ q) F L
  .rw[ao hb] at e
   exact(I.hok b u e).stay (λ_ _ _ q=>q) (λc q=>Y c _ q) F L
def Itd (a:Addr) (o:Obj) (kvs:List (Key × V)):It :=
 ⟨λi H=>H a=some (.frz o (.dK kvs))/\i < kvs.length,λi H x H'=>H'=H/\∃k v,kvs[i]? = some (k,v)/\x=kV k,λi H=>H a=some (.frz o (.dK kvs))/\kvs.length<=i⟩
theorem KV.get {vs:List (Key × Value)} (r:KV kvs vs) : ∀{i:Nat} {k:Key} {v:V},kvs[i]? = some (k,v)->∃u,vs[i]? = some (k,u)/\bv v u:=by
 unfold KV at r
 induction r with
 | nil=>intro i k v h;simp at h
 | @cons p q ps qs h _ ih =>
  intro i k v e;cases i with
  | zero =>
   simp at e
   subst e;obtain⟨B,u⟩:=q;obtain⟨h1,h2⟩:=h;dsimp only at h1 h2;subst h1;exact⟨u,by simp,h2⟩
  | succ i =>
   simp at e
   obtain⟨u,h1,h2⟩:=ih e;exact⟨u,by simpa using h1,h2⟩
theorem Bd {k:Key} {B:Value} (h:(bA P w).is k B=true):bv (kV k) B:=by
 rcases bW (k:=k) (v:=B) h with⟨i,t,rfl,rfl⟩ | ⟨x,t,rfl,rfl⟩
 .exact⟨t,rfl⟩
 .exact⟨t,rfl⟩
theorem A8 (a it:Addr) (o:Obj) (kvs:List (Key × V)) (ep:Nat) (ad : ∃es,o.data = .dict es ep):sA P w K tg (Itd a o kvs) [it] it (λi h=>h.IsKeyIter it a i kvs.length ep) where
 mem:=by simp
 obj:=λi h st b hb=>by
  have e:b=it:=by simpa using hb
  subst e;obtain⟨ob,e,c,d⟩:=st;exact⟨ob,e,λv z=>by rw[d] at z;cases z⟩
 keep:=λi h h' st k=>st.at λob e=>k it (by simp) ob e
 item:=by
  intro X hP hw hK hc i pins s σ H E I hf st hg;subst hP hw hK;obtain⟨ha,hi⟩:=hg;obtain⟨ho,hz,hd,vs,Y,od,es,L,F,hr⟩:=(show s.heap.get? a=some o/\bO X.prog X.w H s.heap a (.dK kvs) from I.hok a _ ha)
  rw[ho] at F;cases F;obtain⟨ag,aa⟩:=ad;have Z:L=ep:=by
   have:=hr.2.1
   rw[aa] at this;cases this;rfl
  subst Z;have B:=Y.length;obtain⟨k,v,ae⟩ : ∃k v,kvs[i]? = some (k,v):=⟨kvs[i].1,kvs[i].2,by simp[hi]⟩
  obtain⟨u,hu,ru⟩:=Y.get ae;obtain⟨f0,f1,f2,f3,f4,f5⟩:=hf it (by simp)
  have ab:s.heap.IsKeyIter it a i vs.length L:=by rw[<- B];exact st
  refine wpAny_pyNext_dict_item (knd:=bA X.prog X.w) (v:=u) ab ⟨o,es,ho,hr⟩ hu λaf h' hk ac sb=>?_
  have I1:Inv X pins σ H { s with heap:=h' }:=I.turned (t':=s.toks) (λb ob hb e=>(sb.2 b hb).trans e) f0 f1 f3 f4 f5
  rw[<- B] at ac;obtain⟨ob,e,c,d⟩:=id ac;exact⟨af,rfl,qV (s:={ s with heap:=h' }) e c d ∅ ⟨kV k,H,I1,Bd hk,⟨rfl,k,v,ae,rfl⟩,ac,λb hb=>(hf b hb).1⟩⟩
 done:=by
  intro X hP hw hK hc i pins s σ H E I hf st hg;subst hP hw hK;obtain⟨ha,hi⟩:=hg;obtain⟨ho,hz,hd,vs,Y,od,es,L,F,hr⟩:=(show s.heap.get? a=some o/\bO X.prog X.w H s.heap a (.dK kvs) from I.hok a _ ha)
  rw[ho] at F;cases F;obtain⟨ag,aa⟩:=ad;have Z:L=ep:=by
   have:=hr.2.1
   rw[aa] at this;cases this;rfl
  subst Z;have B:=Y.length;obtain⟨f0,f1,f2,f3,f4,f5⟩:=hf it (by simp)
  have ab:s.heap.IsKeyIter it a i vs.length L:=by rw[<- B];exact st
  exact wpAny_pyNext_dict_end (knd:=bA X.prog X.w) (I.ok.hd hc) ab ⟨o,es,ho,hr⟩ (G5.mpr ()) λh' eb=>⟨rfl,I.turned (t':=s.toks) (λb ob hb e=>eb b ob hb e) f0 f1 f3 f4 f5⟩
 self:=λ_ _ _ _ _ st h=>wpAny_pyIter_keyiter st h
theorem C5 {o:Obj}:Wlk (Itd a o kvs) (kvs.map λx=>kV x.1) (λH=>H a=some (.frz o (.dK kvs))) :=
 ⟨λi H h hi=>⟨h,by simpa using hi⟩,λi H x H' h _ y=>by
  obtain⟨e,k,v,B,rfl⟩:=y;exact⟨by rw[f_,B];rfl,e⟩,λi H h hi=>⟨h,by simpa using hi⟩⟩
def iD (tl:TE):TI:=λσ H R=>tl σ H λx H1=>∃a,x = .ref a/\∃kvs,H1 a<*kvs/\∀o,R (Itd a o kvs) (upd H1 a (.frz o (.dK kvs)))
theorem E3 {l:Expr} {tl:TE} (hl:PE X l tl):PI X tg l (iD tl):=by
 intro pins s σ H R I h;refine thn (hl pins s σ H _ I h) λv L B=>?_
 obtain⟨x,H1,I1,r1,a,e,kvs,Z,q⟩:=B;subst e;cases r1;obtain⟨hz,hd,vs,ab,od,es,ep,aa,hr⟩:=kG I1.hok Z;refine wpAny_pyIter_dict (knd:=bA X.prog X.w) hd ⟨od,es,aa,hr⟩ ?_
 have hn : ∀ob u,X.H₀ a≠some (.frz ob u):=λob u e=>by have:=I1.base.frzs a ob u e;rw[Z] at this;cases this
 have I2:Inv X pins σ H1 { L with heap:=L.heap.push { cls:=.type "dict_keyiterator",data:=.fields #[.ref a,.int 0 0,.int vs.length 0,.int ep 0] } }:=I1.kept (t':=L.toks) λb o e=>c_ _ e
 have ac:=I2.hok a _ Z;have I3:=I2.retag (o':=.frz od (.dK kvs)) Z (by intro y z;cases z) (by intro y z;cases z) hn (by intro y z;cases z) ⟨c_ _ aa,ac⟩
 have Y:=ab.length;refine⟨L.heap.objs.size,[L.heap.objs.size],_,_,_,rfl,I3,A8 a _ od kvs ep ⟨es,hr.2.1⟩,⟨_,k_ _ rfl,rfl,by rw[Y];rfl⟩,λb hb=>?_,q od⟩
 have e:b=L.heap.objs.size:=by simpa using hb
 subst e;have F:H1 L.heap.objs.size=none:=I1.hok.fresh (s_ _)
 obtain⟨f0,f1,f2,f3,f4,f5⟩:=I1.fpOk (s_ _) F;exact⟨by rw[ao (λz=>by rw[z,Z] at F;cases F)];exact F,f1,f2,f3,f4,f5⟩
def Ew (a:Addr) (kvs:List (Key × V)) (D:nE):nE where
 nx:=λσ H=>(∃o,H a=some (.frz o (.dK kvs)))/\D.nx σ (upd H a (.dK kvs))
 rt:=λv H=>(∃o,H a=some (.frz o (.dK kvs)))/\D.rt v (upd H a (.dK kvs))
 bk:=λσ H=>(∃o,H a=some (.frz o (.dK kvs)))/\D.bk σ (upd H a (.dK kvs))
 ct:=λσ H=>(∃o,H a=some (.frz o (.dK kvs)))/\D.ct σ (upd H a (.dK kvs))
def DJ (t:TS):TS:=λD σ H=>∃a kvs,H a<*kvs/\t (Ew a kvs D) σ H
theorem BF {t:TS} (h:PS X st t):PS X st (DJ t):=by
 intro pins s σ H D I ⟨a,kvs,ha,ht⟩;have Y : ∀ob u,X.H₀ a≠some (.frz ob u):=λob u e=>by have:=I.base.frzs a ob u e;rw[ha] at this;cases this
 have B : ∀{σ' H' s'},Inv X pins σ' H' s'->(∃o,H' a=some (.frz o (.dK kvs)))->Inv X pins σ' (upd H' a (.dK kvs)) s':=λ{σ' H' s'} F ⟨o,e⟩ =>
  F.retag e (by intro y z;cases z) (by intro y z;cases z) Y (by intro y z;cases z) (show s'.heap.get? a=some o/\bO X.prog X.w H' s'.heap a (.dK kvs) from F.hok a _ e).2
 refine thn (h pins s σ H _ I ht) λf s' L=>?_
 cases f with
 | next=>obtain⟨σ',H',F,e,q⟩:=L;exact⟨σ',_,B F e,q⟩
 | brk=>obtain⟨σ',H',F,e,q⟩:=L;exact⟨σ',_,B F e,q⟩
 | cont=>obtain⟨σ',H',F,e,q⟩:=L;exact⟨σ',_,B F e,q⟩
 | ret u=>obtain⟨v,σ',H',F,r,e,q⟩:=L;exact⟨v,σ',_,B F e,r,q⟩
end L2
namespace PySem
open PyProof.Rows
theorem wt:isSubtype (.type "tuple") (.type "frozenset")=pure false:=by rw[Ik];kernel_rfl
theorem vQ {t:Addr} {its:Array Value} (hA:A.handled=none) (ht:s.heap.IsTuple t its) (ao:IT its.toList ns) (ac:its.size+1 < scanBound)
  (ap : ∀(h':Heap) (tk:Nat),h'.SetOf (intKind prog w) s.heap.objs.size (λk'=>(firstMet (λi=>ns.getD i 0) its.size).any (· == k')) (firstMet (λi=>ns.getD i 0) its.size).length->(∀b o,b < s.heap.objs.size->s.heap.get? b=some o->h'.get? b=some o)->Q (.ref s.heap.objs.size) { s with heap:=h',toks:=tk }) :
  wpAny (model prog w) A (call (.type "set") [.ref t]) Q E s:=by
 have Z:=F.called_set;obtain⟨_,_,aw⟩:=Z.mro;have aq:=Z.made;have az:=Z.sub;have h1:=Z.notType;have h2:=Z.canCreate;have a1:=F.typeCall_set_1 (.ref t);refine wpAny_call (codeAny_of_tree (show wpAny _ _ (callAny (.type "set") _) _ _ _ from ee ⟨Code.quiet_builtin _ (by decide+kernel),IL F.entry_type_call ?_⟩))
 rw[Around.under_plain (weight_type_call_type "set" [.ref t] []) rfl]
 repeat (any_goals (first | assumption | wp_step))
 refine IR (code_set_new_1 (.ref t) (E:=E) (Q₁:=λobj s₁=>∃L:Bool,obj = .ref s.heap.objs.size/\s₁={ s with heap:=s.heap.push ⟨.type "set",none,.set #[] 0 (.fresh 0 0 L),#[]⟩ }) λL=>⟨L,rfl,rfl⟩) λr s₁ hr=>?_
 cases r with
 | error e=>exact hr
 | ok fl =>
  cases fl with
  | ret obj =>
   obtain⟨L,rfl,rfl⟩:=hr;generalize hG:s.heap.push ⟨.type "set",none,.set #[] 0 (.fresh 0 0 L),#[]⟩=G;have ab:G.objs.size=s.heap.objs.size+1:=by rw[<- hG,FU]
   have hS:G.get? s.heap.objs.size=some ⟨.type "set",none,.set #[] 0 (.fresh 0 0 L),#[]⟩:=by rw[<- hG];exact k_ _ rfl
   have hold : ∀b o,s.heap.get? b=some o->G.get? b=some o:=λb o e=>by rw[<- hG];exact c_ _ e
   have hT:Shared.TypeIs { s with heap:=G } (.ref s.heap.objs.size) "set" :=⟨_,hS,rfl⟩
   have a5:=Z.init.lookup;have a4:=Z.init.bind (.ref s.heap.objs.size)
   repeat (any_goals (first | assumption | wp_step))
   refine IR (codeAny_call_builtin (R:=wants (λr aa=>r = .none/\∃h' tk,aa={ s with heap:=h',toks:=tk }/\h'.SetOf (intKind prog w) s.heap.objs.size (λk'=>(firstMet (λi=>ns.getD i 0) its.size).any (· == k')) (firstMet (λi=>ns.getD i 0) its.size).length/\(∀b o,b < s.heap.objs.size->s.heap.get? b=some o->h'.get? b=some o)) E) Z.init.plain F.entry_set_init (check_set_init_1 hT ?_)) λae aa B=>?_
   .have ht1:G.IsTuple t its:=ht.at λo e=>hold t o e
    obtain⟨⟨tc,td,ax,a3⟩,a2,ag,nl,af⟩:=id ht1;dsimp only at ag af;subst ag af;have a0:(GL "tuple" == GL "dict")=false:=∅
    have ai:t < s.heap.objs.size:=by obtain⟨o,e,_⟩:=ht;exact e_ e
    have ay:=F.sub_tuple_set;have au:=wt;unfold Builtin.«set.__init__» noKeywords Builtin.Frozenset.updateFrom;generalize an:pyIter=PI
    wp_walk
    rw[<- an];have ak:t≠G.objs.size:=by rw[ab];exact E_ (IC ai)
    have aj:s.heap.objs.size≠G.objs.size:=by rw[ab];exact E_ (G8 _)
    have Wt:=Walks.tuple (prog:=prog) (w:=w) (A:=A.in1.in1.in1) (by simp[hA]) G.objs.size t ak its
    have am:s.heap.objs.size∉[G.objs.size,t]:=by
     intro z;rcases u_.mp z with z | z
     .exact aj z
     .exact absurd (g_.mp z) (Gd ai)
    refine GH ht1 (a_ (wpAny_runValue ?_))
    refine codeAny_set_update_loopS Wt.toS _ am (λi=>ns.getD i 0) (λi v hv=>IntsAre.int_at ao i v (by rw[Array.getElem?_toList];exact hv)) ac (its.size - 0) 0 _ rfl (GR _) ⟨⟨_,k_ _ rfl,rfl,rfl⟩,ht1.at λo e=>c_ _ e⟩ ?_ λs' mv Y=>?_
    .exact SetOf_congr ((setObjOf_fresh (knd:=intKind prog w) L).setOf (c_ _ hS) (by unfold scanBound;omega)) (λ_=>rfl) rfl
    .have eq:=Moved.eq_with mv
     rw[eq] at Y ⊢;refine ee (show wpAny _ _ (ret GA) _ _ _ from ee ⟨rfl,s'.heap,s'.toks,rfl,Y,λb o hb e=>?_⟩)
     refine mv.heap b o (λz=>?_) (c_ _ (hold b o e))
     rcases u_.mp z with z | z
     .exact absurd z (E_ hb)
     .have:=g_.mp z
      rw[this,ab] at hb;omega
   .cases ae with
    | error e=>exact B
    | ok ad =>
     cases ad with
     | ret r =>
      obtain⟨rfl,h',tk,rfl,Y,ar⟩:=B
      repeat (any_goals (first | assumption | wp_step))
      exact ap _ _ Y ar
     | _=>exact B.elim
  | _=>exact hr.elim
end PySem
namespace L2
open PySem PySem.Spec PyProof.Rows
section
def AH:List V->Hp->VK->Prop:=λxs H Q=>∃p,xs=[.ref p]/\∃ns:List Int,H p>>(ns.map V.int)/\ns.length<=1000/\∀q S,H q=none->Q (.ref q) (upd H q (.set S (hV ns)))
theorem xW (hc:X.calm=true):cA X (.type "set") AH:=by
 intro pins s σ H xs us Q I r h;obtain⟨p,rfl,ns,hp,hl,q⟩:=h;obtain⟨u,rfl,Z⟩:=eB r;cases Z;obtain⟨its,L,pl,hz⟩:=I.tuple (SqT.of hp);have B:=L.length;rw[d_] at B;refine vQ (I.ok.hd hc) (show s.heap.IsTuple p its.toArray from pl) (by simpa using eZ L) (by simp only[y4];show its.length+1 < 4096;omega) λh' tk Y hold=>?_
 have e:firstMet (λi=>ns.getD i 0) its.toArray.size=ns.foldl HW []:=by
  unfold firstMet;rw[y4,<- B,uz]
 rw[e] at Y;exact⟨.ref s.heap.objs.size,_,I.laid (a:=s.heap.objs.size) (o:=.set _ (hV ns)) (t':=tk) (λb o F=>hold b o (e_ F) F) (s_ _) Y,rfl,q _ _ (I.hok.fresh (s_ _))⟩
def wJ (Cs:List (Addr × Sp)) (m:Str) (ta:TE) (t:TA):TE:=λσ H Q=>ta σ H λx H1=>∃a,x = .ref a/\∃C sp,(C,sp)∈Cs/\∃dx fs,H1 a=some (.ins C dx fs)/\fs.lookup m=none/\t σ H1 λvs H2=>sp (.ref a :: vs) H2 Q E0
variable {o:Expr} {m:Str} {t:TA}
theorem kZ (F : ∀C sp,(C,sp)∈Cs->Cls X.K C/\FnR X.prog X.w X.K X.mg X.base (aN X.K C m) k ps sp) (hr:eJ k X.A) (he:PE X o ta) (ha:PA X (e :: es) t)
  (Y:y9 (e :: es) X.env=(false,eval e X.env) :: y9 es X.env:=by rfl) (L:(GS pos (y9 es X.env)).any (·.1)=false:=by rfl)
  (ht:eval (.Call (.Attribute o m apos) (e :: es) [] pos) X.env=(do
   let ov <- eval o X.env
   standAt apos.atName
   let (f,first) <- holding [ov] (getMethod ov m pl)
   callWith pos f first (GS pos (y9 (e :: es) X.env)) (backToKw pos (IG [] X.env))):=by rfl) :
  PE X (.Call (.Attribute o m apos) (e :: es) [] pos) (wJ Cs m ta t):=by
 intro pins s σ H Q I h;refine methodCall_KW (pl:=pl) (thn (he pins s σ H _ I h) λu s1 B=>?_) ht
 obtain⟨x,H1,I1,rx,a,ex,C,sp,hC,dx,fs,ea,l,q⟩:=B;subst ex;obtain⟨c,f,fd,F,Z,b⟩:=F C sp hC;obtain rfl:u=y6 a:=rx
 refine pN I1 ea c Z l ?_
 refine callWith_K (first:=[.ref a]) (h₀:=X.base) I.ok.mod.kin Z.kp (thn (ha pos pins s1 σ H1 _ I1 q) λus s2 ⟨vs,H2,I2,r,q2⟩=>⟨I2.kIn,?_⟩) Y L
 exact pi (us:=.ref a :: us) (vs:=.ref a :: vs) F hr b .nil qz I2 (.cons rfl r) (by rw[append_nil];exact q2)
end
end L2
namespace PySem
theorem hE {J:Addr} {vs:Array Value} {v:Value} (a:s.heap.IsTupleIter J T i) (b:s.heap.IsTuple T vs) (c:vs[i]? = some v)
  (k : ∀g,g.IsTupleIter J T (i+1)->IP J s.heap g->Q v { s with heap:=g }):wpAny (model prog w) A (z_ (.ref J)) Q E s:=by
 obtain⟨oJ,L,Z,B⟩:=id a;obtain⟨oT,b1,_,bn,Y⟩:=b;unfold z_;refine a_ (FS (name:=b_ "__next__") a.typeIs Hj (FW Hj a.typeIs F.entry_tuple_iterator_next ?_ (F.args_tuple_iterator_next_1 _)))
 change wpAny _ _ (field (.ref J) 0 >>= _) _ _ s;refine a_ (D_ L B (x:=.ref T) rfl ?_)
 change wpAny _ _ (if (y6 T == GA)=true then _ else _) _ _ s;rw[if_neg (show ¬ ((y6 T == GA)=true) from x_)]
 change wpAny _ _ (field (.ref J) 1 >>= _) _ _ s;refine a_ (D_ L B (x:=.int i 0) rfl ?_)
 change wpAny _ _ (seqItems? (.ref T) >>= _) _ _ s;refine a_ (GE b1 Y ?_)
 simp only[Ic,c];refine a_ (wpAny_setField L B (by simp) (ee ⟨v,rfl,ee (k _ ⟨_,G4 _ L (Obj.isFreed_of_fields (Obj.data_mapFields B _)),(Obj.cls_mapFields ..).trans Z,?_⟩ (Heap.SameBut.update ..))⟩))
 rw[Obj.data_mapFields B];simp[GJ]
theorem eX {J:Addr} {vs:Array Value} (Y:A.handled=none) (a:s.heap.IsTupleIter J T i) (b:s.heap.IsTuple T vs) (c:vs[i]? = none)
  (k : ∀g e,Heap.ExtBut J s.heap g->(∃o,g.get? e=some o/\o.cls = .type "StopIteration")->E (.ref e) { s with heap:=g }):wpAny (model prog w) A (z_ (.ref J)) Q E s:=by
 obtain⟨oJ,L,a2,B⟩:=id a;obtain⟨oT,b1,_,bn,Z⟩:=b;unfold z_;refine a_ (FS (name:=b_ "__next__") a.typeIs Hj (FW Hj a.typeIs F.entry_tuple_iterator_next ?_ (F.args_tuple_iterator_next_1 _)))
 change wpAny _ _ (field (.ref J) 0 >>= _) _ _ s;refine a_ (D_ L B (x:=.ref T) rfl ?_)
 change wpAny _ _ (if (y6 T == GA)=true then _ else _) _ _ s;rw[if_neg (show ¬ ((y6 T == GA)=true) from x_)]
 change wpAny _ _ (field (.ref J) 1 >>= _) _ _ s;refine a_ (D_ L B (x:=.int i 0) rfl ?_)
 change wpAny _ _ (seqItems? (.ref T) >>= _) _ _ s;refine a_ (GE b1 Z ?_)
 simp only[Ic,c];refine a_ (wpAny_rule (a_ (wpAny_setField L B (by simp) ?_)))
 change wpAny _ _ (newExc (.type "StopIteration") [] >>= _) _ _ _;refine a_ (by
  simp only[newExc,newTuple];refine a_ (GB ?_ (by size_fits))
  refine a_ (m:=firstArgMember _ _) (H_ (a:=GA) (by first | rfl | (simp only[firstArgMember];rfl)) ?_)
  refine GB ?_ (by size_fits)
  (simp only[raiseNew];refine a_ (wpAny_handled ?_))
  first | rw[show A.in1.handled=none from Y] | rw[Y]
  refine a_ (ee (wpAny_throw (k _ _ (((Heap.SameBut.update ..).extBut.push _).push _) ⟨_,k_ _ rfl,rfl⟩))))
structure gU (g:Heap) (z P O I J S T:Addr) (i:Nat) (f0 f1:Value):Prop where
 zz:g.get? z=some { cls:=.type "zip",dict:=none,data:=.fields #[f0,f1,.bool false,.ref P,.ref O],slots := #[] }
 pp:IsPair g P (.ref I) (.ref J)
 oo : ∃a b,IsPair g O a b
 ii:g.IsTupleIter I S i
 jj:g.IsTupleIter J T i
theorem gU.keep {g g':Heap} {P J:Addr} (h:gU g z P O I J S T i f0 f1) (k : ∀b∈[z,P,O,I,J],∀o,g.get? b=some o->g'.get? b=some o):gU g' z P O I J S T i f0 f1:=by
 obtain⟨a,b,oo⟩:=h.oo;exact⟨k z (by simp) _ h.zz,k P (by simp) _ h.pp,⟨a,b,k O (by simp) _ oo⟩,h.ii.at λo e=>k I (by simp) o e,h.jj.at λo e=>k J (by simp) o e⟩
theorem xk {P J:Addr} {xs:Array Value} {x y:Value} (D:Iz z P O I J S T) (Z:gU s.heap z P O I J S T i .none (.bool false))
  (hS:s.heap.IsTuple S xs) (hT:s.heap.IsTuple T ys) (hx:xs[i]? = some x) (hy:ys[i]? = some y)
  (k : ∀g,gU g z P O I J S T (i+1) (GJ s.heap.objs.size) (.bool false)->IsPair g s.heap.objs.size x y->g.objs.size=s.heap.objs.size+1 ->
   (∀c o,c≠z->c≠O->c≠I->c≠J->s.heap.get? c=some o->g.get? c=some o)->Q (.ref s.heap.objs.size) { s with heap:=g }) :
  wpAny (model prog w) A (Builtin.«zip.__next__» ⟨[.ref z],[]⟩) (λaa s'=>∃v,aa = .done (.ret v)/\Q v s') E s:=by
 have zz:=Z.zz;obtain⟨a,b,oo⟩:=Z.oo;change wpAny _ _ (field (.ref z) 2 >>= _) _ _ _;refine a_ (D_ zz rfl (x:=.bool false) rfl ?_)
 change wpAny _ _ (field (.ref z) 3 >>= _) _ _ _;refine a_ (D_ zz rfl (x:=.ref P) rfl ?_)
 refine a_ (GE Z.pp rfl ?_)
 change wpAny _ _ (FR (.ref z) >>= _) _ _ _;refine a_ (by
  unfold FR;refine a_ (D_ zz rfl (x:=.none) rfl (ee ?_))
  simp only[if_true];refine a_ (wpAny_rule ?_)
  refine a_ (D_ zz rfl (x:=.ref O) rfl ?_)
  refine a_ (Go zz (by simp) λg1 z1 L=>?_)
  replace z1:g1.get? z=some { cls:=.type "zip",dict:=none,data:=.fields #[.ellipsis,.bool false,.bool false,.ref P,.ref O],slots := #[] }:=z1
  refine a_ ?_
  simp only[List.zipIdx_cons,List.zipIdx_nil,HM,forIn_nil];refine a_ (a_ (wpAny_onRaise ?_))
  change wpAny _ _ (z_ (.ref I) >>= _) _ _ _;refine a_ (hE (Z.ii.extBut L.extBut D.i1z) (hS.extBut L.extBut D.l1z) hx λg2 i2 Y=>ee ?_)
  have o2:IsPair g2 O a b:=Y.extBut _ _ D.TOi1 (L.extBut _ _ D.TOz oo)
  refine a_ (GE o2 rfl ?_)
  refine a_ (wpAny_updateSeq_pair o2 λg3 o3 s3=>?_)
  replace o3:IsPair g3 O x b:=o3
  refine a_ (wpAny_letGo (ee ?_))
  refine a_ (a_ (wpAny_onRaise ?_))
  change wpAny _ _ (z_ (.ref J) >>= _) _ _ _;refine a_ (hE (((Z.jj.extBut L.extBut D.i2z).extBut Y.extBut D.i12.symm).extBut s3.extBut D.TOi2.symm) (((hT.extBut L.extBut D.l2z).extBut Y.extBut D.l2i1).extBut s3.extBut D.l2TO) hy λg4 j4 s4=>ee ?_)
  have o4:IsPair g4 O x b:=s4.extBut _ _ D.TOi2 o3
  refine a_ (GE o4 rfl ?_)
  refine a_ (wpAny_updateSeq_pair o4 λB o5 s5=>?_)
  replace o5:IsPair B O x y:=o5
  refine a_ (wpAny_letGo (ee (ee ?_)))
  refine a_ (GE o5 rfl ?_)
  refine a_ (wpAny_newTuple ?_)
  have sz:B.objs.size=s.heap.objs.size:=by rw[s5.1,s4.1,s3.1,Y.1,L.1]
  have z5:=s5.extBut _ _ D.TOz.symm (s4.extBut _ _ D.i2z.symm (s3.extBut _ _ D.TOz.symm (Y.extBut _ _ D.i1z.symm z1)));have k5 : ∀c o,c≠z->c≠O->c≠I->c≠J->s.heap.get? c=some o->B.get? c=some o:=λc o F c2 c3 c4 e =>
   s5.extBut _ _ c2 (s4.extBut _ _ c4 (s3.extBut _ _ c2 (Y.extBut _ _ c3 (L.extBut _ _ F e))))
  have i5:B.IsTupleIter I S (i+1):=((i2.extBut s3.extBut D.TOi1.symm).extBut s4.extBut D.i12).extBut s5.extBut D.TOi1.symm
  have j5:B.IsTupleIter J T (i+1):=j4.extBut s5.extBut D.TOi2.symm
  have zl:z < B.objs.size:=e_ z5
  change wpAny _ _ (Builtin.SmallTypes.ownedTupleHandOut (.ref z) (.ref B.objs.size) >>= _) _ _ _;refine a_ ?_
  unfold Builtin.SmallTypes.ownedTupleHandOut;have z6:=c_ { cls:=.type "tuple",data:=.seq #[x,y] } z5;refine a_ (Go z6 (by simp) λg7 z7 s7=>?_)
  refine Go z7 (by simp) λg8 z8 s8=>?_
  have up : ∀c o,c≠z->B.get? c=some o->g8.get? c=some o:=λc o F e=>s8.extBut _ _ F (s7.extBut _ _ F (c_ _ e))
  have t8:IsPair g8 B.objs.size x y:=s8.extBut _ _ (Gd zl) (s7.extBut _ _ (Gd zl) (k_ _ rfl))
  have l8:g8.objs.size=B.objs.size+1:=by rw[s8.1,s7.1,FU]
  refine ee ⟨_,rfl,?_⟩
  have zf:gU g8 z P O I J S T (i+1) (GJ B.objs.size) (.bool false) :=
   ⟨z8,up _ _ D.TIz (k5 _ _ D.TIz D.TITO D.TIi1 D.TIi2 Z.pp),⟨x,y,up _ _ D.TOz o5⟩,i5.at λo e=>up _ o D.i1z e,j5.at λo e=>up _ o D.i2z e⟩
  rw[sz] at zf t8 l8;change Q (.ref B.objs.size) _;rw[sz];exact k g8 zf t8 l8 λc o F c2 c3 c4 e=>up c o F (k5 c o F c2 c3 c4 e))
theorem nw {Q:Option Obj->Shared->Prop} (h:Q (s.heap.get? a) s):wpAny M A (loadIfAlive a) Q E s:=λ_ _ _=>h
theorem Bs {P J t0:Addr} {xs:Array Value} {x y:Value} (D:Iz z P O I J S T) (Z:gU s.heap z P O I J S T i (GJ t0) f1)
  (h0:s.heap.get? t0=some o0) (hf:f1 = .bool false\/f1 = .bool true) (hS:s.heap.IsTuple S xs) (hT:s.heap.IsTuple T ys) (hx:xs[i]? = some x) (hy:ys[i]? = some y)
  (k : ∀g,gU g z P O I J S T (i+1) (GJ t0) (.bool true)->IsPair g s.heap.objs.size x y->g.objs.size=s.heap.objs.size+1 ->
   (∀c o,c≠z->c≠O->c≠I->c≠J->s.heap.get? c=some o->g.get? c=some o)->Q (.ref s.heap.objs.size) { s with heap:=g }) :
  wpAny (model prog w) A (Builtin.«zip.__next__» ⟨[.ref z],[]⟩) (λaa s'=>∃v,aa = .done (.ret v)/\Q v s') E s:=by
 have zz:=Z.zz;obtain⟨a,b,oo⟩:=Z.oo;change wpAny _ _ (field (.ref z) 2 >>= _) _ _ _;refine a_ (D_ zz rfl (x:=.bool false) rfl ?_)
 change wpAny _ _ (field (.ref z) 3 >>= _) _ _ _;refine a_ (D_ zz rfl (x:=.ref P) rfl ?_)
 refine a_ (GE Z.pp rfl ?_)
 change wpAny _ _ (FR (.ref z) >>= _) _ _ _;refine a_ (by
  unfold FR;refine a_ (D_ zz rfl (x:=GJ t0) rfl ?_)
  simp only[GJ];refine a_ (nw ?_)
  simp only[Ic,h0,isNone_some,q_,if_false];refine a_ (D_ zz rfl (x:=f1) rfl ?_)
  rcases hf with rfl | rfl
  .rw[if_pos ∅]
   refine a_ (Go zz (by simp) λg1 z1 s1=>ee ?_)
   have Z1:gU g1 z P O I J S T i (GJ t0) (.bool true):=⟨z1,s1.extBut _ _ D.TIz Z.pp,⟨a,b,s1.extBut _ _ D.TOz oo⟩,Z.ii.extBut s1.extBut D.i1z,Z.jj.extBut s1.extBut D.i2z⟩
   have e1:=s1.extBut;have n1:=s1.1;simp only[q_,if_false];rw[<- forIn_toList];simp only[HM,forIn_nil];refine a_ (a_ (a_ (Gy ?_)))
   change wpAny _ _ (z_ (.ref I) >>= _) _ _ _;refine a_ (hE (Z1.ii) (hS.extBut e1 D.l1z) hx λg2 i2 B=>ee (ee ?_))
   refine a_ (a_ (Gy ?_))
   change wpAny _ _ (z_ (.ref J) >>= _) _ _ _;refine a_ (hE (Z1.jj.extBut B.extBut D.i12.symm) ((hT.extBut e1 D.l2z).extBut B.extBut D.l2i1) hy λY j3 F=>ee (ee (ee ?_)))
   refine a_ (wpAny_newTuple (hsz:=by show 2<=l_;decide) (ee ⟨_,rfl,?_⟩))
   have sz:Y.objs.size=s.heap.objs.size:=by rw[F.1,B.1,n1]
   have k3 : ∀c o,c≠z->c≠I->c≠J->s.heap.get? c=some o->Y.get? c=some o:=λc o L c3 c4 e=>F.extBut _ _ c4 (B.extBut _ _ c3 (e1 _ _ L e))
   have z3:=F.extBut _ _ D.i2z.symm (B.extBut _ _ D.i1z.symm Z1.zz);change Q (.ref Y.objs.size) _;rw[sz];refine k _ ⟨c_ _ z3,c_ _ (k3 _ _ D.TIz D.TIi1 D.TIi2 Z.pp),⟨a,b,c_ _ (k3 _ _ D.TOz D.TOi1 D.TOi2 oo)⟩,(i2.extBut F.extBut D.i12).at λo e=>c_ _ e,j3.at λo e=>c_ _ e⟩ ?_ ?_ λc o L c2 c3 c4 e=>c_ _ (k3 c o L c3 c4 e)
   .rw[<- sz];exact k_ _ rfl
   .rw[FU,sz]
  .rw[if_neg ∅]
   refine ee ?_
   have Z1:=Z;have e1:Heap.ExtBut z s.heap s.heap:=λ_ _ _ e=>e
   have n1:s.heap.objs.size=s.heap.objs.size:=rfl
   simp only[q_,if_false];rw[<- forIn_toList];simp only[HM,forIn_nil];refine a_ (a_ (a_ (Gy ?_)))
   change wpAny _ _ (z_ (.ref I) >>= _) _ _ _;refine a_ (hE (Z1.ii) (hS.extBut e1 D.l1z) hx λg2 i2 B=>ee (ee ?_))
   refine a_ (a_ (Gy ?_))
   change wpAny _ _ (z_ (.ref J) >>= _) _ _ _;refine a_ (hE (Z1.jj.extBut B.extBut D.i12.symm) ((hT.extBut e1 D.l2z).extBut B.extBut D.l2i1) hy λY j3 F=>ee (ee (ee ?_)))
   refine a_ (wpAny_newTuple (hsz:=by show 2<=l_;decide) (ee ⟨_,rfl,?_⟩))
   have sz:Y.objs.size=s.heap.objs.size:=by rw[F.1,B.1,n1]
   have k3 : ∀c o,c≠z->c≠I->c≠J->s.heap.get? c=some o->Y.get? c=some o:=λc o L c3 c4 e=>F.extBut _ _ c4 (B.extBut _ _ c3 (e1 _ _ L e))
   have z3:=F.extBut _ _ D.i2z.symm (B.extBut _ _ D.i1z.symm Z1.zz);change Q (.ref Y.objs.size) _;rw[sz];refine k _ ⟨c_ _ z3,c_ _ (k3 _ _ D.TIz D.TIi1 D.TIi2 Z.pp),⟨a,b,c_ _ (k3 _ _ D.TOz D.TOi1 D.TOi2 oo)⟩,(i2.extBut F.extBut D.i12).at λo e=>c_ _ e,j3.at λo e=>c_ _ e⟩ ?_ ?_ λc o L c2 c3 c4 e=>c_ _ (k3 c o L c3 c4 e)
   .rw[<- sz];exact k_ _ rfl
   .rw[FU,sz])
theorem zY {P J:Addr} {xs:Array Value} {Q:Fin->Shared->Prop} (hd:A.handled=none) (D:Iz z P O I J S T) (Z:gU s.heap z P O I J S T i .none (.bool false))
  (hS:s.heap.IsTuple S xs) (hT:s.heap.IsTuple T ys) (hx:xs[i]? = none\/ys[i]? = none)
  (k : ∀g e,(∀c o,c≠z->c≠O->c≠I->c≠J->s.heap.get? c=some o->g.get? c=some o)->(∃o,g.get? e=some o/\o.cls = .type "StopIteration")->E (.ref e) { s with heap:=g }) :
  wpAny (model prog w) A (Builtin.«zip.__next__» ⟨[.ref z],[]⟩) Q E s:=by
 have zz:=Z.zz;obtain⟨a,b,oo⟩:=Z.oo;change wpAny _ _ (field (.ref z) 2 >>= _) _ _ _;refine a_ (D_ zz rfl (x:=.bool false) rfl ?_)
 change wpAny _ _ (field (.ref z) 3 >>= _) _ _ _;refine a_ (D_ zz rfl (x:=.ref P) rfl ?_)
 refine a_ (GE Z.pp rfl ?_)
 change wpAny _ _ (FR (.ref z) >>= _) _ _ _;refine a_ (by
  unfold FR;refine a_ (D_ zz rfl (x:=.none) rfl (ee ?_))
  simp only[if_true];refine a_ (wpAny_rule ?_)
  refine a_ (D_ zz rfl (x:=.ref O) rfl ?_)
  refine a_ (Go zz (by simp) λg1 z1 L=>?_)
  refine a_ ?_
  simp only[List.zipIdx_cons,List.zipIdx_nil,HM,forIn_nil];refine a_ (a_ (wpAny_onRaise ?_))
  change wpAny _ _ (z_ (.ref I) >>= _) _ _ _;cases ex:xs[i]? with
  | none =>
   refine a_ (eX hd (Z.ii.extBut L.extBut D.i1z) (hS.extBut L.extBut D.l1z) ex λg2 e Y he=>?_)
   obtain⟨oe,B,F⟩:=he;have z2:=Y _ _ D.i1z.symm z1;have ez:e≠z:=λq=>by subst q;rw[z2] at B;cases B;simp at F
   refine Go z2 (by simp) λg3 _ s3=>k g3 e (λc o c1 _ c3 _ q=>s3.extBut _ _ c1 (Y _ _ c3 (L.extBut _ _ c1 q))) ⟨oe,s3.extBut _ _ ez B,F⟩
  | some x =>
   have hy:ys[i]? = none:=by rcases hx with q | q;(rw[ex] at q;cases q);exact q
   refine a_ (hE (Z.ii.extBut L.extBut D.i1z) (hS.extBut L.extBut D.l1z) ex λg2 i2 Y=>ee ?_)
   have o2:IsPair g2 O a b:=Y.extBut _ _ D.TOi1 (L.extBut _ _ D.TOz oo)
   refine a_ (GE o2 rfl ?_)
   refine a_ (wpAny_updateSeq_pair o2 λg3 o3 s3=>?_)
   refine a_ (wpAny_letGo (ee ?_))
   refine a_ (a_ (wpAny_onRaise ?_))
   change wpAny _ _ (z_ (.ref J) >>= _) _ _ _;refine a_ (eX hd (((Z.jj.extBut L.extBut D.i2z).extBut Y.extBut D.i12.symm).extBut s3.extBut D.TOi2.symm) (((hT.extBut L.extBut D.l2z).extBut Y.extBut D.l2i1).extBut s3.extBut D.l2TO) hy λg4 e s4 he=>?_)
   obtain⟨oe,B,F⟩:=he;have z4:=s4 _ _ D.i2z.symm (s3.extBut _ _ D.TOz.symm (Y.extBut _ _ D.i1z.symm z1));have ez:e≠z:=λq=>by subst q;rw[z4] at B;cases B;simp at F
   refine Go z4 (by simp) λg5 _ s5=>k g5 e (λc o c1 c2 c3 c4 q=>s5.extBut _ _ c1 (s4 _ _ c4 (s3.extBut _ _ c2 (Y.extBut _ _ c3 (L.extBut _ _ c1 q))))) ⟨oe,s5.extBut _ _ ez B,F⟩)
theorem BD {P J t0:Addr} {xs:Array Value} {Q:Fin->Shared->Prop} (hd:A.handled=none) (D:Iz z P O I J S T) (Z:gU s.heap z P O I J S T i (GJ t0) f1)
  (h0:s.heap.get? t0=some o0) (hf:f1 = .bool false\/f1 = .bool true) (hS:s.heap.IsTuple S xs) (hT:s.heap.IsTuple T ys) (hx:xs[i]? = none\/ys[i]? = none)
  (k : ∀g e,(∀c o,c≠z->c≠O->c≠I->c≠J->s.heap.get? c=some o->g.get? c=some o)->(∃o,g.get? e=some o/\o.cls = .type "StopIteration")->E (.ref e) { s with heap:=g }) :
  wpAny (model prog w) A (Builtin.«zip.__next__» ⟨[.ref z],[]⟩) Q E s:=by
 have zz:=Z.zz;obtain⟨a,b,oo⟩:=Z.oo;change wpAny _ _ (field (.ref z) 2 >>= _) _ _ _;refine a_ (D_ zz rfl (x:=.bool false) rfl ?_)
 change wpAny _ _ (field (.ref z) 3 >>= _) _ _ _;refine a_ (D_ zz rfl (x:=.ref P) rfl ?_)
 refine a_ (GE Z.pp rfl ?_)
 change wpAny _ _ (FR (.ref z) >>= _) _ _ _;refine a_ (by
  unfold FR;refine a_ (D_ zz rfl (x:=GJ t0) rfl ?_)
  simp only[GJ];refine a_ (nw ?_)
  simp only[Ic,h0,isNone_some,q_,if_false];refine a_ (D_ zz rfl (x:=f1) rfl ?_)
  rcases hf with rfl | rfl
  .rw[if_pos ∅]
   refine a_ (Go zz (by simp) λg1 z1 s1=>ee ?_)
   have L:gU g1 z P O I J S T i (GJ t0) (.bool true):=⟨z1,s1.extBut _ _ D.TIz Z.pp,⟨a,b,s1.extBut _ _ D.TOz oo⟩,Z.ii.extBut s1.extBut D.i1z,Z.jj.extBut s1.extBut D.i2z⟩
   have e1:=s1.extBut;simp only[q_,if_false];rw[<- forIn_toList];simp only[HM,forIn_nil];refine a_ (a_ (a_ (Gy ?_)))
   change wpAny _ _ (z_ (.ref I) >>= _) _ _ _;cases ex:xs[i]? with
   | none =>
    refine a_ (eX hd L.ii (hS.extBut e1 D.l1z) ex λg2 e B he=>?_)
    exact k g2 e (λc o F _ Y _ q=>B _ _ Y (e1 _ _ F q)) he
   | some x =>
    have hy:ys[i]? = none:=by rcases hx with q | q;(rw[ex] at q;cases q);exact q
    refine a_ (hE L.ii (hS.extBut e1 D.l1z) ex λg2 i2 B=>ee (ee ?_))
    refine a_ (a_ (Gy ?_))
    change wpAny _ _ (z_ (.ref J) >>= _) _ _ _;refine a_ (eX hd (L.jj.extBut B.extBut D.i12.symm) ((hT.extBut e1 D.l2z).extBut B.extBut D.l2i1) hy λg3 e s3 he=>?_)
    exact k g3 e (λc o F _ Y c4 q=>s3 _ _ c4 (B.extBut _ _ Y (e1 _ _ F q))) he
  .rw[if_neg ∅]
   refine ee ?_
   have L:=Z;have e1:Heap.ExtBut z s.heap s.heap:=λ_ _ _ e=>e
   simp only[q_,if_false];rw[<- forIn_toList];simp only[HM,forIn_nil];refine a_ (a_ (a_ (Gy ?_)))
   change wpAny _ _ (z_ (.ref I) >>= _) _ _ _;cases ex:xs[i]? with
   | none =>
    refine a_ (eX hd L.ii (hS.extBut e1 D.l1z) ex λg2 e B he=>?_)
    exact k g2 e (λc o F _ Y _ q=>B _ _ Y (e1 _ _ F q)) he
   | some x =>
    have hy:ys[i]? = none:=by rcases hx with q | q;(rw[ex] at q;cases q);exact q
    refine a_ (hE L.ii (hS.extBut e1 D.l1z) ex λg2 i2 B=>ee (ee ?_))
    refine a_ (a_ (Gy ?_))
    change wpAny _ _ (z_ (.ref J) >>= _) _ _ _;refine a_ (eX hd (L.jj.extBut B.extBut D.i12.symm) ((hT.extBut e1 D.l2z).extBut B.extBut D.l2i1) hy λg3 e s3 he=>?_)
    exact k g3 e (λc o F _ Y c4 q=>s3 _ _ c4 (B.extBut _ _ Y (e1 _ _ F q))) he)
theorem BP {hp:Heap} {xs:Array Value} (h1:hp.IsTuple S xs) (h2:hp.IsTuple T ys) {Y B L Z F:Heap} (e1:Y=hp.push { cls:=.type "tuple_iterator",data:=.fields #[.ref S,.int 0 0] })
  (e2:B=Y.push { cls:=.type "tuple_iterator",data:=.fields #[.ref T,.int 0 0] }) (e3:L=B.push { cls:=.type "tuple",data:=.seq #[.ref hp.objs.size,.ref Y.objs.size] }) (e4:Z=L.push { cls:=.type "tuple",data:=.seq #[.none,.none] })
  (e5:F=Z.push { cls:=.type "zip",data:=.fields #[.none,.bool false,.bool false,.ref B.objs.size,.ref L.objs.size] }) :
  gU F Z.objs.size B.objs.size L.objs.size hp.objs.size Y.objs.size S T 0 .none (.bool false)/\Iz Z.objs.size B.objs.size L.objs.size hp.objs.size Y.objs.size S T/\Z.objs.size=hp.objs.size+4/\L.objs.size=hp.objs.size+3/\B.objs.size=hp.objs.size+2/\Y.objs.size=hp.objs.size+1/\∀c o,hp.get? c=some o->F.get? c=some o:=by
 have n1:Y.objs.size=hp.objs.size+1:=by rw[e1,FU]
 have n2:B.objs.size=hp.objs.size+2:=by rw[e2,FU,n1]
 have n3:L.objs.size=hp.objs.size+3:=by rw[e3,FU,n2]
 have n4:Z.objs.size=hp.objs.size+4:=by rw[e4,FU,n3]
 have p5 : ∀c o,Z.get? c=some o->F.get? c=some o:=λc o e=>by rw[e5];exact c_ _ e
 have p4 : ∀c o,L.get? c=some o->F.get? c=some o:=λc o e=>p5 c o (by rw[e4];exact c_ _ e)
 have p3 : ∀c o,B.get? c=some o->F.get? c=some o:=λc o e=>p4 c o (by rw[e3];exact c_ _ e)
 have p2 : ∀c o,Y.get? c=some o->F.get? c=some o:=λc o e=>p3 c o (by rw[e2];exact c_ _ e)
 have p1 : ∀c o,hp.get? c=some o->F.get? c=some o:=λc o e=>p2 c o (by rw[e1];exact c_ _ e)
 obtain⟨oS,hS,_⟩:=id h1;obtain⟨oT,hT,_⟩:=id h2;refine⟨⟨by rw[e5];exact k_ _ rfl,p4 _ _ (by rw[e3];exact k_ _ rfl),⟨.none,.none,p5 _ _ (by rw[e4];exact k_ _ rfl)⟩,⟨_,p2 _ _ (by rw[e1];exact k_ _ rfl),rfl,rfl⟩,⟨_,p3 _ _ (by rw[e2];exact k_ _ rfl),rfl,rfl⟩⟩,?_,n4,n3,n2,n1,p1⟩
 rw[n1,n2,n3,n4];exact PyProof.Rows.zipApart_new (e_ hS) (e_ hT)
theorem zJ (S T:Addr) (xs ys:Array Value):Meets (Builtin.«zip.__new__» ⟨[.type "zip",.ref S,.ref T],[]⟩) (λ_ R s=>s.heap.IsTuple S xs/\s.heap.IsTuple T ys /\
   ∀g z P O I J,gU g z P O I J S T 0 .none (.bool false)->Iz z P O I J S T->s.heap.objs.size<=z->s.heap.objs.size<=P->s.heap.objs.size<=O->s.heap.objs.size<=I->s.heap.objs.size<=J->(∀c o,s.heap.get? c=some o->g.get? c=some o)->R (.ok (.ret (.ref z))) { s with heap:=g }) :=
 .of_wp λprog w A R s h=>by
  obtain⟨hp,g,d,tk,B⟩:=s;obtain⟨h1,h2,h⟩:=h;have F:=sub_zip;have q1:Heap.IsTuple (Shared.heap ⟨hp,g,d,tk,B⟩) S xs:=h1
  have q2:Heap.IsTuple (Shared.heap ⟨hp.push { cls:=.type "tuple_iterator",data:=.fields #[.ref S,.int 0 0] },g,d,tk,B⟩) T ys:=Heap.IsTuple.push h2 _
  wp_walk using GH q1,GH q2
  obtain⟨Y,zb,n4,Z,n2,n1,L⟩:=BP (hp:=hp) h1 h2 rfl rfl rfl rfl rfl;exact⟨_,rfl,h _ _ _ _ _ _ Y zb (w_ (le_add_right _ 4) (le_of_eq n4.symm)) (w_ (le_add_right _ 2) (le_of_eq n2.symm)) (w_ (le_add_right _ 3) (le_of_eq Z.symm)) (s_ _) (w_ (le_add_right _ 1) (le_of_eq n1.symm)) L⟩
theorem qQ {xs:Array Value} (h1:s.heap.IsTuple S xs) (h2:s.heap.IsTuple T ys)
  (k : ∀g z P O I J,gU g z P O I J S T 0 .none (.bool false)->Iz z P O I J S T->s.heap.objs.size<=z->s.heap.objs.size<=P->s.heap.objs.size<=O->s.heap.objs.size<=I->s.heap.objs.size<=J->(∀c o,s.heap.get? c=some o->g.get? c=some o)->Q (.ref z) { s with heap:=g }) :
  wpAny (model prog w) A (call (.type "zip") [.ref S,.ref T]) Q E s:=by
 refine callType_new F.called_zip ∅ (F.typeCall_zip_2 _ _) (F.newCall_zip_2 _ _) (λobj=>F.args_object_init_3 obj _ _) F.entry_zip_new (zJ S T xs ys) ⟨h1,h2,λg z P O I J Z D l1 B Y l4 l5 L=>?_⟩
 exact⟨⟨_,Z.zz,rfl⟩,k g z P O I J Z D l1 B Y l4 l5 L⟩
theorem fN {P:Addr} (L:s.heap.get? z=some { cls:=.type "zip",dict:=none,data:=.fields #[f0,f1,.bool false,.ref P,.ref O],slots := #[] }) (h:Q (.ref z) s):wpAny (model prog w) A (pyIter (.ref z)) Q E s:=by
 have B:s.TypeIs (.ref z) "zip" :=⟨_,L,rfl⟩
 refine wpAny_pyIter_slot B F.slot_zip_iter (FW F.slot_zip_iter B F.entry_zip_iter (by
  show wpAny _ _ (ret (.ref z)) _ _ s
  exact ee ⟨_,rfl,"zip",_,B,Gq.lookup,h⟩) (F.args_zip_iter_1 _))
theorem yp:Iy (.type "zip") "__len__" = pure none:=by rw[GV,Gu];kernel_rfl
theorem vF:Iy (.type "zip") "__length_hint__" = pure none:=by rw[GV,Gu];kernel_rfl
def oA (g:Heap) (n0:Nat) (xs ys:Array Value) (ts:List Addr):Prop:=ts.Nodup/\∀(j:Nat) (t:Addr),ts[j]? = some t->∃x y,xs[j]? = some x/\ys[j]? = some y/\IsPair g t x y/\n0<=t
def ZSt (g:Heap) (z P O I J S T:Addr) (i:Nat) (ts:List Addr):Prop:=(ts=[]/\gU g z P O I J S T i .none (.bool false))\/∃B f1,B∈ts/\(f1 = .bool false\/f1 = .bool true)/\gU g z P O I J S T i (GJ B) f1
theorem oA.keep {g g':Heap} {xs:Array Value} {ts:List Addr} (h:oA g n0 xs ys ts) (k : ∀b o,n0<=b->g.get? b=some o->g'.get? b=some o):oA g' n0 xs ys ts:=⟨h.1,λj t e=>by
 obtain⟨x,y,h1,h2,F,B⟩:=h.2 j t e;exact⟨x,y,h1,h2,k _ _ B F,B⟩⟩
theorem oA.snoc {g:Heap} {xs:Array Value} {ts:List Addr} {t:Addr} {x y:Value} (h:oA g n0 xs ys ts) (h1:xs[ts.length]? = some x) (h2:ys[ts.length]? = some y) (F:IsPair g t x y) (B:n0<=t) (Z:t∉ts):oA g n0 xs ys (ts++[t]):=⟨Gr.mpr ⟨h.1,by simp,λa ha b Y z=>Z (by rw[g_.mp Y] at z;rw[<- z];exact ha)⟩,λj u e=>by
 by_cases L:j < ts.length
 .rw[Gn L] at e
  exact h.2 j u e
 .have hj':j=ts.length:=by
   have:=p_.mp e
   obtain⟨hl,_⟩:=this;simp at hl
   omega
  subst hj';rw[Gx (s_ _),sub_self] at e;cases e;exact⟨x,y,h1,h2,F,B⟩⟩
theorem wO (hd:A.handled=none) {z P O I J S T L:Addr} {xs ys:Array Value} {n0:Nat} (res:Value) (D:Iz z P O I J S T) (hL:L < n0) (hb : ∀b∈[z,P,O,I,J],b < n0) (ab : ∀b∈[z,P,O,I,J],L≠b) (ay:L≠S) (a0:L≠T) (hn:min xs.size ys.size<=100000) :
  ∀(k:Nat) (s:Shared) (ts:List Addr) (ac:Array Value) (c:Nat),min xs.size ys.size - ts.length=k->ts.length<=min xs.size ys.size->n0<=s.heap.objs.size->ZSt s.heap z P O I J S T ts.length ts->oA s.heap n0 xs ys ts->ac.toList=ts.map y6->s.heap.IsTuple S xs->s.heap.IsTuple T ys ->
  s.heap.get? L=some { cls:=.type "list",dict:=none,data:=.seq ac c,slots := #[] } ->
  (∀g aj af c',(∀b o,b≠L->b∉[z,P,O,I,J]->b < n0->s.heap.get? b=some o->g.get? b=some o)->oA g n0 xs ys aj->aj.length=min xs.size ys.size->af.toList=aj.map y6->g.get? L=some { cls:=.type "list",dict:=none,data:=.seq af c',slots := #[] }->R (.ok (.ret res)) { s with heap:=g }) ->
  Ii (model prog w) A (.builtin "list.extend.loop" ⟨[.ref L,.ref z,res],[]⟩) R s:=by
 intro k
 induction k with
 | zero =>
  intro s ts ac c hk a1 hsz ap aa ae hS hT hl hR;have az:ts.length=min xs.size ys.size:=()
  have ao:xs[ts.length]? = none\/ys[ts.length]? = none:=by
   rcases Nat.le_total xs.size ys.size with h | h
   .exact .inl (HZ ())
   .exact .inr (HZ ())
  refine IL F.entry_extend_loop ?_
  rw[Around.under_plainId HG _]
  show wpAny _ A.in1 (HR (.ref z) >>= _) _ _ s
  refine a_ ?_
  have ad : ∀g,(∀c o,c≠z->c≠O->c≠I->c≠J->s.heap.get? c=some o->g.get? c=some o)->R (.ok (.ret res)) { s with heap:=g }:=λg kg=>by
   refine hR g ts ac c (λb o b1 b2 b3 e=>?_) (aa.keep λb o B e=>?_) az ae ?_
   .simp only[u_,Ge,or_false,not_or] at b2
    exact kg b o b2.1 b2.2.2.1 b2.2.2.2.1 b2.2.2.2.2 e
   .exact kg b o (Gd (n_ (hb z (by simp)) B)) (Gd (n_ (hb O (by simp)) B)) (Gd (n_ (hb I (by simp)) B)) (Gd (n_ (hb J (by simp)) B)) e
   .exact kg L _ (ab z (by simp)) (ab O (by simp)) (ab I (by simp)) (ab J (by simp)) hl
  rcases ap with⟨ht,Z⟩ | ⟨t0,f1,ht0,ag,Z⟩
  .have Y:s.TypeIs (.ref z) "zip" :=⟨_,Z.zz,rfl⟩
   unfold HR;refine a_ (Hc (FS (name:=b_ "__next__") Y Gq (FW Gq Y HE (zY hd D Z hS hT ao λg e kg he=>?_) (Ho _))))
   obtain⟨o,ho,aq⟩:=he;refine a_ (HA (T := "StopIteration") (b:=true) ⟨o,ho,aq⟩ isSubtype_stop ?_)
   exact ee (ee (ad g kg))
  .obtain⟨j0,ai⟩:=List.getElem?_of_mem ht0
   obtain⟨_,_,_,_,ak,_⟩:=aa.2 j0 t0 ai;have Y:s.TypeIs (.ref z) "zip" :=⟨_,Z.zz,rfl⟩
   unfold HR;refine a_ (Hc (FS (name:=b_ "__next__") Y Gq (FW Gq Y HE (BD hd D Z ak ag hS hT ao λg e kg he=>?_) (Ho _))))
   obtain⟨o,ho,aq⟩:=he;refine a_ (HA (T := "StopIteration") (b:=true) ⟨o,ho,aq⟩ isSubtype_stop ?_)
   exact ee (ee (ad g kg))
 | succ k ih =>
  intro s ts ac c hk a1 hsz ap aa ae hS hT hl hR;have aw:ts.length < min xs.size ys.size:=()
  have hx:xs[ts.length]? = some (xs[ts.length]'()):=Hs ()
  have hy:ys[ts.length]? = some (ys[ts.length]'()):=Hs ()
  generalize xs[ts.length]'()=x at hx
  generalize ys[ts.length]'()=y at hy
  have an:ac.size=ts.length:=by rw[<- GY,ae,d_]
  refine IL F.entry_extend_loop ?_
  rw[Around.under_plainId HG _]
  show wpAny _ A.in1 (HR (.ref z) >>= _) _ _ s
  refine a_ ?_
  have ad : ∀g t0 f1,(t0∈ts++[s.heap.objs.size])->(f1 = .bool false\/f1 = .bool true)->gU g z P O I J S T (ts.length+1) (GJ t0) f1->IsPair g s.heap.objs.size x y->g.objs.size=s.heap.objs.size+1 ->
    (∀c o,c≠z->c≠O->c≠I->c≠J->s.heap.get? c=some o->g.get? c=some o) ->
    wpAny (model prog w) A.in1 (updateSeq L (·.push (.ref s.heap.objs.size)) >>= λ_=>again (.builtin "list.extend.loop" ⟨[.ref L,.ref z,res],[]⟩))
     (λad s'=>match ad with | .done f=>R (.ok f) s' | .again c'=>c'.quiet=true/\Ii (model prog w) A c' R s') (λe s'=>R (.error e) s') { s with heap:=g }:=λg t0 f1 h0 ag Z1 hp hg kg=>by
   have ar:=kg L _ (ab z (by simp)) (ab O (by simp)) (ab I (by simp)) (ab J (by simp)) hl
   have S1:g.IsTuple S xs:=hS.at λo e=>kg S o D.l1z D.l1TO D.l1i1 D.l1i2 e
   have T1:g.IsTuple T ys:=hT.at λo e=>kg T o D.l2z D.l2TO D.l2i1 D.l2i2 e
   have am : ∀b o,b≠L->g.get? b=some o->(g.update L (GI (·.push (.ref s.heap.objs.size)))).get? b=some o:=λb o B e=>(GW _ _ (Gp B)).trans e
   have au:s.heap.objs.size∉ts:=λhm=>by
    obtain⟨j0,ai⟩:=List.getElem?_of_mem hm;obtain⟨_,_,_,_,ak,_⟩:=aa.2 j0 _ ai;exact absurd (e_ ak) (Gg _)
   refine a_ (IK ar rfl (ee ⟨plainId_quiet HG _,ih _ (ts++[s.heap.objs.size]) (ac.push (.ref s.heap.objs.size)) _ (by simp;omega) (by simp;omega) ?_ (.inr ⟨t0,f1,h0,ag,?_⟩) ?_ (by simp[ae]) ?_ ?_ (G4 _ ar rfl) λg' aj af c' k' o' l' a' ax=>?_⟩) (by rw[an];exact w_ (Hd aw) (w_ hn ∅)) (by show(ac.push _).size<=l_+1;rw[Array.size_push,an];exact w_ (show ts.length+1<=100001 by omega) ∅))
   .show n0<=(g.update L _).objs.size
    rw[IA,hg];omega
   .rw[Gh]
    exact Z1.keep λb B o e=>am b o (Gp (ab b B)) e
   .refine(oA.snoc (aa.keep (g':=g) λb o B e=>kg b o (Gd (n_ (hb z (by simp)) B)) (Gd (n_ (hb O (by simp)) B)) (Gd (n_ (hb I (by simp)) B)) (Gd (n_ (hb J (by simp)) B)) e) hx hy hp hsz au).keep λb o B e=>am b o (Gd (n_ hL B)) e
   .exact S1.at λo e=>am S o (Gp ay) e
   .exact T1.at λo e=>am T o (Gp a0) e
   .refine hR g' aj af c' (λb o b1 b2 b3 e=>?_) o' l' a' ax
    refine k' b o b1 b2 b3 (am b o b1 ?_)
    simp only[u_,Ge,or_false,not_or] at b2;exact kg b o b2.1 b2.2.2.1 b2.2.2.2.1 b2.2.2.2.2 e
  rcases ap with⟨ht,Z⟩ | ⟨t0,f1,ht0,ag,Z⟩
  .have Y:s.TypeIs (.ref z) "zip" :=⟨_,Z.zz,rfl⟩
   unfold HR;refine a_ (Hc (FS (name:=b_ "__next__") Y Gq (FW Gq Y HE (xk D Z hS hT hx hy λg Z1 hp hg kg=>ee ?_) (Ho _))))
   exact ad g _ _ (by simp) (.inl rfl) Z1 hp hg kg
  .obtain⟨j0,ai⟩:=List.getElem?_of_mem ht0
   obtain⟨_,_,_,_,ak,_⟩:=aa.2 j0 t0 ai;have Y:s.TypeIs (.ref z) "zip" :=⟨_,Z.zz,rfl⟩
   unfold HR;refine a_ (Hc (FS (name:=b_ "__next__") Y Gq (FW Gq Y HE (Bs D Z ak ag hS hT hx hy λg Z1 hp hg kg=>ee ?_) (Ho _))))
   exact ad g _ _ (by simp[ht0]) (.inr rfl) Z1 hp hg kg
theorem zw (hd:A.handled=none) {z P O I J S T:Addr} {xs ys:Array Value} (D:Iz z P O I J S T) (Z:gU s.heap z P O I J S T 0 .none (.bool false)) (hS:s.heap.IsTuple S xs) (hT:s.heap.IsTuple T ys) (hn:min xs.size ys.size<=100000)
  (k : ∀g ts L c,(∀b o,b∉[z,P,O,I,J]->s.heap.get? b=some o->g.get? b=some o)->oA g (s.heap.objs.size+1) xs ys ts->ts.length=min xs.size ys.size->L.toList=ts.map y6 ->
   g.get? s.heap.objs.size=some { cls:=.type "list",dict:=none,data:=.seq L c,slots := #[] }->Q (.ref s.heap.objs.size) { s with heap:=g }) :
  wpAny (model prog w) A (call (.type "list") [.ref z]) Q E s:=by
 refine callType_codes (Q₁:=λobj s₁=>obj = .ref s.heap.objs.size/\s₁={ s with heap:=s.heap.push { cls:=.type "list",data:=.seq #[] } }) F.called_list (F.typeCall_list_1 _) F.entry_list_init (code_list_new _ ⟨rfl,rfl⟩) λobj s₁ ac=>?_
 obtain⟨rfl,rfl⟩:=ac;have up : ∀b o,s.heap.get? b=some o->(s.heap.push { cls:=.type "list",data:=.seq #[] }).get? b=some o:=λb o e=>c_ _ e
 have l0:(s.heap.push { cls:=.type "list",data:=.seq #[] }).get? s.heap.objs.size=some { cls:=.type "list",data:=.seq #[] }:=k_ _ rfl
 have lt : ∀b∈[z,P,O,I,J],b < s.heap.objs.size:=λb B=>by
  obtain⟨u,v,oo⟩:=Z.oo;obtain⟨oi,i1,_⟩:=Z.ii;obtain⟨oj,j1,_⟩:=Z.jj;simp only[u_,Ge,or_false] at B;rcases B with rfl | rfl | rfl | rfl | rfl
  .exact e_ Z.zz
  .exact e_ Z.pp
  .exact e_ oo
  .exact e_ i1
  .exact e_ j1
 have ae:S < s.heap.objs.size:=by obtain⟨o,e,_⟩:=hS;exact e_ e
 have ad:T < s.heap.objs.size:=by obtain⟨o,e,_⟩:=hT;exact e_ e
 refine⟨⟨_,l0,rfl⟩,F.args_list_init_2 _ _,?_⟩
 change wpAny _ _ (do let ag <- HY (.ref s.heap.objs.size);Builtin.List.listUpdate (.ref s.heap.objs.size) (λ_ => #[]);letGo ag.toList.reverse;F_ (.ref s.heap.objs.size) (.ref z) .none) _ _ _
 refine a_ (by
  unfold HY;refine a_ (GE l0 rfl (ee ?_))
  change wpAny _ _ (updateSeq s.heap.objs.size (λ_ => #[]) >>= λ_=>letGo (#[]:Array Value).toList.reverse >>= λ_=>F_ (.ref s.heap.objs.size) (.ref z) .none) _ _ _
  refine a_ (IK l0 rfl ?_)
  have l1:=G4 (GI (λ_=>(#[]:Array Value))) l0 rfl
  generalize af:(s.heap.push { cls:=.type "list",data:=.seq #[] }).update s.heap.objs.size (GI (λ_=>(#[]:Array Value)))=g1 at l1 ⊢
  have n1:g1.objs.size=s.heap.objs.size+1:=by rw[<- af,IA,FU]
  have o1 : ∀b o,b < s.heap.objs.size->s.heap.get? b=some o->g1.get? b=some o:=λb o B e=>by rw[<- af];exact(GW _ _ (Gd B)).trans (up b o e)
  refine a_ (wpAny_letGo ?_)
  unfold F_;have Z1:gU g1 z P O I J S T 0 .none (.bool false):=Z.keep λb B o e=>o1 b o (lt b B) e
  have aa:({ s with heap:=g1 }:Shared).TypeIs (.ref z) "zip" :=⟨_,Z1.zz,rfl⟩
  refine a_ (IS aa ?_)
  have q1:Hz (.ref s.heap.objs.size) (.ref z)=false:=by simp[Hz,Gd (lt z (by simp))]
  have q2:(GL "zip" == GL "list")=false:=∅
  have q3:(GL "zip" == GL "tuple")=false:=∅
  simp only[q1,q2,q3,Bool.or_false,q_,if_false];refine a_ (fN Z1.zz ?_)
  refine a_ (Gy ?_)
  unfold Builtin.List.listLengthHint;refine a_ (GM aa yp ?_)
  change wpAny _ _ (specialOf (y6 z) (b_ "__length_hint__") >>= _) _ _ _;refine a_ (GM aa vF (ee ?_))
  change wpAny _ _ (rule "list.extend.makes-room" >>= λ_=>(updateSeq s.heap.objs.size (·.push .none) >>= λ_=>updateSeq s.heap.objs.size (·.pop)) >>= λ_=>again (.builtin "list.extend.loop" ⟨[.ref s.heap.objs.size,.ref z,.none],[]⟩)) _ _ _
  refine a_ (wpAny_rule (a_ (a_ (IK l1 rfl ?_))))
  have l2:=G4 (GI (·.push GA)) l1 rfl;refine IK l2 rfl ?_
  have l3:=G4 (GI (·.pop)) l2 rfl;generalize ab:(g1.update s.heap.objs.size (GI (·.push GA))).update s.heap.objs.size (GI (·.pop))=g3 at l3 ⊢;have n3:g3.objs.size=s.heap.objs.size+1:=by rw[<- ab,IA,IA,n1]
  have o3 : ∀b o,b < s.heap.objs.size->s.heap.get? b=some o->g3.get? b=some o:=λb o B e=>by rw[<- ab];exact(GW _ _ (Gd B)).trans ((GW _ _ (Gd B)).trans (o1 b o B e))
  refine ee ⟨plainId_quiet HG _,wO (A:=A.in1) hd (n0:=s.heap.objs.size+1) .none D (G8 _) (λb B=>IC (lt b B)) (λb B=>Gd (lt b B)) (Gd ae) (Gd ad) hn _ { s with heap:=g3 } [] #[] _ rfl (GR _) (by show _<=g3.objs.size;rw[n3];exact s_ _) (.inl ⟨rfl,Z.keep λb B o e=>o3 b o (lt b B) e⟩) ⟨List.nodup_nil,λj t e=>by simp at e⟩ rfl (hS.at λo e=>o3 S o ae e) (hT.at λo e=>o3 T o ad e) l3 λg ts L c kg hz hl ha hL=>⟨rfl,k g ts L c (λb o B e=>?_) hz hl ha hL⟩⟩
  have Y:=e_ e;exact kg b o (E_ Y) B (IC Y) (o3 b o Y e))
end PySem
namespace L2
open PySem PySem.Spec PyProof.Rows
theorem Inv.turnedL {g:Heap} (I:Inv X pins σ H s) (k : ∀b o,b∉fp->s.heap.get? b=some o->g.get? b=some o) (F : ∀b∈fp,pF X pins H b):Inv X pins σ H { s with heap:=g,toks:=t' }:=by
 have L : ∀b u,H b=some u->b∉fp:=λb u e z=>by rw[(F b z).1] at e;cases e
 refine I.step (g':=s.gens) (d':=s.drawn) (ch:=fp) (λb Y=>⟨(F b Y).2.2.2.1,(F b Y).2.1,(F b Y).2.2.2.2.1,(F b Y).2.2.2.2.2⟩) (λb o _ _ B e _=>k b o B e) (λb o _ _ B e _=>⟨o.slots,k b o B e⟩) (λ_ _ _ _ n=>n)
  (λb o B e=>⟨o,k b o B e⟩) (λ_ _ e=>e) (λ_ _ _ e=>e) (λb ps e=>⟨#[],by rw[e];simp⟩) (λm Z=>?_) (λb u e=>?_) I.bare
 .obtain⟨o,es,ep,ho,r⟩:=Z
  exact⟨o,es,ep,k _ o (λz=>(F _ z).2.1 rfl) ho,r⟩
 .refine(I.hok b u e).stay (λc v B q=>k c v ?_ q) (λ_ q=>q) λ_ _ q=>q
  rcases B with z | z
  .rw[z];exact L b u e
  .exact L c _ z
theorem Inv.turnedNew {g:Heap} (I:Inv X pins σ H s) (k : ∀b o,b∉fp->s.heap.get? b=some o->g.get? b=some o) (L : ∀b∈fp,pF X pins H b) (ha:s.heap.objs.size<=a)
  (ok:bO X.prog X.w (upd H a u0) g a u0):Inv X pins σ (upd H a u0) { s with heap:=g,toks:=t' }:=by
 have Z : ∀b u,H b=some u->b∉fp:=λb u e z=>by rw[(L b z).1] at e;cases e
 have na : ∀b o,s.heap.get? b=some o->b≠a:=λb o e z=>by rw[z] at e;exact absurd (n_ (e_ e) ha) (Gg _)
 have hn:H a=none:=I.hok.fresh ha
 have Y : ∀b u,H b=some u->b≠a:=λb u e z=>by rw[z,hn] at e;cases e
 refine I.step (g':=s.gens) (d':=s.drawn) (ch:=fp) (λb B=>⟨(L b B).2.2.2.1,(L b B).2.1,(L b B).2.2.2.2.1,(L b B).2.2.2.2.2⟩) (λb o _ _ F e _=>k b o F e) (λb o _ _ F e _=>⟨o.slots,k b o F e⟩) (λb o _ e n=>by rw[ao (na b o e)];exact n)
  (λb o F e=>⟨o,k b o F e⟩) (λb xs e=>by rw[ao (Y b _ e)];exact e) (λb o u e=>by rw[ao (Y b _ e)];exact e) (λb ps e=>⟨#[],by rw[ao (Y b _ e),e];simp⟩) (λm hm=>?_) (λb u e=>?_) I.bare
 .obtain⟨o,es,ep,ho,r⟩:=hm
  exact⟨o,es,ep,k _ o (λz=>(L _ z).2.1 rfl) ho,r⟩
 .by_cases B:b=a
  .subst B
   rw[ah] at e;cases e;exact ok
  .rw[ao B] at e
   refine(I.hok b u e).stay (λc v F q=>k c v ?_ q) (λc q=>by rw[ao (Y c _ q)];exact q) (λc xs q=>by rw[ao (Y c _ q)];exact q) λc _ _ q=>by rw[ao (Y c _ q)];exact q
   rcases F with z | z
   .rw[z];exact Z b u e
   .exact Z c _ z
def Itz (K:j_) (a b:Addr):It :=
  ⟨λi H=>∃xs ys x y,SqT K H a xs/\SqT K H b ys/\xs[i]? = some x/\ys[i]? = some y,
   λi H v H'=>∃t x y,H t=none/\v = .ref t/\H'=upd H t (.tup [x,y])/\(∀xs,SqT K H a xs->xs[i]? = some x)/\(∀ys,SqT K H b ys->ys[i]? = some y),
   λi H=>∃xs ys,SqT K H a xs/\SqT K H b ys/\(xs[i]? = none\/ys[i]? = none)⟩
theorem rh (h:bu xs us) (e:xs[i]? = none):us[i]? = none:=by
 have:=h.length
 rw[G5] at e ⊢;omega
theorem zr {x1} {pos:Pos} (a b z Q O I J:Addr) (D:Iz z Q O I J a b) :
  sA P w K (.Tuple es x1 pos) (Itz K a b) [z,Q,O,I,J] z (λi h=>gU h z Q O I J a b i .none (.bool false)) where
 mem:=by simp
 obj:=λi h st c B=>by
  obtain⟨u,v,oo⟩:=st.oo;obtain⟨oi,i1,i2,i3⟩:=st.ii;obtain⟨oj,j1,j2,j3⟩:=st.jj;simp only[u_,Ge,or_false] at B;rcases B with rfl | rfl | rfl | rfl | rfl
  .exact⟨_,st.zz,λv z=>by cases z⟩
  .exact⟨_,st.pp,λv z=>by cases z⟩
  .exact⟨_,oo,λv z=>by cases z⟩
  .exact⟨oi,i1,λv z=>by rw[i3] at z;cases z⟩
  .exact⟨oj,j1,λv z=>by rw[j3] at z;cases z⟩
 keep:=λi h h' st k=>st.keep k
 item:=by
  intro X hP hw hK B i pins s σ H E Y hf st hg;subst hP hw hK;obtain⟨xs,ys,x,y,hq,Z,hx,hy⟩:=hg;obtain⟨its,rv,p,hz⟩:=Y.tuple hq;obtain⟨L,ab,p2,ae⟩:=Y.tuple Z;obtain⟨u,hu,ru⟩:=rv.get hx;obtain⟨u2,ad,ag⟩:=ab.get hy;have hT:s.TypeIs (.ref z) "zip" :=⟨_,st.zz,rfl⟩
  unfold HR;refine a_ (Hc (FS (name:=b_ "__next__") hT Gq (FW Gq hT HE (xk D st (show s.heap.IsTuple a its.toArray from p) (show s.heap.IsTuple b L.toArray from p2) (x:=u) (y:=u2) (by simpa using hu) (by simpa using ad) λg Z1 t1 n1 k1=>ee ⟨_,rfl,?_⟩) (Ho _))))
  have ac:H s.heap.objs.size=none:=Y.hok.fresh (s_ _)
  refine wpAny_letOwnedTupleGo_zip (s:={ s with heap:=g }) Z1.zz λg2 z2 s2=>?_
  have nn : ∀c∈[z,Q,O,I,J],c≠s.heap.objs.size:=λc B e=>by
   obtain⟨u',v',oo⟩:=st.oo;obtain⟨oi,i1,_⟩:=st.ii;obtain⟨oj,j1,_⟩:=st.jj;simp only[u_,Ge,or_false] at B;rcases B with rfl | rfl | rfl | rfl | rfl
   .exact absurd (e_ st.zz) (by rw[e];exact Gg _)
   .exact absurd (e_ st.pp) (by rw[e];exact Gg _)
   .exact absurd (e_ oo) (by rw[e];exact Gg _)
   .exact absurd (e_ i1) (by rw[e];exact Gg _)
   .exact absurd (e_ j1) (by rw[e];exact Gg _)
  have Z2:gU g2 z Q O I J a b (i+1) .none (.bool false):=by
   obtain⟨u',v',oo⟩:=Z1.oo;exact⟨z2,s2.extBut _ _ D.TIz Z1.pp,⟨u',v',s2.extBut _ _ D.TOz oo⟩,Z1.ii.extBut s2.extBut D.i1z,Z1.jj.extBut s2.extBut D.i2z⟩
  have I2:Inv X pins σ (upd H s.heap.objs.size (.tup [x,y])) { s with heap:=g2 }:=Y.turnedNew (t':=s.toks) (fp:=[z,Q,O,I,J]) (λc o B e=>by
    simp only[u_,Ge,or_false,not_or] at B;exact s2.extBut _ _ B.1 (k1 c o B.1 B.2.2.1 B.2.2.2.1 B.2.2.2.2 e)) hf (s_ _)
   ⟨by show 2<=l_;decide,[u,u2],.cons ru (.cons ag .nil),⟨_,s2.extBut _ _ (nn z (by simp)).symm t1,rfl,_,rfl⟩⟩
  exact⟨.ref s.heap.objs.size,_,I2,rfl,⟨_,x,y,ac,rfl,rfl,λzs aa=>by rw[Y.tuple_inj aa hq];exact hx,λzs aa=>by rw[Y.tuple_inj aa Z];exact hy⟩,Z2,λc B=>by rw[ao (nn c B)];exact(hf c B).1⟩
 done:=by
  intro X hP hw hK B i pins s σ H E Y hf st hg;subst hP hw hK;obtain⟨xs,ys,hq,Z,hx⟩:=hg;obtain⟨its,rv,p,hz⟩:=Y.tuple hq;obtain⟨L,ab,p2,ae⟩:=Y.tuple Z;have hT:s.TypeIs (.ref z) "zip" :=⟨_,st.zz,rfl⟩
  unfold HR;refine a_ (Hc (FS (name:=b_ "__next__") hT Gq (FW Gq hT HE (zY (Y.ok.hd B) D st (show s.heap.IsTuple a its.toArray from p) (show s.heap.IsTuple b L.toArray from p2) (hx.imp (λe=>by simpa using rh rv e) λe=>by simpa using rh ab e) λg e kg he=>?_) (Ho _))))
  obtain⟨o,ho,af⟩:=he;refine a_ (HA (T := "StopIteration") (b:=true) ⟨o,ho,af⟩ isSubtype_stop ?_)
  exact ee ⟨rfl,Y.turnedL (t':=s.toks) (fp:=[z,Q,O,I,J]) (λc o B e=>by
    simp only[u_,Ge,or_false,not_or] at B;exact kg c o B.1 B.2.2.1 B.2.2.2.1 B.2.2.2.2 e) hf⟩
 self:=λ_ _ _ _ _ st h=>fN st.zz h
theorem Inv.grown {g:Heap} (I:Inv X pins σ H s) (k : ∀b o,s.heap.get? b=some o->g.get? b=some o) (B : ∀b,b < s.heap.objs.size->H' b=H b)
  (new : ∀b u,s.heap.objs.size<=b->H' b=some u->bO X.prog X.w H' g b u):Inv X pins σ H' { s with heap:=g,toks:=t' }:=by
 have lt : ∀b u,H b=some u->b < s.heap.objs.size:=λb u e=>(I.hok b u e).lt
 have F : ∀b u,H b=some u->H' b=some u:=λb u e=>(B b (lt b u e)).trans e
 refine I.step (g':=s.gens) (d':=s.drawn) (ch:=[]) (λ_ z=>nomatch z) (λb o _ _ _ e _=>k b o e) (λb o _ _ _ e _=>⟨o.slots,k b o e⟩) (λb o _ e n=>by rw[B b (e_ e)];exact n)
  (λb o _ e=>⟨o,k b o e⟩) (λb xs e=>F b _ e) (λb o u e=>F b _ e) (λb ps e=>⟨#[],by rw[F b _ e];simp⟩) (λm L=>?_) (λb u e=>?_) I.bare
 .obtain⟨o,es,ep,ho,r⟩:=L
  exact⟨o,es,ep,k _ o ho,r⟩
 .by_cases hb:b < s.heap.objs.size
  .rw[B b hb] at e
   exact(I.hok b u e).stay (λc v _ q=>k c v q) (λc q=>F c _ q) (λc xs q=>F c _ q) λc _ _ q=>F c _ q
  .exact new b u (Nat.le_of_not_lt hb) e
def iZ (K:j_) (ta:TA):TI:=λσ H R=>ta σ H λvs H1=>∃a b,vs=[.ref a,.ref b]/\∃xs,H1 a>>xs/\∃ys,H1 b>>ys/\R (Itz K a b) H1
section
variable {e2:Expr} {ta:TA} {p pos2:Pos} {x1:Nat}
theorem qS:GN "zip" = some (.type "zip"):=by decide+kernel
theorem AW {x1} (hK:X.K=K) (hg:Gl X "zip") (hm:X.mg "zip" = none) (ha:PA X [e1,e2] ta) (hs:y9 [e1,e2] X.env=[(false,eval e1 X.env),(false,eval e2 X.env)]:=by rfl) (F:y9 [e2] X.env=[(false,eval e2 X.env)]:=by rfl) :
  PI X (.Tuple es x1 pos') (.Call (.Name "zip" p) [e1,e2] [] pos) (iZ K ta):=by
 subst hK;intro pins s σ H R I h;refine Call_ (gL I hg hm qS (F8 (thn (ha pos pins s σ H _ I h) λus L ⟨vs,H1,I1,r1,q1⟩=>?_) (by rw[hs,F]) (by rw[F];rfl)))
 obtain⟨a,b,e,xs,Y,ys,ab,q⟩:=q1;subst e;obtain⟨u,u2,rfl,ru,ac⟩:=vi r1;cases ru;cases ac;obtain⟨its,rv,pl,hz⟩:=I1.tuple (SqT.of Y);obtain⟨B,ae,aa,ad⟩:=I1.tuple (SqT.of ab);refine qQ (show L.heap.IsTuple a its.toArray from pl) (show L.heap.IsTuple b B.toArray from aa) λg z P O II J Z D l1 l2 l3 l4 l5 kg=>?_
 refine fN (s:={ L with heap:=g }) Z.zz ⟨z,[z,P,O,II,J],_,_,H1,rfl,I1.kept (t':=L.toks) kg,zr a b z P O II J D,Z,λc hc=>?_,q⟩
 simp only[u_,Ge,or_false] at hc;rcases hc with rfl | rfl | rfl | rfl | rfl
 .exact I1.fpOk l1 (I1.hok.fresh l1)
 .exact I1.fpOk l2 (I1.hok.fresh l2)
 .exact I1.fpOk l3 (I1.hok.fresh l3)
 .exact I1.fpOk l4 (I1.hok.fresh l4)
 .exact I1.fpOk l5 (I1.hok.fresh l5)
theorem BU {g:TG} {Q:VK} {D:Addr} (B:Nat->List V->Hp->Prop) (h0:B 0 [] (upd H1 D (.lst []))) (hl : ∀i ys H,B i ys H->SqT K H a xs/\SqT K H b zs)
  (hs : ∀(i:Nat) (x y:V) (ys:List V) (H:Hp) (t:Addr),xs[i]? = some x->zs[i]? = some y->B i ys H->H t=none->g (.ref t) σ0 (upd H t (.tup [x,y])) λL H3=>tc L H3 λc H4=>if c=true then te L H4 λv H5=>H5 D*>ys/\ys.length < l_/\B (i+1) (ys++[v]) (upd H5 D (.lst (ys++[v]))) else B (i+1) ys H4)
  (hd : ∀ys H,B (min xs.length zs.length) ys H->Q (.ref D) H):mR (Itz K a b) σ0 g tc te Q H1 D:=by
 refine⟨λi m ys H=>B i ys H/\i<=min xs.length zs.length/\m=min xs.length zs.length - i,⟨_,h0,GR _,rfl⟩,?_⟩
 rintro i m ys H ⟨hp,hi,rfl⟩
 obtain⟨sa,Z⟩:=hl i ys H hp
 by_cases Y:i=min xs.length zs.length
 .left
  subst Y;refine⟨⟨xs,zs,sa,Z,?_⟩,hd ys H hp⟩
  rcases Nat.le_total xs.length zs.length with h | h
  .exact .inl (G5.mpr ())
  .exact .inr (G5.mpr ())
 .right
  have h1:i < xs.length:=()
  have h2:i < zs.length:=()
  refine⟨⟨xs,zs,xs[i],zs[i],sa,Z,by simp[h1],by simp[h2]⟩,λF H'=>B (i+1) F H',λF H' h=>⟨_,(),h,(),rfl⟩,?_⟩
  rintro v H' ⟨t,x,y,ht,rfl,rfl,e1,e2⟩
  exact hs i x y ys H t (e1 xs sa) (e2 zs Z) hp ht
theorem iz (hi:i < nt:=by decide) (Y:j < nt:=by decide) (B:i≠j:=by decide):Ae (uF n (oZ (gv i) (oZ (gv j) zx))) nt:=by
 intro x σ0 H Q h q;obtain⟨a,e,xs,Z,l,v,r,e2,v',r',L,F,q⟩:=q;refine⟨a,e,xs,Z,l,v,r,e2,v',r',L,F,(Wk.set (h i hi)).trans (Wk.set ?_),q⟩
 rw[Iw B];exact h j Y
theorem qL {B:St} {Q:VK} {D:Addr} (f:V->V->V) (Y:H1 D=none) (ha:H1 a>>xs) (hb:H1 b>>zs) (hn:xs.length<=10000)
  (he : ∀(x y:V) (H2:Hp) (F:VK),x∈xs->y∈zs->aA H1 H2->(∀L,aA H2 L->F (f x y) L)->te (some x :: some y :: B) H2 F)
  (hd : ∀H2,aA H1 H2->H2 D*>(zipWith f xs zs)->Q (.ref D) H2):mR (Itz K a b) (none :: none :: B) (uF 2 (oZ (gv 0) (oZ (gv 1) zx))) tW te Q H1 D:=by
 refine BU (xs:=xs) (zs:=zs) (λi ys H=>ys=zipWith f (xs.take i) (zs.take i)/\aA H1 H/\H D*>ys) ⟨by simp,aA.upd0 Y,ah⟩ (λi ys H h=>⟨.of (h.2.1 _ _ ha),.of (h.2.1 _ _ hb)⟩) ?_ ?_
 .rintro i x y ys H t hx hy ⟨rfl,sm,hd'⟩ ht
  have st:aA H (upd H t (.tup [x,y])):=aA.upd0 ht
  refine⟨t,rfl,[x,y],ah,rfl,x,[y],rfl,y,[],rfl,rfl,?_⟩
  simp only[tW,if_true];refine he x y _ _ (m_ hx) (m_ hy) (sm.trans st) λH4 Z=>⟨Z _ _ (st _ _ hd'),?_,?_,λc o e=>?_,ah⟩
  .refine Gc (w_ ?_ hn) ∅
   rw[List.length_zipWith,G6];omega
  .have e1:xs.take (i+1)=xs.take i++[x]:=by rw[za,hx];rfl
   have e2:zs.take (i+1)=zs.take i++[y]:=by rw[za,hy];rfl
   have h1:i < xs.length:=(p_.mp hx).1
   have h2:i < zs.length:=(p_.mp hy).1
   rw[e1,e2,List.zipWith_append (by simp;omega)]
   rfl
  .rw[ao (az e Y)];exact Z _ _ (st _ _ (sm c o e))
 .rintro ys H ⟨rfl,sm,hd'⟩
  refine hd H sm ?_
  rw[hd']
  congr 2
  have:zipWith f xs zs=zipWith f (xs.take (min xs.length zs.length)) (zs.take (min xs.length zs.length)):=by
   rw[<- List.take_zipWith,FX (by rw[List.length_zipWith];exact s_ _)]
  exact this.symm
def Bw (H:Hp) (ts:List Addr) (xs ys:List V):Prop:=ts.length=min xs.length ys.length/\∀(j:Nat) (t:Addr) (x y:V),ts[j]? = some t->xs[j]? = some x->ys[j]? = some y->H t>>[x,y]
def pS (ta:TA):TE:=λσ H Q=>ta σ H λvs H1=>∃a b,vs=[.ref a,.ref b]/\∃xs,H1 a>>xs/\∃ys,H1 b>>ys/\xs.length<=10000/\∀(l:Addr) (ts:List Addr) (H':Hp),aA H1 H'->H1 l=none->H' l*>(ts.map V.ref)->Bw H' ts xs ys->Q (.ref l) H'
theorem qH : ∀(ts:List Addr),bu (ts.map V.ref) (ts.map y6)
 | []=>.nil
 | t :: ts=>.cons rfl (qH ts)
theorem yW {α:Type} [BEq α] [LawfulBEq α] : ∀{l:List α} {j:Nat} (_:l.Nodup) (h:j < l.length),l.idxOf? l[j]=some j
 | [],j,_,h=>absurd h (by simp)
 | x :: l,0,_,_=>by simp[idxOf?_cons]
 | x :: l,j+1,hn,h=>by
  rw[FG] at hn;have F:j < l.length:=by simpa using h
  have B : ¬ ((x == l[j])=true):=λe=>hn.1 (by rw[eq_of_beq e];exact HD F)
  rw[List.getElem_cons_succ,idxOf?_cons,if_neg B,yW hn.2 F];rfl
theorem BA  [BEq α] [LawfulBEq α] {l:List α} {x:α} {j:Nat} (h:l.idxOf? x=some j) : ∃Y:j < l.length,l[j]=x:=by
 induction l generalizing j with
 | nil=>simp at h
 | cons y l B =>
  rw[idxOf?_cons] at h
  split at h
  .rename_i e
   cases h;exact⟨by simp,by simpa using e⟩
  .cases e2:l.idxOf? x with
   | none=>rw[e2] at h;cases h
   | some k =>
    rw[e2] at h;cases h;obtain⟨F,L⟩:=B e2;exact⟨by simpa using F,by simpa using L⟩
theorem wK (hc:X.calm=true) (hg:Gl X "list") (hm:X.mg "list" = none) (ao:Gl X "zip") (aq:X.mg "zip" = none) (ha:PA X [e1,e2] ta) (hs:y9 [e1,e2] X.env=[(false,eval e1 X.env),(false,eval e2 X.env)]:=by rfl) (ai:y9 [e2] X.env=[(false,eval e2 X.env)]:=by rfl) :
  PE X (.Call (.Name "list" p) [.Call (.Name "zip" p2) [e1,e2] [] pos2] [] pos) (pS ta):=by
 intro pins s σ H Q I h;refine GO (gL I hg hm (by decide+kernel:GN "list" = some (.type "list")) ?_)
 refine F8 (HS ?_) rfl rfl
 refine GO (gL I ao aq qS ?_)
 refine F8 (thn (ha pos2 pins s σ H _ I h) λus F ⟨vs,H1,I1,r1,q1⟩=>?_) (by rw[hs,ai]) (by rw[ai];rfl)
 obtain⟨a,b,e,xs,an,ys,ar,ay,q⟩:=q1;subst e;obtain⟨u,u2,rfl,ru,ax⟩:=vi r1;cases ru;cases ax;obtain⟨its,rv,pl,hz⟩:=I1.tuple (SqT.of an);obtain⟨B,ak,af,a0⟩:=I1.tuple (SqT.of ar);have n1:=rv.length;have n2:=ak.length;refine qQ (show F.heap.IsTuple a its.toArray from pl) (show F.heap.IsTuple b B.toArray from af) λg z P O II J Z D l1 l2 l3 l4 l5 kg=>?_
 refine Ib ?_
 have pg:g.IsTuple a its.toArray:=(show F.heap.IsTuple a its.toArray from pl).at λo e=>kg a o e
 have aw:g.IsTuple b B.toArray:=(show F.heap.IsTuple b B.toArray from af).at λo e=>kg b o e
 refine zw (s:={ F with heap:=g }) (I.ok.hd hc) D Z pg aw (by simp only[y4];omega) λg2 ts az c k2 hz hl ap hL=>?_
 have L:F.heap.objs.size<=g.objs.size:=by have:=e_ Z.zz;exact Hd (Gc l1 this)
 have kk : ∀b o,F.heap.get? b=some o->g2.get? b=some o:=λb o e=>by
  refine k2 b o (λhm=>?_) (kg b o e)
  have hb:=e_ e;simp only[u_,Ge,or_false] at hm;rcases hm with rfl | rfl | rfl | rfl | rfl
  .exact absurd (n_ hb l1) (Gg _)
  .exact absurd (n_ hb l2) (Gg _)
  .exact absurd (n_ hb l3) (Gg _)
  .exact absurd (n_ hb l4) (Gg _)
  .exact absurd (n_ hb l5) (Gg _)
 change oA g2 (g.objs.size+1) its.toArray B.toArray ts at hz;change g2.get? g.objs.size=_ at hL;simp only[y4] at hl
 let H2:Hp:=λc=>if c < F.heap.objs.size then H1 c else if c=g.objs.size then some (.lst (ts.map V.ref)) else
  match ts.idxOf? c with | none=>none | some j=>match xs[j]?,ys[j]? with | some x,some y=>some (.tup [x,y]) | _,_=>none
 have hold : ∀c,c < F.heap.objs.size->H2 c=H1 c:=λc hc=>if_pos hc
 have am : ¬ g.objs.size < F.heap.objs.size:=not_lt.mpr L
 have aa:H2 g.objs.size*>(ts.map V.ref):=by show(if _ then _ else _)=_;rw[if_neg am,if_pos rfl]
 have au:ts.length<=10000:=()
 have ac : ∀(j:Nat) (t:Addr) (x y:V),ts[j]? = some t->xs[j]? = some x->ys[j]? = some y->H2 t>>[x,y]:=λj t x y e1 e2 e3=>by
  obtain⟨_,_,_,_,_,ag⟩:=hz.2 j t e1;have hj:j < ts.length:=(p_.mp e1).1
  have Y:ts.idxOf? t=some j:=by
   have e4:=(p_.mp e1).2;rw[<- e4];exact yW hz.1 hj
  show(if _ then _ else _)=_
  rw[if_neg (not_lt.mpr (w_ L (w_ (le_succ _) ag))),if_neg (Gd ag)];rw[Y];simp only[e2,e3]
 have ae : ∀c u,F.heap.objs.size<=c->H2 c=some u->bO X.prog X.w H2 g2 c u:=λc u hc e=>by
  by_cases ab:c=g.objs.size
  .subst ab
   rw[aa] at e;cases e;exact⟨by rw[d_];exact w_ au ∅,ts.map y6,_,qH ts,by rw[hL,<- ap]⟩
  .change (if _ then _ else _)=_ at e
   rw[if_neg (not_lt.mpr hc),if_neg ab] at e;cases Y:ts.idxOf? c with
   | none=>rw[Y] at e;cases e
   | some j =>
    rw[Y] at e;obtain⟨hj,ej⟩:=BA Y;have e1:ts[j]? = some c:=by rw[C_ hj,ej]
    obtain⟨vx,vy,h1,h2,h3,_⟩:=hz.2 j c e1;simp only[Il] at h1 h2;obtain⟨x,hx⟩ : ∃x,xs[j]? = some x:=⟨xs[j]'(by rw[n1];exact(p_.mp h1).1),by simp⟩
    obtain⟨y,hy⟩ : ∃y,ys[j]? = some y:=⟨ys[j]'(by rw[n2];exact(p_.mp h2).1),by simp⟩
    simp only[hx,hy] at e;cases e;obtain⟨v1,ad,rx⟩:=rv.get hx;obtain⟨v2,aj,ry⟩:=ak.get hy;rw[h1] at ad;rw[h2] at aj;cases ad;cases aj;exact⟨by show 2<=l_;decide,[vx,vy],.cons rx (.cons ry .nil),⟨_,h3,rfl,_,rfl⟩⟩
 refine⟨.ref g.objs.size,H2,I1.grown (t':=F.toks) kk hold ae,rfl,q g.objs.size ts H2 (λb o e=>by rw[hold b (I1.hok b o e).lt];exact e) (I1.hok.fresh L) aa ⟨(),ac⟩⟩
end
end L2
namespace PyProof.Rows
open PySem PySem.Spec
theorem uP {t:Addr} {Q:List Value->Shared->Prop} (Y:s.heap.IsTuple t us.toArray) (Z:us.length<=1000)
  (k:Q us { s with heap:=(s.heap.push (seqObj "list" #[] 0)).update s.heap.objs.size (GI (· ++ us.toArray)) }):wpAny (model prog w) A (collect (.ref t)) Q E s:=by
 obtain⟨F,h1,h2,n,L⟩:=id Y;unfold collect;refine a_ (wpAny_runValue (IL entry_proto_collect' ?_))
 change wpAny _ _ (do again (.builtin "list.__iadd__" ⟨[<- newList [],.ref t],[]⟩)) _ _ s;refine a_ (wpAny_newList (ee ⟨Code.quiet_builtin _ (by decide+kernel),IL entry_list_iadd' ?_⟩))
 change wpAny _ _ (F_ (.ref s.heap.objs.size) (.ref t) (.ref s.heap.objs.size)) _ _ { s with heap:=s.heap.push (seqObj "list" #[] 0) }
 unfold F_;have B:(s.heap.push (seqObj "list" #[] 0)).get? t=some F:=c_ _ h1
 refine a_ (IS (T := "tuple") ⟨F,B,h2⟩ ?_)
 have q1:(GL "tuple" == GL "tuple")=true:=by rfl
 rw[if_pos (by rw[q1];simp)]
 refine a_ (listItems_at B L (a_ (listItems_at (xs := #[]) (n:=0) (k_ _ rfl) rfl ?_)))
 rw[if_neg (by simp)]
 have hz:us.length<=l_:=w_ Z ∅
 refine a_ (listUpdate_at (xs := #[]) (n:=0) (k_ _ rfl) rfl (ee ?_) (GR _) (by show(#[]++us.toArray).size<=l_+1;simp only[Array.size_append,y4,length_nil];omega))
 refine a_ (m:=load s.heap.objs.size) (wpAny_load (get?_update_seq (k_ _ rfl) _) ?_)
 change wpAny _ _ (pure ((#[]:Array Value)++us.toArray).toList) Q E _;rw[show((#[]:Array Value)++us.toArray).toList=us by simp]
 exact ee k
theorem sU {t:Addr} (Z:s.heap.IsTuple t us.toArray) (hi:IT us ns) (hl:us.length < 64)
  (k : ∀(B:Array Value) (ms:List Int),IT B.toList ms->ms.Perm ns->ms.Pairwise (·<=·)->Q (.ref (s.heap.objs.size+1)) { s with heap:=sortedAll s.heap us B }) :
  wpAny (model prog w) A (call (.builtin "sorted") [.ref t]) Q E s:=by
 refine Calls.call_function_entry kind_sorted plain_sorted entry_sorted (args_sorted1 _) ?_
 unfold Builtin.«sorted»;refine a_ (m:=checkCount "sorted" 1 1 _) (ee (a_ (uP Z () (a_ (wpAny_newList ?_)))))
 have F:((s.heap.push (seqObj "list" #[] 0)).update s.heap.objs.size (GI (· ++ us.toArray))).objs.size=s.heap.objs.size+1:=by rw[IA,size_push']
 have L:(((s.heap.push (seqObj "list" #[] 0)).update s.heap.objs.size (GI (· ++ us.toArray))).push (seqObj "list" us.toArray 0)).get? (s.heap.objs.size+1)=some (seqObj "list" us.toArray 0):=by rw[<- F];exact k_ _ rfl
 change wpAny _ _ _ _ _ { s with heap:=((s.heap.push (seqObj "list" #[] 0)).update s.heap.objs.size (GI (· ++ us.toArray))).push (seqObj "list" us.toArray 0) }
 rw[F];refine a_ (Gy (FW slot_list_sort ⟨_,L,rfl⟩ entry_list_sort (list_sort_tree L hi hl λB ms Y a2 a3=>⟨_,rfl,ee ⟨_,rfl,k B ms Y a2 a3⟩⟩) (args_list_sort _)))
theorem A6 {t:Addr} {xs:Array (Int × Tok)} (Z:A.handled=none) (hl:s.heap.IsTuple t (Ia xs)) (B:0 < xs.size)
  (k : ∀v g tk,(Ia xs)[argBest (λi j=>decide (numAt xs i < numAt xs j)) (xs.size - 1)]? = some v->(∀b o,s.heap.get? b=some o->g.get? b=some o)->Q v { s with heap:=g,toks:=tk }):wpAny (model prog w) A (call (.builtin "min") [.ref t]) Q E s:=by
 obtain⟨ot,h1,_⟩:=id hl;refine call_min_walk (GH hl ?_)
 refine⟨s.heap.objs.size,_,_,_,_,_,_,rfl,Walks.tuple (A:=A.in1) Z _ t (E_ (e_ h1)) (Ia xs),⟨⟨_,k_ _ rfl,rfl,rfl⟩,hl.at λo e=>c_ _ e⟩,λb F=>?_,by simpa [Ia] using B,CmpOf.ints_lt (numAt xs) (λ_ _=>intItems_at),λv g tk hP Y=>k v g tk (by simpa [Ia] using hP) λb o e=>?_⟩
 .have sz:(s.heap.push { cls:=.type "tuple_iterator",data:=.fields #[.ref t,.int 0 0] }).objs.size=s.heap.objs.size+1:=FU ..
  show b < (s.heap.push { cls:=.type "tuple_iterator",data:=.fields #[.ref t,.int 0 0] }).objs.size
  rw[sz];rcases u_.mp F with rfl | F
  .exact G8 _
  .rw[g_.mp F];exact IC (e_ h1)
 .exact Y b o (λL=>absurd (g_.mp L ▸ e_ e) (Gg _)) (c_ _ e)
theorem zU {t:Addr} {xs:Array (Int × Tok)} (Z:A.handled=none) (hl:s.heap.IsTuple t (Ia xs)) (B:0 < xs.size)
  (k : ∀v g tk,(Ia xs)[argBest (λi j=>decide (numAt xs i > numAt xs j)) (xs.size - 1)]? = some v->(∀b o,s.heap.get? b=some o->g.get? b=some o)->Q v { s with heap:=g,toks:=tk }):wpAny (model prog w) A (call (.builtin "max") [.ref t]) Q E s:=by
 obtain⟨ot,h1,_⟩:=id hl;refine call_max_walk (GH hl ?_)
 refine⟨s.heap.objs.size,_,_,_,_,_,_,rfl,Walks.tuple (A:=A.in1) Z _ t (E_ (e_ h1)) (Ia xs),⟨⟨_,k_ _ rfl,rfl,rfl⟩,hl.at λo e=>c_ _ e⟩,λb F=>?_,by simpa [Ia] using B,CmpOf.ints_gt (numAt xs) (λ_ _=>intItems_at),λv g tk hP Y=>k v g tk (by simpa [Ia] using hP) λb o e=>?_⟩
 .have sz:(s.heap.push { cls:=.type "tuple_iterator",data:=.fields #[.ref t,.int 0 0] }).objs.size=s.heap.objs.size+1:=FU ..
  show b < (s.heap.push { cls:=.type "tuple_iterator",data:=.fields #[.ref t,.int 0 0] }).objs.size
  rw[sz];rcases u_.mp F with rfl | F
  .exact G8 _
  .rw[g_.mp F];exact IC (e_ h1)
 .exact Y b o (λL=>absurd (g_.mp L ▸ e_ e) (Gg _)) (c_ _ e)
end PyProof.Rows
namespace L2
open PySem PySem.Spec PyProof.Rows
def oh:List V->Hp->VK->Prop:=λxs H Q=>∃p,xs=[.ref p]/\∃ns:List Int,H p>>(ns.map V.int)/\ns.length < 64/\∀(q:Addr) (ms:List Int),H q=none->ms.Perm ns->ms.Pairwise (·<=·)->Q (.ref q) (upd H q (.lst (ms.map V.int)))
theorem rY:cA X (.builtin "sorted") oh:=by
 intro pins s σ H xs us Q I r h;obtain⟨p,rfl,ns,hp,hl,q⟩:=h;obtain⟨u,rfl,ru⟩:=eB r;cases ru;obtain⟨its,rv,pl,hz⟩:=I.tuple (SqT.of hp);have L:=rv.length;rw[d_] at L;refine sU (show s.heap.IsTuple p its.toArray from pl) (eZ rv) () λF ms Z B Y=>?_
 obtain⟨e,he⟩:=sortedAll_at s.heap its F;have aa:F=F.toList.toArray:=by simp
 refine⟨.ref (s.heap.objs.size+1),_,I.laid (a:=s.heap.objs.size+1) (o:=.lst (ms.map V.int)) (t':=s.toks) (λb o e=>sortedAll_old e) (le_succ _) ⟨?_,F.toList,e,mG Z,by rw[he]⟩,rfl,q _ ms (I.hok.fresh (le_succ _)) B Y⟩
 rw[d_,B.length_eq];exact Hd (aU ())
def Ar:List V->Hp->VK->Prop:=λxs H Q=>∃p,xs=[.ref p]/\∃ns:List Int,H p>>(ns.map V.int)/\ns≠[]/\∀m,m∈ns->(∀x∈ns,m<=x)->Q (.int m) H
def zP:List V->Hp->VK->Prop:=λxs H Q=>∃p,xs=[.ref p]/\∃ns:List Int,H p>>(ns.map V.int)/\ns≠[]/\∀m,m∈ns->(∀x∈ns,x<=m)->Q (.int m) H
def zN:List V->Hp->VK->Prop:=λxs H Q=>∃p,xs=[.ref p]/\∃ns:List Int,H p*>(ns.map V.int)/\ns≠[]/\∀m,m∈ns->(∀x∈ns,m<=x)->Q (.int m) H
def AL:List V->Hp->VK->Prop:=λxs H Q=>∃p,xs=[.ref p]/\∃ns:List Int,H p*>(ns.map V.int)/\ns≠[]/\∀m,m∈ns->(∀x∈ns,x<=m)->Q (.int m) H
theorem xa {xs:Array (Int × Tok)} (B:ns=xs.toList.map (·.1)) (L:0 < xs.size):numAt xs (argBest (λi j=>decide (numAt xs i < numAt xs j)) (xs.size - 1))∈ns/\∀a∈ns,numAt xs (argBest (λi j=>decide (numAt xs i < numAt xs j)) (xs.size - 1))<=a:=by
 obtain⟨h1,h2⟩:=argBest_lt (numAt xs) (xs.size - 1);refine⟨?_,λa ha=>?_⟩
 .rw[B,numAt_eq];exact PySem.getD_mem (by rw[d_,GY];omega)
 .rw[B] at ha
  obtain⟨j,F,rfl⟩:=mem_getD ha;rw[d_,GY] at F;rw[<- numAt_eq];exact h2 j ()
theorem wR {xs:Array (Int × Tok)} (B:ns=xs.toList.map (·.1)) (L:0 < xs.size):numAt xs (argBest (λi j=>decide (numAt xs i > numAt xs j)) (xs.size - 1))∈ns/\∀a∈ns,a<=numAt xs (argBest (λi j=>decide (numAt xs i > numAt xs j)) (xs.size - 1)):=by
 obtain⟨h1,h2⟩:=argBest_gt (numAt xs) (xs.size - 1);refine⟨?_,λa ha=>?_⟩
 .rw[B,numAt_eq];exact PySem.getD_mem (by rw[d_,GY];omega)
 .rw[B] at ha
  obtain⟨j,F,rfl⟩:=mem_getD ha;rw[d_,GY] at F;rw[<- numAt_eq];exact h2 j ()
theorem iG (hi:IT its ns) (F:ns≠[]) : ∃xs:Array (Int × Tok),its.toArray=Ia xs/\ns=xs.toList.map (·.1)/\0 < xs.size:=by
 obtain⟨xs,e⟩:=hi.allInts.items;have B:ns=xs.toList.map (·.1):=by rw[<- hi.numsOf,<- nums_intItems,<- e]
 refine⟨xs,e,B,?_⟩
 have L:=Ie.mpr F;rw[B,d_,GY] at L;exact L
theorem rz (hc:X.calm=true):cA X (.builtin "min") Ar:=by
 intro pins s σ H xs us Q I r h;obtain⟨p,rfl,ns,hp,F,q⟩:=h;obtain⟨u,rfl,Z⟩:=eB r;cases Z;obtain⟨its,rv,pl,hz⟩:=I.tuple (SqT.of hp);obtain⟨xs,e,L,Y⟩:=iG (eZ rv) F;have B:s.heap.IsTuple p its.toArray:=pl
 rw[e] at B;refine A6 (I.ok.hd hc) B Y λv g tk hv hk=>?_
 obtain⟨t,rfl⟩:=intItems_at hv;obtain⟨b1,b2⟩:=xa L Y;exact⟨V.int _,H,I.kept (t':=tk) hk,⟨t,rfl⟩,q _ b1 b2⟩
theorem yw (hc:X.calm=true):cA X (.builtin "max") zP:=by
 intro pins s σ H xs us Q I r h;obtain⟨p,rfl,ns,hp,F,q⟩:=h;obtain⟨u,rfl,Z⟩:=eB r;cases Z;obtain⟨its,rv,pl,hz⟩:=I.tuple (SqT.of hp);obtain⟨xs,e,L,Y⟩:=iG (eZ rv) F;have B:s.heap.IsTuple p its.toArray:=pl
 rw[e] at B;refine zU (I.ok.hd hc) B Y λv g tk hv hk=>?_
 obtain⟨t,rfl⟩:=intItems_at hv;obtain⟨b1,b2⟩:=wR L Y;exact⟨V.int _,H,I.kept (t':=tk) hk,⟨t,rfl⟩,q _ b1 b2⟩
theorem mj (hc:X.calm=true):cA X (.builtin "min") zN:=by
 intro pins s σ H xs us Q I r h;obtain⟨p,rfl,ns,hp,F,q⟩:=h;obtain⟨u,rfl,Z⟩:=eB r;cases Z;obtain⟨its,rv,pl,hz⟩:=I.list (SqL.of hp);obtain⟨xs,e,L,Y⟩:=iG (eZ rv) F;have B:=pl.isList;rw[e] at B;refine min_intList (I.ok.hd hc) B Y λv g tk hv hk=>?_
 obtain⟨t,rfl⟩:=intItems_at hv;obtain⟨b1,b2⟩:=xa L Y;exact⟨V.int _,H,I.kept (t':=tk) hk,⟨t,rfl⟩,q _ b1 b2⟩
theorem qy (hc:X.calm=true):cA X (.builtin "max") AL:=by
 intro pins s σ H xs us Q I r h;obtain⟨p,rfl,ns,hp,F,q⟩:=h;obtain⟨u,rfl,Z⟩:=eB r;cases Z;obtain⟨its,rv,pl,hz⟩:=I.list (SqL.of hp);obtain⟨xs,e,L,Y⟩:=iG (eZ rv) F;have B:=pl.isList;rw[e] at B;refine max_intList (I.ok.hd hc) B Y λv g tk hv hk=>?_
 obtain⟨t,rfl⟩:=intItems_at hv;obtain⟨b1,b2⟩:=wR L Y;exact⟨V.int _,H,I.kept (t':=tk) hk,⟨t,rfl⟩,q _ b1 b2⟩
def Es (H:Hp) (p:Addr) (ys:List V):Prop:=H p*>ys\/H p>>ys
def vE:List V->Hp->VK->Prop:=λxs H Q=>∃p,xs=[.ref p]/\∃ys,Es H p ys/\∀l,H l=none->Q (.ref l) (upd H l (.lst ys))
theorem vC:cA X (.type "list") vE:=tf.imp λ_ _ _ B=>by obtain⟨p,e,ys,h,q⟩:=B;exact(⟨p,ys,e,h.imp .of .of,q⟩)
def inD (d:IU) (ds:List IU):Bool:=ds.any λe=>G3 e d
def CA (K:j_) (B:Bool):R2:=λx y H Q=>∃dx ds,Rep K H x dx/\Rep K H y (.tuple ds)/\dx.canLay0=true/\GC ds=true/\dx.depth<=100/\Q (.bl (if B then !inD dx ds else inD dx ds)) H
def Cz (K:j_) (B:Bool):R2:=λx y H Q=>∃dx ds,Rep K H x dx/\Rep K H y (.list ds)/\dx.canLay0=true/\GC ds=true/\dx.depth<=100/\Q (.bl (if B then !inD dx ds else inD dx ds)) H
theorem xJ (hu:X.A.units+102 < cLine):OpR X (Gi .In) (CA X.K false):=by
 intro pins s σ H x y v u Q I Z ry h;obtain⟨dx,ds,h1,h2,F,B,h5,q⟩:=h;obtain⟨as,Y⟩:=I.reads h1 Z;obtain⟨bs,L⟩:=I.reads h2 ry;exact PySem.SeqAt.in_tuple_reads L Y B F () ⟨.bl _,H,I,rfl,q⟩
theorem wz (hu:X.A.units+102 < cLine):OpR X (Gi .NotIn) (Cz X.K true):=by
 intro pins s σ H x y v u Q I Z ry h;obtain⟨dx,ds,h1,h2,F,B,h5,q⟩:=h;obtain⟨as,Y⟩:=I.reads h1 Z;obtain⟨bs,L⟩:=I.reads h2 ry;exact PySem.SeqAt.notIn_list_reads L Y B F () ⟨.bl _,H,I,rfl,q⟩
theorem A5 (B:eJ k A):A.units+102 < cLine:=by have:=B.un;omega
theorem lay_ints : ∀ns:List Int,GC (ns.map G2)=true
 | []=>rfl
 | n :: ns=>by
  rw[y3];unfold GC;rw[lay_ints ns];rfl
theorem depth_ints : ∀ns:List Int,HV (ns.map G2)=0
 | []=>rfl
 | n :: ns=>by
  rw[y3];unfold HV;rw[depth_ints ns];rfl
def jt (r:List Int):IU:=.tuple (r.map G2)
theorem ll (r:List Int):(jt r).canLay0=true:=by unfold jt PyData.canLay0;exact lay_ints r
theorem mt (r:List Int):(jt r).depth<=1:=by unfold jt PyData.depth;rw[depth_ints];decide
theorem mV : ∀(a b:List Int),HJ (a.map G2) (b.map G2)=decide (a=b)
 | [],[]=>rfl
 | [],_ :: _=>by simp[HJ]
 | _ :: _,[]=>by simp[HJ]
 | x :: a,y :: b=>by
  rw[y3,y3];unfold HJ;rw[mV a b];have:G3 (.int x) (.int y)=decide (x=y):=by
   simp only[G3];rw[FY];simp
  rw[this]
  by_cases h:x=y <;> by_cases h2:a=b <;> simp[h,h2]
theorem wX (a b:List Int):G3 (jt a) (jt b)=decide (a=b):=by
 unfold jt;unfold G3;exact mV a b
theorem oy : ∀B:List (List Int),GC (B.map jt)=true
 | []=>rfl
 | r :: B=>by
  rw[y3];unfold GC;rw[oy B,ll];rfl
theorem uX (r:List Int) (B:List (List Int)):inD (jt r) (B.map jt)=decide (r∈B):=by
 unfold inD
 induction B with
 | nil=>rfl
 | cons q B F =>
  rw[y3,any_cons,F,wX]
  by_cases h:q=r
  .simp[h]
  .simp[h]
   exact λe=>absurd e.symm h
def ipM:TIp:=λx y H Q=>∃i,x = .int i/\∃j,y = .int j/\yd i j/\Q (.int (i * j)) H
theorem Dc:PIp X .Mult ipM:=by
 intro pins s σ H x y v u Q I F B h;obtain⟨i,rfl,j,rfl,L,q⟩:=h;obtain⟨t,rfl⟩:=F;obtain⟨t',rfl⟩:=B;exact imul_int ⟨.int _,H,I.tok _,⟨_,rfl⟩,q⟩ L.ok
def fA (H:Hp) (vs:List V) (rows:List (List Int)):Prop:=∃as:List (Addr × List Int),vs=as.map (λx=>V.ref x.1)/\rows=as.map (·.2)/\∀x∈as,H x.1>>(x.2.map V.int)
theorem fA.nil:fA H [] []:=⟨[],rfl,rfl,λx B=>by simp at B⟩
theorem fA.keep (h:fA H vs rows) (k : ∀a xs,H a>>xs->H' a>>xs):fA H' vs rows:=by
 obtain⟨as,h1,h2,B⟩:=h;exact⟨as,h1,h2,λx F=>k _ _ (B x F)⟩
theorem fA.snoc {t:Addr} {r:List Int} (h:fA H vs rows) (L:H t>>(r.map V.int)):fA H (vs++[.ref t]) (rows++[r]):=by
 obtain⟨as,h1,h2,B⟩:=h;refine⟨as++[(t,r)],by simp[h1],by simp[h2],λx F=>?_⟩
 rcases y8.mp F with z | z
 .exact B x z
 .rw[g_.mp z];exact L
theorem fA.length {H:Hp} {vs:List V} {rows:List (List Int)} (h:fA H vs rows):vs.length=rows.length:=by
 obtain⟨as,h1,h2,B⟩:=h;rw[h1,h2,d_,d_]
theorem fA.reps (h:fA H vs rows):hU K H vs (rows.map jt):=by
 obtain⟨as,rfl,rfl,B⟩:=h
 induction as with
 | nil=>exact .nil
 | cons x as L=>exact .cons (.tup (.of (B x (by simp))) (hU.ints _)) (L λy F=>B y (by simp[F]))
theorem xb {t w:Addr} {r:List Int} {Q:VK} (L:H t>>(r.map V.int)) (F:H w>>vs) (B:fA H vs rows) (q:Q (.bl (decide (r∈rows))) H):CA K false (.ref t) (.ref w) H Q :=
 ⟨jt r,rows.map jt,.tup (.of L) (hU.ints r),.tup (.of F) B.reps,ll r,oy rows,w_ (mt r) ∅,by rw[uX];exact q⟩
theorem vH {t w:Addr} {r:List Int} {Q:VK} (L:H t>>(r.map V.int)) (F:H w*>vs) (B:fA H vs rows) (q:Q (.bl (!decide (r∈rows))) H):Cz K true (.ref t) (.ref w) H Q :=
 ⟨jt r,rows.map jt,.tup (.of L) (hU.ints r),.lst (.of F) B.reps,ll r,oy rows,w_ (mt r) ∅,by rw[uX];exact q⟩
end L2
namespace PySem
open AutoSeq1 (wpAny_loadPart')
theorem Draws.tup (Y:A.handled=none) (J T:Addr) (F:T≠J) (vs:Array Value) :
  Draws prog w A J [J,T] vs.size (λi v=>vs[i]? = some v) (λi h=>h.IsTupleIter J T i/\h.IsTuple T vs) where
 live:=λ_ _ st=>let ⟨o,ho,_⟩:=st.1;⟨o,ho⟩
 frame:=λ_ _ _ st L=>⟨st.1.at λo e=>L J (by simp) o e,st.2.at λo e=>L T (by simp) o e⟩
 item:=λi s Q E hi st B=>hE st.1 st.2 (Hs hi) λg a b=>B _ g s.toks (Hs hi) ⟨a,st.2.at λo e=>(b.2 T F).trans e⟩ b
 done:=λs Q E st B=>eX Y st.1 st.2 (HZ (s_ _)) B
theorem wo (T:Addr) (vs:Array Value) (n:Nat) (Y:Option Addr) (sl:Array (Option Value)) :
  Meets (Builtin.«enumerate.__new__» ⟨[.type "enumerate",.ref T],[]⟩) (λ_ R s=>s.heap.get? T=some { cls:=.type "tuple",dict:=Y,data:=.seq vs n,slots:=sl } /\
   R (.ok (.ret (.ref (s.heap.push { cls:=.type "tuple_iterator",data:=.fields #[.ref T,.int 0 0] }).objs.size)))
    { s with heap:=(s.heap.push { cls:=.type "tuple_iterator",data:=.fields #[.ref T,.int 0 0] }).push { cls:=.type "enumerate",data:=.fields #[.none,.bool false,.ref s.heap.objs.size,GJ 0,.none,.none] } }) :=
 .of_wp λprog w A R s h=>by
  obtain⟨hp,g,d,tk,Z⟩:=s;obtain⟨B,h⟩:=h;have L:=sub_enumerate;have F:Heap.IsTuple (Shared.heap ⟨hp,g,d,tk,Z⟩) T vs:=⟨_,B,rfl,n,rfl⟩
  wp_walk using wpAny_loadPart' B
  refine wpAny_stack_any λst=>ee ?_
  split
  .rename_i c _ _ _ _ _
   cases (c == GL "enumerate")
   .wp_walk using wpAny_loadPart' B,GH F
    exact⟨_,rfl,h⟩
   .wp_walk using wpAny_loadPart' B,GH F
    exact⟨_,rfl,h⟩
  .wp_walk using wpAny_loadPart' B,GH F
   exact⟨_,rfl,h⟩
theorem vT {vs:Array Value} (ht:s.heap.IsTuple T vs)
  (k : ∀g e J,IsEnum g e J 0 .none->g.IsTupleIter J T 0->e≠J->s.heap.objs.size<=e->s.heap.objs.size<=J->(∀b o,s.heap.get? b=some o->g.get? b=some o)->Q (.ref e) { s with heap:=g }) :
  wpAny (model prog w) A (call (.type "enumerate") [.ref T]) Q E s:=by
 obtain⟨⟨cls,dd,data,sl⟩,h1,h2,n,B⟩:=ht;simp only at h2 B;subst h2 B;refine callType_new F.called_enumerate ∅ (F.typeCall_enumerate_1 _) (F.newCall_enumerate_1 _) (λobj=>F.args_object_init_2 obj _) F.entry_enumerate_new (wo T vs n dd sl) ⟨h1,?_⟩
 have L:(s.heap.push { cls:=.type "tuple_iterator",data:=.fields #[.ref T,.int 0 0] }).objs.size=s.heap.objs.size+1:=FU ..
 have Y:((s.heap.push { cls:=.type "tuple_iterator",data:=.fields #[.ref T,.int 0 0] }).push { cls:=.type "enumerate",data:=.fields #[.none,.bool false,.ref s.heap.objs.size,GJ 0,.none,.none] }).get? (s.heap.push { cls:=.type "tuple_iterator",data:=.fields #[.ref T,.int 0 0] }).objs.size=some _:=k_ _ rfl
 have Z:((s.heap.push { cls:=.type "tuple_iterator",data:=.fields #[.ref T,.int 0 0] }).push { cls:=.type "enumerate",data:=.fields #[.none,.bool false,.ref s.heap.objs.size,GJ 0,.none,.none] }).get? s.heap.objs.size=some _:=c_ _ (k_ _ rfl)
 refine⟨⟨_,Y,rfl⟩,k _ _ s.heap.objs.size Y ⟨_,Z,rfl,rfl⟩ ?_ ?_ (s_ _) λb o e=>c_ _ (c_ _ e)⟩
 .rw[L];exact Nat.succ_ne_self _
 .rw[L];exact le_succ _
theorem yk:Iy (.type "tuple") "__reversed__" = pure none:=by rw[GV,Gu];kernel_rfl
theorem mX:Iy (.type "tuple") "__getitem__" = pure (some (.builtin "tuple.__getitem__")):=by rw[GV,Gu];kernel_rfl
theorem vK:isSubtype (.type "tuple") (.type "dict")=pure false:=by rw[Ik];kernel_rfl
def lJ (h:Heap) (z T:Addr) (i:Int):Prop:=h.get? z=some { cls:=.type "reversed",dict:=none,data:=.fields #[.ref T,GJ i],slots := #[] }
theorem Ag (T:Addr) (vs:Array Value):Meets (Builtin.«reversed.__new__» ⟨[.type "reversed",.ref T],[]⟩) (λ_ R s=>s.heap.IsTuple T vs/\(vs.size:Int) < 2 ^ 63 /\
   ∀tk,R (.ok (.ret (.ref s.heap.objs.size))) { s with heap:=s.heap.push { cls:=.type "reversed",data:=.fields #[.ref T,GJ ((vs.size:Int) - 1)] },toks:=tk }) :=
 .of_wp λprog w A R s h=>by
  obtain⟨F,L,k⟩:=h;have B:s.TypeIs (.ref T) "tuple" := let ⟨o,h1,h2,_⟩:=F;⟨o,h1,h2⟩
  unfold Builtin.«reversed.__new__»;refine a_ (H_ (newClass_reversed _) ?_)
  refine a_ (H_ (a:=Unit.unit) (by first | rfl | kernel_rfl) ?_)
  refine a_ (H_ (a:=Unit.unit) (by first | rfl | kernel_rfl) ?_)
  refine a_ (GM B yk ?_)
  refine a_ (by
   change wpAny _ _ (isInstance (y6 T) (.type "dict") >>= _) _ _ _;refine a_ (HA (T := "tuple") (b:=false) B vK ?_)
   simp only[q_,if_false];refine a_ (GM B mX ?_)
   refine ee ?_
   simp only[Hk,q_,if_false];refine a_ (PyProof.Rows.len_tuple F L (a_ (H_ (a:=some ((vs.size:Nat):Int)) (by rfl) (a_ ?_))))
   change wpAny _ _ (newObj (.type "reversed") (.fields #[y6 T,GJ ((vs.size:Int) - 1)])) _ _ _;exact GB (ee ⟨_,rfl,k _⟩))
theorem vS:Slot "reversed" "__init__" "object.__init__" :=
 .of (owner := "object") (n := "__init__") (by rw[GV,Gu];kernel_rfl) (by decide+kernel) (by decide+kernel) (by decide+kernel) (by first | exact .inl (by decide+kernel) | exact .inr (by decide+kernel)) (by rw[Ik];kernel_rfl)
theorem gJ:Slot "reversed" "__next__" "reversed.__next__" :=
 .of (owner := "reversed") (n := "__next__") (by rw[GV,Gu];kernel_rfl) (by decide+kernel) (by decide+kernel) (by decide+kernel) (by first | exact .inl (by decide+kernel) | exact .inr (by decide+kernel)) (by rw[Ik];kernel_rfl)
theorem oR:Slot "reversed" "__iter__" "reversed.__iter__" :=
 .of (owner := "reversed") (n := "__iter__") (by rw[GV,Gu];kernel_rfl) (by decide+kernel) (by decide+kernel) (by decide+kernel) (by first | exact .inl (by decide+kernel) | exact .inr (by decide+kernel)) (by rw[Ik];kernel_rfl)
theorem mZ:entryFor table "reversed.__next__" = some Builtin.«reversed.__next__» := entryFor_of_tree (by kernel_rfl)
theorem uJ:entryFor table "reversed.__iter__" = some Builtin.«dict_keyiterator.__iter__» :=
 entryFor_alias (id' := "dict_keyiterator.__iter__") (by kernel_rfl) (by first | rfl | decide+kernel | (unfold String.splitOn;simp+decide [String.splitOnAux])) (by decide+kernel) (by kernel_rfl)
theorem ox (a:Value):argsOk "reversed.__next__" ⟨[a],[]⟩:=by unfold argsOk;kernel_rfl
theorem wb (a:Value):argsOk "reversed.__iter__" ⟨[a],[]⟩:=by unfold argsOk;kernel_rfl
theorem wQ:TypeCalled "reversed" "reversed.__new__" "object.__init__" :=
 ⟨by decide+kernel,by decide+kernel,⟨_,_,F.mro_reversed⟩,F.made_reversed,by decide+kernel,F.sub_reversed_self,vS⟩
theorem yq {vs:Array Value} (Y:s.heap.IsTuple T vs) (L:(vs.size:Int) < 2 ^ 63)
  (k : ∀g tk,lJ g s.heap.objs.size T ((vs.size:Int) - 1)->(∀b o,s.heap.get? b=some o->g.get? b=some o)->Q (.ref s.heap.objs.size) { s with heap:=g,toks:=tk }) :
  wpAny (model prog w) A (call (.type "reversed") [.ref T]) Q E s:=by
 refine callType_new wQ ∅ (F.typeCall_reversed_1 _) (F.newCall_reversed_1 _) (λobj=>F.args_object_init_2 obj _) F.entry_reversed_new (Ag T vs) ⟨Y,L,λtk=>?_⟩
 have B:(s.heap.push { cls:=.type "reversed",data:=.fields #[.ref T,GJ ((vs.size:Int) - 1)] }).get? s.heap.objs.size=some _:=k_ _ rfl
 exact⟨⟨_,B,rfl⟩,k _ _ B λb o e=>c_ _ e⟩
theorem uo {i:Int} (F:lJ s.heap z T i) (h:Q (.ref z) s):wpAny (model prog w) A (pyIter (.ref z)) Q E s:=by
 have B:s.TypeIs (.ref z) "reversed" :=⟨_,F,rfl⟩
 refine wpAny_pyIter_slot B oR (FW oR B uJ (by
  show wpAny _ _ (ret (.ref z)) _ _ s
  exact ee ⟨_,rfl,"reversed",_,B,gJ.lookup,h⟩) (wb _))
theorem zZ {vs:Array Value} {x:Value} {Q:Option Value->Shared->Prop} (F:lJ s.heap z T (i:Int)) (Y:s.heap.IsTuple T vs) (Z:vs[i]? = some x) (hsz:(vs.size:Int) < 2 ^ 62)
  (k : ∀g tk,lJ g z T ((i:Int) - 1)->IP z s.heap g->Q (some x) { s with heap:=g,toks:=tk }):wpAny (model prog w) A (HR (.ref z)) Q E s:=by
 have B:s.TypeIs (.ref z) "reversed" :=⟨_,F,rfl⟩
 have L:s.TypeIs (.ref T) "tuple" := let ⟨o,h1,h2,_⟩:=Y;⟨o,h1,h2⟩
 have hi:i < vs.size:=(Array.getElem?_eq_some_iff.mp Z).1
 unfold HR;refine a_ (Hc (FS (name:=b_ "__next__") B gJ (FW gJ B mZ (by
  unfold Builtin.«reversed.__next__»;refine a_ (H_ (a:=(y6 z,[])) rfl ?_)
  change wpAny _ _ (field (.ref z) 0 >>= _) _ _ _;refine a_ (D_ F rfl (x:=.ref T) rfl ?_)
  change wpAny _ _ (field (.ref z) 1 >>= _) _ _ _;refine a_ (D_ F rfl (x:=GJ (i:Int)) rfl ?_)
  change wpAny _ _ (if (i:Int) < 0 then _ else _) _ _ _;rw[if_neg ()]
  refine a_ (GM L mX ?_)
  simp only[isNone_some,q_,if_false];refine a_ (wpAny_mkInt (a_ (Hc ?_)))
  refine PyProof.Rows.getItem_tuple (s:={ s with toks:=s.toks+1 }) Y () () (j:=i) (seqIndex_of () ()) Z ?_
  change wpAny _ _ (field (.ref z) 1 >>= _) _ _ _;refine a_ (D_ F rfl (x:=GJ (i:Int)) rfl ?_)
  refine a_ (Go (s:={ s with toks:=s.toks+1 }) F (by simp) λg g1 g2=>ee ⟨_,rfl,ee (k g _ g1 g2)⟩)) (ox _))))
theorem BK {i:Int} {Q:Option Value->Shared->Prop} (Y:A.handled=none) (F:lJ s.heap z T i) (hi:i < 0) (k : ∀g,Heap.ExtBut z s.heap g->Q none { s with heap:=g }):wpAny (model prog w) A (HR (.ref z)) Q E s:=by
 have B:s.TypeIs (.ref z) "reversed" :=⟨_,F,rfl⟩
 unfold HR;refine a_ (Hc (FS (name:=b_ "__next__") B gJ (FW gJ B mZ (by
  unfold Builtin.«reversed.__next__»;refine a_ (H_ (a:=(y6 z,[])) rfl ?_)
  change wpAny _ _ (field (.ref z) 0 >>= _) _ _ _;refine a_ (D_ F rfl (x:=.ref T) rfl ?_)
  change wpAny _ _ (field (.ref z) 1 >>= _) _ _ _;refine a_ (D_ F rfl (x:=GJ i) rfl ?_)
  change wpAny _ _ (if i < 0 then _ else _) _ _ _;rw[if_pos hi];refine a_ (wpAny_rule (a_ ?_))
  change wpAny _ _ (setField (.ref z) 1 (GJ (-1)) >>= λ_=>setField (.ref z) 0 .none) _ _ _
  refine a_ (Go F (by simp) λg1 z1 Z=>?_)
  refine Go z1 (by simp) λg2 z2 s2=>?_
  first
  | change wpAny _ _ (newExc (.type "StopIteration") [] >>= _) _ _ _
  | (refine a_ ?_;change wpAny _ _ (newExc (.type "StopIteration") [] >>= _) _ _ _)
  refine a_ ?_
  simp only[newExc,newTuple];refine a_ (GB ?_ (by size_fits))
  refine a_ (m:=firstArgMember _ _) (H_ (a:=GA) (by first | rfl | (simp only[firstArgMember];rfl)) ?_)
  refine GB ?_ (by size_fits)
  (simp only[raiseNew];refine a_ (wpAny_handled ?_))
  first | rw[show A.in1.handled=none from Y] | rw[Y]
  refine a_ (ee (wpAny_throw ?_))
  refine a_ (HA (T := "StopIteration") (b:=true) ⟨_,k_ _ rfl,rfl⟩ isSubtype_stop ?_)
  exact ee (k _ λb o L e=>c_ _ (c_ _ (s2.extBut _ _ L (Z.extBut _ _ L e))))) (ox _))))
end PySem
namespace L2
open PySem PySem.Spec PyProof.Rows
def Ite (K:j_) (a:Addr):It :=
  ⟨λi H=>∃xs x,SqT K H a xs/\xs[i]? = some x,
   λi H v H'=>∃t x,H t=none/\v = .ref t/\H'=upd H t (.tup [.int (i:Nat),x])/\∀xs,SqT K H a xs->xs[i]? = some x,
   λi H=>∃xs,SqT K H a xs/\xs.length=i⟩
theorem wx {x1} {pos:Pos} (a e J:Addr) (aa:e≠J) :
  sA P w K (.Tuple es x1 pos) (Ite K a) [e,J] e (λi h=>(∃F,IsEnum h e J i F)/\h.IsTupleIter J a i) where
 mem:=by simp
 obj:=λi h st c B=>by
  obtain⟨⟨F,L⟩,oi,i1,i2,i3⟩:=st;simp only[u_,Ge,or_false] at B;rcases B with rfl | rfl
  .exact⟨_,L,λv z=>by cases z⟩
  .exact⟨oi,i1,λv z=>by rw[i3] at z;cases z⟩
 keep:=λi h h' st k=>by
  obtain⟨⟨F,L⟩,hi⟩:=st;exact⟨⟨F,k e (by simp) _ L⟩,hi.at λo q=>k J (by simp) o q⟩
 item:=by
  intro X hP hw hK B i pins s σ H E Y hf st hg;subst hP hw hK;obtain⟨xs,x,hq,hx⟩:=hg;obtain⟨its,rv,p,hz⟩:=Y.tuple hq;obtain⟨u,hu,ru⟩:=rv.get hx;obtain⟨⟨F,L⟩,hi⟩:=st;have pl:s.heap.IsTuple a its.toArray:=p
  have ab:a≠J:=λz=>by
   obtain⟨o1,Z,q2,_⟩:=hi;obtain⟨o2,q3,q4,_⟩:=id pl;rw[<- z,q3] at Z;cases Z;rw[q4] at q2;exact absurd q2 (by simp)
  have ag:e∉[J,a]:=λhm=>by
   rcases u_.mp hm with z | z
   .exact aa z
   .have z:=g_.mp z
    obtain⟨o2,q3,q4,_⟩:=id pl;rw[<- z,L] at q3;cases q3;exact absurd q4 (by simp)
  have af:i < its.toArray.size:=by simpa using (p_.mp hu).1
  refine wpAny_pyNext_enum_itemD (Draws.tup (A:=X.A.in1) (show X.A.in1.handled=none from Y.ok.hd B) J a ab its.toArray) L ⟨hi,pl⟩ af aa ag λv g tk hv ho ae ht hs hk=>?_
  have am:v=u:=by
   simp only[Il] at hv;rw[hu] at hv;exact(h_ hv).symm
  subst am;refine⟨_,rfl,wpAny_letOwnedTupleGo_enum (s:={ s with heap:=g,toks:=tk+1 }) ho λg2 ak s2=>?_⟩
  have ac:e < s.heap.objs.size:=e_ L
  have aj:J < s.heap.objs.size:=by obtain⟨o1,Z,_⟩:=hi;exact e_ Z
  have ad:H s.heap.objs.size=none:=Y.hok.fresh (s_ _)
  have I2:Inv X pins σ (upd H s.heap.objs.size (.tup [.int (i:Nat),x])) { s with heap:=g2,toks:=tk+1 }:=Y.turnedNew (t':=tk+1) (fp:=[e,J]) (λc o B q=>by
    simp only[u_,Ge,or_false,not_or] at B;exact(s2.2 c B.1).trans (hk c o B.1 B.2 q)) hf (s_ _)
   ⟨by show 2<=l_;decide,[.int i tk,v],.cons ⟨tk,rfl⟩ (.cons ru .nil),⟨_,(s2.2 _ (Gd ac)).trans ht,rfl,_,rfl⟩⟩
  refine⟨.ref s.heap.objs.size,_,I2,rfl,⟨_,x,ad,rfl,rfl,λzs ai=>by rw[Y.tuple_inj ai hq];exact hx⟩,⟨⟨v,by simpa using ak⟩,ae.1.at λo q=>(s2.2 J aa.symm).trans q⟩,λc B=>?_⟩
  simp only[u_,Ge,or_false] at B;rcases B with rfl | rfl
  .rw[ao (E_ ac)];exact(hf _ (by simp)).1
  .rw[ao (E_ aj)];exact(hf _ (by simp)).1
 done:=by
  intro X hP hw hK B i pins s σ H E Y hf st hg;subst hP hw hK;obtain⟨xs,hq,hx⟩:=hg;obtain⟨its,rv,p,hz⟩:=Y.tuple hq;obtain⟨⟨F,L⟩,hi⟩:=st;have pl:s.heap.IsTuple a its.toArray:=p
  have ab:a≠J:=λz=>by
   obtain⟨o1,Z,q2,_⟩:=hi;obtain⟨o2,q3,q4,_⟩:=id pl;rw[<- z,q3] at Z;cases Z;rw[q4] at q2;exact absurd q2 (by simp)
  have hn:its.toArray.size=i:=by have:=rv.length;simp;omega
  subst hn;refine wpAny_pyNext_enum_endD (Draws.tup (A:=X.A.in1) (show X.A.in1.handled=none from Y.ok.hd B) J a ab its.toArray) L ⟨hi,pl⟩ λg hk=>⟨rfl,Y.turnedL (t':=s.toks) (fp:=[e,J]) (λc o B q=>hk c o (λz=>B (by simp[z])) q) hf⟩
 self:=λ_ _ _ _ _ st h=>by
  obtain⟨⟨F,L⟩,_⟩:=st;exact wpAny_pyIter_enum L h
def iE (K:j_) (ta:TA):TI:=λσ H R=>ta σ H λvs H1=>∃a,vs=[.ref a]/\∃xs,H1 a>>xs/\R (Ite K a) H1
theorem wg:GN "enumerate" = some (.type "enumerate"):=by decide+kernel
theorem A3 {ta:TA} {p:Pos} {x1} (hK:X.K=K) (hg:Gl X "enumerate") (hm:X.mg "enumerate" = none) (ha:PA X [e1] ta) (hs:y9 [e1] X.env=[(false,eval e1 X.env)]:=by rfl) :
  PI X (.Tuple es x1 pos') (.Call (.Name "enumerate" p) [e1] [] pos) (iE K ta):=by
 subst hK;intro pins s σ H R I h;refine Call_ (gL I hg hm wg (F8 (thn (ha pos pins s σ H _ I h) λus L ⟨vs,H1,I1,r1,q1⟩=>?_) (by rw[hs];rfl) rfl))
 obtain⟨a,e,xs,F,q⟩:=q1;subst e;obtain⟨u,rfl,ru⟩:=eB r1;cases ru;obtain⟨its,rv,pl,hz⟩:=I1.tuple (SqT.of F);refine vT (show L.heap.IsTuple a its.toArray from pl) λg e J he hJ B Z Y kg=>?_
 refine wpAny_pyIter_enum (s:={ L with heap:=g }) he ⟨e,[e,J],_,_,H1,rfl,I1.kept (t':=L.toks) kg,wx a e J B,⟨⟨_,he⟩,hJ⟩,λc hc=>?_,q⟩
 simp only[u_,Ge,or_false] at hc;rcases hc with rfl | rfl
 .exact I1.fpOk Z (I1.hok.fresh Z)
 .exact I1.fpOk Y (I1.hok.fresh Y)
theorem CF {g:TG} {tb:TS} (B:Nat->St->Hp->Prop) (h0:B 0 σ H) (hl : ∀i σ H,B i σ H->SqT K H a xs)
  (Z : ∀(i:Nat) (x:V) (σ:St) (H:Hp) (t:Addr),xs[i]? = some x->B i σ H->H t=none->g (.ref t) σ (upd H t (.tup [.int (i:Nat),x])) λF H2=>tb { D with nx:=B (i+1),ct:=B (i+1),bk:=D.nx } F H2)
  (hd : ∀ σ H,B xs.length σ H->D.nx σ H):C1 (Ite K a) g tb D σ H:=by
 refine⟨λi m σ H=>B i σ H/\i<=xs.length/\m=xs.length - i,⟨_,h0,GR _,rfl⟩,?_⟩
 rintro i m σ H ⟨hp,hi,rfl⟩
 have sa:=hl i σ H hp
 by_cases L:i=xs.length
 .left
  subst L;exact⟨⟨xs,sa,rfl⟩,hd σ H hp⟩
 .right
  have h1:i < xs.length:=()
  refine⟨⟨xs,xs[i],sa,by simp[h1]⟩,λσ' H'=>B (i+1) σ' H',λσ' H' h=>⟨_,(),h,(),rfl⟩,?_⟩
  rintro v H' ⟨t,x,Y,rfl,rfl,e1⟩
  exact Z i x σ H t (e1 xs sa) hp Y
def Itv (K:j_) (a:Addr) (n:Nat):It :=
  ⟨λi H=>∃xs x,SqT K H a xs/\xs.length=n/\i < n/\xs[n - 1 - i]? = some x,
   λi H v H'=>H'=H/\∀xs,SqT K H a xs->xs[n - 1 - i]? = some v,
   λi H=>n<=i⟩
theorem xQ (a z:Addr) (n:Nat) :
  sA P w K tg (Itv K a n) [z] z (λi h=>lJ h z a ((n:Int) - 1 - i)) where
 mem:=by simp
 obj:=λi h st c Z=>by
  rw[g_.mp Z];exact⟨_,st,λv z=>by cases z⟩
 keep:=λi h h' st k=>k z (by simp) _ st
 item:=by
  intro X hP hw hK Z i pins s σ H E B L st Y;subst hP hw hK;obtain⟨xs,x,hq,hn,hi,hx⟩:=Y;obtain⟨its,rv,p,hz⟩:=B.tuple hq;obtain⟨u,hu,ru⟩:=rv.get hx;have hl:=rv.length;have aa:l_=16777216:=rfl
  have e1:(n:Int) - 1 - i=((n - 1 - i:Nat):Int):=()
  rw[e1] at st;obtain⟨f0,f1,f2,f3,f4,f5⟩:=L z (by simp)
  refine zZ st (show s.heap.IsTuple a its.toArray from p) (x:=u) (by simpa using hu) (by simp only[y4];omega) λg tk g1 g2=>?_
  have I1:Inv X pins σ H { s with heap:=g,toks:=tk }:=B.turned (t':=tk) (λb o F e=>(g2.2 b F).trans e) f0 f1 f3 f4 f5
  refine⟨u,rfl,qV (s:={ s with heap:=g,toks:=tk }) g1 rfl rfl ∅ ⟨x,H,I1,ru,⟨rfl,λys hy=>by rw[B.tuple_inj hy hq];exact hx⟩,?_,λb F=>(L b F).1⟩⟩
  have e2:((n - 1 - i:Nat):Int) - 1=(n:Int) - 1 - ((i+1:Nat):Int):=()
  rw[<- e2];exact g1
 done:=by
  intro X hP hw hK Z i pins s σ H E B L st Y;subst hP hw hK;have Y:n<=i:=Y
  obtain⟨f0,f1,f2,f3,f4,f5⟩:=L z (by simp)
  exact BK (B.ok.hd Z) st () λg hk=>⟨rfl,B.turned (t':=s.toks) (λb o F e=>hk b o F e) f0 f1 f3 f4 f5⟩
 self:=λ_ _ _ _ _ st h=>uo st h
def iV (K:j_) (ta:TA):TI:=λσ H R=>ta σ H λvs H1=>∃a,vs=[.ref a]/\∃xs,H1 a>>xs/\R (Itv K a xs.length) H1
theorem yB:GN "reversed" = some (.type "reversed"):=by decide+kernel
theorem A7 {ta:TA} {p:Pos} (hK:X.K=K) (hg:Gl X "reversed") (hm:X.mg "reversed" = none) (ha:PA X [e1] ta) (hs:y9 [e1] X.env=[(false,eval e1 X.env)]:=by rfl) :
  PI X tg (.Call (.Name "reversed" p) [e1] [] pos) (iV K ta):=by
 subst hK;intro pins s σ H R I h;refine Call_ (gL I hg hm yB (F8 (thn (ha pos pins s σ H _ I h) λus B ⟨vs,H1,I1,r1,q1⟩=>?_) (by rw[hs];rfl) rfl))
 obtain⟨a,e,xs,L,q⟩:=q1;subst e;obtain⟨u,rfl,Z⟩:=eB r1;cases Z;obtain⟨its,rv,pl,hz⟩:=I1.tuple (SqT.of L);have hl:=rv.length;have aa:=mz;refine yq (show B.heap.IsTuple a its.toArray from pl) (by simp only[y4];omega) λg tk F kg=>?_
 simp only[y4] at F;rw[<- hl] at F;have Y:H1 B.heap.objs.size=none:=I1.hok.fresh (s_ _)
 refine uo (s:={ B with heap:=g,toks:=tk }) F ⟨B.heap.objs.size,[B.heap.objs.size],_,_,H1,rfl,I1.kept (t':=tk) kg,xQ a B.heap.objs.size xs.length,by simpa using F,λc hc=>?_,q⟩
 rw[g_.mp hc];exact I1.fpOk (s_ _) Y
theorem Bo:Wlk (Itv K a xs.length) xs.reverse (λH=>SqT K H a xs) :=
 ⟨λi H h hi=>by
  have hi:i < xs.length:=by simpa using hi
  exact⟨xs,xs[xs.length - 1 - i],h,rfl,hi,by simp⟩,λi H x H' h hi y=>⟨by
  have hi:i < xs.length:=by simpa using hi
  rw[Im hi];exact y.2 xs h,y.1⟩,λi H h hi=>(by simpa using hi:xs.length<=i)⟩
end L2
namespace PySem
theorem bQ : ∀(names:List (Str × GP)) (n:Nat) (B:List (Str × Addr)),FZ n names B=FZ n names []++B
 | [],n,B=>rfl
 | (x,k) :: r,n,B=>by
  unfold FZ
  split
  .rw[bQ r (n+1) ((x,n) :: B),bQ r (n+1) [(x,n)]]
   simp
  .exact bQ r n B
theorem gc : ∀(names:List (Str × GP)) (n:Nat) (x:Str) (c:Addr),(x,c)∈FZ n names []->(x,GD)∈names
 | [],n,x,c,h=>absurd h (by simp[FZ])
 | (y, k) :: r,n,x,c,h=>by
  unfold FZ at h
  split at h
  .rename_i hk
   rw[bQ] at h;rcases y8.mp h with q | q
   .exact zc _ (gc r (n+1) x c q)
   .have e:(x,c)=(y,n):=by simpa using q
    cases e;have:k = .cell:=by simpa using hk
    subst this;exact FT
  .exact zc _ (gc r n x c h)
theorem ln {l:List (Str × Addr)} {c:Addr}:(x,c)∈l->(l.lookup x).isSome=true:=by
 induction l with
 | nil=>intro h;exact absurd h (by simp)
 | cons p r B =>
  intro h;rw[Gv];cases F:x == p.1 with
  | true=>rfl
  | false =>
   rcases u_.mp h with q | q
   .subst q;simp at F
   .exact B q
theorem hZ : ∀(names:List (Str × GP)) (n:Nat) (x:Str),(x,GD)∈names->∃c,(x,c)∈FZ n names []
 | [],n,x,h=>absurd h (by simp)
 | (y, k) :: r,n,x,h=>by
  unfold FZ;rcases u_.mp h with q | q
  .cases q
   simp only[beq_self_eq_true,if_true];rw[bQ];exact⟨n,Ga _ (by simp)⟩
  .split
   .rw[bQ]
    obtain⟨c,B⟩:=hZ r (n+1) x q;exact⟨c,A_ _ B⟩
   .exact hZ r n x q
theorem pv {l r:List (Str × Addr)} {c:Addr} (h:(l++r).lookup x=some c):l.lookup x=some c\/(l.lookup x=none/\r.lookup x=some c):=by
 induction l with
 | nil=>exact .inr ⟨rfl,h⟩
 | cons p t F =>
  rw[cons_append,Gv] at h;rw[Gv];cases B:x == p.1 with
  | true=>rw[B] at h;exact .inl h
  | false=>rw[B] at h;exact F h
theorem sW {l r:List (Str × Addr)} {c:Addr} (B:l.lookup x=none) (h:r.lookup x=some c):(l++r).lookup x=some c:=by
 induction l with
 | nil=>exact h
 | cons p t L =>
  rw[Gv] at B;rw[cons_append,Gv];cases F:x == p.1 with
  | true=>rw[F] at B;cases B
  | false=>rw[F] at B;exact L B
theorem sY {l r:List (Str × Addr)} {c:Addr} (h:l.lookup x=some c):(l++r).lookup x=some c:=by
 induction l with
 | nil=>cases h
 | cons p t F =>
  rw[Gv] at h;rw[cons_append,Gv];cases B:x == p.1 with
  | true=>rw[B] at h;exact h
  | false=>rw[B] at h;exact F h
theorem gC {globals:Addr} {code:Value} {F:Env} {B:Addr} {Q:Env->Shared->Prop}
  (Y:(pushCells (s.heap.push { cls:=.type "dict",data:=.dict #[] }) scope.names).Ns s.heap.objs.size (λ_=>none) ->
   Q (newEnv scope s.heap.objs.size globals (FZ (s.heap.objs.size+1) scope.names closure) qual func code (some F) B) { s with heap:=pushCells (s.heap.push { cls:=.type "dict",data:=.dict #[] }) scope.names }) :
  wpAny M A (newFunctionEnv scope globals closure [] qual func code (some F) B) Q E s:=by
 simp only[newFunctionEnv,isSome_some,if_true];simp only[newEnv] at Y;refine a_ (wpAny_alloc ?_)
 refine a_ (wpAny_layCells _ (λname kind cells=>by cases L:kind == GD <;> simp[L]) _ _ _ _ ?_)
 rw[show({ s with heap:=s.heap.push { cls:=.type "dict",data:=.dict #[] } }:Shared).heap.objs.size=s.heap.objs.size+1 from FU ..]
 exact a_ (ee (ee (Y ((Heap.Ns.new s.heap (.type "dict")).keeps (pushCells_keeps _ _)))))
end PySem
namespace L2
open PySem PySem.Spec PyProof.Rows
def dY (X:Cx) (scope:Scope) (N:List Str) (cl:List (Str × Addr)) (C:Addr) (fp:List Addr) (s:Shared) (H:Hp) (xe:Value->Shared->Prop):Cx where
 prog:=X.prog
 w:=X.w
 K:=X.K
 mg:=X.mg
 base:=X.base
 A:=X.A
 N:=N
 s₀:=s
 H₀:=H
 env:=compEnvC scope cl C X.env
 outer:=X.stack
 stack:=X.stack
 ex:=fp
 fn:=λx=>scope.names.lookup x == some .cell
 calm:=X.calm
 pn:=[]
 xe:=xe
theorem E6:(dY X sc N cl C fp s H xe).K=X.K:=rfl
structure kI (X:Cx) (scope:Scope) (N:List Str) (nt:Nat) (js:List Nat):Prop where
 kind:scope.kind = .function
 nd:N.Nodup
 len:N.length=nt+js.length
 at_ : ∀(k:Nat) (j:Nat) (x:Str),js[k]? = some j->N[nt+k]? = some x->X.N[j]? = some x/\(X.env.scope.names.lookup x=some .cell\/X.env.scope.names.lookup x=some .free)
 frl : ∀(k:Nat) (x:Str),N[nt+k]? = some x->scope.names.lookup x=some .free
 own : ∀y∈scope.names,y.2 = .cell->scope.names.lookup y.1=some .cell
 loc : ∀y∈scope.names,y.2 = .local->scope.names.lookup y.1=some .local
 free : ∀y∈scope.names,y.2 = .free->X.env.scope.names.lookup y.1=some .cell\/X.env.scope.names.lookup y.1=some .free
theorem eV : ∀{names:List (Str × GP)} {x:Str} {k:GP},names.lookup x=some k->(x,k)∈names
 | [],_,_,h=>by simp at h
 | (n,k') :: r,x,k,h=>by
  rw[Gv] at h;cases B:x == n with
  | true=>rw[B] at h;cases h;rw[beq_iff_eq.mp B];exact FT
  | false=>rw[B] at h;exact zc _ (eV h)
theorem pY : ∀{names:List (Str × GP)} {x:Str},((names.map λ(n,k)=>if (k == Gm && env.scope.kind == .function && env.kindOf n == some .cell) then(n,GD) else(n,k)).lookup x=some .cell\/(names.map λ(n,k)=>if (k == Gm && env.scope.kind == .function && env.kindOf n == some .cell) then(n,GD) else(n,k)).lookup x=some .free) ->
  (x,Gm)∈names\/(x,GD)∈names:=by
 intro names x h;have B : ∀L,(names.map λ(n,k)=>if (k == Gm && env.scope.kind == .function && env.kindOf n == some .cell) then(n,GD) else(n,k)).lookup x=some L->(L = .cell\/L = .free)->(x,Gm)∈names\/(x,GD)∈names:=by
  intro L e Y;obtain⟨⟨n,k⟩,F,hp⟩:=r_.mp (eV e);dsimp only at hp
  by_cases q:(k == Gm && env.scope.kind == .function && env.kindOf n == some .cell)=true
  .rw[if_pos q] at hp
   cases hp;simp only[B_,beq_iff_eq] at q;rw[q.1.1] at F;exact .inl F
  .rw[if_neg q] at hp
   cases hp;rcases Y with z | z
   .subst z;exact .inr F
   .subst z;exact .inl F
 rcases h with h | h
 .exact B _ h (.inl rfl)
 .exact B _ h (.inr rfl)
theorem uE {m:Str->Option Value}
  (S:kI X scope N nt js) (I:Inv X pins σ H s) (hf : ∀b∈fp,pF X pins H b) (L : ∀x c,cl.lookup x=some c->X.env.cells.lookup x=some c) (ab : ∀x,(x,Gm)∈scope.names->(cl.lookup x).isSome=true)
  (B : ∀x c,(x,c)∈FZ (C+1) scope.names []->h'.IsCell c none/\C+1<=c) (ao:(FZ (C+1) scope.names []).Pairwise λx y=>x.2≠y.2) (ad : ∀c,C<=c->H1 c=none)
  (ae : ∀b∈fp,b < s.heap.objs.size) (hC:s.heap.objs.size<=C) (k : ∀b o,s.heap.get? b=some o->h'.get? b=some o) (hs : ∀b o,H b=some o->H1 b=some o) (af : ∀b,H b=none->b < s.heap.objs.size->H1 b=none) (ak:HOk X.prog X.w H1 h') (hn:h'.Ns C m)
  (hm : ∀x,m x=none) :
  Inv (dY X scope N (FZ (C+1) scope.names cl) C fp s H xe) [] (gf nt js σ) H1 { s with heap:=h',toks:=tk }:=by
 have ai : ∀b∈fp,b∉frs X.stack:=λb hb z=>by
  obtain⟨f0,f1,f2,_⟩:=hf b hb;rcases u_.mp (I.stkSub b z) with q | q
  .exact f1 q
  .exact f2 q
 have ac : ∀x c,cl.lookup x=some c->c < s.heap.objs.size:=λx c e=>by
  obtain⟨v,oc,F,hd⟩:=I.cell x c (L x c e);exact e_ F
 have cs : ∀x c,(FZ (C+1) scope.names cl).lookup x=some c->(x,c)∈FZ (C+1) scope.names []\/cl.lookup x=some c:=λx c e=>by
  rw[bQ] at e;rcases pv e with q | q
  .exact .inl (mem_of_lookup q)
  .exact .inr q.2
 have aa : ∀x,(x,GD)∈scope.names->∃c,(FZ (C+1) scope.names cl).lookup x=some c/\(x,c)∈FZ (C+1) scope.names []:=λx hx=>by
  obtain⟨c,hc⟩:=hZ scope.names (C+1) x hx;obtain⟨c',Z⟩:=Hn.mp (ln hc);refine⟨c',?_,mem_of_lookup Z⟩
  rw[bQ];exact sY Z
 have Y : ∀x c,(∀c,(x,c)∉FZ (C+1) scope.names [])->cl.lookup x=some c->(FZ (C+1) scope.names cl).lookup x=some c:=λx c hx e=>by
  rw[bQ];refine sW ?_ e
  cases q:(FZ (C+1) scope.names []).lookup x with
  | none=>rfl
  | some c'=>exact absurd (mem_of_lookup q) (hx c')
 refine⟨⟨I.ok.mod,S.kind,I.ok.glob,I.ok.blt,hC,λx y c h1 h2=>?_,λx hx=>?_,λx c z e=>?_,I.ok.hd,I.ok.frames,.inl rfl,λb hb=>?_,I.bs,w_ I.ok.bsz I.sz,λb o e hb=>?_,ai,I.stack,I.stkFree⟩,
  rfl,I.bare,?_,⟨m,hn,λi x v h1 h2 h3=>?_⟩,λx c e=>?_,ad C (s_ _),λx c e=>?_,λp hp=>absurd (show p∈([]:List (Addr × Obj)) from hp) (by simp),ak,?_⟩
 .rcases cs x c h1 with a | a <;> rcases cs y c h2 with b | b
  .exact name_of_addr ao a b
  .exact absurd (n_ (ac y c b) (w_ hC (IB (B x c a).2))) (Gg _)
  .exact absurd (n_ (ac x c a) (w_ hC (IB (B y c b).2))) (Gg _)
  .exact I.ok.inj x y c (L x c a) (L y c b)
 .by_cases hxc:(x,GD)∈scope.names
  .obtain⟨c,hc,_⟩:=aa x hxc
   exact⟨c,hc⟩
  .rcases pY (env:=X.env) hx with q | q
   .obtain⟨c,hc⟩:=Hn.mp (ab x q)
    exact⟨c,Y x c (λc' z=>hxc (gc _ _ _ _ z)) hc⟩
   .exact absurd q hxc
 .have hxc:(x,GD)∈scope.names:=by
   have:scope.names.lookup x=some .cell:=by simpa [dY] using z
   exact eV this
  obtain⟨c',Z,ag⟩:=aa x hxc;have e':(FZ (C+1) scope.names cl).lookup x=some c:=e
  rw[Z] at e';cases e';exact w_ hC (IB (B x _ ag).2)
 .obtain⟨f0,f1,f2,f3,f4,f5⟩:=hf b hb
  refine⟨E_ (n_ (ae b hb) hC),λx c e=>?_⟩
  rcases cs x c e with a | a
  .exact Gd (n_ (ae b hb) (w_ hC (IB (B x c a).2)))
  .exact f4 x c (L x c a)
 .have:=hf b hb
  obtain⟨f0,f1,f2,f3,f4,f5⟩:=this;rcases f3 with f3 | f3
  .exact I.ok.noex b o e f3
  .exact absurd (n_ (e_ e) (w_ I.ok.bsz f3)) (Gg _)
 .refine⟨λb o e n _ _=>k b o e,λb o e n _ _=>⟨o.slots,k b o e⟩,λb o e n _=>af b n (e_ e),λb o e _=>⟨o,k b o e⟩,λb xs e=>hs b _ e,λb o u e=>hs b _ e,λb ps e=>⟨#[],by rw[hs b _ e];simp⟩⟩
 .by_cases hi:i < nt
  .rw[oE i hi] at h2;cases h2
  .obtain⟨k',rfl⟩ : ∃k',i=nt+k':=⟨i - nt,()⟩
   unfold gf at h2;rw[Gx (by simp)] at h2
   simp only[List.length_replicate,Nat.add_sub_cancel_left,f_] at h2;cases ej:js[k']? with
   | none=>rw[ej] at h2;cases h2
   | some j =>
    rw[ej] at h2;simp only[Iv,Option.some.injEq] at h2;obtain⟨hN,hk⟩:=S.at_ k' j x ej h1;have an:σ[j]? = some (some v):=by
     cases q:σ[j]? with
     | none=>rw[q] at h2;cases h2
     | some z=>rw[q] at h2;simp only[Option.join] at h2;rw[<- h2];rfl
    have am:Vis X.env.scope x:=by rcases hk with q | q;exact .inr (.inl q);exact .inr (.inr q)
    obtain⟨m0,ap,aj⟩:=I.loc;obtain⟨u,r,l⟩:=aj j x v hN an am;refine⟨u,r,?_⟩
    rcases l with⟨q,_⟩ | ⟨q,c,e,z⟩
    .have q':X.env.scope.names.lookup x=some .local:=q
     rw[q'] at hk;rcases hk with hk | hk <;> cases hk
    .have fr:=S.frl k' x h1
     have hv:(relabel scope X.env).names.lookup x=some .cell\/(relabel scope X.env).names.lookup x=some .free:=gw (env:=X.env) fr
     have q:(x,Gm)∈scope.names:=eV fr
     obtain⟨c',e'⟩:=Hn.mp (ab x q);have e2:=L x c' e';rw[e] at e2;cases e2;obtain⟨oc,F,hd⟩:=z;exact .inr ⟨hv,c,Y x c (λc' z=>by
      have:=S.own _ (gc _ _ _ _ z) rfl
      rw[fr] at this;cases this) e',oc,k _ _ F,hd⟩
 .rcases cs x c e with a | a
  .exact⟨none,(B x c a).1⟩
  .obtain⟨v,oc,F,hd⟩:=I.cell x c (L x c a)
   exact⟨v,oc,k _ _ F,hd⟩
 .rcases cs x c e with a | a
  .exact ad c (IB (B x c a).2)
  .have e2:=L x c a
   obtain⟨v,oc,F,hd⟩:=I.cell x c e2;exact af c (I.freeC x c e2) (e_ F)
 .unfold gf
  show _=N.length
  rw[S.len];simp
def tN (F:List Str) (xs B:List (Str × GP)) (N:List Str) (nt:Nat) (js:List Nat):Bool :=
 decide N.Nodup && N.length == nt+js.length && (js.zip (N.drop nt)).all (λp=>F[p.1]? == some p.2 && iI xs p.2) && (N.drop nt).all (λx=>B.lookup x == some .free)
  && B.all (λy=>y.2 != .cell || B.lookup y.1 == some .cell) && B.all (λy=>y.2 != .local || B.lookup y.1 == some .local) && B.all (λy=>y.2 != .free || iI xs y.1)
theorem aP (L:List Str) (xs:List (Str × GP)) (hk:scope.kind = .function:=by exact rfl) (hN:X.N=L:=by exact rfl) (hx:X.env.scope.names=xs:=by exact rfl)
  (h:tN L xs scope.names N nt js=true:=by decide+kernel):kI X scope N nt js:=by
 subst hN hx;unfold tN at h;simp only[B_] at h;obtain⟨⟨⟨⟨⟨⟨h1,h2⟩,Z⟩,Y⟩,h5⟩,h6⟩,h7⟩:=h;refine⟨hk,of_decide_eq_true h1,by simpa using h2,λk j x e1 e2=>?_,λk x e=>?_,λy F e=>?_,λy F e=>?_,λy F e=>?_⟩
 .have hm:(j,x)∈js.zip (N.drop nt):=by
   have B:(N.drop nt)[k]? = some x:=by rw[List.getElem?_drop];exact e2
   have:(js.zip (N.drop nt))[k]? = some (j,x):=by rw[List.getElem?_zip_eq_some];exact⟨e1,B⟩
   exact m_ this
  have q:=GQ.mp Z _ hm;rw[B_] at q;exact⟨by simpa using q.1,jp q.2⟩
 .have hm:x∈N.drop nt:=by
   have B:(N.drop nt)[k]? = some x:=by rw[List.getElem?_drop];exact e
   exact m_ B
  simpa using GQ.mp Y _ hm
 .have q:=GQ.mp h5 _ F
  rw[e] at q;simpa using q
 .have q:=GQ.mp h6 _ F
  rw[e] at q;simpa using q
 .have q:=GQ.mp h7 _ F
  rw[e] at q;exact jp (by simpa using q)
end L2
namespace PySem
open L2 PyProof.Rows PySem.Calls
def jy:Int:=0xFCA86420
theorem uK {Q:Int->Shared->Prop} (h:Q jy { s with toks:=s.toks+1 }):wpAny (model prog w) A (pyHash .none) Q E s:=by
 have B:s.TypeIs GA "NoneType" := rfl
 show wpAny _ _ (pyHashByItsType .none) Q E s
 unfold pyHashByItsType;refine a_ ?_
 rw[cRoomFor,if_neg (by rw[show[GA].any Value.onHeap=false from rfl];exact x_)]
 refine ee (a_ (GM B Hl.lookup ?_))
 refine wpAny_ite_split (λz=>by cases z) λ_=>?_
 refine a_ (GM B Hl.lookup ?_)
 refine wpAny_ite_split (λz=>by cases z) λ_=>?_
 refine a_ (wpAny_callSpecialIfBoundUnlessNone?_slot B Hl (FW Hl B PySem.F.entry_NoneType_hash (show wpAny _ _ (do ret (<- mkInt jy)) _ _ s from wpAny_ret_mkInt ?_) (PySem.F.args_NoneType_hash_1 _)))
 show wpAny _ _ (if (decide (-(2:Int) ^ 63<=jy) && decide (jy < 2 ^ 63))=true then _ else _) Q E _
 rw[if_pos ∅]
 exact ee h
theorem uT {Q:Bool->Shared->Prop} (h:Q true s):wpAny (model prog w) A (eqBool .none .none) Q E s:=by
 unfold eqBool;refine Gy ?_
 rw[if_pos ∅]
 exact a_ (wpAny_rule (ee h))
def uG:Option Int->Value->Bool
 | none,.none=>true
 | some i,v=>v.isInt i
 | _,_=>false
theorem cN {k:Option Int} {v:Value} (h:uG k v=true):(k=none/\v = .none)\/∃i t,k=some i/\v = .int i t:=by
 cases k with
 | none=>cases v <;> first | exact .inl ⟨rfl,rfl⟩ | cases h
 | some i =>
  obtain⟨t,e⟩:=Value.isInt_shape (show Value.isInt i v=true by cases v <;> first | exact h | cases h)
  exact .inr ⟨i,t,rfl,e⟩
theorem D0 {a b:Option Int} {v:Value} {Q:Bool->Shared->Prop} (F:uG a u=true) (B:uG b v=true) (h:Q (decide (a=b)) s):wpAny (model prog w) A (eqBool u v) Q E s:=by
 rcases cN F with⟨rfl,rfl⟩ | ⟨i,t,rfl,rfl⟩
 .rcases cN B with⟨rfl,rfl⟩ | ⟨j,u,rfl,rfl⟩
  .exact uT (by simpa using h)
  .exact SeqAt.EqAt.none_int j u _ _ _ _ (by simpa using h)
 .rcases cN B with⟨rfl,rfl⟩ | ⟨j,u,rfl,rfl⟩
  .exact SeqAt.EqAt.int_none i t _ _ _ _ (by simpa using h)
  .refine wpAny_eqBool_int ?_
   have e:(i == j)=decide (some i=some j):=by rw[FY];simp
   rw[e];exact h
def EW:Option Int->Int | none=>jy | some i=>hashInt i
def cZ (prog:Program) (w:World):KeyKind prog w (Option Int) where
 is:=uG
 hash:=EW
 inj := λv a b ha L=>by
  rcases cN ha with⟨rfl,rfl⟩ | ⟨i,t,rfl,rfl⟩
  .rcases cN L with⟨rfl,_⟩ | ⟨j,u,rfl,e⟩
   .rfl
   .cases e
  .rcases cN L with⟨rfl,e⟩ | ⟨j,u,rfl,e⟩
   .cases e
   .cases e;rfl
 byValue:=λk v h=>by
  rcases cN h with⟨rfl,rfl⟩ | ⟨i,t,rfl,rfl⟩ <;> rfl
 pyHash:=λF h=>by
  rcases cN F with⟨rfl,rfl⟩ | ⟨i,t,rfl,rfl⟩
  .exact uK h
  .exact wpAny_pyHash_int h
 eqBool:=λY F h=>D0 Y F h
 «strs» := λk x t v h=>absurd (cN h) (λz=>z.elim (λz=>nomatch z.2) λB=>by obtain⟨_,_,_,e⟩:=B;exact(nomatch e))
end PySem
namespace L2
open PySem PySem.Spec PyProof.Rows
def oV:Option Int->V | none=>.non | some i=>.int i
theorem zS {k:Option Int} (h:bv (oV k) u):(cZ P w).is k u=true:=by
 cases k with
 | none=>cases (show u=GA from h);rfl
 | some i=>obtain⟨t,rfl⟩:=(show ∃t,u=Value.int i t from h);exact intKind_is P w i t
theorem Ef {k:Option Int} (h:(cZ P w).is k u=true):bv (oV k) u:=by
 rcases cN (show uG k u=true from h) with⟨rfl,rfl⟩ | ⟨i,t,rfl,rfl⟩
 .rfl
 .exact⟨t,rfl⟩
def eO (ks:List (Option Int)):List (Option Int × Value):=ks.map λk=>(k,HQ true)
def vd (P:Program) (w:World) (a:Addr) (o:Obj) (ks:List (Option Int)) (h:Heap):Prop:=h.get? a=some o/\(a == G9)=false/\ks.length<=1000/\h.DictOf (cZ P w) a (eO ks)
def fI (P:Program) (w:World) (a:Addr) (o:Obj) (ks:List (Option Int)):HO:=.ext (vd P w a o ks)
section
variable {o:Obj}
theorem vd.ok (x:vd P w a o ks h):bO P w H h a (fI P w a o ks) :=
 ⟨x,⟨o,x.1⟩,λh1 h2 z k=>⟨k _ z.1,z.2.1,z.2.2.1,z.2.2.2.at k⟩⟩
def qv (ks:List (Option Int)) (k:Option Int):List (Option Int):=if k∈ks then ks else ks++[k]
theorem sk (ks:List (Option Int)) (k:Option Int):stored (eO ks) k (.bool true)=eO (qv ks k):=by
 unfold stored qv
 by_cases B:k∈ks
 .have e:(eO ks).any (λF=>decide (F.1=k))=true:=GK.mpr ⟨(k,.bool true),r_.mpr ⟨k,B,rfl⟩,by simp⟩
  rw[if_pos e,if_pos B];unfold eO;rw[FQ]
  apply Gb
  intro x _
  show(if x=k then(x,HQ true) else(x,HQ true))=_
  split <;> rfl
 .have e : ¬ (eO ks).any (λF=>decide (F.1=k))=true:=λz=>by
   obtain⟨y,L,e⟩:=GK.mp z;obtain⟨x,Y,rfl⟩:=r_.mp L;exact B (of_decide_eq_true e ▸ Y)
  rw[if_neg e,if_neg B];unfold eO;rw[Gz];rfl
theorem A2 (ks:List (Option Int)) (k:Option Int):(qv ks k).length<=ks.length+1:=by unfold qv;split <;> simp
end
section
variable {ie:Expr}
def AS (P:Program) (w:World) (td ty tv:TE):TS:=λD σ H=>tv σ H λv H1=>td σ H1 λx H2=>ty σ H2 λy B=>v = .bl true/\∃a,x = .ref a/\∃k,y=oV k/\∃o ks,B a=some (fI P w a o ks)/\ks.length < 1000/\∀o',D.nx σ (upd B a (fI P w a o' (qv ks k)))
theorem Bb (hu:X.A.units+1 < cLine) (ho:PE X oe td) (hi:PE X ie ty) (hv:PE X value tv) (hs:IQ value (some (.Subscript oe ie pos')) pos.line X.env=pure false) :
  PS X (.Assign [.Subscript oe ie pos'] value pos) (AS X.prog X.w td ty tv):=by
 intro pins s σ H D I h;refine wpAny_Assign_Subscript (thn (hv pins s σ H _ I h) λr s1 ⟨v,H1,I1,rv,q1⟩=>thn (ho pins s1 σ H1 _ I1 q1) λu s2 ⟨x,H2,I2,rx,q2⟩=>thn (hi pins s2 σ H2 _ I2 q2) λiv s3 B=>?_) hs
 obtain⟨y,H3,Y,ry,ev,a,ex,k,ey,o,ks,ha,hl,q3⟩:=B;subst ex ey ev;obtain rfl:u=y6 a:=rx
 obtain rfl:r=HQ true:=rv
 obtain⟨⟨g,hd,hz,Z⟩,_⟩:=(show bO X.prog X.w H3 s3.heap a (fI X.prog X.w a o ks) from Y.hok a _ ha)
 refine wpAny_setItem_pairs (knd:=cZ X.prog X.w) (k:=k) (hsz:=by unfold eO;rw[d_];exact w_ hz ∅) (zS ry) Z λh' F L=>?_
 rw[sk] at F;obtain⟨o',es,ep,g',r'⟩:=id F;have aa:=A2 ks k;exact⟨σ,_,oa (ob:=fI X.prog X.w a o' (qv ks k)) Y (by rw[ha];exact Gf) L ⟨o',g'⟩ (vd.ok ⟨g',hd,(),F⟩),q3 o'⟩
end
def oN (is:List Int):List (Key × V):=is.map λi=>(o_ i,V.bl true)
theorem wZ {P:Program} {w:World} : ∀{is:List Int} {es:List DictEntry} {vs:List (Key × Value)},KV (oN is) vs->Pairs (bA P w) es vs->(∀e∈es,∃k,(bA P w).is k e.key=true/\e.hash=(bA P w).hash k) ->
  Pairs (cZ P w) es (eO (is.map some))/\∀e∈es,∃k,(cZ P w).is k e.key=true/\e.hash=(cZ P w).hash k
 | [],es,vs,r,p,_=>by
  unfold oN KV at r;cases r;cases p;exact⟨.nil,λe he=>by simp at he⟩
 | i :: is,es,vs,r,p,hk=>by
  unfold oN KV at r;rw[y3] at r;cases r with
  | @cons p0 q0 ps qs h0 hr =>
   obtain⟨k0,u0⟩:=q0;obtain⟨e0,ru⟩:=h0;dsimp only at e0 ru;subst e0;obtain rfl:u0=HQ true:=ru
   cases p with
   | @cons e kv es' kvs' h1 h2 h3 =>
    obtain⟨Y,Z⟩:=wZ (is:=is) hr h3 λe he=>hk e (zc _ he)
    have aa : ∃t,e.key=Value.int i t:=by
     rcases bW (k:=o_ i) (v:=e.key) h1 with⟨j,t,ej,L⟩ | ⟨x,t,ej,L⟩
     .cases ej;exact⟨t,L⟩
     .cases ej
    obtain⟨t,et⟩:=aa;have F:(cZ P w).is (some i) e.key=true:=by rw[et];exact intKind_is P w i t
    refine⟨.cons F h2 Y,λe' B=>?_⟩
    rcases u_.mp B with rfl | B
    .obtain⟨k,k1,k2⟩:=hk e' (FT)
     have L:k=o_ i:=(bA P w).inj _ _ _ k1 h1
     subst L;exact⟨some i,F,k2⟩
    .exact Z e' B
def BE (P:Program) (w:World) (te:TE):TE:=λσ H Q=>te σ H λx H1=>∃a,x = .ref a/\∃is:List Int,H1 a<*(oN is)/\is.length<=1000/\∀o,Q x (upd H1 a (fI P w a o (is.map some)))
theorem C2 (Z:PE X e te):PE X e (BE X.prog X.w te):=by
 intro pins s σ H Q I h;refine thn (Z pins s σ H _ I h) λv s1 B=>?_
 obtain⟨x,H1,I1,r1,a,ex,is,ha,hl,q⟩:=B;subst ex;obtain⟨hz,hd,vs,Y,o,es,ep,ho,hx,L,hk,hp,hn⟩:=kG I1.hok ha;have aa : ∀ob u,X.H₀ a≠some (.frz ob u):=λob u e=>by have:=I1.base.frzs a ob u e;rw[ha] at this;cases this
 obtain⟨p1,p2⟩:=wZ Y hp λe Z=>hk e (by simpa using Z)
 have F:((eO (is.map some)).map (·.1)).Nodup:=by
  have e1:(eO (is.map some)).map (·.1)=is.map some:=by unfold eO;rw[FQ];simp
  have e2 : ∀{is:List Int} {vs:List (Key × Value)},KV (oN is) vs->vs.map (·.1)=is.map o_:=by
   intro is
   induction is with
   | nil=>intro vs r;unfold oN KV at r;cases r;rfl
   | cons i is ih =>
    intro vs r;unfold oN KV at r;rw[y3] at r;cases r with
    | cons h0 hr =>
     rw[y3,y3,ih hr];rw[<- h0.1]
  rw[e2 Y] at hn;rw[e1];have F:is.Nodup:=(G7.mp hn).imp λh z=>h (by rw[z])
  exact G7.mpr (F.imp λh z=>h (h_ z))
 have nd:vd X.prog X.w a o (is.map some) s1.heap:=⟨ho,hd,by rw[d_];exact hl,o,es,ep,ho,hx,L,λe Z=>p2 e (by simpa using Z),p1,F⟩
 exact⟨.ref a,_,I1.retag ha (by intro y z;cases z) (by intro y z;cases z) aa (by intro y z;cases z) nd.ok,r1,q o⟩
def ItN (P:Program) (w:World) (a:Addr) (o:Obj) (ks:List (Option Int)):It :=
 ⟨λi H=>H a=some (fI P w a o ks)/\i < ks.length,λi H x H'=>H'=H/\∃k,ks[i]? = some k/\x=oV k,λi H=>H a=some (fI P w a o ks)/\ks.length<=i⟩
theorem Ds (a it:Addr) (o:Obj) (ks:List (Option Int)) (ep:Nat) (ac : ∃es,o.data = .dict es ep):sA P w K tg (ItN P w a o ks) [it] it (λi h=>h.IsKeyIter it a i ks.length ep) where
 mem:=by simp
 obj:=λi h st b Y=>by
  obtain rfl:b=it:=by simpa using Y
  obtain⟨ob,e,c,d⟩:=st;exact⟨ob,e,λv z=>by rw[d] at z;cases z⟩
 keep:=λi h h' st k=>st.at λob e=>k it (by simp) ob e
 item:=by
  intro X hP hw hK hc i pins s σ H E I hf st ⟨ha,hi⟩;subst hP hw hK;obtain⟨⟨ho,hd,hz,od,es,F,Z,hr⟩,_⟩:=(show bO X.prog X.w H s.heap a (fI X.prog X.w a o ks) from I.hok a _ ha)
  obtain rfl:o=od:=h_ (ho.symm.trans Z)
  obtain⟨ae,L⟩:=ac;obtain rfl:F=ep:=by
   have:=hr.2.1
   rw[L] at this;cases this;rfl
  have B:(eO ks).length=ks.length:=by unfold eO;simp
  obtain⟨k,hk⟩ : ∃k,ks[i]? = some k:=⟨ks[i],by simp[hi]⟩
  obtain⟨f0,f1,f2,f3,f4,f5⟩:=hf it (by simp)
  have aa:s.heap.IsKeyIter it a i (eO ks).length F:=by rw[B];exact st
  refine wpAny_pyNext_dict_item (knd:=cZ X.prog X.w) (k:=k) (v:=.bool true) aa ⟨o,es,ho,hr⟩ (by unfold eO;rw[f_,hk];rfl) λad h' af ab sb=>?_
  have I1:Inv X pins σ H { s with heap:=h' }:=I.turned (t':=s.toks) (λb ob Y e=>(sb.2 b Y).trans e) f0 f1 f3 f4 f5
  rw[B] at ab;obtain⟨ob,e,c,d⟩:=id ab;exact⟨ad,rfl,qV (s:={ s with heap:=h' }) e c d ∅ ⟨oV k,H,I1,Ef af,⟨rfl,k,hk,rfl⟩,ab,λb Y=>(hf b Y).1⟩⟩
 done:=by
  intro X hP hw hK hc i pins s σ H E I hf st ⟨ha,hi⟩;subst hP hw hK;obtain⟨⟨ho,hd,hz,od,es,F,Z,hr⟩,_⟩:=(show bO X.prog X.w H s.heap a (fI X.prog X.w a o ks) from I.hok a _ ha)
  obtain rfl:o=od:=h_ (ho.symm.trans Z)
  obtain⟨ae,L⟩:=ac;obtain rfl:F=ep:=by
   have:=hr.2.1
   rw[L] at this;cases this;rfl
  have B:(eO ks).length=ks.length:=by unfold eO;simp
  obtain⟨f0,f1,f2,f3,f4,f5⟩:=hf it (by simp)
  have aa:s.heap.IsKeyIter it a i (eO ks).length F:=by rw[B];exact st
  exact wpAny_pyNext_dict_end (knd:=cZ X.prog X.w) (I.ok.hd hc) aa ⟨o,es,ho,hr⟩ (G5.mpr ()) λh' eb=>⟨rfl,I.turned (t':=s.toks) (λb ob Y e=>eb b ob Y e) f0 f1 f3 f4 f5⟩
 self:=λ_ _ _ _ _ st h=>wpAny_pyIter_keyiter st h
theorem yY {o:Obj}:Wlk (ItN P w a o ks) (ks.map oV) (λH=>H a=some (fI P w a o ks)) :=
 ⟨λi H h hi=>⟨h,by simpa using hi⟩,λi H x H' h _ y=>by
  obtain⟨e,k,B,rfl⟩:=y;exact⟨by rw[f_,B];rfl,e⟩,λi H h hi=>⟨h,by simpa using hi⟩⟩
def iN (P:Program) (w:World) (tl:TE):TI:=λσ H R=>tl σ H λx H1=>∃a,x = .ref a/\∃o ks,H1 a=some (fI P w a o ks)/\R (ItN P w a o ks) H1
theorem EE {l:Expr} {tl:TE} (hl:PE X l tl):PI X tg l (iN X.prog X.w tl):=by
 intro pins s σ H R I h;refine thn (hl pins s σ H _ I h) λv F B=>?_
 obtain⟨x,H1,Z,r1,a,e,o,ks,hq,q⟩:=B;subst e;cases r1;obtain⟨⟨ho,hd,hz,od,es,ep,aa,hr⟩,_⟩:=(show bO X.prog X.w H1 F.heap a (fI X.prog X.w a o ks) from Z.hok a _ hq)
 obtain rfl:o=od:=h_ (ho.symm.trans aa)
 refine wpAny_pyIter_dict (knd:=cZ X.prog X.w) hd ⟨o,es,ho,hr⟩ ?_
 have L:(eO ks).length=ks.length:=by unfold eO;simp
 have I2:Inv X pins σ H1 { F with heap:=F.heap.push { cls:=.type "dict_keyiterator",data:=.fields #[.ref a,.int 0 0,.int (eO ks).length 0,.int ep 0] } }:=Z.kept (t':=F.toks) λb o e=>c_ _ e
 refine⟨F.heap.objs.size,[F.heap.objs.size],_,_,_,rfl,I2,Ds a _ o ks ep ⟨es,hr.2.1⟩,⟨_,k_ _ rfl,rfl,by rw[L];rfl⟩,λb hb=>?_,q⟩
 obtain rfl:b=F.heap.objs.size:=by simpa using hb
 have Y:H1 F.heap.objs.size=none:=Z.hok.fresh (s_ _)
 exact⟨Y,(Z.fpOk (s_ _) Y).2⟩
def dC (ps:List (Int × Int × Int)):List (List Key × V):=ps.map λx=>([.inl x.1,.inl x.2.1],.int x.2.2)
def toO:Key->Option Int | .inl i=>some i | .inr _=>none
theorem isO {i j:Int} (x:(Hv (bA P w)).is h [o_ i,o_ j] b):(Hv (cZ P w)).is h [some i,some j] b:=by
 obtain⟨o,items,n,h1,h2,Z,F⟩:=(show IsTupleKey (bA P w) h [o_ i,o_ j] b from x)
 refine(show IsTupleKey (cZ P w) h [some i,some j] b from⟨o,items,n,h1,h2,Z,?_⟩)
 generalize items.toList=l at F;have L : ∀{i:Int} {v:Value},(bA P w).is (o_ i) v=true->(cZ P w).is (some i) v=true:=λ{i v} z=>by
  rcases bW (k:=o_ i) (v:=v) z with⟨j,t,B,Y⟩ | ⟨x,t,B,Y⟩
  .cases B;rw[Y];exact intKind_is P w i t
  .cases B
 cases F with
 | cons k1 r1 =>
  cases r1 with
  | cons k2 r2 =>
   cases r2;exact .cons (L k1) (.cons (L k2) .nil)
theorem Ac {ps:List (Int × Int × Int)} (hu:A.units+1 < cLine) (I:Inv X pins σ H s) (ha:H a=some (.dT (dC ps))) (hb:H b>>[.non,.int v]) (h : ∀s',Inv X pins σ H s'->Q .none s') :
  wpAny (model X.prog X.w) A (call (.builtin "dict.get") [.ref a,.ref b]) Q E s:=by
 obtain⟨z,hd,xs,af,o,es,ep,ho,hx,aa,he,ae,Z⟩:=nB I.hok (.inl ha);have ag:s.TypeIs (.ref a) "dict" :=⟨o,ho,hx.1⟩
 have B : ∀q∈xs,∃i j:Int,q.1=[o_ i,o_ j]:=by
  have : ∀{ps:List (Int × Int × Int)} {xs:List (List Key × Addr × Value)},KT H (dC ps) xs->∀q∈xs,∃i j:Int,q.1=[o_ i,o_ j]:=by
   intro ps
   induction ps with
   | nil=>intro xs r;unfold dC KT at r;cases r;intro q L;simp at L
   | cons p ps ih =>
    intro xs r;unfold dC KT at r;rw[y3] at r;cases r with
    | cons h0 hr =>
     intro q L;rcases u_.mp L with rfl | L
     .exact⟨p.1,p.2.1,h0.1.symm⟩
     .exact ih hr q L
  exact this af
 have dd:s.heap.DictOfH (Hv (cZ X.prog X.w)) a (xs.map λq=>(q.1.map toO,q.2)):=by
  refine⟨o,es,ep,ho,hx,aa,?_,λx Y=>?_,?_⟩
  .rw[he,FQ]
   apply Gb
   intro q L;obtain⟨i,j,e⟩:=B q L;obtain⟨k,ad,u⟩:=q;dsimp only at e;subst e;rfl
  .obtain⟨q,L,rfl⟩:=r_.mp Y
   obtain⟨i,j,e⟩:=B q L;have:=ae q L
   rw[e] at this;dsimp only;rw[e];exact isO this
  .rw[FQ]
   rw[List.Nodup,G7] at Z;rw[List.Nodup,G7];refine Ha (λ{p q} hp L hne z=>hne ?_) Z
   obtain⟨i,j,e⟩:=B p hp;obtain⟨i',j',e'⟩:=B q L;simp only[Function.comp,e,e',y3,map_nil,toO] at z;rw[e,e'];cases z;rfl
 have ab:(Hv (cZ X.prog X.w)).is s.heap [none,some v] b:=by
  obtain⟨_,its,r,ot,h1,h2,n,h3⟩:=(show bO X.prog X.w H s.heap b (.tup [.non,.int v]) from I.hok b _ hb)
  refine(show IsTupleKey (cZ X.prog X.w) s.heap [none,some v] b from⟨ot,its.toArray,n,h1,h2,h3,?_⟩)
  cases r with
  | cons r1 r2 =>
   cases r2 with
   | cons r3 r4 =>
    cases r4;exact .cons (zS (k:=none) r1) (.cons (zS (k:=some v) r3) .nil)
 refine call_meetsIn Ij ag PySem.F.entry_dict_get (PySem.F.args_dict_get_2 _ _) (meetsH_dict_get (Hv (cZ X.prog X.w)) a b hd) ⟨Hf hu,[none,some v],_,ab,dd,?_⟩
 have ac:atKey (xs.map λq=>(q.1.map toO,q.2)) [none,some v]=none:=by
  unfold atKey;rw[Option.map_eq_none_iff,List.find?_eq_none];intro x Y e;obtain⟨q,L,rfl⟩:=r_.mp Y;obtain⟨i,j,eq⟩:=B q L;have e:=of_decide_eq_true e;dsimp only at e;rw[eq] at e;cases e
 rw[ac];exact h _ (I.tok _)
def jv (ps:List (Int × Int × Int)):Option Int->Int->Option Int
 | none,_=>none
 | some s,v=>(ps.find? λx=>decide (x.1=s/\x.2.1=v)).map λx=>x.2.2
theorem pI (s v:Int) : ∀ps:List (Int × Int × Int),(bY (dC ps) [o_ s,o_ v]).getD .non=oV (jv ps (some s) v)
 | []=>rfl
 | p :: ps=>by
  have B:=pI s v ps;unfold dC jv at B ⊢;dsimp only at B ⊢;rw[y3,Hq]
  by_cases h:p.1=s/\p.2.1=v
  .rw[decide_eq_true h]
   obtain⟨rfl,rfl⟩:=h;simp[bY,oV]
  .rw[decide_eq_false h]
   have F:([o_ p.1,o_ p.2.1]:List Key)≠[o_ s,o_ v]:=λz=>h (by cases z;exact⟨rfl,rfl⟩)
   simpa [bY,F] using B
def As (td ty:TE):TE:=λσ H Q=>td σ H λx H1=>∃a,x = .ref a/\∃ps,H1 a=some (.dT (dC ps))/\ty σ H1 λy H2=>H2 a=some (.dT (dC ps))/\∃b,y = .ref b/\∃st v,H2 b>>[oV st,.int v]/\Q (oV (jv ps st v)) H2
theorem yZ (hu:X.A.units+1 < cLine) (ho:PE X oe td) (he:PE X e ty) (m:M1 X oe "get" apos e cpos):PE X (.Call (.Attribute oe "get" apos) [e] [] cpos) (As td ty):=by
 intro pins s σ H Q I h;refine wpAny_Call_method m.base m.few m.line PySem.F.plainAttrs_dict Ij PySem.F.type_dict_get (thn (ho pins s σ H _ I h) λu s1 B=>?_)
 obtain⟨x,H1,Z,rx,a,ex,ps,d,q1⟩:=B;subst ex;obtain rfl:u=y6 a:=rx
 obtain⟨t1,t2,_⟩:=Db Z (.inr ⟨_,.inl d⟩);refine⟨t1,t2,?_⟩
 rw[m.trees];refine H0 rfl (Calls.evalArgs_plain (HS (thn (he pins s1 σ H1 _ Z q1) λiv s2 ⟨y,H2,I2,ry,d2,b,ey,st,v,hb,q2⟩=>Ib ?_)))
 subst ey;obtain rfl:iv=y6 b:=ry
 cases st with
 | none=>exact Ac hu I2 d2 hb λs3 Y=>⟨.non,H2,Y,rfl,q2⟩
 | some st=>exact CV hu I2 (kc.t (k:=[o_ st,o_ v]) d2 hb) rfl λw' s3 Y L=>⟨_,H2,Y,by rw[pI] at L;exact L,q2⟩
section
variable {ie l:Expr} {tl:TE}
theorem yK (B:X.prog=P) (F:X.w=w) (hu:X.A.units+1 < cLine) (Y:PE X oe td) (hi:PE X ie ty) (L:PE X value tv) (Z:IQ value (some (.Subscript oe ie pos')) pos.line X.env=pure false) :
  PS X (.Assign [.Subscript oe ie pos'] value pos) (AS P w td ty tv):=by
 subst B F;exact Bb hu Y hi L Z
theorem xq (B:X.prog=P) (F:X.w=w) (L:PE X e te):PE X e (BE P w te):=by
 subst B F;exact C2 L
theorem zB (B:X.prog=P) (F:X.w=w) (hl:PE X l tl):PI X tg l (iN P w tl):=by
 subst B F;exact EE hl
end
theorem Cc (hK:X.K=K) (B:X.A.units+100 < cLine):OpR X (Gi .Eq) (Dg K):=by
 subst hK;exact tz B
noncomputable def fO (i:Nat):TE:=λσ H Q=>match σ[i]? with | some (some v)=>Q v H | _=>False
theorem A4 {Q:VK} (h:fO i σ H Q):Ba i σ H Q:=by
 unfold fO at h
 split at h
 .exact⟨_,by assumption,h⟩
 .exact h.elim
theorem pvM (i:Nat) {x:Str} {pos:Pos} (Y:X.N[i]? = some x:=by rfl) (L:Vis X.env.scope x:=by first | exact Or.inl rfl | exact Or.inr (Or.inl rfl) | exact Or.inr (Or.inr rfl)) (F:(x ==("__debug__" : Str))=false:=by decide)
  (B:(x ==("__classdict__" : Str))=false:=by decide):PE X (.Name x pos) (fO i):=λpins s σ H Q I h=>CO Y L F B pins s σ H Q I (A4 h)
structure Cu (w:World) (K:j_) (a:Addr):Prop where
 ex : ∃es n,K.lookup a=some ⟨.type "dict",none,.dict es n,#[]⟩/\PySem.W.KeysLit w.params es.toList
def FnT (P:Program) (w:World) (K:j_) (mg:Str->Option Value) (base:Heap) (a:Addr) (x:Str) (k:Nat) (ps:List Str) (sp:Sp):Prop :=
 ∃f fd,iH P w K mg base CX0 k f fd ps sp/\nsIn K a x=some (-f)/\v_ K (.ref f)=true/\jc K fd ps []
theorem mo {y:Str} (F:Fn P w K mg base y j ps sp) (B:mg y=-f) (Z:nsIn K a x=some (-f)) (h:j<=k)
  (Y : ∀vs H Q E,sp' vs H Q E->sp vs H Q E):FnT P w K mg base a x k ps sp':=by
 obtain⟨f',fd,F,m,L,b⟩:=F;rw[B] at m;cases m;exact⟨f,fd,(F.mono h).imp Y,Z,L,b⟩
noncomputable def jT (names:List Str) (sp:Str->Sp) (tb:TE) (t:TA):TE:=λσ H Q=>tb σ H λy H1=>∃x,y = .str x/\x∈names/\t σ H1 λvs H2=>sp x vs H2 Q E0
section
variable {p p1:Pos} {b:Expr} {t:TA}
theorem AI {sp:Str->Sp} (TA:Cu X.w X.K a) (F : ∀y∈names,FnT X.prog X.w X.K X.mg X.base a y k ps (sp y)) (hm:X.mg x=-a) (hb:PE X b tb) (ha:PA X (e :: es) t) (hr:eJ k X.A:=by exact eJ.mono (by assumption) (by first | decide | omega)) (hg:Gl X x:=by exact rfl)
  (hs:xp b:=by exact λ_ _=>rfl) (Z:(x ==("__debug__" : Str))=false:=by decide)
  (he:y9 (e :: es) X.env=(false,eval e X.env) :: y9 es X.env:=by rfl) (Y:(GS pos (y9 es X.env)).any (·.1)=false:=by rfl) :
  PE X (.Call (.Subscript (.Name x p) b p1) (e :: es) [] pos) (jT names sp tb t):=by
 intro pins s σ H Q I h
 show wpAny _ _ (do callWith pos (<- eval (.Subscript (.Name x p) b p1) X.env) [] (GS pos (y9 (e :: es) X.env)) (backToKw pos (IG [] X.env))) _ _ s
 refine a_ (Subscript_ (nU I hg hm (thn (hb pins s σ H _ I h) λu s1 B=>?_) Z))
 obtain⟨v,H1,I1,r,y,ey,hy,q⟩:=B;subst ey;obtain⟨tk,rfl⟩:=r;obtain⟨f,fd,F,hn,kp,bd⟩:=F y hy;obtain⟨aa,n,hl,hk⟩:=TA.ex;have L:=PySem.W.mapOf_K (prog:=X.prog) I1.kIn hl hk;refine PyProof.Rows.tail_any L.typeIs PySem.F.slot_dict_getitem.lookup (wpAny_getItem_of (strKind_is X.prog X.w y tk) L (PySem.W.find_K hl hn) ?_) (hs _ _)
 have I2:Inv X pins σ H1 { s1 with toks:=s1.toks+1 }:=I1.tok _
 refine callWith_K (h₀:=X.base) I.ok.mod.kin kp (thn (ha pos pins _ σ H1 _ I2 q) λus s3 ⟨vs,H3,I3,r3,q3⟩=>⟨I3.kIn,?_⟩) he Y
 exact pi F hr bd .nil qz I3 r3 (by rw[append_nil];exact q3)
end
section
variable {g:TG}
theorem qU {Q:VK}
  (aB:X.calm=true) (S:kI X scope N nt js) (hi:PI X tg iter wi)
  (hg : ∀{cl C fp s H xe},PG (dY X scope N cl C fp s H xe) tg g) (aJ:Ae g nt)
  (hc : ∀{cl C fp s H xe},PTs (dY X scope N cl C fp s H xe) ifs tc)
  (he : ∀{cl C fp s H xe},PE (dY X scope N cl C fp s H xe) elt te)
  (hs : ∀x,foldedSetIterable iter X.env x=pure x) (I:Inv X pins σ H s) (h:xI nt js wi g tc te σ H Q)
  (aM : ∀{cl C fp F H2 xe H3 s4 D},Inv X pins σ H2 F->(∀b∈fp,pF X pins H2 b)->F.heap.objs.size < C->Inv (dY X scope N cl C fp F H2 xe) [] (gf nt js σ) H3 s4->Q (.ref D) H3 ->
   compPost (model X.prog X.w) X.A X.xe use Qf (.ref D) C (.ok .next) s4) :
  wpAny (model X.prog X.w) X.A (comprehension (.ListComp elt [⟨tg,iter,ifs,0⟩] scope pos) scope X.env pos' (newList []) false (eval iter X.env) use) Qf X.xe s:=by
 obtain⟨cl,ay,a7,_,a9⟩:=jV (env:=X.env) scope.names [] (λx hx hk=>I.ok.has x.1 (S.free x hx hk))
 have a3 : ∀x c,cl.lookup x=some c->X.env.cells.lookup x=some c:=λx c e=>(a7 x c e).elim (λz=>by simp at z) λz=>z
 have am:closureFor scope X.env=pure cl:=by
  unfold closureFor;simp only[];rw[ay];rfl
 refine wpAny_comprehension_free rfl hs am S.kind S.loc (thn (hi pins s σ H _ I h) λv s1 h1=>thn h1 λaN F h2=>?_)
 obtain⟨it,fp,tn,J,H2,e,I2,T,a1,f2,q2⟩:=h2;subst e;have aa:H2 F.heap.objs.size=none:=I2.hok.fresh (s_ _)
 obtain⟨W,⟨m0,w0⟩,a2⟩:=q2 F.heap.objs.size aa;refine GB (gC (λB=>?_))
 dsimp only at B ⊢;generalize hG:F.heap.push { cls:=.type "list",dict:=none,data:=.seq ([]:List Value).toArray }=G at B ⊢;have aE:G.objs.size=F.heap.objs.size+1:=by rw[<- hG,FU]
 have ad:=cellsFrom_ok scope.names (G.push { cls:=.type "dict",data:=.dict #[] }) (G.objs.size+1) [] ⟨λ_ _ hm=>(nomatch hm),List.Pairwise.nil⟩ (by rw[FU];exact s_ _)
 rw[FU] at ad;have kp : ∀b o,G.get? b=some o->(pushCells (G.push { cls:=.type "dict",data:=.dict #[] }) scope.names).get? b=some o:=λb o e=>pushCells_keeps _ _ _ _ (c_ _ e)
 generalize aG:pushCells (G.push { cls:=.type "dict",data:=.dict #[] }) scope.names=af at B ad kp ⊢;have Z : ∀b o,F.heap.get? b=some o->af.get? b=some o:=λb o e=>kp b o (hG ▸ c_ _ e)
 have a4:HOk X.prog X.w (upd H2 F.heap.objs.size (.lst [])) af:=I2.hok.laid Z (s_ _) ⟨GR _,[],0,.nil,kp _ _ (hG ▸ k_ _ rfl)⟩
 have ae : ∀b∈fp,b < F.heap.objs.size:=λb L=>by
  obtain⟨o,e,_⟩:=T.obj _ _ a1 b L;exact e_ e
 have aC : ∀c,G.objs.size<=c->(upd H2 F.heap.objs.size (.lst [])) c=none:=λc hc=>by
  rw[ao (Gd ())]
  exact I2.hok.fresh ()
 have ax:=λxe H3 s4=>@aM (FZ (G.objs.size+1) scope.names cl) G.objs.size fp F H2 xe H3 s4 F.heap.objs.size I2 f2 (by rw[aE];exact G8 _)
 generalize aH:compPost (model X.prog X.w) X.A X.xe use Qf (.ref F.heap.objs.size) G.objs.size=RR at ax
 let Y:=dY X scope N (FZ (G.objs.size+1) scope.names cl) G.objs.size fp F H2 (notedBy (model X.prog X.w) X.A (compEnvC scope (FZ (G.objs.size+1) scope.names cl) G.objs.size X.env) λe s'=>RR (.error e) s')
 have ac : ∀{H':Hp},(∀b∈fp,H' b=none)->∀b∈fp,pF Y [] H' b:=λ{H'} hn b L=>by
  obtain⟨f0,f1,aL,f3,f4,f5⟩:=f2 b L;have h1:=ae b L;refine⟨hn b L,E_ (n_ h1 (by show _<=G.objs.size;omega)),λz=>?_,.inl L,λx c e=>?_,λp hp=>absurd (show p∈([]:List (Addr × Obj)) from hp) (by simp)⟩
  .rcases u_.mp (I2.stkSub b z) with q | q
   .exact f1 q
   .exact aL q
  .have e:(FZ (G.objs.size+1) scope.names cl).lookup x=some c:=e
   rw[bQ] at e;rcases pv e with q | q
   .have:=(ad.empty x c (mem_of_lookup q)).2
    exact Gd (n_ h1 ())
   .exact f4 x c (a3 x c q.2)
 have aw:Ii (model X.prog X.w) X.A (.compLoop (.ListComp elt [⟨tg,iter,ifs,0⟩] scope pos) 0 (.ref it) (.ref F.heap.objs.size) (compEnvC scope (FZ (G.objs.size+1) scope.names cl) G.objs.size X.env)) RR { F with heap:=af,toks:=F.toks }:=by
  refine rR (λn s'=>∃i ys H',Inv Y [] (gf nt js σ) H' s'/\tn i s'.heap/\(∀b∈fp,H' b=none)/\W i n ys H') ?_ m0
   ⟨0,[],_,uE S I2 f2 a3 a9 (λx c hm=>ad.empty x c hm) ad.apart aC ae () Z (λb o e=>by rw[ao (az e aa)];exact e) (λb n L=>by rw[ao (E_ L)];exact n) a4 B (λ_=>rfl),T.keep _ _ _ a1 λb L o e=>Z b o e,λb L=>by rw[ao (E_ (ae b L))];exact(f2 b L).1,w0⟩
  rintro n s3 ⟨i,ys,H3,J3,a5,a8,w3⟩
  rcases a2 i n ys H3 w3 with⟨a6,qn⟩ | ⟨go,NN,hN,step⟩
  .refine thn (T.done Y rfl rfl rfl aB i [] s3 (gf nt js σ) H3 _ J3 (ac a8) a5 a6) λr s4 ar=>?_
   obtain⟨hr,I4⟩:=ar;subst hr;exact ax _ _ _ I4 qn
  .refine thn (T.item Y rfl rfl rfl aB i [] s3 (gf nt js σ) H3 _ J3 (ac a8) a5 go) λr s4 ap=>?_
   obtain⟨u,hr,h4⟩:=ap;subst hr;refine thn h4 λ_ s5 aj=>?_
   obtain⟨x,H5,I5,r5,y5,a0,aI⟩:=aj;have g5:=aJ x (gf nt js σ) H5 _ oE (step x H5 y5);refine thn (hg _ s5 _ H5 x u _ (I5.pinned (ac aI) (T.obj _ _ a0)) r5 g5) λ_ s6 an=>?_
   obtain⟨ak,H6,I6,aF,q6⟩:=an;refine thn (hc _ s6 ak H6 _ I6 q6) λok s7 ag=>?_
   obtain⟨H7,I7,q7⟩:=ag;have ab : ∀{s8:Shared} {H8:Hp} {ai:List V},Inv Y ([]++oq fp s5.heap) ak H8 s8->NN ai H8 ->
     ∃m,m < n/\∃i ys H',Inv Y [] (gf nt js σ) H' s8/\tn i s8.heap/\(∀b∈fp,H' b=none)/\W i m ys H':=λ{s8 H8 ai} I8 n8=>by
    obtain⟨m',hm,w8⟩:=hN ai H8 n8;have k8:=λb L o e=>I8.pin (b,o) (Ga _ (Ga _ (ku L e)))
    refine⟨m',hm,i+1,ai,H8,(I8.unpinned).wk aF,T.keep _ _ _ a0 λb L o e=>(k8 b L o e).1,λb L=>?_,w8⟩
    obtain⟨o,e,d⟩:=T.obj _ _ a0 b L;exact(k8 b L o e).2.1
   cases ok with
   | false =>
    rw[if_neg x_] at q7 ⊢;exact ab I7 q7
   | true =>
    rw[if_pos rfl] at q7 ⊢;refine thn (he _ s7 ak H7 _ I7 q7) λy s8 au=>?_
    obtain⟨yv,H8,I8,r8,aK,aD,q8⟩:=au;refine thn (ri (X:=Y) _ s8 ak H8 (.ref F.heap.objs.size) [yv] (.ref F.heap.objs.size) [y] (λ_ H9=>NN (ys++[yv]) H9) I8 rfl (.cons r8 .nil) ⟨_,ys,yv,rfl,rfl,aK,aD,q8⟩) λv9 s9 aq=>?_
    obtain⟨x9,H9,I9,r9,q9⟩:=aq;exact ab I9 q9
 subst aH;exact codeAny_compStart_list aw (T.self _ 0 _ _ _ (T.keep _ _ _ a1 λb L o e=>Z b o e) aw)
theorem bB (S:kI X scope N nt js) (hi:PI X tg iter wi)
  (hg : ∀{cl C fp s H xe},PG (dY X scope N cl C fp s H xe) tg g) (ab:Ae g nt)
  (hc : ∀{cl C fp s H xe},PTs (dY X scope N cl C fp s H xe) ifs tc)
  (he : ∀{cl C fp s H xe},PE (dY X scope N cl C fp s H xe) elt te)
  (hs : ∀x,foldedSetIterable iter X.env x=pure x:=by intro _;rfl) (ad:X.calm=true:=by exact rfl) :
  PE X (.ListComp elt [⟨tg,iter,ifs,0⟩] scope pos) (xI nt js wi g tc te):=by
 intro pins s σ H Q I h;rw[eval_ListComp];refine qU ad S hi hg ab hc he hs I h λ{cl C fp s2 H2 xe H3 s4 D} I2 f2 hC I4 qn=>?_
 obtain⟨mC,ac,_⟩:=id I4.loc;refine⟨mC,ac,λF Y=>?_⟩
 have B : ∀b o,b≠C->s4.heap.get? b=some o->F.get? b=some o:=λb o L e=>Y.extBut b o L e
 have lC : ∀{b o},s2.heap.get? b=some o->b≠C:=λe=>E_ (lt_trans (e_ e) hC)
 have un:Un (frs X.stack) fp H2 H3 s2.heap F:=by
  have u:=I4.base;refine⟨λb o e n L Z=>B b o (lC e) (u.keep b o e n L Z),λb o e n L Z=>?_,u.free,λb o e Z=>?_,u.tups,u.frzs,u.tbls⟩
  .obtain⟨sl,e1⟩:=u.slot b o e n L Z
   exact⟨sl,B b _ (lC e) e1⟩
  .obtain⟨o',e1⟩:=u.there b o e Z
   exact⟨o',B b _ (lC e) e1⟩
 have aa:HOk X.prog X.w H3 F:=λb u e=>(I4.hok b u e).stay (λc v hc q=>B c v (by
   have cf:H3 C=none:=I4.free
   rintro rfl
   rcases hc with z | z
   .rw[z] at cf;rw[cf] at e;cases e
   .rw[cf] at z;cases z) q) (λ_ q=>q) λ_ _ q=>q
 exact⟨.ref D,H3,I2.call' (s':={ s4 with heap:=F }) I4.os un aa I4.bare (λb L=>by
  obtain⟨f0,f1,ae,f3,f4,f5⟩:=f2 b L;exact⟨f3,f1,f4,f5⟩),rfl,qn⟩
theorem gR (i:Nat) {y:Str} {py F:Pos} (S:kI X scope N nt js) (hi:PI X tg iter wi)
  (hg : ∀{cl C fp s H xe},PG (dY X scope N cl C fp s H xe) tg g) (af:Ae g nt)
  (hc : ∀{cl C fp s H xe},PTs (dY X scope N cl C fp s H xe) ifs tc)
  (he : ∀{cl C fp s H xe},PE (dY X scope N cl C fp s H xe) elt te)
  (hs : ∀x,foldedSetIterable iter X.env x=pure x:=by intro _;rfl) (ai:X.calm=true:=by exact rfl) (hN:X.N.Nodup:=by assumption) (ac:X.N[i]? = some y:=by exact rfl) (hy:Loc X.env.scope y:=by first | exact Or.inl rfl | exact Or.inr rfl)
  (ab:IQ (.ListComp elt [⟨tg,iter,ifs,0⟩] scope pos) (some (.Name y py)) F.line X.env=pure true:=by rfl)
  (hf:X.fn y=true\/X.env.scope.names.lookup y=some .local:=by first | exact .inl rfl | exact .inr rfl | assumption) :
  PS X (.Assign [.Name y py] (.ListComp elt [⟨tg,iter,ifs,0⟩] scope pos) F) (yj (xI nt js wi g tc te) (gv i)):=by
 intro pins s σ H D I h;rw[exec_Assign_Name_used _ _ _ _ ab];refine a_ (wpAny_standAt (a_ ?_))
 show wpAny _ X.A (do let _ <- comprehension (.ListComp elt [⟨tg,iter,ifs,0⟩] scope pos) scope X.env _ (newList []) false (eval iter X.env) (some (assign (.Name y py) X.env))) _ _ s
 refine a_ (G0 (qU (Qf:=λ_ s'=>SP X pins D .next s') ai S hi hg af hc he hs I h λ{cl C fp s2 H2 xe H3 s4 D'} I2 f2 hC I4 qn=>?_) (λ_ s' hq=>ee (ee hq)) λ_ _ e=>e)
 obtain⟨mC,ag,_⟩:=id I4.loc;have I5:Inv X pins σ H3 s4:=I2.call' (s':=s4) I4.os I4.base I4.hok I4.bare (λb hb=>by
  obtain⟨f0,f1,ak,f3,f4,f5⟩:=f2 b hb;exact⟨f3,f1,f4,f5⟩)
 show wpAny _ X.A (assign (.Name y py) X.env (.ref D')) _ _ s4
 have Z:C≠X.env.locals:=Gd (lt_trans I2.lt hC)
 have Y : ∀x c,X.env.cells.lookup x=some c->c≠C:=λx c e z=>by
  obtain⟨v,q⟩:=I2.cell x c e;exact Gg _ (lt_trans (z ▸ q.lt) hC)
 refine wpAny_assign_Name (qI I5 hN ac hy (v:=.ref D') rfl (λs6 I6 B=>?_) hf)
 obtain⟨ad,sb,ae⟩:=B;have aa:C≠ad:=by
  rcases ae with z | z
  .rw[z];exact Z
  .exact λe=>Y _ _ z e.symm
 refine⟨mC,ag.sameBut sb aa,λaj L=>⟨_,H3,Inv.turned (t':=s6.toks) (it:=C) I6 (λb o hb e=>L.extBut b o hb e) I4.free Z (.inr (w_ I2.sz (Hd hC))) Y (λp hp z=>?_),qn⟩⟩
 exact Gg _ (lt_trans (z ▸ e_ (I2.pin p hp).1) hC)
end
end L2
namespace Lw
open PySem L2
local macro_rules | `(tactic| ctx_has c) => `(tactic| exact ⟨rfl, rfl, rfl, by decide +kernel, rfl, by decide +kernel, by decide +kernel⟩)
local macro_rules | `(tactic| ctx_has z $S:ident) => do
  let i:=Lean.mkIdent
  let nd:=i `nd
  let hu:=i `hu
  let L:=i `L
  let vs:=i `vs
  let H:=i `H
  let Q:=i `Q
  let E:=i `E
  let h:=i `h
  let f:=i `f
  let cdv:=i `cdv
  let A:=i `A
  let outer:=i `outer
  let s:=i `s
  let hr:=i `hr
  `(tactic| (have $nd:ident:=aH.nd $S;refine($L).ok $S (λ$vs $H $Q $E $h=>?_) (λ$f $cdv $A $outer $s $H $vs $Q $E $hr $h=>?_);rotate_left;have $hu:ident:=Cp $hr;rotate_left))
local macro_rules
 | `(tactic| ctx_has v $ids*) => do
  let ns := "true_and fO wc cxK E6 zd Br C6 DA C9 DH Option.join_some tW Ab CD IsB CW CK BH mf AB Df DG zH yj gv Ba tC tOp tUn qB tB CY tOr C3 zK C8 AD vP tCB tP jQ vL BY Cj tDG sDP DP Eg rI0 rI rU rEq rNe A9 BV Bf Bm Bx BZ ze zR rIL rIT rIS rSL rSQ rST Bv iL iT tML tMS vU nV rCT Dl Bg zA zk vM wB vW Ad zO rZ sZ AN AH wJ rV iZ pS oh Ar zP zN AL vE ipM Da iE iV iD vJ tDI CN uF oZ zx EC FP E8 EK FN gy oP AA rCL AX Bu zC rCS Aw om Aj oO HO.dK.injEq HO.lst.injEq HO.tup.injEq HO.ins.injEq Af AO tSl kW uI L2.iO List.map_cons List.map_nil List.length_cons List.length_nil List.replicate List.cons_append List.nil_append List.append_nil List.getElem?_cons_zero List.getElem?_cons_succ List.set_cons_zero List.set_cons_succ Option.some.injEq V.int.injEq V.ref.injEq V.str.injEq V.bl.injEq V.ty.injEq List.cons.injEq and_assoc and_true and_self exists_eq_left exists_eq_left' exists_eq_right exists_eq_right' exists_and_left exists_eq exists_eq' reduceCtorEq false_and and_false false_or or_false exists_false decide_eq_true_eq String.reduceEq String.reduceBEq Bool.or_true Bool.true_or Bool.or_false Bool.false_or or_true true_or if_true if_false Bool.not_eq_true' Nat.reduceAdd Nat.reduceSub Nat.zero_add List.map List.append_eq List.set Nat.add_zero".splitOn " "
  let xs : Array Lean.Ident := (ns.map fun x => Lean.mkIdent x.toName).toArray ++ ids
  let s ← `(tactic| simp only [$[$xs:ident],*])
  let d : Lean.TSyntax `tactic := ⟨((s.raw.setKind `Lean.Parser.Tactic.dsimp).setArg 0 (Lean.mkAtom "dsimp")).modifyArg 4 fun o => o.modifyArg 0 fun a => a.modifyArg 1 fun l => Lean.mkNullNode (l.getArgs.extract 0 (2 * ns.length - 1))⟩
  `(tactic| ((try $d:tactic); (try $s:tactic)))
 | `(tactic| kpf_say ($H:ident, $q:ident, $hq:ident, $hh:ident, $ss:ident) al $G:ident $o) => `(tactic| (refine ⟨by decide, λ$q $hq => ?_⟩; have $hh : upd $H $q $o $q = some $o := ah; have $ss : aA $H (upd $H $q $o) := aA.upd0 $hq; generalize upd $H $q $o = $G at $hh:ident $ss:ident ⊢))
local macro_rules | `(tactic| ctx_has o) => `(tactic| first | exact Or.inl rfl | exact Or.inr rfl)
local macro_rules | `(tactic| ctx_has m) => `(tactic| first | decide | omega)
variable {P:Program} {w:World} {K:j_} {mg:Str->Option Value} {base:Heap}
abbrev eF:Stmt:=top 1
abbrev eK:Stmt:=top 3
abbrev gI:Stmt:=top 4
abbrev eo:Stmt:=top 5
abbrev dR:Stmt:=top 6
abbrev eu:Stmt:=top 7
abbrev fP:Stmt:=top 8
abbrev eG:Stmt:=top 9
abbrev fR:Stmt:=top 10
abbrev dv:Stmt:=top 11
abbrev fz:Stmt:=top 12
abbrev fk:Stmt:=top 14
abbrev bi:Stmt:=bc (top 16) 0
abbrev cE:Stmt:=bc (top 18) 0
abbrev bR:Stmt:=bc (top 18) 2
abbrev bJ:Stmt:=bc (top 18) 3
abbrev dc:Stmt:=bc (top 20) 0
abbrev cp:Stmt:=bc (top 20) 2
abbrev dn:Stmt:=bc (top 20) 3
abbrev de:Stmt:=bc (top 20) 4
abbrev cS:Stmt:=bc (top 20) 5
abbrev dG:Stmt:=bc (top 22) 0
abbrev bT:Stmt:=bc (top 22) 2
abbrev cD:Stmt:=bc (top 22) 3
abbrev cY:Stmt:=bc (top 22) 4
abbrev cH:Stmt:=bc (top 22) 5
abbrev eY:Stmt:=top 24
abbrev fY:Stmt:=top 25
abbrev dB:Stmt:=bc (top 26) 0
abbrev cj:Stmt:=bc (top 26) 2
abbrev dm:Stmt:=bc (top 26) 3
abbrev db:Stmt:=bc (top 26) 4
abbrev dE:Stmt:=bc (top 26) 5
abbrev dg:Stmt:=bc (top 26) 6
abbrev cP:Stmt:=bc (top 28) 0
abbrev ci:Stmt:=bc (top 28) 2
abbrev cG:Stmt:=bc (top 28) 3
abbrev cO:Stmt:=bc (top 28) 4
abbrev cC:Stmt:=bc (top 28) 5
abbrev cM:Stmt:=top 30
abbrev cB:Stmt:=bc (top 31) 0
abbrev cz:Stmt:=bc (top 31) 2
abbrev bZ:Stmt:=bc (top 31) 3
abbrev di:Stmt:=top 33
abbrev dj:Stmt:=bc (top 34) 0
abbrev fi:Stmt:=bc (top 34) 1
abbrev bC:Stmt:=bc (top 34) 2
abbrev aW:Stmt:=bc (top 34) 3
abbrev dh:Stmt:=bc (top 34) 4
abbrev cT:Stmt:=bc (top 34) 5
abbrev ef:Stmt:=top 36
abbrev fB:Stmt:=top 37
abbrev dH:Stmt:=top 38
abbrev fj:Stmt:=top 39
abbrev dI:Stmt:=top 40
abbrev ft:Stmt:=top 41
abbrev dQ:Stmt:=top 42
abbrev dZ:Stmt:=top 43
abbrev eC:Stmt:=top 44
abbrev fc:Stmt:=top 45
abbrev eA:Stmt:=top 46
abbrev bU:Stmt:=top 47
abbrev df:Stmt:=top 48
abbrev eN:Stmt:=top 49
abbrev eD:Stmt:=top 50
abbrev nA:Stmt:=top 51
theorem qh:aH ["things"] ["things"] (aj eF):=by ctx_has c
theorem ql:aH ["number","low","high"] ["number","low","high"] (aj eK):=by ctx_has c
theorem yi:aH ["terms","filling"] ["terms","filling"] (aj gI):=by ctx_has c
theorem sK:aH ["cells","filling"] ["cells","filling"] (aj eo):=by ctx_has c
theorem pK:aH ["wish","filling"] ["wish","filling"] (aj dR):=by ctx_has c
theorem sQ:aH ["wish","filling","hits"] ["wish","filling"] (aj eu):=by ctx_has c
theorem vm:aH ["wish","filling"] ["wish","filling"] (aj fP):=by ctx_has c
theorem pV:aH ["wish","filling"] ["wish","filling"] (aj eG):=by ctx_has c
theorem ud:aH ["wish","filling","leads","step","state","value"] ["wish","filling"] (aj fR):=by ctx_has c
theorem pQ:aH ["wish","filling","found"] ["wish","filling"] (aj dv):=by ctx_has c
theorem rG:aH ["wish","filling"] ["wish","filling"] (aj fz):=by ctx_has c
theorem rK:aH ["wish","filling"] ["wish","filling"] (aj fk):=by ctx_has c
theorem cg:aH ["self","wish"] ["self","wish"] (aj bi):=by ctx_has c
theorem kD:aH ["self","wish"] ["self","wish"] (aj cE):=by ctx_has c
theorem ky:aH ["self","rooms","least","cell","enough"] ["self","rooms"] (aj bR):=by ctx_has c
theorem jM:aH ["self","rooms","pairs"] ["self","rooms"] (aj bJ):=by ctx_has c
theorem lD:aH ["self","wish"] ["self","wish"] (aj dc):=by ctx_has c
theorem pL:aH ["self","rooms"] ["self","rooms"] (aj cp):=by ctx_has c
theorem sf:aH ["self","rooms"] ["self","rooms"] (aj dn):=by ctx_has c
theorem mh:aH ["self","rooms"] ["self","rooms"] (aj de):=by ctx_has c
theorem lq:aH ["self","rooms"] ["self","rooms"] (aj cS):=by ctx_has c
theorem nF:aH ["self","wish","step"] ["self","wish"] (aj dG):=by ctx_has c
theorem jg:aH ["self","states","room","behind","state","value"] ["self","states","room"] (aj bT):=by ctx_has c
theorem kb:aH ["self","rooms","states","cell"] ["self","rooms"] (aj cD):=by ctx_has c
theorem nO:aH ["self","rooms"] ["self","rooms"] (aj cY):=by ctx_has c
theorem mi:aH ["self","rooms"] ["self","rooms"] (aj cH):=by ctx_has c
theorem tV:aH ["term","rooms"] ["term","rooms"] (aj eY):=by ctx_has c
theorem tQ:aH ["terms","rooms","spans","term","parts"] ["terms","rooms"] (aj fY):=by ctx_has c
theorem nM:aH ["self","wish"] ["self","wish"] (aj dB):=by ctx_has c
theorem jL:aH ["self","reached","behind","may_rise_to_low","may_fall_to_high"] ["self","reached","behind"] (aj cj):=by ctx_has c
theorem mI:aH ["self","reached","parts","behind","further","part","earlier"] ["self","reached","parts","behind"] (aj dm):=by ctx_has c
theorem mB:aH ["self","rooms","spans","reached","number","term"] ["self","rooms"] (aj db):=by ctx_has c
theorem nL:aH ["self","rooms"] ["self","rooms"] (aj dE):=by ctx_has c
theorem mF:aH ["self","rooms","span"] ["self","rooms"] (aj dg):=by ctx_has c
theorem kP:aH ["self","wish"] ["self","wish"] (aj cP):=by ctx_has c
theorem ls:aH ["self","row","rooms"] ["self","row","rooms"] (aj ci):=by ctx_has c
theorem lX:aH ["self","rooms"] ["self","rooms"] (aj cG):=by ctx_has c
theorem kK:aH ["self","rooms"] ["self","rooms"] (aj cO):=by ctx_has c
theorem kB:aH ["self","rooms","fillings","cell"] ["self","rooms"] (aj cC):=by ctx_has c
theorem jf:aH ["cell","rooms","holders","tried","value"] ["cell","rooms","holders","tried"] (aj cM):=by ctx_has c
theorem kf:aH ["self","wish"] ["self","wish"] (aj cB):=by ctx_has c
theorem kr:aH ["self","rooms","holders","cell"] ["self","rooms"] (aj cz):=by ctx_has c
theorem jJ:aH ["self","rooms","seen","cell","value"] ["self","rooms"] (aj bZ):=by ctx_has c
theorem ma:aH ["wish"] ["wish"] (aj di):=by ctx_has c
theorem me:aH ["self","wish"] ["self","wish"] (aj dj):=by ctx_has c
theorem tD:aH ["self","filling"] ["self","filling"] (aj fi):=by ctx_has c
theorem jr:aH ["self","rooms"] ["self","rooms"] (aj bC):=by ctx_has c
theorem gA:aH ["self","rooms"] ["self","rooms"] (aj aW):=by ctx_has c
theorem lZ:aH ["self","rooms"] ["self","rooms"] (aj dh):=by ctx_has c
theorem kQ:aH ["self","rooms"] ["self","rooms"] (aj cT):=by ctx_has c
theorem sJ:aH ["_law_script","_law_start","_law_cells","_law_number","_law_cell"] ["_law_script","_law_start"] (aj ef):=by ctx_has c
theorem sD:aH ["_law_deal_here","_law_many","_law_number","_law_one","_law_other"] ["_law_deal_here","_law_many"] (aj fB):=by ctx_has c
theorem qp:aH ["_law_deal_here","_law_many","_law_letters","_law_names_here","_law_k","_law_word","_law_place"] ["_law_deal_here","_law_many"] (aj dH):=by ctx_has c
theorem rD:aH ["_law_deal_here","_law_value","_law_pool_here","_law_k"] ["_law_deal_here"] (aj fj):=by ctx_has c
theorem qd:aH ["_law_deal_here","_law_names_here","_law_pool_here","_law_most","_law_rooms_here","_law_name","_law_some_here"] ["_law_deal_here","_law_names_here","_law_pool_here","_law_most"] (aj dI):=by ctx_has c
theorem su:aH ["_law_deal_here","_law_things","_law_least","_law_left","_law_found","_law_k"] ["_law_deal_here","_law_things","_law_least"] (aj ft):=by ctx_has c
theorem pj:aH ["_law_deal_here","_law_low","_law_high","_law_one","_law_other"] ["_law_deal_here","_law_low","_law_high"] (aj dQ):=by ctx_has c
theorem vj:aH ["_law_deal_here","_law_some_here","_law_rooms_here","_law_terms","_law_low","_law_high","_law_name","_law_a"] ["_law_deal_here","_law_some_here","_law_rooms_here"] (aj dZ):=by ctx_has c
theorem rE:aH ["_law_deal_here","_law_some_here","_law_pool_here","_law_rows_here","_law_k","_law_row"] ["_law_deal_here","_law_some_here","_law_pool_here"] (aj eC):=by ctx_has c
theorem uy:aH ["_law_deal_here","_law_some_here","_law_pool_here","_law_many","_law_steps","_law_state","_law_value","_law_ends"] ["_law_deal_here","_law_some_here","_law_pool_here"] (aj fc):=by ctx_has c
theorem tm:aH ["_law_deal_here","_law_names_here","_law_rooms_here","_law_pool_here","_law_sorts","_law_sort","_law_some_here","_law_low","_law_rest","_law_inner"] ["_law_deal_here","_law_names_here","_law_rooms_here","_law_pool_here","_law_sorts"] (aj eA):=by ctx_has c
theorem kU:aH ["_law_wish_here","_law_filling","_law_total","_law_values","_law_state","_law_value","_law_after"] ["_law_wish_here","_law_filling"] (aj bU):=by ctx_has c
theorem lA:aH ["_law_names_here","_law_rooms_here","_law_fillings_here","_law_name","_law_more","_law_filling","_law_value","_law_other"] ["_law_names_here","_law_rooms_here"] (aj df):=by ctx_has c
theorem qu:aH ["_law_found","_law_due"] ["_law_found","_law_due"] (aj eN):=by ctx_has c
theorem qo:aH ["_law_thing","_law_wish_here","_law_names_here","_law_rooms_here","_law_kept_here","_law_filling","_law_due","_law_handed"] ["_law_thing","_law_wish_here","_law_names_here","_law_rooms_here"] (aj eD):=by ctx_has c
theorem A0:aH ["_law_script","_law_deal_here","_law_names_here","_law_pool_here","_law_rooms_here","_law_at","_law_rest","_law_inner","_law_wish_here","_law_thing","_law_less","_law_name"] ["_law_script"] (aj nA):=by ctx_has c
structure Txt (w:World) (K:j_) (mg:Str->Option Value):Prop where
 b_len:mg "len" = none
 b_max:mg "max" = none
 b_min:mg "min" = none
 b_sum:mg "sum" = none
 b_list:mg "list" = none
 b_reversed:mg "reversed" = none
 b_range:mg "range" = none
 b_isinstance:mg "isinstance" = none
 b_all:mg "all" = none
 b_any:mg "any" = none
 b_sorted:mg "sorted" = none
 b_dict:mg "dict" = none
 b_tuple:mg "tuple" = none
 b_bool:mg "bool" = none
 b_zip:mg "zip" = none
 b_set:mg "set" = none
 b_int:mg "int" = none
 b_enumerate:mg "enumerate" = none
 at_Unlike:mg "Unlike" = some (.ref (au mg "Unlike"))
 cl_Unlike:Cls K (au mg "Unlike")
 no_Unlike_wish:bI K (au mg "Unlike") "wish"
 no_Unlike_cells:bI K (au mg "Unlike") "cells"
 at_Many:mg "Many" = some (.ref (au mg "Many"))
 cl_Many:Cls K (au mg "Many")
 no_Many_wish:bI K (au mg "Many") "wish"
 no_Many_among:bI K (au mg "Many") "among"
 no_Many_cells:bI K (au mg "Many") "cells"
 no_Many_low:bI K (au mg "Many") "low"
 no_Many_high:bI K (au mg "Many") "high"
 at_Sum:mg "Sum" = some (.ref (au mg "Sum"))
 cl_Sum:Cls K (au mg "Sum")
 no_Sum_wish:bI K (au mg "Sum") "wish"
 no_Sum_terms:bI K (au mg "Sum") "terms"
 no_Sum_low:bI K (au mg "Sum") "low"
 no_Sum_high:bI K (au mg "Sum") "high"
 at_Table:mg "Table" = some (.ref (au mg "Table"))
 cl_Table:Cls K (au mg "Table")
 no_Table_wish:bI K (au mg "Table") "wish"
 no_Table_cells:bI K (au mg "Table") "cells"
 no_Table_rows:bI K (au mg "Table") "rows"
 at_Way:mg "Way" = some (.ref (au mg "Way"))
 cl_Way:Cls K (au mg "Way")
 no_Way_wish:bI K (au mg "Way") "wish"
 no_Way_cells:bI K (au mg "Way") "cells"
 no_Way_ends:bI K (au mg "Way") "ends"
 no_Way_leads:bI K (au mg "Way") "leads"
 at_Behind:mg "Behind" = some (.ref (au mg "Behind"))
 cl_Behind:Cls K (au mg "Behind")
 no_Behind_wish:bI K (au mg "Behind") "wish"
 no_Behind_cells:bI K (au mg "Behind") "cells"
 no_Behind_gap:bI K (au mg "Behind") "gap"
 at_Same:mg "Same" = some (.ref (au mg "Same"))
 cl_Same:Cls K (au mg "Same")
 no_Same_wish:bI K (au mg "Same") "wish"
 no_Same_cell:bI K (au mg "Same") "cell"
 no_Same_among:bI K (au mg "Same") "among"
 no_Same_inner:bI K (au mg "Same") "inner"
 at_Wish:mg "Wish" = some (.ref (au mg "Wish"))
 at_KEEPERS:mg "KEEPERS" = some (.ref (au mg "KEEPERS"))
 tb_KEEPERS:Cu w K (au mg "KEEPERS")
def bG (m B n:Int) (l:Addr):List (Key × V):=[(t_ "mixed",.int m),(t_ "seed",.int B),(t_ "number",.int n),(t_ "left",.ref l)]
structure aQ (H:Hp) (d l:Addr):Prop where
 ex : ∃(m sd n:Int) (xs:List Int),H d<*(bG m sd n l)/\H l*>(xs.map V.int)/\0<=n/\(∀x∈xs,0<=x)/\0<=sd/\sd < 2147483648/\xs.length<=63
def But (d l:Addr) (H H':Hp):Prop:=∀b o,b≠d->b≠l->H b=some o->H' b=some o
theorem CC : ¬ ((t_ (b_ "mixed"):Key)=t_ (b_ "seed")):=by decide+kernel
theorem C0 : ¬ ((t_ (b_ "mixed"):Key)=t_ (b_ "number")):=by decide+kernel
theorem Ep : ¬ ((t_ (b_ "mixed"):Key)=t_ (b_ "left")):=by decide+kernel
theorem BL : ¬ ((t_ (b_ "seed"):Key)=t_ (b_ "number")):=by decide+kernel
theorem Dm : ¬ ((t_ (b_ "seed"):Key)=t_ (b_ "left")):=by decide+kernel
theorem CI : ¬ ((t_ (b_ "number"):Key)=t_ (b_ "left")):=by decide+kernel
theorem qW (m B n:Int) (l:Addr):bY (bG m B n l) (t_ "mixed")=some (.int m):=by unfold bG;rw[bN rfl]
theorem um (m B n:Int) (l:Addr):bY (bG m B n l) (t_ "seed")=some (.int B):=by unfold bG;rw[bb CC,bN rfl]
theorem kC (m B n:Int) (l:Addr):bY (bG m B n l) (t_ "number")=some (.int n):=by unfold bG;rw[bb C0,bb BL,bN rfl]
theorem uD (m B n:Int) (l:Addr):bY (bG m B n l) (t_ "left")=some (.ref l):=by unfold bG;rw[bb Ep,bb Dm,bb CI,bN rfl]
theorem oM (m B n y:Int) (l:Addr):bE (bG m B n l) (t_ "number") (.int y)=bG m B y l:=by
 unfold bE;rw[gQ,kC];simp only[isSome_some,if_true,bG,y3,map_nil,if_neg C0,if_neg BL,if_neg (Gp CI)]
theorem Av (m B n y:Int) (l:Addr):bE (bG m B n l) (t_ "seed") (.int y)=bG m y n l:=by
 unfold bE;rw[gQ,um];simp only[isSome_some,if_true,bG,y3,map_nil,if_neg CC,if_neg (Gp BL),if_neg (Gp Dm)]
theorem uV (m B n:Int) (l:Addr):(bG m B n l).length < l_:=by show 4 < l_;decide
theorem fX {i j:Int} (B:0<=i) (h1:i < 4294967296):yd i j:=.inl ⟨(),()⟩
def sh:Sp:=λvs H Q _=>∃(d l:Addr) (m:Int),vs=[.ref d,.int m]/\aQ H d l/\0 < m/\m < 18446744073709551616/\∀(r:Int) (H':Hp),0<=r->r < m->aQ H' d l->But d l H H'->Q (.int r) H'
theorem wv (m B n:Int) (l:Addr):iW [] (bG m B n l)=bG m B n l:=by
 have e1:bE ([]:List (Key × V)) (t_ (b_ "mixed")) (.int m)=[(t_ (b_ "mixed"),.int m)]:=gj _ gg
 have e2:bE [((t_ (b_ "mixed"):Key),V.int m)] (t_ (b_ "seed")) (.int B)=[(t_ (b_ "mixed"),.int m),(t_ (b_ "seed"),.int B)]:=gj _ (by rw[bb CC,gg])
 have L:bE [((t_ (b_ "mixed"):Key),V.int m),(t_ (b_ "seed"),.int B)] (t_ (b_ "number")) (.int n)=[(t_ (b_ "mixed"),.int m),(t_ (b_ "seed"),.int B),(t_ (b_ "number"),.int n)]:=gj _ (by rw[bb C0,bb BL,gg])
 have F:bE [((t_ (b_ "mixed"):Key),V.int m),(t_ (b_ "seed"),.int B),(t_ (b_ "number"),.int n)] (t_ (b_ "left")) (.ref l)=bG m B n l:=gj _ (by rw[bb Ep,bb Dm,bb CI,gg])
 show bE (bE (bE (bE ([]:List (Key × V)) (t_ (b_ "mixed")) (.int m)) (t_ (b_ "seed")) (.int B)) (t_ (b_ "number")) (.int n)) (t_ (b_ "left")) (.ref l)=_
 rw[e1,e2,L,F]
theorem uW (ns:List Int) (lo hi:Option Int) : ∃ms:List Int,gP (ns.map V.int) lo hi=ms.map V.int/\ms.length<=ns.length:=by
 unfold gP;refine⟨(ns.drop (HT.sIx (ns.map V.int).length 0 lo)).take (HT.sIx (ns.map V.int).length (ns.map V.int).length hi - HT.sIx (ns.map V.int).length 0 lo),by simp[map_take,map_drop],?_⟩
 rw[G6,HX];omega
theorem int_at {x:V} (h:(ms.map V.int)[i]? = some x) : ∃v,x = .int v:=by
 rw[f_] at h;cases e:ms[i]? with
 | none=>rw[e] at h;cases h
 | some z=>rw[e] at h;exact⟨z,(h_ h).symm⟩
def zo (K:j_):Sp:=λvs H Q _=>∃(a:Addr) (ns:List Int) (st:Int),vs=[.ref a,.int st]/\SqL K H a (ns.map V.int)/\ns.length<=63/\0<=st/\st<=63/\∀(d l:Addr) (H':Hp),H d=none->H l=none->aQ H' d l->aA H H'->Q (.ref d) H'
theorem bz {Q:VK} {E:XK} (D:aQ H d l) (F:0 < m) (B:m < 18446744073709551616) (h : ∀(r:Int) (H':Hp),0<=r->r < m->aQ H' d l->But d l H H'->Q (.int r) H'):sh [.ref d,.int m] H Q E:=⟨d,l,m,rfl,D,F,B,h⟩
theorem But.refl (H:Hp):But d l H H:=λ_ _ _ _ e=>e
theorem But.trans (a:But d l H H1) (b:But d l H1 H2):But d l H H2:=λc o h1 h2 e=>b c o h1 h2 (a c o h1 h2 e)
theorem But.new (a:But d l H H1) (hp:H1 p=none):But d l H (upd H1 p o):=λc u h1 h2 e=>by
 have e1:=a c u h1 h2 e;rw[ao (az e1 hp)];exact e1
theorem But.same (a:But d l H H1) (s:aA H1 H2):But d l H H2:=λc u h1 h2 e=>s c u (a c u h1 h2 e)
theorem aQ.ne (D:aQ H d l) (hp:H p=none):p≠d/\p≠l:=by
 obtain⟨m,F,n,xs,B,hl,_⟩:=D.ex;exact⟨(az B hp).symm,(az hl hp).symm⟩
theorem aQ.same (D:aQ H d l) (s:aA H H'):aQ H' d l:=by
 obtain⟨m,B,n,xs,F,hl,r⟩:=D.ex;exact⟨m,B,n,xs,s _ _ F,s _ _ hl,r⟩
theorem aQ.new (D:aQ H d l) (hp:H p=none):aQ (upd H p o) d l:=D.same (aA.upd0 hp)
theorem aQ.put (D:aQ H d l) (h1:p≠d) (h2:p≠l):aQ (upd H p o) d l:=by
 obtain⟨m,B,n,xs,F,hl,r⟩:=D.ex;exact⟨m,B,n,xs,by rw[ao h1.symm];exact F,by rw[ao h2.symm];exact hl,r⟩
theorem But.put (a:But d l H H1) (hp:H p=none):But d l H (upd H1 p o):=λc u h1 h2 e=>by
 rw[ao (az e hp)];exact a c u h1 h2 e
theorem But.free (a:But d l H H1) (D:aQ H1 d l) (hp:H1 p=none):H p=none:=by
 obtain⟨h1,h2⟩:=D.ne hp;cases e:H p with
 | none=>rfl
 | some o=>rw[a p o h1 h2 e] at hp;cases hp
theorem xv {xs:List α} {i:Int} (F:0<=i) (h1:i < (xs.length:Int)) : ∃v,atI xs i=some v/\v∈xs:=by
 obtain⟨n,rfl⟩:=GT F;have B:n < xs.length:=()
 exact⟨xs[n],da (by simp[B]),HD B⟩
theorem lf {Q:VK} {E:XK} (D:aQ H d l) (hp:H p=none) (m0:0 < m) (Y:m < 18446744073709551616) (hm:m=(vs.length:Int)) (h : ∀(r:Int) (v:V) (H':Hp),v∈vs->atI vs r=some v->aQ H' d l->But d l H H'->H' p*>vs->Q (.int r) H'):sh [.ref d,.int m] (upd H p (.lst vs)) Q E :=
 bz (D.new hp) m0 Y λr H' Z r1 L B=>by
  obtain⟨v,e,F⟩:=xv (xs:=vs) Z ()
  exact h r v H' F e L (((But.refl H).new hp).trans B) (B p _ (D.ne hp).1 (D.ne hp).2 ah)
abbrev Dz0:=Fn P w K mg base "_law_draw" 1 ["_law_deal_here","_law_many"] (sh)
theorem sM (T:Txt w K mg) (L:FnL K mg "_law_draw" fB ["_law_deal_here","_law_many"]) : @Dz0 P w K mg base:=by
 ctx_has z sD <;> obtain⟨d,l,m,rfl,D,m0,m1,k⟩:=h
 .rfl
 refine⟨_,(ak (ub PassesOwn.never (PW.pt (oH (aS cI (cm hu (pvM 0) aO) aw) (oH (aS mS (aM ck T.b_len (af (cm hu (pvM 0) aO) ap)) aw) (sr (aS cI (cm hu (pvM 0) aO) aw))))) (ay (iq hu (pvM 0) aO (Dh PySem.F.slot_list_pop PySem.F.type_list_pop CQ (cm hu (pvM 0) aO)) rfl)))
  (ak (aL 2 (cm hu (pvM 0) aO))
  (ak (bS (aS mS (pvM 2) aw) (ak (iq hu (pvM 0) aO (aT yS (pvM 2) (pvM 1)) rfl)
  (ay (aI (aT iy (pvM 2) (pvM 1))))) aV)
  (ak (aL 3 (aT iy (aT br (aT gO (cm hu (pvM 0) aO) aw) aw) aw))
  (ak (iq hu (pvM 0) aO (aT iy (aT br (aT gO (pvM 3) aw) aw) aw) rfl)
  (ak (aL 4 (aT iy (aT gO (cm hu (pvM 0) aO) (cm hu (pvM 0) aO)) aw))
  (ay (aI (aT iy (aT br (aT gO (aT iy (aT gO (pvM 3) (pvM 3)) aw) aw) (pvM 4)) (pvM 1)))))))))),?_⟩
 obtain⟨Y,sd,n,xs,hd,hl,n0,hx,s0,s1,Z⟩:=D.ex;have dl:d≠l:=bo hd hl (by intro z;cases z)
 refine tY (λμ σ H'=>∃(n:Int) (xs:List Int),σ=[-d,some (.int m),none,none,none]/\H' d<*(bG Y sd n l)/\H' l*>(xs.map V.int)/\0<=n/\(∀x∈xs,0<=x)/\xs.length<=63/\But d l H H'/\μ=xs.length)
  (λσ H'=>∃(n:Int) (xs:List Int),σ=[-d,some (.int m),none,none,none]/\H' d<*(bG Y sd n l)/\H' l*>(xs.map V.int)/\0<=n/\(∀x∈xs,0<=x)/\xs.length<=63/\But d l H H')
  ⟨_,n,xs,rfl,hd,hl,n0,hx,Z,λb o _ _ e=>e,rfl⟩ ?_ ?_
 .rintro R hR μ σ H1 ⟨n1,xs1,rfl,hd1,hl1,n01,hx1,hlen1,bt,rfl⟩
  have hr:=hR _ _ ⟨n1,xs1,rfl,hd1,hl1,n01,hx1,hlen1,bt⟩;ctx_has v hd1 hl1 kC uD qW
  refine fF (λh1=>?_) (λ_=>hr)
  refine fF (λh2=>?_) (λ_=>hr)
  refine fF (λh3=>?_) (λ_=>hr)
  rcases Is xs1 with rfl | ⟨ys,z,rfl⟩
  .simp at h2
  refine⟨λσ' H'=>σ'=[-d,some (.int m),none,none,none]/\H'=upd (upd H1 l (.lst (ys.map V.int))) d (.dK (bG Y sd z l)),?_,V.int z,by simp,bG Y sd n1 l,by rw[ao dl];exact hd1,uV _ _ _ _,by rw[oM];simp⟩
  rintro _ _ ⟨rfl,rfl⟩
  refine⟨ys.length,by simp,rfl,z,ah,ys,by rw[ao dl.symm,ah],hx1 z (by simp),λx hx=>hx1 x (by simp[hx]),by simp at hlen1;omega,λb o h1 h2 e=>?_,rfl⟩
  rw[ao h1,ao h2];exact bt b o h1 h2 e
 .rintro σ H1 ⟨n1,xs1,rfl,hd1,hl1,n01,hx1,hlen1,bt⟩
  ctx_has v hd1 hl1 kC uD qW um uV oM Av ah
  have aa : ∀(r B n':Int),0<=r->r < m->0<=n'->0<=B->B < 2147483648->Q (.int r) (upd H1 d (HO.dK (bG Y B n' l))):=λr B n' r0 r1 ac h0 h1 =>
   k r _ r0 r1 ⟨Y,B,n',xs1,ah,by rw[ao dl.symm];exact hl1,ac,hx1,h0,h1,hlen1⟩ λb o h1 h2 e=>by rw[ao h1];exact bt b o h1 h2 e
  refine fF (λh1=>?_) (λh1=>?_)
  .exact⟨⟨m0,m1⟩,m0,aa _ _ _ (Int.emod_nonneg _ ()) (Int.emod_lt_of_pos _ m0) (Int.ediv_nonneg () ()) s0 s1⟩
  .generalize hone:(sd * 48271+7919) % 2147483647=one
   have o0:0<=one:=()
   have o1:one < 2147483647:=()
   generalize ad:(one * 40692+104729) % 2147483399=ab;have p0:0<=ab:=()
   have p1:ab < 2147483399:=()
   have q0:=Int.emod_nonneg (one * one) (show(2147483629:Int)≠0 by decide)
   have q1:=Int.emod_lt_of_pos (one * one) (show(0:Int) < 2147483629 by decide)
   exact⟨fX s0 (),∅,fX o0 (),∅,fX p0 (),∅,fX o0 (),∅,fX q0 (),m0,
    aa _ _ _ (Int.emod_nonneg _ ()) (Int.emod_lt_of_pos _ m0) n01 p0 ()⟩
abbrev Dz1:=Fn P w K mg base "_law_deal" 1 ["_law_script","_law_start"] (zo K)
theorem sN (T:Txt w K mg) (L:FnL K mg "_law_deal" ef ["_law_script","_law_start"]) : @Dz1 P w K mg base:=by
 ctx_has z sJ <;> obtain⟨a,ns,st,rfl,hS,an,aq,ar,k⟩:=h
 .rfl
 refine⟨_,(ak (gR 2 (N:=["_law_cell"]) (nt:=1) (js:=[]) (aP ["_law_script","_law_start","_law_cells","_law_number","_law_cell"] (aj ef).names) (ik K (cJ Ex (pvM 0) (dr (pvM 1)) (dr aw))) (aJ 0) aZ cF (aM (rn rfl) T.b_max (af (pvM 0) (af (aT iB aw (pvM 0)) ap))))
  (ak (aL 3 (aT br aw (pvM 1)))
  (ak (bD (ik K (pvM 2)) (aJ 4) (ay (aL 3 (aT iy (aT br (aT gO (pvM 3) aw) (pvM 4)) aw))))
  (ay (aI (sI (il aO (aT iy (aM (kz rfl) T.b_sum (af (cJ Ex (pvM 0) dJ (dr aw)) ap)) aw) (il aO (pvM 3) (il aO aw (il aO (oz rfl rfl T.b_list rfl T.b_reversed (pvM 2)) rH)))) rfl rfl (by nofun) ∅)))))),?_⟩
 ctx_has v
 refine⟨_,hS,λp hp=>⟨_,ah,λD hD=>?_⟩⟩
 have pD:D≠p:=by rintro rfl;rw[ah] at hD;cases hD
 obtain⟨ms,am,au⟩:=uW ns (some st) (some 63);rw[am] at hD ⊢;rw[ao pD] at hD;refine gl dD (λi ys H2=>∃cs:List Int,ys=cs.map V.int/\cs.length=i/\(∀x∈cs,0<=x)/\H2 p*>(ms.map V.int)/\H2 D*>ys/\aA H H2)
  ⟨[],rfl,rfl,by simp,by rw[ao pD.symm,ah],ah,(aA.upd0 hp).upd_new (by rw[ao pD];exact hD)⟩ (λi ys H2 ac=>by obtain⟨_,_,_,_,h,_⟩:=ac;exact(.of h)) ?_ ?_
 .rintro i x ys H2 hi Z ⟨cs,rfl,rfl,hc,h1,h2,sm⟩
  obtain⟨v,rfl⟩:=int_at Z;ctx_has v h2
  have hi:cs.length < 63:=by simp at hi;omega
  refine⟨by simp;exact aU (),cs++[if 0 - v > v then 0 - v else v],by simp,by simp,λx Z=>?_,by rw[ao pD.symm];exact h1,ah,λb o e=>?_⟩
  .rcases y8.mp Z with q | q
   .exact hc x q
   .rw[g_.mp q];split <;> omega
  .rw[ao (az e hD)];exact sm b o e
 .rintro ys H2 ⟨cs,rfl,hc,hpos,h1,h2,sm⟩
  have ai:cs.length<=63:=by simp at hc;omega
  ctx_has v h2
  refine cL dD (λi σ H3=>∃(z:Int) (v:Option V),σ=[-a,some (.int st),-D,some (.int z),v]/\0<=z/\z < 2147483648/\H3=H2)
   ⟨_,_,rfl,(),(),rfl⟩ (λi σ H3 ab=>by obtain⟨_,_,_,_,_,h⟩:=ab;exact(by rw[h];exact .of h2)) ?_ ?_
  .rintro i x σ H3 hi Z ⟨z,v,rfl,z0,z1,rfl⟩
   obtain⟨y,rfl⟩:=int_at Z;ctx_has v
   exact⟨fX z0 (),∅,(),()⟩
  .rintro σ H3 ⟨z,v,rfl,z0,z1,rfl⟩
   ctx_has v h2 BH
   intro d hd;refine⟨_,(sm.upd_new hd).seq hS,λp2 Y=>?_⟩
   have F:p2≠d:=by rintro rfl;rw[ah] at Y;cases Y
   have B:H3 p2=none:=by rwa [ao F] at Y
   obtain⟨xs,ad,_⟩:=uW ns none (some 1);rw[ad];have ag:D≠p2:=az h2 B
   have ae:D≠d:=az h2 hd
   refine⟨xs,.of ah,∅,_,by rw[ao ag,ao ae];exact h2,λl hl=>?_⟩
   have l1:l≠p2:=by rintro rfl;rw[ah] at hl;cases hl
   have l2:l≠d:=by rintro rfl;rw[ao F.symm,ah] at hl;cases hl
   have aa:H3 l=none:=by rwa [ao l1,ao l2] at hl
   refine⟨by rw[ao l2.symm,ao F.symm,ah],bG (xs.sum % 2) z 0 l,rfl,by show 4<=15;decide,?_⟩
   rw[wv];refine k d l _ (sm.free hd) (sm.free aa) ⟨_,z,0,cs.reverse,ah,by rw[ao l2,ah,List.map_reverse],(),λx Z=>hpos x (List.mem_reverse.mp Z),z0,z1,by simpa using ai⟩ λb o e=>?_
   have e3:=sm b o e;rw[ao (az e3 hd),ao (az e3 aa),ao (az e3 B),ao (az e3 hd)];exact e3
def xj:Sp:=λvs H Q _=>∃(d l:Addr) (m:Int),vs=[.ref d,.int m]/\aQ H d l/\0<=m/\m<=20/\∀(p:Addr) (ws:List Str) (H':Hp),H p=none->gY ws->ws.length=m.toNat->H' p*>(ws.map V.str)->aQ H' d l->But d l H H'->Q (.ref p) H'
theorem Ao {B:Str} (n1:gm B) {P:Str->Prop} (h:P (pC B)):B.length<=l_/\∃c,atI B.cps.toList 0=some c/\∃i rest,HI (b_ "abcdefghijklmnopqrstuvwxyz") { cps := #[c] } 0 (b_ "abcdefghijklmnopqrstuvwxyz").length 1=i :: rest/\(0:Int) < 26 /\
  (b_ "abcdefghijklmnopqrstuvwxyz").length<=l_/\∃c,atI (b_ "abcdefghijklmnopqrstuvwxyz").cps.toList (((i:Nat)+1:Int) % 26)=some c/\B.length<=l_/\(Str.mk #[c]).length+(Hb B (some 1) none).length<=l_/\P ((Str.mk #[c])++Hb B (some 1) none):=by
 obtain⟨c,cs,e,hc,aa,hl⟩:=n1.cons;have F:B.length<=l_:=Hd (aU (w_ n1.le ∅))
 have hs:=Io B (some 1) none;have hw:=n1.le;refine⟨F,c,by rw[e];exact tS _ _,_,_,qf hc,∅,ny,_,pP () (),F,Hd (aU (by show 1+_<=1000;omega)),?_⟩
 have Z:=hc;simp only[eQ,B_,decide_eq_true_eq] at Z;have Y:B.length=cs.length+1:=by rw[<- lm,e];rfl
 have L:(Str.mk #[97+((((c - 97:Nat):Int)+1) % 26).toNat])++Hb B (some 1) none=pC B:=by
  apply Ck
  rw[kE,mO,e,Y];have e1:97+((((c - 97:Nat):Int)+1) % 26).toNat=uO c:=by unfold uO;omega
  have e2:HT.sIx (cs.length+1) 0 (some 1)=1:=by
   show(if (1:Int) < 0 then((1:Int)+((cs.length+1:Nat):Int)).toNat else min (1:Int).toNat (cs.length+1))=1
   rw[if_neg ∅]
   show min 1 (cs.length+1)=1
   omega
  rw[e1,e2,HT.sIx_none];simp[pC,e,B0]
 rw[L];exact h
theorem ja {Dn:nE} {Y L Z:Option V} {wd:Str} (hw:gm wd) (af:ws.length<=20) (hp:H p*>(ws.map V.str))
  (ad : ∀(B:Str) (H':Hp),gm B->B∉ws->B∉gs->aA H H'->Dn.nx [-d,Y,some (.str (b_ "abcdefghijklmnopqrstuvwxyz")),-p,L,some (.str B),Z] H') :
  vX
   (tOr (qB (tOp (AX false) (fO 5) (fO 3)))
    (qB (tOp (AX false) (fO 5) (BY (jQ (tC (V.str "in")) (jQ (tC (V.str "from")) (jQ (tC (V.str "to")) (jQ (tC (V.str "end")) vL))))))))
   (yj (tOp rCS (tOp rIS (fO 2) (tOp (rI (λx j=>0 < j) λi j=>V.int (i % j)) (tOp (rI0 λi j=>V.int (i+j)) (tMS nV (fO 2) (jQ (tOp rIS (fO 5) (tC (V.int 0))) vL)) (tC (V.int 1))) (tC (V.int 26))))
     (tSl Bv (fO 5) (uI (tC (V.int 1))) kW)) (gv 5))
   Dn [-d,Y,some (.str (b_ "abcdefghijklmnopqrstuvwxyz")),-p,L,some (.str wd),Z] H:=by
 obtain⟨ab,h0⟩:=yo hw (F:=ws++gs) (by simp[gs];omega)
 refine tY (λμ σ H'=>∃B:Str,σ=[-d,Y,some (.str (b_ "abcdefghijklmnopqrstuvwxyz")),-p,L,some (.str B),Z]/\gm B/\pE μ B∉ws++gs/\aA H H')
  (λσ H'=>∃B:Str,σ=[-d,Y,some (.str (b_ "abcdefghijklmnopqrstuvwxyz")),-p,L,some (.str B),Z]/\gm B/\B∉ws/\B∉gs/\aA H H')
  ⟨ab,wd,rfl,hw,h0,aA.refl _⟩ ?_ ?_
 .rintro R hR μ σ H1 ⟨w1,rfl,n1,f1,sm⟩
  have ac:=sm _ _ hp;have step : ∀H2,aA H H2->w1∈ws++gs->∀ σ' H',(σ'=[-d,Y,some (.str (b_ "abcdefghijklmnopqrstuvwxyz")),-p,L,some (.str (pC w1)),Z]/\H'=H2)->∃m',m' < μ/\∃B:Str,σ'=[-d,Y,some (.str (b_ "abcdefghijklmnopqrstuvwxyz")),-p,L,some (.str B),Z]/\gm B/\pE m' B∉ws++gs/\aA H H':=λH2 aa ae=>by
   rintro _ _ ⟨rfl,rfl⟩
   cases μ with
   | zero=>exact absurd ae f1
   | succ μ=>exact⟨μ,G8 _,pC w1,rfl,BW n1,f1,aa⟩
  ctx_has v ac
  refine⟨rfl,yf _,?_⟩
  rw[ua];refine fF (λh=>?_) (λh=>?_)
  .exact⟨_,step H1 sm (A_ _ (by simpa using h)),Ao n1 (P:=λz=>[some (V.ref d),Y,some (.str (b_ "abcdefghijklmnopqrstuvwxyz")),-p,L,some (.str z),Z]=[some (V.ref d),Y,some (.str (b_ "abcdefghijklmnopqrstuvwxyz")),-p,L,some (.str (pC w1)),Z]/\H1=H1) ⟨rfl,rfl⟩⟩
  .refine⟨∅,λq hq=>⟨_,ah,rfl,by decide+kernel,?_⟩⟩
   have aa:aA H (upd H1 q (.lst (gs.map V.str))):=sm.upd_new hq
   show(if inV (V.str w1) (gs.map V.str)=true then _ else _)
   rw[ua];refine fF (λh2=>?_) (λh2=>?_)
   .exact⟨_,step _ aa (Ga _ (by simpa using h2)),Ao n1 (P:=λz=>[some (V.ref d),Y,some (.str (b_ "abcdefghijklmnopqrstuvwxyz")),-p,L,some (.str z),Z]=[some (V.ref d),Y,some (.str (b_ "abcdefghijklmnopqrstuvwxyz")),-p,L,some (.str (pC w1)),Z]/\_=_) ⟨rfl,rfl⟩⟩
   .exact hR _ _ ⟨w1,rfl,n1,by simpa using h,by simpa using h2,aa⟩
 .rintro σ H1 ⟨w1,rfl,n1,f1,f2,sm⟩
  exact ad w1 H1 n1 f1 f2 sm
abbrev Dz2:=Fn P w K mg base "_law_names" 2 ["_law_deal_here","_law_many"] (xj)
theorem pU (T:Txt w K mg) (L:FnL K mg "_law_names" dH ["_law_deal_here","_law_many"]) (Fa : @Dz0 P w K mg base) : @Dz2 P w K mg base:=by
 ctx_has z qp <;> obtain⟨d,l,m,rfl,D,m0,m1,k⟩:=h
 .rfl
 refine⟨_,(ak (aL 2 aO)
  (ak (aL 3 (dA ap))
  (ak (bD (fD rfl T.b_range (af (pvM 1) ap)) (aJ 4) (ak (aL 5 (Ct PySem.F.slot_str_join PySem.F.type_str_join BJ aO (af (bB (N:=["_law_j","_law_letters","_law_deal_here"]) (nt:=1) (js:=[2,0]) (aP ["_law_deal_here","_law_many","_law_letters","_law_names_here","_law_k","_law_word","_law_place"] (aj dH).names) (fD rfl T.b_range (af (aT br aw (aC Fa (af (pvM 0) (af aw ap)))) ap)) (aJ 0) aZ cF (aK Cn (pvM 1) (aC Fa (af (pvM 2) (af aw ap))))) ap)))
  (ak (bS (PW.pt (oH (aS mS (pvM 4) aw) (sr (aS cI (aC Fa (af (pvM 0) (af aw ap))) aw)))) (ak (aL 6 (aC Fa (af (pvM 0) (af (aM xM T.b_len (af (aK iR (pvM 3) (mW jw aw)) ap)) ap))))
  (ay (aL 5 (aT tF (aT tF (cJ wD (aK iR (pvM 3) (mW jw aw)) dJ (dr (pvM 6))) (aK Cn (pvM 5) aw)) (cJ wD (aK iR (pvM 3) (mW jw aw)) (dr (aT br (pvM 6) aw)) dJ))))) aV)
  (ak (ub PassesOwn.never (PW.pt (qK (aS tJ (pvM 5) (pvM 3)) (lU (aS tJ (pvM 5) (dA (af aO (af aO (af aO (af aO ap))))))))) (ay (aL 5 (aT tF (aK Cn (pvM 2) (aT iy (aT br (Ct PySem.F.slot_str_index PySem.F.type_str_index zQ (pvM 2) (af (aK Cn (pvM 5) aw) ap)) aw) aw)) (cJ wD (pvM 5) (dr aw) dJ)))))
  (ay (dz (jP Gj Gk eI (pvM 3) (af (pvM 5) ap))))))))
  (ay (aI (pvM 3)))))),?_⟩
 ctx_has v
 refine⟨∅,λp hp=>⟨(),(),?_⟩⟩
 have Y:=D.ne hp;refine cL eE (λi σ H'=>∃(ws:List Str) (vk vw vp:Option V),σ=[-d,some (.int m),some (.str (b_ "abcdefghijklmnopqrstuvwxyz")),-p,vk,vw,vp]/\gY ws/\ws.length=i/\H' p*>(ws.map V.str)/\aQ H' d l/\But d l H H')
  ⟨[],_,_,_,rfl,.nil,rfl,ah,D.new hp,(But.refl H).new hp⟩ (λ_ _ _ _=>Gf) ?_ ?_
 .rintro i x σ H2 hi hx ⟨ws,vk,vw,vp,rfl,ok,hlen,h2,D2,B2⟩
  rw[aY] at hi;rw[lh hi] at hx;obtain rfl:=h_ hx
  ctx_has v
  refine bz D2 ∅ ∅ λr H3 r0 r1 D3 B3=>?_
  ctx_has v
  refine⟨(),(),λq hq=>?_⟩
  have h3:=B3 p _ Y.1 Y.2 h2;have nq:=D3.ne hq;have an:p≠q:=az h3 hq
  refine gl eE (λj ys H4=>∃cs:List Nat,ys=cs.map (λc=>V.str ⟨#[c]⟩)/\cs.length=j/\(∀c∈cs,eQ c=true)/\H4 q*>ys/\H4 p*>(ws.map V.str)/\aQ H4 d l/\But d l H H4)
   ⟨[],rfl,rfl,by simp,ah,by rw[ao an];exact h3,D3.new hq,(B2.trans B3).new hq⟩ (λ_ _ _ _=>Gf) ?_ ?_
  .rintro j x ys H4 hj hx ⟨cs,rfl,hcl,hcs,h4,h4p,D4,B4⟩
   ctx_has v
   rw[aY] at hj;refine bz D4 ∅ ∅ λr5 H5 ai ae D5 B5=>?_
   have h5:=B5 q _ nq.1 nq.2 h4;have ar:=B5 p _ Y.1 Y.2 h4p;refine⟨r5,rfl,ny,_,pP ai ae,h5,by simp;exact aU (),cs++[97+r5.toNat],by simp,by simp;omega,λc hc=>?_,ah,by rw[ao an];exact ar,D5.put nq.1 nq.2,(B4.trans B5).put (B2.free D2 ((B3.free D3 hq)))⟩
   rcases y8.mp hc with z | z
   .exact hcs c z
   .rw[g_.mp z]
    unfold eQ;rw[B_,decide_eq_true_eq,decide_eq_true_eq];omega
  .rintro ys H4 ⟨cs,rfl,hcl,hcs,h4,h4p,D4,B4⟩
   rw[aY] at hcl;ctx_has v
   refine⟨cs.map λc=>⟨#[c]⟩,by rw[h4];simp,by rw[yR,show(b_ "").length=0 by decide+kernel];omega,?_⟩
   have hj:=vN cs;generalize Txt.join (b_ "") (cs.map λc=>Str.mk #[c])=wd at hj ⊢
   obtain⟨c0,am,rfl⟩ : ∃c0 am,cs=c0 :: am:=by
    cases cs with
    | nil=>simp at hcl;omega
    | cons a b=>exact⟨a,b,rfl⟩
   have ad:gm wd:=.of hj (hcs c0 (by simp)) (λx hx=>hcs x (by simp[hx])) (by simp at hcl;omega)
   have Z : ∀{w:Str},gm w->w.length<=l_:=λh=>Hd (aU (w_ h.le ∅))
   have aa:ws.length<=20:=()
   have ac : ∀(B:Str) (H5 H6:Hp),aQ H5 d l->But d l H H5->aA H5 H6->gm B->B∉ws->B∉gs->∃ab,gY ab/\ab.length=i+1/\upd H6 p (HO.lst (ws.map V.str++[V.str B])) p=some (HO.lst (ab.map V.str))/\aQ (upd H6 p (HO.lst (ws.map V.str++[V.str B]))) d l/\But d l H (upd H6 p (HO.lst (ws.map V.str++[V.str B]))) :=
    λB H5 H6 D5 B5 sm n f1 f2=>⟨ws++[B],ok.snoc n f1 f2,by simp[hlen],by rw[ah];simp,(D5.same sm).put Y.1 Y.2,(B5.same sm).put hp⟩
   refine fF (λh=>?_) (λh=>?_)
   .refine bz D4 ∅ ∅ λr5 H5 ai ae D5 B5=>?_
    ctx_has v
    have h5:=B5 p _ Y.1 Y.2 h4p;refine fF (λh6=>?_) (λh6=>?_)
    .rcases Is ws with rfl | ⟨ws0,z,rfl⟩
     .simp at hlen;omega
     have nz:gm z:=ok.nm z (by simp)
     refine⟨_,h5,_,by rw[Hw,Gz];exact oI _ _,z,rfl,Z nz,?_⟩
     refine bz D5 (by have:=nz.pos;omega) (by have:=nz.le;omega) λr7 H7 au aq D7 B7=>?_
     have h7:=B7 p _ Y.1 Y.2 h5;ctx_has v h7
     have ag:atI (List.map V.str (ws0.concat z)) (-1)=some (V.str z):=by rw[Hw,Gz];exact oI _ _
     have l1:=Io z none (some r7);have l2:=Io z (some (r7+1)) none;have l3:=nz.le;refine⟨_,ag,z,rfl,Z nz,Z ad,c0,by rw[hj];exact tS _ _,Hd (aU (by show _+1<=1000;omega)),_,ag,z,rfl,Z nz,Hd (aU (by rw[pA];show _+1+_<=1000;omega)),?_⟩
     refine ja (BM nz (hcs c0 (by simp)) au aq) aa h7 λB H8 n f1 f2 sm=>?_
     have h8:=sm _ _ h7;ctx_has v h8
     exact⟨by simp only[d_];exact aU (),ac B H7 H8 D7 ((B4.trans B5).trans B7) sm n f1 f2⟩
    .refine ja ad aa h5 λB H6 n f1 f2 sm=>?_
     have h6:=sm _ _ h5;ctx_has v h6
     exact⟨by simp;exact aU (),ac B H5 H6 D5 (B4.trans B5) sm n f1 f2⟩
   .refine ja ad aa h4p λB H6 n f1 f2 sm=>?_
    have h6:=sm _ _ h4p;ctx_has v h6
    exact⟨by simp;exact aU (),ac B H4 H6 D4 B4 sm n f1 f2⟩
 .rintro σ H2 ⟨ws,vk,vw,vp,rfl,ok,hlen,h2,D2,B2⟩
  ctx_has v
  rw[aY] at hlen;exact k p ws H2 hp ok hlen h2 D2 B2
def gN (p:Addr) (H H':Hp):Prop:=∀b o,b≠p->H b=some o->H' b=some o
def bj (H:Hp) (kvs:List (Key × V)) (cs:List Str) (rm:Str->List Int):Prop:=∀c∈cs,∃a,bY kvs (t_ c)=some (.ref a)/\H a>>((rm c).map V.int)
structure gk (H H':Hp):Prop where
 tup : ∀a vs,H a>>vs->H' a>>vs
 ins : ∀a C dx fs,H a=some (.ins C dx fs)->H' a=some (.ins C dx fs)
 dt : ∀a ks,H a=some (.dT ks)->H' a=some (.dT ks)
theorem aA.keepTI (s:aA H H'):gk H H':=⟨λa vs e=>s _ _ e,λa C dx fs e=>s _ _ e,λa ks e=>s _ _ e⟩
theorem But.keepTI (B:But d l H H') (D:aQ H d l):gk H H':=by
 obtain⟨m,L,n,xs,F,hl,_⟩:=D.ex;exact⟨λa vs e=>B a _ (bo e F (by intro z;cases z)) (bo e hl (by intro z;cases z)) e,λa C dx fs e=>B a _ (bo e F (by intro z;cases z)) (bo e hl (by intro z;cases z)) e,λa ks e=>B a _ (bo e F (by intro z;cases z)) (bo e hl (by intro z;cases z)) e⟩
theorem jB {k:Key} {v:V} (h : ∀x∈kvs,fb x.2=true) (F:fb v=true) : ∀x∈bE kvs k v,fb x.2=true:=by
 intro x B;unfold bE at B
 split at B
 .obtain⟨y,hy,rfl⟩:=r_.mp B
  split
  .exact F
  .exact h y hy
 .rcases y8.mp B with q | q
  .exact h x q
  .rw[g_.mp q];exact F
theorem bj.same (h:bj H kvs cs rm) (s : ∀a vs,H a>>vs->H' a>>vs):bj H' kvs cs rm:=λc B=>by
 obtain⟨a,e1,e2⟩:=h c B;exact⟨a,e1,s _ _ e2⟩
def cV {α:Type} (f:Str->α) (c:Str) (v:α):Str->α:=λx=>if x=c then v else f x
def okF (rm:Str->List Int) (cs:List Str) (g:Str->Int):Prop:=∀c∈cs,g c∈rm c
def cU (H:Hp) (x:V) (cs:List Str) (g:Str->Int):Prop:=∃a kvs,x = .ref a/\H a<*kvs/\(∀c∈cs,bY kvs (t_ c)=some (.int (g c)))/\kvs.length<=cs.length/\∀x∈kvs,fb x.2=true
theorem cU.keep {x:V} (h:cU H x cs g) (k : ∀a kvs,H a<*kvs->H' a<*kvs):cU H' x cs g:=by
 obtain⟨a,kvs,e,h1,h2⟩:=h;exact⟨a,kvs,e,k _ _ h1,h2⟩
structure xm (H:Hp) (xs:List V) (cs:List Str) (rm:Str->List Int):Prop where
 sound : ∀x∈xs,∃g,okF rm cs g/\cU H x cs g
 comp : ∀g,okF rm cs g->∃x∈xs,cU H x cs g
def xr:Sp:=λvs H Q _=>∃(a r:Addr) (cs:List Str) (kvs:List (Key × V)) (rm:Str->List Int),vs=[.ref a,.ref r]/\H a*>(cs.map V.str)/\H r<*kvs/\bj H kvs cs rm/\cs.Nodup/\cs.length<=5/\(∀c∈cs,(rm c).length<=4) /\
 ∀(p:Addr) (xs:List V) (H':Hp),H p=none->H' p*>xs->xm H' xs cs rm->xs.length<=1024->aA H H'->Q (.ref p) H'
theorem Ej (h:i<=5):4 ^ i<=1024:=w_ (Nat.pow_le_pow_right ∅ h) ∅
theorem bx (g:Str->α) (c:Str) (v:α):cV g c v c=v:=by unfold cV;rw[if_pos rfl]
theorem dq (g:Str->α) {c x:Str} (v:α) (h:x≠c):cV g c v x=g x:=by unfold cV;rw[if_neg h]
theorem xZ (g:Str->α) (c:Str):cV g c (g c)=g:=by
 funext x
 by_cases h:x=c
 .subst h;rw[bx]
 .rw[dq _ _ h]
theorem cU.put {q:Addr} (h : ∀x∈cs,bY kvs (t_ x)=some (.int (g x))) (B:kvs.length<=cs.length/\∀x∈kvs,fb x.2=true) (Y:c∉cs) (F:H' q<*(bE kvs (t_ c) (.int v))):cU H' (.ref q) (cs++[c]) (cV g c v):=by
 refine⟨q,_,rfl,F,λx L=>?_,w_ (du _ _ _) (by have:=B.1;simp;omega),jB B.2 rfl⟩
 rw[jb]
 by_cases e:x=c
 .subst e;rw[if_pos rfl,bx]
 .rw[if_neg (λz=>e (Sum.inr.inj z)),dq _ _ e]
  rcases y8.mp L with z | z
  .exact h x z
  .exact absurd (g_.mp z) e
def sL:Sp:=λvs H Q _=>∃(d l:Addr),vs=[.ref d]/\aQ H d l/\∀(p:Addr) (ns:List Int) (H':Hp),H p=none->ns.length=5->ns.Pairwise (· < ·)->(∀x∈ns,-1000000<=x/\x<=1000000)->H' p*>(ns.map V.int)->aQ H' d l->But d l H H'->Q (.ref p) H'
def uq:Sp:=λvs H Q _=>∃(d l a p:Addr) (ws:List Str) (ns:List Int) (m:Int),vs=[.ref d,.ref a,.ref p,.int m]/\aQ H d l/\(a≠d/\a≠l)/\(p≠d/\p≠l)/\H a*>(ws.map V.str)/\ws.length<=45/\H p*>(ns.map V.int)/\ns.length=5/\ns.Pairwise (· < ·)/\1<=m/\m<=20 /\
 ∀(r:Addr) (kvs:List (Key × V)) (rm:Str->List Int) (H':Hp),H r=none->H' r<*kvs->bj H' kvs ws rm->(∀c∈ws,rm c≠[]/\((rm c).length:Int)<=m/\(rm c).Pairwise (· < ·)/\∀v∈rm c,v∈ns)->(∀x∈kvs,fb x.2=true)->kvs.length<=2 * ws.length->aQ H' d l->But d l H H'->Q (.ref r) H'
def Ap:Sp:=λvs H Q _=>∃(d l a:Addr) (m:Int) (xs:List V),vs=[.ref d,.ref a,.int m]/\aQ H d l/\Es H a xs/\0<=m/\m<=xs.length/\xs.length<=60 /\
 ∀(p:Addr) (B rest:List V) (H':Hp),H p=none->(B++rest).Perm xs->m<=B.length->H' p>>B->aQ H' d l->But d l H H'->Q (.ref p) H'
theorem lay_ints : ∀ns:List Int,GC (ns.map G2)=true
 | []=>rfl
 | n :: ns=>by
  rw[y3];unfold GC;rw[lay_ints ns];rfl
theorem depth_ints : ∀ns:List Int,HV (ns.map G2)=0
 | []=>rfl
 | n :: ns=>by
  rw[y3];unfold HV;rw[depth_ints ns];rfl
theorem tX (ns:List Int):G3 (.list (ns.map G2)) (.list [])=decide (ns=[]):=by
 cases ns with
 | nil=>rfl
 | cons n ns=>simp[G3,HJ]
theorem bj.putG {B:List Str} {t:Addr} (h:bj H kvs cs rm) (s : ∀a vs,H a>>vs->H' a>>vs) (L:H' t>>(ns.map V.int)) (sub : ∀x∈B,x=c\/x∈cs) :
  bj H' (bE kvs (t_ c) (.ref t)) B (cV rm c ns):=λx F=>by
 by_cases e:x=c
 .subst e
  exact⟨t,by rw[jb,if_pos rfl],by unfold cV;rw[if_pos rfl];exact L⟩
 .obtain⟨a,e1,e2⟩:=h x ((sub x F).resolve_left e)
  exact⟨a,by rw[jb,if_neg (λz=>e (Sum.inr.inj z))];exact e1,by unfold cV;rw[if_neg e];exact s _ _ e2⟩
theorem iX (f:α->V) (B:V->α) (hi : ∀x,B (f x)=x) {F rest:List V} {xs:List α} (h:(F++rest).Perm (xs.map f)) : ∃ys zs:List α,F=ys.map f/\(ys++zs).Perm xs:=by
 refine⟨F.map B,rest.map B,?_,?_⟩
 .rw[FQ]
  have : ∀v∈F,f (B v)=v:=λv L=>by
   obtain⟨x,_,rfl⟩:=r_.mp (h.mem_iff.mp (A_ _ L));rw[hi]
  conv=>lhs;rw[<- map_id F]
  exact Gb λv L=>(this v L).symm
 .have:=h.map B
  rw[Gz,FQ] at this;have e:xs.map (B ∘ f)=xs:=by
   conv=>rhs;rw[<- map_id xs]
   exact Gb λx _=>hi x
  rw[e] at this;exact this
def ES:V->Str | .str s=>s | _ => ""
def xR:V->Int | .int i=>i | _=>0
theorem sV (T:Txt w K mg) (L:FnL K mg "_law_pool" fj ["_law_deal_here"]) (Fa : @Dz0 P w K mg base):Fn P w K mg base "_law_pool" 2 ["_law_deal_here"] (sL):=by
 ctx_has z rD <;> obtain⟨d,l,rfl,D,k⟩:=h
 .rfl
 refine⟨_,(ak (aL 1 (aT iB (aC Fa (af (pvM 0) (af aw ap))) aw))
  (ak (bS (aS cI (aC Fa (af (pvM 0) (af aw ap))) aw) (ay (aL 1 (aT iB (aC Fa (af (pvM 0) (af aw ap))) aw))) aV)
  (ak (aL 2 (dA ap))
  (ak (bD (fD rfl T.b_range (af aw ap)) (aJ 3) (ak (dz (jP Gj Gk eI (pvM 2) (af (pvM 1) ap)))
  (ay (aL 1 (aT br (aT br (pvM 1) aw) (aK iR (dA (af aw (af (aC Fa (af (pvM 0) (af aw ap))) (af aw ap)))) (aC Fa (af (pvM 0) (af aw ap)))))))))
  (ay (aI (pvM 2))))))),?_⟩
 ctx_has v
 refine bz D ∅ ∅ λr H1 r0 r1 D1 B1=>?_
 ctx_has v
 refine bz D1 ∅ ∅ λr2 H2 ai ag D2 Z=>?_
 ctx_has v
 refine fF (λh=>?_) (λh=>?_)
 .refine bz D2 ∅ ∅ λr3 H3 aa ad D3 B3=>?_
  have B3:=(B1.trans Z).trans B3;refine⟨_,rfl,∅,λp hp=>?_⟩
  have Y:=D3.ne hp;have fp:H p=none:=B3.free D3 hp
  refine⟨∅,∅,?_⟩
  refine cL eE (λi σ H'=>∃(ns:List Int) (B:Int) (vk:Option V),σ=[-d,some (.int B),-p,vk]/\ns.length=i/\ns.Pairwise (· < ·)/\(∀x∈ns,x < B/\-1000000<=x/\x<=1000000)/\-999500<=B/\B<=999500+98 * (i:Int)/\H' p*>(ns.map V.int)/\aQ H' d l/\But d l H H')
   ⟨[],_,_,rfl,rfl,.nil,by simp,(),(),ah,D3.new hp,B3.new hp⟩ (λ_ _ _ _=>Gf) ?_ ?_
  .rintro i x σ H2 hi hx ⟨ns,B,vk,rfl,hlen,hpw,hall,lo0,lo1,h2,D2,Z⟩
   rw[aY] at hi;have ae:i < 5:=hi
   ctx_has v h2
   refine⟨by rw[d_];exact aU (),?_⟩
   refine bz (D2.put Y.1 Y.2) ∅ ∅ λr3 H3 aa ad D3 B3=>?_
   refine⟨∅,λp2 ab=>?_⟩
   refine lf D3 ab ∅ ∅ rfl λr5 v H5 hv ha D5 B5 h5=>?_
   have ac:=B5 p _ Y.1 Y.2 (B3 p _ Y.1 Y.2 ah);obtain⟨y,rfl,y0,y1⟩ : ∃y:Int,v = .int y/\0<=y/\y<=97:=by
    simp only[u_,Ge,or_false] at hv;rcases hv with rfl | rfl | rfl
    .exact⟨0,rfl,∅,∅⟩
    .exact⟨r3,rfl,aa,()⟩
    .exact⟨97,rfl,∅,∅⟩
   ctx_has v h5 ha
   refine⟨ns++[B],by simp;omega,?_,λz hz=>?_,(),(),by rw[ac];simp,D5,((Z.put fp).trans B3).trans B5⟩
   .rw[List.pairwise_append]
    exact⟨hpw,List.pairwise_singleton _ _,λx hx y hy=>by rw[g_.mp hy];exact(hall x hx).1⟩
   .rcases y8.mp hz with q | q
    .have:=hall z q;omega
    .rw[g_.mp q];omega
  .rintro σ H2 ⟨ns,B,vk,rfl,hlen,hpw,hall,lo0,lo1,h2,D2,Z⟩
   rw[aY] at hlen;ctx_has v
   exact k p ns H2 fp hlen hpw (λx hx=>(hall x hx).2) h2 D2 Z
 .have Z:=B1.trans Z
  refine⟨∅,λp hp=>?_⟩
  have Y:=D2.ne hp;have fp:H p=none:=Z.free D2 hp
  refine⟨∅,∅,?_⟩
  refine cL eE (λi σ H'=>∃(ns:List Int) (B:Int) (vk:Option V),σ=[-d,some (.int B),-p,vk]/\ns.length=i/\ns.Pairwise (· < ·)/\(∀x∈ns,x < B/\-1000000<=x/\x<=1000000)/\-999500<=B/\B<=999500+98 * (i:Int)/\H' p*>(ns.map V.int)/\aQ H' d l/\But d l H H')
   ⟨[],_,_,rfl,rfl,.nil,by simp,(),(),ah,D2.new hp,Z.new hp⟩ (λ_ _ _ _=>Gf) ?_ ?_
  .rintro i x σ H2 hi hx ⟨ns,B,vk,rfl,hlen,hpw,hall,lo0,lo1,h2,D2,Z⟩
   rw[aY] at hi;have ae:i < 5:=hi
   ctx_has v h2
   refine⟨by rw[d_];exact aU (),?_⟩
   refine bz (D2.put Y.1 Y.2) ∅ ∅ λr3 H3 aa ad D3 B3=>?_
   refine⟨∅,λp2 ab=>?_⟩
   refine lf D3 ab ∅ ∅ rfl λr5 v H5 hv ha D5 B5 h5=>?_
   have ac:=B5 p _ Y.1 Y.2 (B3 p _ Y.1 Y.2 ah);obtain⟨y,rfl,y0,y1⟩ : ∃y:Int,v = .int y/\0<=y/\y<=97:=by
    simp only[u_,Ge,or_false] at hv;rcases hv with rfl | rfl | rfl
    .exact⟨0,rfl,∅,∅⟩
    .exact⟨r3,rfl,aa,()⟩
    .exact⟨97,rfl,∅,∅⟩
   ctx_has v h5 ha
   refine⟨ns++[B],by simp;omega,?_,λz hz=>?_,(),(),by rw[ac];simp,D5,((Z.put fp).trans B3).trans B5⟩
   .rw[List.pairwise_append]
    exact⟨hpw,List.pairwise_singleton _ _,λx hx y hy=>by rw[g_.mp hy];exact(hall x hx).1⟩
   .rcases y8.mp hz with q | q
    .have:=hall z q;omega
    .rw[g_.mp q];omega
  .rintro σ H2 ⟨ns,B,vk,rfl,hlen,hpw,hall,lo0,lo1,h2,D2,Z⟩
   rw[aY] at hlen;ctx_has v
   exact k p ns H2 fp hlen hpw (λx hx=>(hall x hx).2) h2 D2 Z
abbrev Dz3:=Fn P w K mg base "_law_rooms" 2 ["_law_deal_here","_law_names_here","_law_pool_here","_law_most"] (uq)
theorem pX (T : Txt w K mg) (L:FnL K mg "_law_rooms" dI ["_law_deal_here","_law_names_here","_law_pool_here","_law_most"]) (Fa : @Dz0 P w K mg base) : @Dz3 P w K mg base:=by
  ctx_has z qd <;> obtain⟨d,l,a,p,ws,ns,m,rfl,D,na,np,ha,bi,hp,bg,bb,m0,m1,k⟩:=h
  . rfl
  refine⟨_,(ak (aL 4 gh)
    (ak (bD (ik K (pvM 1)) (aJ 5) (ak (gR 6 (N:=["_law_value","_law_deal_here"]) (nt:=1) (js:=[0]) (aP ["_law_deal_here","_law_names_here","_law_pool_here","_law_most","_law_rooms_here","_law_name","_law_some_here"] (aj dI).names) (ik K (pvM 2)) (aJ 0) aZ (gb (aS cI (aC Fa (af (pvM 1) (af aw ap))) aw)) (pvM 0))
    (ak (iq hu (pvM 4) (pvM 5) (bL dO T.b_tuple (af (cJ C4 (pvM 6) dJ (dr (pvM 3))) ap)) rfl)
    (ay (bS (aS (tz (xC hr)) (pvM 6) (dA ap)) (ay (iq hu (pvM 4) (pvM 5) (cX (af (aK iR (pvM 2) (aC Fa (af (pvM 0) (af aw ap)))) ap)) rfl)) aV)))))
    (ay (aI (pvM 4))))),?_⟩
  ctx_has v
  intro q hq;have nq:=D.ne hq;have aq:a≠q:=az ha hq
  have pq:p≠q:=az hp hq
  refine⟨_,by rw[ao aq];exact ha,?_⟩
  refine cL dD (λi σ H'=>∃(kvs:List (Key × V)) (rm:Str->List Int) (v5 v6:Option V),σ=[-d,-a,-p,some (.int m),-q,v5,v6]/\H' q<*kvs/\bj H' kvs (ws.take i) rm /\
      (∀c∈ws.take i,rm c≠[]/\((rm c).length:Int)<=m/\(rm c).Pairwise (· < ·)/\∀v∈rm c,v∈ns)/\(∀x∈kvs,fb x.2=true)/\kvs.length<=2 * i/\H' a*>(ws.map V.str)/\H' p*>(ns.map V.int)/\aQ H' d l/\But d l H H')
    ⟨[],λ_=>[],_,_,rfl,ah,λc hc=>by simp at hc,λc hc=>by simp at hc,by simp,GR _,by rw[ao aq];exact ha,by rw[ao pq];exact hp,D.new hq,(But.refl H).new hq⟩ (λi σ H' a9=>by obtain⟨_,_,_,_,_,_,_,_,_,_,h,_⟩:=a9;exact(.of h)) ?_ ?_
  . rintro i x σ H2 hi hx ⟨kvs,rm,v5,v6,rfl,h2,am,ac,an,au,aD,ae,D2,B2⟩
    rw[d_] at hi;obtain⟨c,aX,rfl⟩ : ∃c,ws[i]? = some c/\V.str c=x:=by
      rw[f_] at hx;cases e:ws[i]? with
      | none=>rw[e] at hx;cases hx
      | some nm=>rw[e] at hx;exact⟨nm,rfl,h_ hx⟩
    have aW:ws.take (i+1)=ws.take i++[c]:=by rw[za,aX];rfl
    have aa : ∀x∈ws.take (i+1),x=c\/x∈ws.take i:=λx hx=>by
      rw[aW] at hx;rcases y8.mp hx with z | z
      . exact .inr z
      . exact .inl (g_.mp z)
    ctx_has v ae
    intro g hg;have ng:=D2.ne hg;have fg:H g=none:=B2.free D2 hg
    refine gl dD (λj ys Y=>∃B:List Int,ys=B.map V.int/\B.Sublist (ns.take j)/\Y g*>ys/\Y p*>(ns.map V.int)/\(∀b o,b≠d->b≠l->H2 b=some o->Y b=some o)/\aQ Y d l)
      ⟨[],rfl,by simp,ah,by rw[ao (az ae hg)];exact ae,λb o _ _ e=>by rw[ao (az e hg)];exact e,D2.new hg⟩ (λj ys Y aG=>by obtain⟨_,_,_,_,h,_⟩:=aG;exact(.of h)) ?_ ?_
    . rintro j y ys Y hj hy ⟨B,rfl,F,ag,a2,k5,D5⟩
      rw[d_] at hj;obtain⟨z,hz,rfl⟩ : ∃z,ns[j]? = some z/\V.int z=y:=by
        rw[f_] at hy;cases e:ns[j]? with
        | none=>rw[e] at hy;cases hy
        | some nm=>rw[e] at hy;exact⟨nm,rfl,h_ hy⟩
      have en:ns.take (j+1)=ns.take j++[z]:=by rw[za,hz];rfl
      have bf:B.length<=5:=w_ F.length_le (by simp;omega)
      ctx_has v
      refine bz D5 ∅ ∅ λr6 H6 bd bh D6 B6=>?_
      have ab:=B6 g _ ng.1 ng.2 ag;have Z:=B6 p _ np.1 np.2 a2;ctx_has v
      refine fF (λaT=>?_) (λaT=>?_)
      . refine⟨ab,by rw[d_];exact aU (),B++[z],by simp,by rw[en];exact F.append_right [z],ah,by rw[ao (az ae hg)];exact Z,λb o h1 h2 e=>by rw[ao (az e hg)];exact B6 b o h1 h2 (k5 b o h1 h2 e),D6.put ng.1 ng.2⟩
      . exact⟨B,rfl,by rw[en];exact F.trans (List.sublist_append_left _ _),ab,Z,λb o h1 h2 e=>B6 b o h1 h2 (k5 b o h1 h2 e),D6⟩
    . rintro ys Y ⟨B,rfl,F,ag,a2,k5,D5⟩
      rw[d_] at F;rw[FV] at F;ctx_has v ag
      intro u aO;refine⟨_,ah,λt ht=>?_⟩
      obtain⟨mn,rfl⟩:=GT (show 0<=m by omega)
      rw[sx] at ht ⊢;have ut:u≠t:=by rintro rfl;rw[ah] at ht;cases ht
      have ba:Y t=none:=by rwa [ao ut.symm] at ht
      have s5:aA Y (upd (upd Y u (.lst ((B.take mn).map V.int))) t (.tup ((B.take mn).map V.int))):=(aA.upd0 aO).upd_new ht
      have a7:=k5 q _ nq.1 nq.2 h2;have aH:=k5 a _ na.1 na.2 aD;refine⟨kvs,s5 _ _ a7,aU (),?_⟩
      have tq:t≠q:=(az a7 ba).symm
      have a8 : ∀b vs,H2 b>>vs->upd (upd (upd Y u (.lst ((B.take mn).map V.int))) t (.tup ((B.take mn).map V.int))) q (.dK (bE kvs (t_ c) (.ref t))) b>>vs:=λb vs e=>by
        obtain⟨m',sd,n',aN,a0,ax,_⟩:=D2.ex;rw[ao (bo e h2 (by intro z;cases z))]
        exact s5 _ _ (k5 b _ (bo e a0 (by intro z;cases z)) (bo e ax (by intro z;cases z)) e)
      have ar : ∀b o,b≠q->Y b=some o->upd (upd (upd Y u (.lst ((B.take mn).map V.int))) t (.tup ((B.take mn).map V.int))) q (.dK (bE kvs (t_ c) (.ref t))) b=some o:=λb o hb e=>by rw[ao hb];exact s5 _ _ e
      have gq:g≠q:=(az h2 hg).symm
      have ab:=ar g _ gq ag;have a3:=ar a _ aq aH;have Z:=ar p _ pq a2;have D6:=(D5.same s5).put (o:=.dK (bE kvs (t_ c) (.ref t))) nq.1 nq.2;have B5:But d l H Y:=λb o h1 h2 e=>k5 b o h1 h2 (B2 b o h1 h2 e)
      have B6:=(B5.same s5).put (o:=.dK (bE kvs (t_ c) (.ref t))) hq;have r6:bj (upd (upd (upd Y u (.lst ((B.take mn).map V.int))) t (.tup ((B.take mn).map V.int))) q (.dK (bE kvs (t_ c) (.ref t)))) (bE kvs (t_ c) (.ref t)) (ws.take (i+1)) (cV rm c (B.take mn)):=am.putG a8 (by rw[ao tq];exact ah) aa
      have ad:upd (upd (upd Y u (.lst ((B.take mn).map V.int))) t (.tup ((B.take mn).map V.int))) q (.dK (bE kvs (t_ c) (.ref t))) q<*(bE kvs (t_ c) (.ref t)):=ah
      have aM:=du kvs (t_ c) (.ref t);have a1:=jB (k:=t_ c) (v:=V.ref t) an rfl;generalize be:upd (upd (upd Y u (.lst ((B.take mn).map V.int))) t (.tup ((B.take mn).map V.int))) q (.dK (bE kvs (t_ c) (.ref t)))=H6 at ab a3 Z D6 B6 r6 ad ⊢;generalize bE kvs (t_ c) (.ref t)=a6 at r6 ad aM a1 ⊢;refine⟨∅,λe0 a4=>?_⟩
      have s7:aA H6 (upd H6 e0 (.lst [])):=aA.upd0 a4
      refine⟨.list (B.map G2),.list [],.lst (.of (s7 _ _ ab)) (hU.ints B),.lst (.of ah) .nil,by unfold PyData.canLay0;exact lay_ints B,rfl,by unfold PyData.depth;rw[depth_ints];decide,?_⟩
      rw[tX];have D7:=D6.new (o:=.lst []) a4;have B7:=B6.new (o:=.lst []) a4;refine⟨_,rfl,fF (λaB=>?_) (λaB=>?_)⟩
      . refine bz D7 ∅ ∅ λr8 H8 aF bk D8 B8=>?_
        obtain⟨z,a5,aR⟩:=xv (xs:=ns) aF ()
        have bc:atI (ns.map V.int) r8=some (V.int z):=by
          obtain⟨n,rfl⟩:=GT aF;have hn:n < ns.length:=()
          have e1:ns[n]? = some z:=by
            have:=da (xs:=ns) (j:=n) (v:=ns[n]) (by simp)
            rw[this] at a5;rw[<- a5];simp
          exact da (by rw[f_,e1];rfl)
        refine⟨r8,rfl,_,B8 p _ np.1 np.2 (s7 _ _ Z),_,bc,∅,λt2 ai=>?_⟩
        have aE:=B8 q _ nq.1 nq.2 (s7 _ _ ad);have q2:t2≠q:=(az aE ai).symm
        have s9:aA H8 (upd H8 t2 (.tup [V.int z])):=aA.upd0 ai
        refine⟨a6,s9 _ _ aE,aU (),?_⟩
        have kt : ∀b vs,H6 b>>vs->upd (upd H8 t2 (.tup [V.int z])) q (.dK (bE a6 (t_ c) (.ref t2))) b>>vs:=λb vs e=>by
          rw[ao (bo e ad (by intro z;cases z))]
          obtain⟨m',sd,n',aN,a0,ax,_⟩:=D6.ex;exact s9 _ _ (B8 b _ (bo e a0 (by intro z;cases z)) (bo e ax (by intro z;cases z)) (s7 _ _ e))
        refine⟨_,ah,cV (cV rm c (B.take mn)) c [z],r6.putG (ns:=[z]) kt (by rw[ao q2];exact ah) (λx hx=>.inr hx),λx hx=>?_,jB a1 rfl,w_ (du _ _ _) (),?_,?_,(D8.new ai).put nq.1 nq.2,((B7.trans B8).new ai).put hq⟩
        . by_cases e:x=c
          . subst e
            unfold cV;rw[if_pos rfl];exact⟨by simp,by simp;omega,by simp,λv hv=>by rw[g_.mp hv];exact aR⟩
          . unfold cV
            rw[if_neg e,if_neg e];exact ac x ((aa x hx).resolve_left e)
        . rw[ao aq];exact s9 _ _ (B8 a _ na.1 na.2 (s7 _ _ a3))
        . rw[ao pq];exact s9 _ _ (B8 p _ np.1 np.2 (s7 _ _ Z))
      . refine⟨_,s7 _ _ ad,cV rm c (B.take mn),r6.same (λa vs e=>s7 _ _ e),λx hx=>?_,a1,(),s7 _ _ a3,s7 _ _ Z,D7,B7⟩
        by_cases e:x=c
        . subst e
          unfold cV;rw[if_pos rfl];have aY:B≠[]:=by simpa using aB
          refine⟨?_,by simp;omega,?_,λv hv=>F.subset (Hg hv)⟩
          . cases B with
            | nil=>exact absurd rfl aY
            | cons y ys =>
              obtain⟨k',rfl⟩ : ∃k',mn=k'+1:=⟨mn - 1,()⟩
              simp
          . exact(bb.sublist F).sublist (If _ _)
        . unfold cV
          rw[if_neg e];exact ac x ((aa x hx).resolve_left e)
  . rintro σ H2 ⟨kvs,rm,v5,v6,rfl,h2,am,ac,an,au,aD,ae,D2,B2⟩
    rw[d_,FV] at am ac;rw[d_] at au;ctx_has v
    exact k q kvs rm H2 hq h2 am ac an au D2 B2
abbrev Dz4:=Fn P w K mg base "_law_some" 2 ["_law_deal_here","_law_things","_law_least"] (Ap)
theorem sG (T:Txt w K mg) (L:FnL K mg "_law_some" ft ["_law_deal_here","_law_things","_law_least"]) (Fa : @Dz0 P w K mg base) : @Dz4 P w K mg base:=by
 ctx_has z su <;> obtain⟨d,l,a,m,xs,rfl,D,ha,m0,m1,am,k⟩:=h
 .rfl
 refine⟨_,(ak (aL 3 (bL vC T.b_list (af (pvM 1) ap)))
  (ak (aL 4 (dA ap))
  (ak (bD (fD rfl T.b_range (af (aT br (pvM 2) (aC Fa (af (pvM 0) (af (aT br (aT iB (aM ck T.b_len (af (pvM 3) ap)) (pvM 2)) aw) ap)))) ap)) (aJ 5) (ay (dz (jP Gj Gk eI (pvM 4) (af (jP PySem.F.slot_list_pop PySem.F.type_list_pop zm (pvM 3) (af (aC Fa (af (pvM 0) (af (aM ck T.b_len (af (pvM 3) ap)) ap))) ap)) ap)))))
  (ay (aI (bL dO T.b_tuple (af (pvM 4) ap))))))),?_⟩
 ctx_has v
 refine⟨xs,ha,λu Y=>?_⟩
 have nu:=D.ne Y;refine⟨∅,λg hg=>?_⟩
 have ug:u≠g:=by rintro rfl;rw[ah] at hg;cases hg
 have aa:H g=none:=by rwa [ao ug.symm] at hg
 have ng:=D.ne aa;have D1:=(D.new (o:=.lst xs) Y).new (o:=.lst []) hg;have Z:upd (upd H u (.lst xs)) g (.lst []) u*>xs:=by rw[ao ug];exact ah
 have ab:upd (upd H u (.lst xs)) g (.lst []) g*>[]:=ah
 have B1:But d l H (upd (upd H u (.lst xs)) g (.lst [])):=((But.refl H).new Y).new hg
 generalize upd (upd H u (.lst xs)) g (.lst [])=H1 at D1 Z ab B1 ⊢;ctx_has v Z
 refine bz D1 () () λr H2 r0 r1 D2 B2=>?_
 refine⟨_,rfl,(),(),?_⟩
 refine cL eE (λi σ H'=>∃(B rest:List V) (v5:Option V),σ=[-d,-a,some (.int m),-u,-g,v5]/\B.length=i/\(B++rest).Perm xs/\H' g*>B/\H' u*>rest/\aQ H' d l/\But d l H H')
  ⟨[],xs,_,rfl,rfl,.refl _,B2 g _ ng.1 ng.2 ab,B2 u _ nu.1 nu.2 Z,D2,B1.trans B2⟩ (λ_ _ _ _=>Gf) ?_ ?_
 .rintro j y σ H5 hj hy ⟨B,rest,v5,rfl,hgl,hperm,h5g,h5u,D5,B5⟩
  rw[aY] at hj;have aj:B.length+rest.length=xs.length:=by rw[<- Gh];exact hperm.length_eq
  ctx_has v h5g h5u
  refine bz D5 () () λr6 H6 ac ae D6 B6=>?_
  have ag:=B6 u _ nu.1 nu.2 h5u;have ai:=B6 g _ ng.1 ng.2 h5g;ctx_has v ag
  refine⟨ac,ae,(),λz hz=>?_⟩
  have ad:r6.toNat < rest.length:=(p_.mp hz).1
  refine⟨_,by rw[ao ug.symm];exact ai,aU (),B++[z],by simp;omega,rest.eraseIdx r6.toNat,?_,ah,by rw[ao ug];exact ah,(D6.put nu.1 nu.2).put ng.1 ng.2,((B5.trans B6).put Y).put aa⟩
  refine List.Perm.trans ?_ hperm
  rw[append_assoc];refine List.Perm.append_left B ?_
  rw[(p_.mp hz).2.symm];exact pO ad
 .rintro σ H5 ⟨B,rest,v5,rfl,hgl,hperm,h5g,h5u,D5,B5⟩
  rw[aY] at hgl;ctx_has v h5g
  intro t ht;exact k t B rest _ (B5.free D5 ht) hperm () ah (D5.new ht) (B5.new ht)
def chB (gap:Int) (vs:List Int):Bool:=(zipWith (λa b=>decide (a+gap<=b)) vs (vs.drop 1)).all id
theorem gT (gap a b:Int) (r:List Int):chB gap (a :: b :: r)=(decide (a+gap<=b) && chB gap (b :: r)):=by simp[chB]
theorem uR {a F:Int} {r:List Int} (h:F<=a) (B:chB gap (a :: r)=true):chB gap (F :: r)=true:=by
 cases r with
 | nil=>rfl
 | cons b r =>
  rw[gT,B_,decide_eq_true_eq] at B ⊢;exact⟨(),B.2⟩
theorem xY (gap:Int) (vs:List Int):((range (vs.length - 1)).map λk=>decide (vs.getD k 0+gap<=vs.getD (k+1) 0)).all id=chB gap vs:=by
 unfold chB
 congr 1
 apply List.ext_getElem
 .simp
 .intro i h1 h2
  simp at h1 h2 ⊢
  have F:i < vs.length:=()
  have B:i+1 < vs.length:=()
  rw[C_ F,C_ B];simp[Nat.add_comm]
def bV:Option Int->V | none=>.non | some i=>.int i
def eU (n:Int) (lo hi:Option Int):Bool:=(match lo with | none=>true | some a=>decide (a<=n)) && (match hi with | none=>true | some b=>decide (n<=b))
structure gn (H:Hp) (f:Addr) (cs:List Str) (g:Str->Int):Prop where
 ex : ∃kvs,H f<*kvs/\(∀c∈cs,bY kvs (t_ c)=some (.int (g c)))/\(∀x∈kvs,fb x.2=true)/\kvs.length<=40
 bd : ∀c∈cs,-2000000<=g c/\g c<=2000000
theorem gn.same (h:gn H f cs g) (s:aA H H'):gn H' f cs g:=by
 obtain⟨kvs,h1,r⟩:=h.ex;exact⟨⟨kvs,s _ _ h1,r⟩,h.bd⟩
theorem gn.sub {ds:List Str} (h:gn H f cs g) (s : ∀c∈ds,c∈cs):gn H f ds g:=by
 obtain⟨kvs,h1,h2,r⟩:=h.ex;exact⟨⟨kvs,h1,λc B=>h2 c (s c B),r⟩,λc B=>h.bd c (s c B)⟩
def zh:Sp:=λvs H Q _=>∃(t:Addr) (ns:List Int),vs=[.ref t]/\H t>>(ns.map V.int)/\ns.length<=20/\∀H',aA H H'->Q (.bl (decide ns.Nodup)) H'
def Cw:Sp:=λvs H Q _=>∃(n:Int) (lo hi:Option Int),vs=[.int n,bV lo,bV hi]/\∀H',aA H H'->Q (.bl (eU n lo hi)) H'
def gV (H:Hp) (t:Addr) (ts:List (Int × Str)):Prop:=∃as:List (Addr × Int × Str),H t>>(as.map λx=>V.ref x.1)/\as.map (·.2)=ts/\∀x∈as,H x.1>>[.int x.2.1,.str x.2.2]
theorem gV.keep {t:Addr} (h:gV H t ts) (k : ∀a xs,H a>>xs->H' a>>xs):gV H' t ts:=by
 obtain⟨as,h1,h2,B⟩:=h;exact⟨as,k _ _ h1,h2,λx F=>k _ _ (B x F)⟩
def kT (H:Hp) (vs:List V) (ps:List (Int × Int × Int)):Prop:=∃as:List (Addr × Int × Int × Int),vs=as.map (λx=>V.ref x.1)/\as.map (·.2)=ps/\∀x∈as,H x.1>>[.int x.2.1,.int x.2.2.1,.int x.2.2.2]
theorem kT.keep {ps:List (Int × Int × Int)} (h:kT H vs ps) (k : ∀a xs,H a>>xs->H' a>>xs):kT H' vs ps:=by
 obtain⟨as,h1,h2,B⟩:=h;exact⟨as,h1,h2,λx F=>k _ _ (B x F)⟩
def gz (ps:List (Int × Int × Int)) (st:Option Int) (vs:List Int):Option Int:=vs.foldl (λst v=>jv ps st v) st
def sy (es:List Int):Option Int->Bool | none=>false | some s=>decide (s∈es)
inductive Wi | un (cs:List Str) | mn (av:List Int) (cs:List Str) (lo hi:Int) | sm (ts:List (Int × Str)) (lo hi:Option Int) | tb (cs:List Str) (rows:List (List Int)) | wy (cs:List Str) (ps:List (Int × Int × Int)) (es:List Int) | bh (cs:List Str) (gap:Int)
inductive Wx | pl (W:Wi) | sa (c:Str) (vs:List Int) (W:Wi)
def WS (H:Hp) (w:Addr):Wi->Prop
 | .un cs=>∃c,H w>>[.str "unlike",.ref c]/\H c>>(cs.map V.str)
 | .mn av cs lo hi=>∃a c,H w>>[.str "many",.ref a,.ref c,.int lo,.int hi]/\H a>>(av.map V.int)/\H c>>(cs.map V.str)
 | .sm ts lo hi=>∃t,H w>>[.str "sum",.ref t,bV lo,bV hi]/\gV H t ts
 | .tb cs rows=>∃c t vs,H w>>[.str "table",.ref c,.ref t]/\H c>>(cs.map V.str)/\H t>>vs/\fA H vs rows
 | .wy cs ps es=>∃c t e vs,H w>>[.str "way",.ref c,.ref t,.ref e]/\H c>>(cs.map V.str)/\H t>>vs/\kT H vs ps/\H e>>(es.map V.int)
 | .bh cs gap=>∃c,H w>>[.str "behind",.ref c,.int gap]/\H c>>(cs.map V.str)
def WX (H:Hp) (w:Addr):Wx->Prop
 | .pl W=>WS H w W
 | .sa c vs W=>∃t u,H w>>[.str "same",.str c,.ref t,.ref u]/\H t>>(vs.map V.int)/\WS H u W
theorem dX {w:Addr} {W:Wi} (h:WS H w W) (k : ∀a xs,H a>>xs->H' a>>xs):WS H' w W:=by
 cases W with
 | un cs=>obtain⟨c,h1,h2⟩:=h;exact⟨c,k _ _ h1,k _ _ h2⟩
 | mn av cs lo hi=>obtain⟨a,c,h1,h2,B⟩:=h;exact⟨a,c,k _ _ h1,k _ _ h2,k _ _ B⟩
 | sm ts lo hi=>obtain⟨t,h1,h2⟩:=h;exact⟨t,k _ _ h1,h2.keep k⟩
 | tb cs rows=>obtain⟨c,t,vs,h1,h2,B,F⟩:=h;exact⟨c,t,vs,k _ _ h1,k _ _ h2,k _ _ B,F.keep k⟩
 | wy cs ps es=>obtain⟨c,t,e,vs,h1,h2,B,F,L⟩:=h;exact⟨c,t,e,vs,k _ _ h1,k _ _ h2,k _ _ B,F.keep k,k _ _ L⟩
 | bh cs gap=>obtain⟨c,h1,h2⟩:=h;exact⟨c,k _ _ h1,k _ _ h2⟩
theorem BX {w:Addr} {W:Wx} (h:WX H w W) (k : ∀a xs,H a>>xs->H' a>>xs):WX H' w W:=by
 cases W with
 | pl W=>exact dX h k
 | sa c vs W=>obtain⟨t,u,h1,h2,B⟩:=h;exact⟨t,u,k _ _ h1,k _ _ h2,dX B k⟩
def cu:Wi->List Str
 | .un cs=>cs
 | .mn _ cs _ _=>cs
 | .sm ts _ _=>ts.map (·.2)
 | .tb cs _=>cs
 | .wy cs _ _=>cs
 | .bh cs _=>cs
def szW:Wi->Prop
 | .un cs=>cs.length<=12
 | .mn av cs _ _=>av.length<=20/\cs.length<=12
 | .sm ts _ _=>ts.length<=12
 | .tb cs _=>cs.length<=12
 | .wy cs ps es=>cs.length<=12/\(ps.map λx=>(x.1,x.2.1)).Nodup/\ps.length<=60
 | .bh cs _=>cs≠[]/\cs.length<=12
def bX (W:Wi) (g:Str->Int):Bool:=match W with
 | .un cs=>decide (cs.map g).Nodup
 | .mn av cs lo hi=>eU ((cs.filter λc=>decide (g c∈av)).length:Nat) (some lo) (some hi)
 | .sm ts lo hi=>eU ((ts.map λx=>x.1 * g x.2).sum) lo hi
 | .tb cs rows=>decide (cs.map g∈rows)
 | .wy cs ps es=>sy es (gz ps (some 0) (cs.map g))
 | .bh cs gap=>chB gap (cs.map g)
def on (W:Wx) (g:Str->Int):Bool:=match W with
 | .pl W=>bX W g
 | .sa c vs W=>decide (decide (g c∈vs)=bX W g)
def kM:Wi->Str
 | .un _ => "unlike"
 | .mn _ _ _ _ => "many"
 | .sm _ _ _ => "sum"
 | .tb _ _ => "table"
 | .wy _ _ _ => "way"
 | .bh _ _ => "behind"
def Al:Sp:=λvs H Q _=>∃(c f:Addr) (cs:List Str) (g:Str->Int),vs=[.ref c,.ref f]/\H c>>(cs.map V.str)/\cs.length<=12/\gn H f cs g/\∀p H',aA H H'->H' p>>((cs.map g).map V.int)->Q (.ref p) H'
def rF:Sp:=λvs H Q _=>∃(t f:Addr) (ts:List (Int × Str)) (g:Str->Int),vs=[.ref t,.ref f]/\gV H t ts/\ts.length<=12/\gn H f (ts.map (·.2)) g/\∀H',aA H H'->Q (.int (ts.map λx=>x.1 * g x.2).sum) H'
def ib (x:Str):Sp:=λvs H Q _=>∃(w f:Addr) (W:Wi) (g:Str->Int),vs=[.ref w,.ref f]/\kM W=x/\WS H w W/\szW W/\gn H f (cu W) g/\∀H',aA H H'->Q (.bl (bX W g)) H'
def ph:Sp:=λvs H Q _=>∃(w f:Addr) (c:Str) (us:List Int) (W:Wi) (g:Str->Int),vs=[.ref w,.ref f]/\WX H w (.sa c us W)/\szW W/\gn H f (c :: cu W) g/\∀H',aA H H'->Q (.bl (on (.sa c us W) g)) H'
def lz:Sp:=λvs H Q _=>∃(w f:Addr) (W:Wi) (g:Str->Int),vs=[.ref w,.ref f]/\WS H w W/\szW W/\gn H f (cu W) g/\∀H',aA H H'->Q (.bl (bX W g)) H'
def pd:List Str:=["unlike","many","sum","table","way","behind"]
theorem qZ (W:Wi):kM W∈pd:=by cases W <;> simp[pd,kM]
theorem E1 {W:Wi} (h:kM W = "unlike") : ∃cs,W = .un cs:=by
 cases W with
 | un cs=>exact⟨_,rfl⟩
 | _=>exact absurd h (show ¬ (b_ _=b_ _) by decide+kernel)
theorem E2 {W:Wi} (h:kM W = "many") : ∃av cs lo hi,W = .mn av cs lo hi:=by
 cases W with
 | mn=>exact⟨_,_,_,_,rfl⟩
 | _=>exact absurd h (show ¬ (b_ _=b_ _) by decide+kernel)
theorem ET {W:Wi} (h:kM W = "sum") : ∃ts lo hi,W = .sm ts lo hi:=by
 cases W with
 | sm=>exact⟨_,_,_,rfl⟩
 | _=>exact absurd h (show ¬ (b_ _=b_ _) by decide+kernel)
theorem FM {W:Wi} (h:kM W = "table") : ∃cs rows,W = .tb cs rows:=by
 cases W with
 | tb=>exact⟨_,_,rfl⟩
 | _=>exact absurd h (show ¬ (b_ _=b_ _) by decide+kernel)
theorem EF {W:Wi} (h:kM W = "way") : ∃cs ps es,W = .wy cs ps es:=by
 cases W with
 | wy=>exact⟨_,_,_,rfl⟩
 | _=>exact absurd h (show ¬ (b_ _=b_ _) by decide+kernel)
theorem EQ {W:Wi} (h:kM W = "behind") : ∃cs gap,W = .bh cs gap:=by
 cases W with
 | bh=>exact⟨_,_,rfl⟩
 | _=>exact absurd h (show ¬ (b_ _=b_ _) by decide+kernel)
theorem qi (T:Txt w K mg) (L:FnL K mg "are_unlike" eF ["things"]):Fn P w K mg base "are_unlike" 1 ["things"] (zh):=by
 ctx_has z qh <;> obtain⟨t,ns,rfl,h,hl,k⟩:=h
 .rfl
 refine⟨_,(ay (aI (aX cI (aM nj T.b_len (af (bL (xW rfl) T.b_set (af (pvM 0) ap)) ap)) (aM jE T.b_len (af (pvM 0) ap))))),?_⟩
 ctx_has v h
 refine⟨ns,rfl,(),λq S F=>?_⟩
 have B:aA H (upd H q (.set S (hV ns))):=aA.upd0 F
 refine⟨S,_,ah,_,B _ _ h,?_⟩
 have:=k _ B
 rw[d_];have e:decide ((hV ns:Int)=(ns.length:Int))=decide ns.Nodup:=by
  rw[FY,decide_eq_true_eq,decide_eq_true_eq,<- ro];omega
 rw[e];exact this
abbrev Dz5:=Fn P w K mg base "is_between" 1 ["number","low","high"] (Cw)
theorem qk (T:Txt w K mg) (L:FnL K mg "is_between" eK ["number","low","high"]) : @Dz5 P w K mg base:=by
 ctx_has z ql <;> obtain⟨n,lo,hi,rfl,k⟩:=h
 .rfl
 refine⟨_,(ay (aI (jh (jS (lH (lQ (pvM 1))) (dS (aX ji (pvM 1) (pvM 0)))) (dS (jS (lH (lQ (pvM 2))) (dS (aX ji (pvM 0) (pvM 2)))))))),?_⟩
 have B:=k H (aA.refl _);cases lo with
 | none =>
  cases hi with
  | none=>ctx_has v vJ bV decide_true decide_false q_;exact B
  | some b=>ctx_has v vJ bV decide_true decide_false q_;simpa [eU] using B
 | some a =>
  cases hi with
  | none =>
   ctx_has v vJ bV decide_true decide_false q_
   refine fF (λh=>?_) (λh=>?_)
   .simpa [eU,h] using B
   .simpa [eU,h] using B
  | some b =>
   ctx_has v vJ bV decide_true decide_false q_
   refine fF (λh=>?_) (λh=>?_)
   .simpa [eU,h] using B
   .simpa [eU,h] using B
theorem yr (T:Txt w K mg) (L:FnL K mg "sum_of" gI ["terms","filling"]):Fn P w K mg base "sum_of" 1 ["terms","filling"] (rF):=by
 ctx_has z yi <;> obtain⟨t,f,ts,g,rfl,hT,hl,F,k⟩:=h
 .rfl
 refine⟨_,(ay (aI (aM (kz rfl) T.b_sum (af (bB (N:=["term","filling"]) (nt:=1) (js:=[1]) (aP ["terms","filling"] (aj gI).names) (cK K (pvM 0)) (aJ 0) aZ cF (aT gO (aK bg (pvM 0) aw) (cm hu (pvM 1) (aK bg (pvM 0) aw)))) ap)))),?_⟩
 obtain⟨as,h1,rfl,Y⟩:=hT;obtain⟨kvs,f1,f2,f3,f4⟩:=F.ex;ctx_has v h1
 intro q hq;refine cQ ba (λv=>match v with | .ref a=>(match H a with | some (.tup [.int i,.str c])=>.int (i * g c) | _=>.non) | _=>.non) hq (λH' s=>.of (s _ _ h1)) (by simp at hl ⊢;omega) ?_ ?_
 .intro x H2 Q2 Z sm q2
  obtain⟨y,B,rfl⟩:=r_.mp Z;have e1:=sm _ _ (Y y B);have e2:=sm _ _ f1;have e3:=f2 y.2.2 (r_.mpr ⟨y.2,r_.mpr ⟨y,B,rfl⟩,rfl⟩);simp only[Y y B] at q2;ctx_has v e1 e2 e3
  have b:=F.bd y.2.2 (r_.mpr ⟨y.2,r_.mpr ⟨y,B,rfl⟩,rfl⟩);exact⟨.inr ⟨(),()⟩,q2 H2 (aA.refl _)⟩
 .intro H2 sm h2
  ctx_has v
  refine⟨(as.map (·.2)).map λx=>x.1 * g x.2,.of ?_,k H2 sm⟩
  rw[h2,FQ,FQ,FQ]
  congr 2
  refine Gb λx Z=>?_
  simp only[Function.comp_apply,Y x Z]
abbrev Dz6:=Fn P w K mg base "values_at" 1 ["cells","filling"] (Al)
theorem sE (T:Txt w K mg) (L:FnL K mg "values_at" eo ["cells","filling"]) : @Dz6 P w K mg base:=by
 ctx_has z sK <;> obtain⟨c,f,cs,g,rfl,B,hl,F,k⟩:=h
 .rfl
 refine⟨_,(ay (aI (bL dO T.b_tuple (af (bB (N:=["cell","filling"]) (nt:=1) (js:=[1]) (aP ["cells","filling"] (aj eo).names) (cK K (pvM 0)) (aJ 0) aZ cF (cm hu (pvM 1) (pvM 0))) ap)))),?_⟩
 obtain⟨kvs,f1,f2,f3,f4⟩:=F.ex;ctx_has v B
 intro q hq;refine cQ ba (λv=>match v with | .str c=>.int (g c) | _=>.non) hq (λH' s=>.of (s _ _ B)) (by simp;omega) ?_ ?_
 .intro x H2 Q2 hx sm q2
  obtain⟨y,hy,rfl⟩:=r_.mp hx;have e2:=sm _ _ f1;have Y:=f2 y hy;ctx_has v e2 Y
  exact q2 H2 (aA.refl _)
 .intro H2 sm h2
  ctx_has v h2
  intro t Z;refine k t _ (sm.upd_new Z) ?_
  rw[ah,FQ,FQ];rfl
theorem pT (T:Txt w K mg) (L:FnL K mg "unlike_kept" dR ["wish","filling"]) (Fp:Fn P w K mg base "are_unlike" 1 ["things"] (zh)) (Y : @Dz6 P w K mg base):Fn P w K mg base "unlike_kept" 2 ["wish","filling"] (ib "unlike"):=by
 ctx_has z pK <;> obtain⟨w,f,W,g,rfl,hS,hW,hk,F,k⟩:=h
 .rfl
 refine⟨_,(ay (aI (aC Fp (af (aC Y (af (aK bg (pvM 0) aw) (af (pvM 1) ap))) ap)))),?_⟩
 obtain⟨cs,rfl⟩:=E1 hS;obtain⟨c,h1,h2⟩:=hW;have B:cs.length<=12:=hk
 ctx_has v h1
 refine⟨c,f,cs,g,rfl,h2,B,F,λp H1 Z e1=>?_⟩
 exact⟨p,cs.map g,rfl,e1,by rw[d_];omega,λH2 s2=>k H2 (Z.trans s2)⟩
theorem sS (T:Txt w K mg) (L:FnL K mg "many_kept" eu ["wish","filling"]) (Fc : @Dz5 P w K mg base):Fn P w K mg base "many_kept" 2 ["wish","filling"] (ib "many"):=by
 ctx_has z sQ <;> obtain⟨w,f,W,g,rfl,hS,hW,hk,F,k⟩:=h
 .rfl
 refine⟨_,(ak (gR 2 (N:=["cell","filling","wish"]) (nt:=1) (js:=[1,0]) (aP ["wish","filling","hits"] (aj eu).names) (cK K (aK bg (pvM 0) aw)) (aJ 0) aZ (gb (aS gS (cm hu (pvM 1) (pvM 0)) (aK bg (pvM 2) aw))) (pvM 0))
  (ay (aI (aC Fc (af (aM ck T.b_len (af (pvM 2) ap)) (af (aK bg (pvM 0) aw) (af (aK bg (pvM 0) aw) ap))))))),?_⟩
 obtain⟨av,cs,lo,hi,rfl⟩:=E2 hS;obtain⟨a,c,h1,h2,B⟩:=hW;obtain⟨kvs,f1,f2,f3,f4⟩:=F.ex;ctx_has v h1 B
 intro q hq;refine dL ba (λv=>match v with | .str c=>decide (g c∈av) | _=>false) id hq (λH' s=>.of (s _ _ B)) (by simp;have:=hk.2;omega) ?_ ?_ ?_
 .intro x H2 Q2 hx sm q2
  obtain⟨y,hy,rfl⟩:=r_.mp hx;have e1:=sm _ _ h1;have e2:=sm _ _ f1;have Z:=f2 y hy;have Y:=sm _ _ h2;ctx_has v e1 e2 Z Y
  refine⟨rfl,cR _,?_⟩
  rw[dN];exact q2 H2 (aA.refl _)
 .intro x H2 Q2 hx _ sm q2
  ctx_has v
  exact q2 H2 (aA.refl _)
 .intro H2 sm h2'
  have e1:=sm _ _ h1;ctx_has v h2' e1
  refine⟨_,some lo,some hi,rfl,λH3 s3=>?_⟩
  have:=k H3 (sm.trans s3)
  rw[d_,HL,d_];exact this
theorem uZ (T:Txt w K mg) (L:FnL K mg "sum_kept" fP ["wish","filling"]) (Fc : @Dz5 P w K mg base) (Fy:Fn P w K mg base "sum_of" 1 ["terms","filling"] (rF)):Fn P w K mg base "sum_kept" 2 ["wish","filling"] (ib "sum"):=by
 ctx_has z vm <;> obtain⟨w,f,W,g,rfl,hS,hW,Y,F,k⟩:=h
 .rfl
 refine⟨_,(ay (aI (aC Fc (af (aC Fy (af (aK bg (pvM 0) aw) (af (pvM 1) ap))) (af (aK bg (pvM 0) aw) (af (aK bg (pvM 0) aw) ap)))))),?_⟩
 obtain⟨ts,lo,hi,rfl⟩:=ET hS;obtain⟨t,h1,h2⟩:=hW;ctx_has v h1
 refine⟨t,f,ts,g,rfl,h2,Y,F,λH1 B=>?_⟩
 have e1:=B _ _ h1;ctx_has v e1
 exact⟨_,lo,hi,rfl,λH2 Z=>k H2 (B.trans Z)⟩
theorem qe (T:Txt w K mg) (L:FnL K mg "table_kept" eG ["wish","filling"]) (Fb : @Dz6 P w K mg base):Fn P w K mg base "table_kept" 2 ["wish","filling"] (ib "table"):=by
 ctx_has z pV <;> obtain⟨w,f,W,g,rfl,hS,hW,hk,F,k⟩:=h
 .rfl
 refine⟨_,(ay (aI (aX (xJ (A5 hr)) (aC Fb (af (aK bg (pvM 0) aw) (af (pvM 1) ap))) (aK bg (pvM 0) aw)))),?_⟩
 obtain⟨cs,rows,rfl⟩:=FM hS;obtain⟨c,tr,vs,h1,h2,h3,Z⟩:=hW;ctx_has v h1
 refine⟨c,f,cs,g,rfl,h2,hk,F,λp H1 B e1=>?_⟩
 have Y:=B _ _ h1;ctx_has v Y
 exact xb e1 (B _ _ h3) (Z.keep λa xs e=>B _ _ e) (k _ B)
theorem xu {s v:Int} : ∀{ps:List (Int × Int × Int)},(∀y∈ps,(y.1,y.2.1)≠(s,v))->bY (dC ps) [o_ s,o_ v]=none
 | [],_=>rfl
 | p :: ps,h=>by
  have F:=xu (ps:=ps) λy L=>h y (zc _ L)
  have B:([o_ p.1,o_ p.2.1]:List Key)≠[o_ s,o_ v]:=λz=>h p (FT) (by cases z;rfl)
  unfold dC at F ⊢;rw[y3];simpa [bY,B] using F
theorem sw (s v:Int) : ∀ps:List (Int × Int × Int),bY (dC ps) [o_ s,o_ v]=(jv ps (some s) v).map V.int
 | []=>rfl
 | p :: ps=>by
  have B:=sw s v ps;unfold dC jv at B ⊢;dsimp only at B ⊢;rw[y3,Hq]
  by_cases h:p.1=s/\p.2.1=v
  .rw[decide_eq_true h]
   obtain⟨rfl,rfl⟩:=h;simp[bY]
  .rw[decide_eq_false h]
   have F:([o_ p.1,o_ p.2.1]:List Key)≠[o_ s,o_ v]:=λz=>h (by cases z;exact⟨rfl,rfl⟩)
   simpa [bY,F] using B
theorem qT (ps:List (Int × Int × Int)) : ∀l:List Int,gz ps none l=none
 | []=>rfl
 | v :: l=>qT ps l
theorem kL (ps:List (Int × Int × Int)) (st:Option Int) (a b:List Int):gz ps st (a++b)=gz ps (gz ps st a) b:=by unfold gz;rw[foldl_append]
theorem qX {ps:List (Int × Int × Int)} {l:List Int} {st:Int} (B:l[i]? = some v) (h:gz ps (some 0) (l.take i)=some st):gz ps (some 0) (l.take (i+1))=jv ps (some st) v:=by
 rw[za,B,kL,h];rfl
theorem qD {ps:List (Int × Int × Int)} {l:List Int} (h:gz ps (some 0) (l.take i)=none):gz ps (some 0) l=none:=by
 rw[<- List.take_append_drop i l,kL,h,qT]
theorem oK {ps:List (Int × Int × Int)} {x:Int × Int × Int} (Z:(ps.map λx=>(x.1,x.2.1)).Nodup) (Y:ps[i]? = some x):bE (dC (ps.take i)) [o_ x.1,o_ x.2.1] (.int x.2.2)=dC (ps.take (i+1)):=by
 have F:ps.take (i+1)=ps.take i++[x]:=by rw[za,Y];rfl
 have B:((ps.take i++[x]).map λx=>(x.1,x.2.1)).Nodup:=by
  rw[<- F,map_take];exact Z.sublist (If _ _)
 rw[Gz,Gr] at B;rw[gj _ (xu λy L e=>B.2.2 _ (r_.mpr ⟨y,L,rfl⟩) _ (by simp) e),F]
 unfold dC;rw[Gz];rfl
theorem tR (T:Txt w K mg) (L:FnL K mg "way_kept" fR ["wish","filling"]) (Fb : @Dz6 P w K mg base):Fn P w K mg base "way_kept" 2 ["wish","filling"] (ib "way"):=by
 ctx_has z ud <;> obtain⟨w,f,W,g,rfl,hS,hW,hk,F,k⟩:=h
 .rfl
 refine⟨_,(ak (aL 2 uS)
  (ak (bD (cK K (aK bg (pvM 0) aw)) (aJ 3) (ay (xA hu (pvM 2) (cJ mQ (pvM 3) dJ (dr aw)) (aK bg (pvM 3) aw) rfl)))
  (ak (aL 4 aw)
  (ak (bD (cK K (aC Fb (af (aK bg (pvM 0) aw) (af (pvM 1) ap)))) (aJ 5) (ak (bS (mE (yE hu (cX (af (pvM 4) (af (pvM 5) ap))) (pvM 2))) (ay (aI dU)) aV)
  (ay (aL 4 (Cf hu (pvM 2) (cX (af (pvM 4) (af (pvM 5) ap))))))))
  (ay (aI (aX gS (pvM 4) (aK bg (pvM 0) aw)))))))),?_⟩
 obtain⟨cs,ps,es,rfl⟩:=EF hS;obtain⟨c,t,e,vs,h1,h2,h3,h4,h5⟩:=hW;obtain⟨as,rfl,rfl,am⟩:=h4;ctx_has v wp wU h1
 intro p hp;have ae:=hk.2.1;have ag:=hk.2.2;refine⟨_,(aA.upd0 hp) _ _ h1,_,rfl,t,rfl,_,(aA.upd0 hp) _ _ h3,?_⟩
 refine cL ba (λi σ H'=>∃v3,σ=[-w,-f,-p,v3,none,none]/\aA H H'/\H' p=some (.dT (dC ((as.map (·.2)).take i)))) ⟨_,rfl,aA.upd0 hp,ah⟩ (λi σ H' ac=>by obtain⟨_,_,sm,_⟩:=ac;exact(.of (sm _ _ h3))) ?_ ?_
 .rintro i x σ H' hi hx ⟨v3,rfl,sm,hd⟩
  obtain⟨y,hy,rfl⟩ : ∃y,as[i]? = some y/\V.ref y.1=x:=by
   rw[f_] at hx;cases e:as[i]? with
   | none=>rw[e] at hx;cases hx
   | some nm=>rw[e] at hx;exact⟨nm,rfl,h_ hx⟩
  have aj:=sm _ _ (am y (m_ hy));ctx_has v wU aj
  intro q H2 hq Z;have ar:(as.map (·.2))[i]? = some y.2:=by rw[f_,hy];rfl
  refine⟨_,ww.t (k:=[o_ y.2.1,o_ y.2.2.1]) (Z _ _ hd) hq ?_,λb o e=>?_,by rw[ah,oK ae ar]⟩
  .unfold dC
   rw[d_];exact Gc (IH _ _) (n_ (show(as.map (·.2)).length < 1000 by have:(as.map (·.2)).length<=60:=ag;omega) ∅)
  .rw[ao (az e hp)]
   exact Z _ _ (sm b o e)
 .rintro σ H' ⟨v3,rfl,sm,hd⟩
  rw[d_,show(as.map (·.2)).take as.length=as.map (·.2) from FX (by simp)] at hd
  have aa:=sm _ _ h1;ctx_has v aa
  refine⟨c,f,cs,g,rfl,sm _ _ h2,hk.1,F.same sm,λq H2 Z hq=>⟨q,rfl,_,hq,?_⟩⟩
  refine cL ba (λi σ H3=>∃v5 st,σ=[-w,-f,-p,v3,some (.int st),v5]/\gz (as.map (·.2)) (some 0) ((cs.map g).take i)=some st/\aA H2 H3) ⟨_,0,rfl,rfl,aA.refl _⟩ (λi σ H' ab=>by obtain⟨_,_,_,_,Y⟩:=ab;exact(.of (Y _ _ hq))) ?_ ?_
  .rintro i x σ H3 hi hx ⟨v5,st,rfl,hrun,Y⟩
   obtain⟨v,hv,rfl⟩ : ∃v,(cs.map g)[i]? = some v/\V.int v=x:=by
    rw[f_] at hx;cases e:(cs.map g)[i]? with
    | none=>rw[e] at hx;cases hx
    | some nm=>rw[e] at hx;exact⟨nm,rfl,h_ hx⟩
   have ad:=Y _ _ (Z _ _ hd);ctx_has v wS Cv
   refine⟨∅,λr g1=>⟨_,kc.t (k:=[o_ st,o_ v]) ((aA.upd0 g1) _ _ ad) ah,?_⟩⟩
   rw[sw];have B:=qX hv hrun;cases eg:jv (as.map (·.2)) (some st) v with
   | none =>
    rw[eg] at B;have ai:bX (.wy cs (as.map (·.2)) es) g=false:=by unfold bX;dsimp only;rw[show gz (as.map (·.2)) (some 0) (cs.map g)=none from qD B];rfl
    have:=k _ (sm.trans (Z.trans (Y.trans (aA.upd0 (o:=.tup [.int st,.int v]) g1))))
    rw[ai] at this;exact this
   | some n =>
    rw[eg] at B;refine⟨∅,λr2 g2=>⟨V.int n,?_,_,n,rfl,rfl,B,Y.trans ((aA.upd0 g1).upd_new g2)⟩⟩
    have:=kc.t (k:=[o_ st,o_ v]) ((aA.upd0 g1).upd_new (o:=.tup [.int st,.int v]) g2 _ _ ad) ah
    rw[sw,eg] at this;exact this
  .rintro σ H3 ⟨v5,st,rfl,hrun,Y⟩
   have an:=Y _ _ (Z _ _ aa);ctx_has v an
   rw[show(cs.map g).take ((cs.map g).map V.int).length=cs.map g from FX (by simp)] at hrun
   refine⟨_,Y _ _ (Z _ _ (sm _ _ h5)),rfl,cR es,?_⟩
   have aq:bX (.wy cs (as.map (·.2)) es) g=decide (st∈es):=by unfold bX;dsimp only;rw[show gz (as.map (·.2)) (some 0) (cs.map g)=some st from hrun];rfl
   rw[show inV (V.int st) (es.map V.int)=decide (st∈es) from dN st es,<- aq]
   exact k _ (sm.trans (Z.trans Y))
theorem pJ (T:Txt w K mg) (L:FnL K mg "behind_kept" dv ["wish","filling"]) (Fb : @Dz6 P w K mg base):Fn P w K mg base "behind_kept" 2 ["wish","filling"] (ib "behind"):=by
 ctx_has z pQ <;> obtain⟨w,f,W,g,rfl,hS,hW,hk,F,k⟩:=h
 .rfl
 refine⟨_,(ak (aL 2 (aC Fb (af (aK bg (pvM 0) aw) (af (pvM 1) ap))))
  (ay (aI (aM (jA rfl) T.b_all (af (bB (N:=["ahead","later","wish"]) (nt:=2) (js:=[0]) (aP ["wish","filling","found"] (aj dv).names) (AW (K:=K) rfl rfl T.b_zip (af (pvM 2) (af (cJ mQ (pvM 2) (dr aw) dJ) ap))) (jH (n:=2) rfl (dM (aJ 0) (dM (aJ 1) jG))) iz cF (aX ji (aT br (pvM 0) (aK bg (pvM 2) aw)) (pvM 1))) ap))))),?_⟩
 obtain⟨cs,gap,rfl⟩:=EQ hS;obtain⟨c,h1,h2⟩:=hW;ctx_has v h1
 refine⟨c,f,cs,g,rfl,h2,hk.2,F,λp H1 s1 e1=>?_⟩
 ctx_has v e1
 intro p2 H2 e2 Z;rw[show gP ((cs.map g).map V.int) (some 1) none=((cs.map g).drop 1).map V.int from gB V.int (cs.map g) 1] at e2
 have B:=Z _ _ e1;have aa:=Z _ _ (s1 _ _ h1);ctx_has v B e2
 intro q hq;refine qL (λx y=>match x,y with | .int a,.int b=>.bl (decide (a+gap<=b)) | _,_=>.non) hq B e2 (by have:=hk.2;simp at this ⊢;omega) ?_ ?_
 .intro x y H3 Q3 hx hy sm q3
  obtain⟨x,_,rfl⟩:=r_.mp hx;obtain⟨y,_,rfl⟩:=r_.mp hy;have Y:=sm _ _ aa;ctx_has v Y
  exact q3 H3 (aA.refl _)
 .intro H3 sm Y
  ctx_has v
  refine⟨zipWith (λa b=>decide (a+gap<=b)) (cs.map g) ((cs.map g).drop 1),?_,k H3 ((s1.trans Z).trans sm)⟩
  rw[Y,List.map_zipWith,List.zipWith_map]
theorem qq (B : ∀y∈pd,FnT P w K mg base (au mg "KEEPERS") y 3 ["wish","filling"] (ib y)) (T:Txt w K mg) (L:FnL K mg "wish_kept" fk ["wish","filling"]):Fn P w K mg base "wish_kept" 4 ["wish","filling"] (lz):=by
 ctx_has z rK <;> obtain⟨w,f,W,g,rfl,Y,Z,F,k⟩:=h
 .rfl
 refine⟨_,(ay (aI (AI T.tb_KEEPERS B T.at_KEEPERS (aK bg (pvM 0) aw) (af (pvM 0) (af (pvM 1) ap))))),?_⟩
 cases W with
 | un cs=>obtain⟨c,h1,h2⟩:=id Y;ctx_has v jT h1;exact⟨qZ (.un cs),w,f,_,g,rfl,rfl,Y,Z,F,k⟩
 | mn av cs lo hi=>obtain⟨a,c,h1,h2,h3⟩:=id Y;ctx_has v jT h1;exact⟨qZ (.mn av cs lo hi),w,f,_,g,rfl,rfl,Y,Z,F,k⟩
 | sm ts lo hi=>obtain⟨t,h1,h2⟩:=id Y;ctx_has v jT h1;exact⟨qZ (.sm ts lo hi),w,f,_,g,rfl,rfl,Y,Z,F,k⟩
 | tb cs rows=>obtain⟨c,t,vs,h1,h2,h3,h4⟩:=id Y;ctx_has v jT h1;exact⟨qZ (.tb cs rows),w,f,_,g,rfl,rfl,Y,Z,F,k⟩
 | wy cs ps es=>obtain⟨c,t,e,vs,h1,h2,h3,h4,h5⟩:=id Y;ctx_has v jT h1;exact⟨qZ (.wy cs ps es),w,f,_,g,rfl,rfl,Y,Z,F,k⟩
 | bh cs gap=>obtain⟨c,h1,h2⟩:=id Y;ctx_has v jT h1;exact⟨qZ (.bh cs gap),w,f,_,g,rfl,rfl,Y,Z,F,k⟩
theorem rP (T:Txt w K mg) (L:FnL K mg "same_kept" fz ["wish","filling"]) (Z:Fn P w K mg base "wish_kept" 4 ["wish","filling"] (lz)):Fn P w K mg base "same_kept" 5 ["wish","filling"] (ph):=by
 ctx_has z rG <;> obtain⟨w,f,c,us,W,g,rfl,hW,Y,F,k⟩:=h
 .rfl
 refine⟨_,(ay (aI (aX cI (aX gS (cm hu (pvM 1) (aK bg (pvM 0) aw)) (aK bg (pvM 0) aw)) (aC Z (af (aK bg (pvM 0) aw) (af (pvM 1) ap)))))),?_⟩
 obtain⟨t,u,h1,h2,B⟩:=hW;obtain⟨kvs,f1,f2,f3,f4⟩:=F.ex;have e2:=f2 c FT;ctx_has v h1 f1 e2 h2
 refine⟨rfl,cR _,?_⟩
 rw[dN];refine⟨u,f,W,g,rfl,B,Y,F.sub λc hc=>zc _ hc,λH' s=>⟨rfl,by rw[show decide (V.bl (decide (g c∈us))=V.bl (bX W g))=on (.sa c us W) g by simp[on]];exact k H' s⟩⟩
def px (st v:Int) (x:Int × Int × Int):Option Int:=if x.1=st/\x.2.1=v then some x.2.2 else none
theorem vq (st v:Int) : ∀ps:List (Int × Int × Int),(ps.filterMap (px st v)).head? = jv ps (some st) v
 | []=>rfl
 | p :: ps=>by
  have B:=vq st v ps;unfold jv at B ⊢;dsimp only at B ⊢;rw[Hq]
  by_cases h:p.1=st/\p.2.1=v
  .rw[List.filterMap_cons_some (b:=p.2.2) (by simp[px,h]),decide_eq_true h]
   rfl
  .rw[List.filterMap_cons_none (by simp[px,h]),decide_eq_false h]
   exact B
theorem Ch {t D:Addr} {st:Int} {Qf:VK} (h3:H' t>>(as.map λx=>V.ref x.1)) (Y : ∀x∈as,H' x.1>>[.int x.2.1,.int x.2.2.1,.int x.2.2.2]) (hl:as.length<=60) (Z:H' D=none)
  (hQ : ∀H1 (zs:List Int),aA H' H1->H1 D*>(zs.map V.int)->zs.head? = jv (as.map (·.2)) (some st) v->Qf (.ref D) H1) :
  mR (Itt K t) [none,some (V.int st),some (V.int v)] (gv 0) (qB (tOp (Dg K) (tSl Bg (fO 0) kW (uI (tC (V.int 2)))) (Cj (jQ (fO 1) (jQ (fO 2) vL))))) (tOp rIT (fO 0) (tC (V.int 2))) Qf H' D:=by
 refine gl ba (λj zs H1=>zs=(((as.map (·.2)).take j).filterMap (px st v)).map V.int/\aA H' H1/\H1 D*>zs) ⟨rfl,aA.upd0 Z,ah⟩ (λi ys H1 h=>.of (h.2.1 _ _ h3)) ?_ ?_
 .rintro j x ys H1 hj hx ⟨rfl,sm,hd⟩
  obtain⟨y,hy,rfl⟩ : ∃y,as[j]? = some y/\V.ref y.1=x:=by
   rw[f_] at hx;cases e:as[j]? with
   | none=>rw[e] at hx;cases hx
   | some nm=>rw[e] at hx;exact⟨nm,rfl,h_ hx⟩
  have hc:=sm _ _ (Y y (m_ hy));have et:(as.map (·.2)).take (j+1)=(as.map (·.2)).take j++[y.2]:=by rw[za,f_,hy];rfl
  rw[et,List.filterMap_append,Gz];have L:((((as.map (·.2)).take j).filterMap (px st v)).map V.int).length < l_:=by
   rw[d_];refine Gc (List.length_filterMap_le _ _) (Gc (IH _ _) ?_)
   exact n_ (show(as.map (·.2)).length < 1000 by simp;omega) ∅
  ctx_has v hc
  intro p H2 hp s2;refine⟨∅,λp2 F=>?_⟩
  have B:=s2.trans (aA.upd0 (o:=.tup [.int st,.int v]) F);refine⟨jt [y.2.1,y.2.2.1],jt [st,v],.tup (.of ((aA.upd0 F) _ _ hp)) (hU.ints [y.2.1,y.2.2.1]),.tup (.of ah) (hU.ints [st,v]),ll _,ll _,w_ (mt _) ∅,?_⟩
  rw[wX];refine⟨_,rfl,?_⟩
  by_cases h:y.2.1=st/\y.2.2.1=v
  .rw[decide_eq_true (show[y.2.1,y.2.2.1]=[st,v] by rw[h.1,h.2]),if_pos rfl]
   refine⟨_,B _ _ hc,_,rfl,B _ _ hd,L,by simp[px,h],λb o e=>?_,ah⟩
   rw[ao (az e Z)];exact B _ _ (sm b o e)
  .rw[decide_eq_false (show ¬ [y.2.1,y.2.2.1]=[st,v] from λz=>h (by cases z;exact⟨rfl,rfl⟩)),if_neg x_]
   exact⟨by simp[px,h],sm.trans B,B _ _ hd⟩
 .rintro zs H1 ⟨rfl,sm,hd⟩
  rw[d_,show(as.map (·.2)).take as.length=as.map (·.2) from FX (by simp)] at hd
  exact hQ H1 _ sm hd (vq st v _)
abbrev Dz7:=Fn P w K mg base "_law_kept" 3 ["_law_wish_here","_law_filling"] (lz)
abbrev nz0:List Str:=["_law_wish_here","_law_filling","_law_total","_law_values","_law_state","_law_value","_law_after"]
theorem qa (T:Txt w K mg) (L:FnL K mg "_law_kept" bU ["_law_wish_here","_law_filling"]) : @Dz7 P w K mg base:=by
 ctx_has z kU <;> obtain⟨w,f,W,g,rfl,hW,B,F,k⟩:=h
 .rfl
 refine⟨_,(ak (bS (aS cI (aK bg (pvM 0) aw) aO) (ay eS) aV)
  (ak (bS (aS cI (aK bg (pvM 0) aw) aO) (ak (aL 2 (aM (kz rfl) T.b_sum (af (bB (N:=["_law_a","_law_name","_law_filling"]) (nt:=2) (js:=[1]) (aP nz0 (aj bU).names) (cK K (aK bg (pvM 0) aw)) (jH (n:=2) rfl (dM (aJ 0) (dM (aJ 1) jG))) iz cF (aT gO (pvM 0) (cm hu (pvM 2) (pvM 1)))) ap)))
  (ay (aI (jh (jS (lH (lQ (aK bg (pvM 0) aw))) (dS (aX Er (pvM 2) (aK bg (pvM 0) aw)))) (dS (jS (lH (lQ (aK bg (pvM 0) aw))) (dS (aX ji (pvM 2) (aK bg (pvM 0) aw))))))))) aV)
  (ak (bS (aS cI (aK bg (pvM 0) aw) aO) (ay (aI (AV ji ji (aK bg (pvM 0) aw) (aM ck T.b_len (af (bB (N:=["_law_name","_law_filling","_law_wish_here"]) (nt:=1) (js:=[1,0]) (aP nz0 (aj bU).names) (cK K (aK bg (pvM 0) aw)) (aJ 0) aZ (gb (aS gS (cm hu (pvM 1) (pvM 0)) (aK bg (pvM 2) aw))) (pvM 0)) ap)) (aK bg (pvM 0) aw)))) aV)
  (ak (aL 3 (bB (N:=["_law_name","_law_filling"]) (nt:=1) (js:=[1]) (aP nz0 (aj bU).names) (cK K (aK bg (pvM 0) aw)) (aJ 0) aZ cF (cm hu (pvM 1) (pvM 0))))
  (ak (bS (aS cI (aK bg (pvM 0) aw) aO) (ay (aI (aX cI (aM nj T.b_len (af (bL (ya rfl) T.b_set (af (pvM 3) ap)) ap)) (aM ck T.b_len (af (pvM 3) ap))))) aV)
  (ak (bS (aS cI (aK bg (pvM 0) aw) aO) (ay (aI (aX (xJ (A5 hr)) (bL dO T.b_tuple (af (pvM 3) ap)) (aK bg (pvM 0) aw)))) aV)
  (ak (bS (aS cI (aK bg (pvM 0) aw) aO) (ay (aI (aM (jA rfl) T.b_all (af (bB (N:=["_law_k","_law_values","_law_wish_here"]) (nt:=1) (js:=[3,0]) (aP nz0 (aj bU).names) (fD rfl T.b_range (af (aT iB (aM ck T.b_len (af (pvM 3) ap)) aw) ap)) (aJ 0) aZ cF (aX ji (aT br (aK iR (pvM 1) (pvM 0)) (aK bg (pvM 2) aw)) (aK iR (pvM 1) (aT br (pvM 0) aw)))) ap)))) aV)
  (ak (aL 4 aw)
  (ak (bD (ik K (pvM 3)) (aJ 5) (ak (gR 6 (N:=["_law_step","_law_state","_law_value"]) (nt:=1) (js:=[4,5]) (aP nz0 (aj bU).names) (cK K (aK bg (pvM 0) aw)) (aJ 0) aZ (gb (aS (Cc (K:=K) rfl (xC hr)) (cJ mQ (pvM 0) dJ (dr aw)) (cX (af (pvM 1) (af (pvM 2) ap))))) (aK bg (pvM 0) aw))
  (ak (bS (aS (tz (xC hr)) (pvM 6) (dA ap)) (ay (aI dU)) aV)
  (ay (aL 4 (aK iR (pvM 6) aw))))))
  (ay (aI (aX gS (pvM 4) (aK bg (pvM 0) aw))))))))))))),?_⟩
 obtain⟨kvs,f1,f2,f3,f4⟩:=F.ex;cases W with
 | un cs =>
  obtain⟨c,h1,h2⟩:=hW;have aE:cs.length<=12:=B
  ctx_has v h1 h2
  intro q hq;refine cQ ba (λv=>match v with | .str c=>.int (g c) | _=>.non) hq (λH' s=>.of (s _ _ h2)) (by simp;omega) ?_ ?_
  .intro x H2 Q2 Y sm q2
   obtain⟨y,hy,rfl⟩:=r_.mp Y;have e2:=sm _ _ f1;have e3:=f2 y hy;ctx_has v e2 e3
   exact q2 H2 (aA.refl _)
  .intro H2 sm e2
   have Z:H2 q*>((cs.map g).map V.int):=by rw[e2,FQ,FQ];rfl
   have aa:=sm _ _ h1;ctx_has v aa
   refine⟨cs.map g,Z,by simp;omega,λy S hy=>?_⟩
   refine⟨S,_,ah,_,by rw[ao (az Z hy)];exact Z,?_⟩
   have B:=k _ (sm.upd_new (o:=.set S (hV (cs.map g))) hy);have e3:bX (.un cs) g=decide ((hV (cs.map g):Int)=(((cs.map g).map V.int).length:Int)):=by
    unfold bX;dsimp only;rw[FY,decide_eq_true_eq,decide_eq_true_eq,<- ro,d_ (as:=cs.map g)];omega
   rw[e3] at B;exact B
 | mn av cs lo hi =>
  obtain⟨am,ce,ac,a9,aq⟩:=hW;have a7:cs.length<=12:=B.2
  ctx_has v ac aq
  intro q hq;refine dL ba (λv=>match v with | .str c=>decide (g c∈av) | _=>false) id hq (λH' s=>.of (s _ _ aq)) (by simp;omega) ?_ ?_ ?_
  .intro x H2 Q2 Y sm q2
   obtain⟨c,aF,rfl⟩:=r_.mp Y;have ab:=sm _ _ ac;have a4:=sm _ _ f1;have a3:=sm _ _ a9;have hv:=f2 c aF;ctx_has v a4 hv ab a3
   refine⟨rfl,cR _,?_⟩
   rw[dN];exact q2 H2 (aA.refl _)
  .intro x H2 Q2 Y _ sm q2
   ctx_has v
   exact q2 H2 (aA.refl _)
  .intro H2 sm h2
   have ab:=sm _ _ ac;ctx_has v h2 ab
   have B:=k H2 sm;unfold bX eU at B;dsimp only at B;have el:(List.map id (List.filter (λv=>match v with | .str c=>decide (g c∈av) | _=>false) (cs.map V.str))).length=(cs.filter λc=>decide (g c∈av)).length:=by
    rw[d_,HL,d_];rfl
   rw[el];refine fF (λh=>?_) (λh=>?_)
   .rw[decide_eq_true h,Bool.true_and] at B;exact B
   .rw[decide_eq_false h,Bool.false_and] at B;exact B
 | sm ts lo hi =>
  obtain⟨t,ac,as,au,rfl,ag⟩:=hW;have a7:as.length<=12:=by have:(as.map (·.2)).length<=12:=B;simpa using this
  ctx_has v ac au
  intro q hq;refine gl ba (λj ys H2=>ys=((as.take j).map λx=>x.2.1 * g x.2.2).map V.int/\H2 q*>ys/\aA H H2) ⟨by simp,ah,aA.upd0 hq⟩ (λj ys H2 ax=>by obtain⟨_,_,sm⟩:=ax;exact(.of (sm _ _ au))) ?_ ?_
  .rintro j x ys H2 hj Y ⟨rfl,h2,sm⟩
   rw[d_] at hj;obtain⟨y,hy,rfl⟩ : ∃y,as[j]? = some y/\V.ref y.1=x:=by
    rw[f_] at Y;cases e:as[j]? with
    | none=>rw[e] at Y;cases Y
    | some nm=>rw[e] at Y;exact⟨nm,rfl,h_ Y⟩
   have ae:y∈as:=m_ hy
   have e3:=sm _ _ (ag y ae);have e4:=sm _ _ f1;have e5:=f2 y.2.2 (r_.mpr ⟨y.2,r_.mpr ⟨y,ae,rfl⟩,rfl⟩);have e6:=F.bd y.2.2 (r_.mpr ⟨y.2,r_.mpr ⟨y,ae,rfl⟩,rfl⟩);ctx_has v e3 e4 e5
   refine⟨.inr ⟨(),()⟩,h2,by simp;exact aU (),?_,ah,λb o e=>?_⟩
   .rw[za,hy];simp
   .rw[ao (az e hq)];exact sm _ _ e
  .rintro ys H2 ⟨rfl,h2,sm⟩
   rw[d_,FV] at h2;have ab:=sm _ _ ac;have ek:(((as.map (·.2)).map λx=>x.1 * g x.2).sum)=(as.map λx=>x.2.1 * g x.2.2).sum:=by rw[FQ];rfl
   have B:=k H2 sm;unfold bX at B;dsimp only at B;rw[ek] at B;ctx_has v
   refine⟨as.map λx=>x.2.1 * g x.2.2,.of h2,?_⟩
   generalize (as.map λx=>x.2.1 * g x.2.2).sum=aG at B ⊢
   cases lo with
   | none =>
    cases hi with
    | none=>ctx_has v ab bV decide_true decide_false q_;exact B
    | some b=>ctx_has v ab bV decide_true decide_false q_;simpa [eU] using B
   | some a =>
    cases hi with
    | none =>
     ctx_has v ab bV decide_true decide_false q_
     refine fF (λh=>?_) (λh=>?_)
     .simpa [eU,h] using B
     .simpa [eU,h] using B
    | some b =>
     ctx_has v ab bV decide_true decide_false q_
     refine fF (λh=>?_) (λh=>?_)
     .simpa [eU,h] using B
     .simpa [eU,h] using B
 | tb cs rows =>
  obtain⟨c,tr,vs,h1,h2,h3,h4⟩:=hW;have aE:cs.length<=12:=B
  ctx_has v h1 h2
  intro q hq;refine cQ ba (λv=>match v with | .str c=>.int (g c) | _=>.non) hq (λH' s=>.of (s _ _ h2)) (by simp;omega) ?_ ?_
  .intro x H2 Q2 Y sm q2
   obtain⟨y,hy,rfl⟩:=r_.mp Y;have e2:=sm _ _ f1;have e3:=f2 y hy;ctx_has v e2 e3
   exact q2 H2 (aA.refl _)
  .intro H2 sm e2
   have Z:H2 q*>((cs.map g).map V.int):=by rw[e2,FQ,FQ];rfl
   have aa:=sm _ _ h1;ctx_has v Z aa
   intro tt aD;have s3:aA H2 (upd H2 tt (.tup ((cs.map g).map V.int))):=aA.upd0 aD
   refine⟨_,s3 _ _ aa,?_⟩
   ctx_has v
   exact xb ah (s3 _ _ (sm _ _ h3)) (h4.keep λa xs e=>s3 _ _ (sm _ _ e)) (k _ (sm.trans s3))
 | wy cs ps es =>
  obtain⟨c,t,e,vs,h1,h2,h3,h4,h5⟩:=hW;obtain⟨as,rfl,rfl,ag⟩:=h4;ctx_has v h1 h2
  intro q hq;refine cQ ba (λv=>match v with | .str c=>.int (g c) | _=>.non) hq (λH' s=>.of (s _ _ h2)) (by have:=B.1;simp;omega) ?_ ?_
  .intro x H2 Q2 Y sm q2
   obtain⟨y,hy,rfl⟩:=r_.mp Y;have e2:=sm _ _ f1;have e3:=f2 y hy;ctx_has v e2 e3
   exact q2 H2 (aA.refl _)
  .intro H2 sm e2
   have Z:H2 q*>((cs.map g).map V.int):=by rw[e2,FQ,FQ];rfl
   have aa:=sm _ _ h1;ctx_has v Z aa
   have a5:=B.2.2;refine cL dD (λi σ H3=>∃v5 v6 st,σ=[-w,-f,none,-q,some (.int st),v5,v6]/\gz (as.map (·.2)) (some 0) ((cs.map g).take i)=some st/\aA H2 H3) ⟨_,_,0,rfl,rfl,aA.refl _⟩ (λi σ H' an=>by obtain⟨_,_,_,_,_,s3⟩:=an;exact(.of (s3 _ _ Z))) ?_ ?_
   .rintro i x σ H3 hi Y ⟨v5,v6,st,rfl,hrun,s3⟩
    obtain⟨v,hv,rfl⟩ : ∃v,(cs.map g)[i]? = some v/\V.int v=x:=by
     rw[f_] at Y;cases e:(cs.map g)[i]? with
     | none=>rw[e] at Y;cases Y
     | some nm=>rw[e] at Y;exact⟨nm,rfl,h_ Y⟩
    have ai:=s3 _ _ aa;have ar:=s3 _ _ (sm _ _ h3);ctx_has v ai ar
    intro D hD;refine Ch ar (λx Y=>s3 _ _ (sm _ _ (ag x Y))) (by simpa using a5) hD λH4 zs s4 hz hh=>?_
    have ad:=qX hv hrun;refine⟨∅,λp5 aB=>?_⟩
    have s5:=aA.upd0 (o:=.lst []) aB;refine⟨.list (zs.map G2),.list [],.lst (.of (s5 _ _ hz)) (hU.ints zs),.lst (.of ah) .nil,by unfold PyData.canLay0;exact lay_ints zs,rfl,by unfold PyData.depth;rw[depth_ints];decide,_,rfl,?_⟩
    cases zs with
    | nil =>
     rw[show G3 (.list (([]:List Int).map G2)) (.list [])=true by rfl,if_pos rfl]
     rw[<- hh] at ad;have a0:bX (.wy cs (as.map (·.2)) es) g=false:=by unfold bX;dsimp only;rw[show gz (as.map (·.2)) (some 0) (cs.map g)=none from qD ad];rfl
     have:=k _ (sm.trans (s3.trans (s4.trans s5)))
     rw[a0] at this;exact this
    | cons n zs =>
     rw[show G3 (.list ((n :: zs).map G2)) (.list [])=false by simp[G3,HJ],if_neg x_]
     rw[<- hh] at ad;exact⟨D,rfl,_,s5 _ _ hz,V.int n,da (j:=0) (by simp),_,_,n,rfl,rfl,rfl,ad,s3.trans (s4.trans s5)⟩
   .rintro σ H3 ⟨v5,v6,st,rfl,hrun,s3⟩
    have ai:=s3 _ _ aa;ctx_has v ai
    rw[show(cs.map g).take ((cs.map g).map V.int).length=cs.map g from FX (by simp)] at hrun
    refine⟨_,s3 _ _ (sm _ _ h5),rfl,cR es,?_⟩
    have a8:bX (.wy cs (as.map (·.2)) es) g=decide (st∈es):=by unfold bX;dsimp only;rw[show gz (as.map (·.2)) (some 0) (cs.map g)=some st from hrun];rfl
    rw[show inV (V.int st) (es.map V.int)=decide (st∈es) from dN st es,<- a8]
    exact k _ (sm.trans s3)
 | bh cs gap =>
  obtain⟨c,h1,h2⟩:=hW;have hl:cs≠[]/\cs.length<=12:=B
  ctx_has v h1 h2
  intro q hq;refine cQ ba (λv=>match v with | .str c=>.int (g c) | _=>.non) hq (λH' s=>.of (s _ _ h2)) (by have:=hl.2;simp;omega) ?_ ?_
  .intro x H2 Q2 Y sm q2
   obtain⟨y,hy,rfl⟩:=r_.mp Y;have e2:=sm _ _ f1;have e3:=f2 y hy;ctx_has v e2 e3
   exact q2 H2 (aA.refl _)
  .intro H2 sm e2
   have Z:H2 q*>((cs.map g).map V.int):=by rw[e2,FQ,FQ];rfl
   have aa:=sm _ _ h1;have lp:=Ie.mpr hl.1;ctx_has v Z aa
   refine⟨by simp;omega,by simp;omega,λq2 aC=>?_⟩
   refine cQ eE (λv=>match v with | .int i=>.bl (decide ((cs.map g).getD i.toNat 0+gap<=(cs.map g).getD (i.toNat+1) 0)) | _=>.non) aC (λ_ _=>Gf) (by rw[aY];simp;omega) ?_ ?_
   .intro x H3 Q3 Y sm3 q3
    obtain⟨i,hi,rfl⟩ : ∃i:Nat,i < cs.length - 1/\x=V.int i:=by
     simp only[vZ,r_,IM] at Y;obtain⟨i,hi,e⟩:=Y;refine⟨i,by simp at hi;omega,by rw[<- e];simp⟩
    have h3:=sm3 _ _ Z;have a6:=sm3 _ _ aa;have a1:atI ((cs.map g).map V.int) (i:Int)=some (.int ((cs.map g).getD i 0)):=da (by simp[show i < cs.length by omega])
    have a2:atI ((cs.map g).map V.int) ((i:Int)+1)=some (.int ((cs.map g).getD (i+1) 0)):=da (j:=i+1) (by simp[show i+1 < cs.length by omega])
    ctx_has v h3 a6 a1 a2
    exact q3 H3 (aA.refl _)
   .intro H3 sm3 h3
    ctx_has v
    refine⟨(range ((cs.map g).length - 1)).map λk=>decide ((cs.map g).getD k 0+gap<=(cs.map g).getD (k+1) 0),?_,?_⟩
    .rw[h3]
     congr 2
     simp only[vZ,FQ];rw[show(((cs.map (V.int ∘ g)).length:Int) - 1).toNat=(cs.map g).length - 1 by simp]
     refine Gb λi _=>?_
     simp
    .rw[xY]
     exact k H3 (sm.trans sm3)
section
variable {k2:Nat} {ps2:List Str} {sp2:Sp} {p:Pos} {t:TA}
theorem zj (L:FnL K mg x st ps):Fn P w K mg base x k ps (λ_ _ _ _=>False):=by
 obtain⟨f,fd,F,m,b⟩:=L;exact⟨f,fd,⟨λ_ _ _ _ h=>h.elim,λ_ _ _ _ _ _ _ _ _ _ _ _ _ h=>h.elim⟩,m,F.kp,b⟩
end
abbrev Dz8:=Fn P w K mg base "_law_kept" 4 ["_law_wish_here","_law_filling"] (ph)
theorem qj (T:Txt w K mg) (L:FnL K mg "_law_kept" bU ["_law_wish_here","_law_filling"]) (FH : @Dz7 P w K mg base) : @Dz8 P w K mg base:=by
 ctx_has z kU <;> obtain⟨w,f,c,us,W,g,rfl,hW,Y,F,k⟩:=h
 .rfl
 refine⟨_,(ak (bS (aS cI (aK bg (pvM 0) aw) aO) (ay (aI (aX cI (aX gS (cm hu (pvM 1) (aK bg (pvM 0) aw)) (aK bg (pvM 0) aw)) (aC FH (af (aK bg (pvM 0) aw) (af (pvM 1) ap)))))) aV)
  (ak eS
  (ak eS
  (ak eS
  (ak eS
  (ak eS
  (ak eS
  (ak eS
  (ak eS
  (ay eS)))))))))),?_⟩
 obtain⟨t,u,h1,h2,B⟩:=hW;obtain⟨kvs,f1,Z,f3,f4⟩:=F.ex;have e2:=Z c FT;ctx_has v h1 f1 e2 h2
 refine⟨rfl,cR _,?_⟩
 rw[dN];refine⟨u,f,W,g,rfl,B,Y,F.sub λc hc=>zc _ hc,λH' s=>⟨rfl,by rw[show decide (V.bl (decide (g c∈us))=V.bl (bX W g))=on (.sa c us W) g by simp[on]];exact k H' s⟩⟩
def uk:Sp:=λvs H Q _=>∃(d l:Addr) (lo hi:Int),vs=[.ref d,.int lo,.int hi]/\aQ H d l/\lo<=hi/\-10000000000000<=lo/\hi<=10000000000000/\∀(p:Addr) (a b:Option Int) (H':Hp),H p=none->H' p>>[bV a,bV b]->aQ H' d l->But d l H H'->Q (.ref p) H'
theorem BI {a:Int} (Z : -1000000<=a) (L:a<=1000000) (Y : -1000000<=v) (F:v<=1000000) : -1000000000000<=a * v:=by
 have h1:a.natAbs<=1000000:=()
 have h2:v.natAbs<=1000000:=()
 have B:(a * v).natAbs<=1000000 * 1000000:=by rw[Int.natAbs_mul];exact Nat.mul_le_mul h1 h2
 omega
theorem zX {a:Int} (Z : -1000000<=a) (L:a<=1000000) (Y : -1000000<=v) (F:v<=1000000):a * v<=1000000000000:=by
 have h1:a.natAbs<=1000000:=()
 have h2:v.natAbs<=1000000:=()
 have B:(a * v).natAbs<=1000000 * 1000000:=by rw[Int.natAbs_mul];exact Nat.mul_le_mul h1 h2
 omega
theorem pM {D:Addr} {x:Int} {Q:VK} (h:H a>>(ns.map V.int)) (L : -1000000<=x) (B:x<=1000000) (hl:ns.length<=20) (F:H D=none) (q : ∀H',aA H H'->H' D*>((ns.map λv=>x * v).map V.int)->Q (.ref D) H') :
  mR (Itt K a) [none,some (V.int x)] (gv 0) tW (tOp (rI yd λi j=>V.int (i * j)) (fO 1) (fO 0)) Q H D:=by
 refine cQ ba (λv=>match v with | .int i=>.int (x * i) | _=>.non) F (λH' s=>.of (s _ _ h)) (by simp;omega) ?_ ?_
 .intro y H2 Q2 hy sm q2
  obtain⟨z,Y,rfl⟩:=r_.mp hy;ctx_has v
  exact⟨.inl ⟨(),()⟩,q2 H2 (aA.refl _)⟩
 .intro H2 sm e2
  refine q H2 sm ?_
  rw[e2,FQ,FQ];rfl
def Am:Sp:=λvs H Q _=>∃(d l sa ra:Addr) (cs:List Str) (kvs:List (Key × V)) (rm:Str->List Int),vs=[.ref d,.ref sa,.ref ra]/\aQ H d l/\(ra≠d/\ra≠l)/\H sa>>(cs.map V.str)/\H ra<*kvs/\bj H kvs cs rm/\cs.length<=12/\(∀c∈cs,rm c≠[]/\(rm c).length<=20/\∀v∈rm c,-1000000<=v/\v<=1000000) /\
 ∀(w:Addr) (ts:List (Int × Str)) (lo hi:Option Int) (H':Hp),H w=none->WS H' w (.sm ts lo hi)->ts.map (·.2)=cs.take 4->(∀x∈ts,-1000000<=x.1/\x.1<=1000000/\x.1≠0)->aQ H' d l->But d l H H'->Q (.ref w) H'
theorem aQ.tupN (D:aQ H d l) (h:H a>>vs):a≠d/\a≠l:=by
 obtain⟨m',Y,Z,L,B,F,_⟩:=D.ex;exact⟨bo h B (by intro z;cases z),bo h F (by intro z;cases z)⟩
theorem But.tup {H H':Hp} {d l a:Addr} {vs:List V} (B:But d l H H') (D:aQ H d l) (h:H a>>vs):H' a>>vs:=B a _ (D.tupN h).1 (D.tupN h).2 h
abbrev Dz9:=Fn P w K mg base "_law_bounds" 2 ["_law_deal_here","_law_low","_law_high"] (uk)
theorem oG (T:Txt w K mg) (L:FnL K mg "_law_bounds" dQ ["_law_deal_here","_law_low","_law_high"]) (Fa : @Dz0 P w K mg base) : @Dz9 P w K mg base:=by
 ctx_has z pj <;> obtain⟨d,l,lo,hi,rfl,D,ar,ax,am,k⟩:=h
 .rfl
 refine⟨_,(ak (aL 3 (aT br (pvM 1) (aC Fa (af (pvM 0) (af (aT br (aT iB (pvM 2) (pvM 1)) aw) ap)))))
  (ak (aL 4 (aT br (pvM 3) (aC Fa (af (pvM 0) (af (aT br (aT iB (pvM 2) (pvM 3)) aw) ap)))))
  (ay (aI (aK iR (dA (af (cX (af (pvM 3) (af (pvM 4) ap))) (af (cX (af (pvM 3) (af (pvM 3) ap))) (af (cX (af (pvM 3) (af AC ap))) (af (cX (af AC (af (pvM 4) ap))) ap))))) (aC Fa (af (pvM 0) (af aw ap)))))))),?_⟩
 ctx_has v
 refine bz D () () λB H1 aq au D1 B1=>?_
 ctx_has v
 refine bz D1 () () λF H2 an aj D2 B2=>?_
 ctx_has v
 refine⟨∅,λp1 g1=>⟨∅,λp2 g2=>⟨∅,λY g3=>⟨∅,λZ g4=>⟨∅,λq gq=>?_⟩⟩⟩⟩⟩
 have s4:=(((aA.upd0 (o:=.tup [.int (lo+B),.int (lo+B+F)]) g1).upd_new (o:=.tup [.int (lo+B),.int (lo+B)]) g2).upd_new (o:=.tup [.int (lo+B),.non]) g3).upd_new (o:=.tup [.non,.int (lo+B+F)]) g4;have ab:p1≠p2:=λz=>by rw[z,ah] at g2;cases g2
 have ac:p1≠Y:=λz=>by rw[<- z,ao ab,ah] at g3;cases g3
 have ad:p2≠Y:=λz=>by rw[<- z,ah] at g3;cases g3
 have ae:p1≠Z:=λz=>by rw[<- z,ao ac,ao ab,ah] at g4;cases g4
 have ai:p2≠Z:=λz=>by rw[<- z,ao ad,ah] at g4;cases g4
 have ag:Y≠Z:=λz=>by rw[<- z,ah] at g4;cases g4
 have h1:upd (upd (upd (upd H2 p1 (.tup [.int (lo+B),.int (lo+B+F)])) p2 (.tup [.int (lo+B),.int (lo+B)])) Y (.tup [.int (lo+B),.non])) Z (.tup [.non,.int (lo+B+F)]) p1>>[.int (lo+B),.int (lo+B+F)]:=by rw[ao ae,ao ac,ao ab,ah]
 have h2:upd (upd (upd (upd H2 p1 (.tup [.int (lo+B),.int (lo+B+F)])) p2 (.tup [.int (lo+B),.int (lo+B)])) Y (.tup [.int (lo+B),.non])) Z (.tup [.non,.int (lo+B+F)]) p2>>[.int (lo+B),.int (lo+B)]:=by rw[ao ai,ao ad,ah]
 have h3:upd (upd (upd (upd H2 p1 (.tup [.int (lo+B),.int (lo+B+F)])) p2 (.tup [.int (lo+B),.int (lo+B)])) Y (.tup [.int (lo+B),.non])) Z (.tup [.non,.int (lo+B+F)]) Y>>[.int (lo+B),.non]:=by rw[ao ag,ah]
 have h4:upd (upd (upd (upd H2 p1 (.tup [.int (lo+B),.int (lo+B+F)])) p2 (.tup [.int (lo+B),.int (lo+B)])) Y (.tup [.int (lo+B),.non])) Z (.tup [.non,.int (lo+B+F)]) Z>>[.non,.int (lo+B+F)]:=ah
 have f1:H p1=none:=(B1.trans B2).free D2 g1
 have f2:H p2=none:=((B1.trans B2).new g1).free (D2.new g1) g2
 have f3:H Y=none:=(((B1.trans B2).new g1).new g2).free ((D2.new g1).new g2) g3
 have f4:H Z=none:=((((B1.trans B2).new g1).new g2).new g3).free (((D2.new g1).new g2).new g3) g4
 have D4:=D2.same s4;have B4:=(B1.trans B2).same s4;generalize upd (upd (upd (upd H2 p1 (.tup [.int (lo+B),.int (lo+B+F)])) p2 (.tup [.int (lo+B),.int (lo+B)])) Y (.tup [.int (lo+B),.non])) Z (.tup [.non,.int (lo+B+F)])=H4 at gq h1 h2 h3 h4 D4 B4 ⊢;refine lf D4 gq ∅ ∅ rfl λr5 v H5 hv ha D5 B5 h5=>?_
 ctx_has v h5 ha
 have nt : ∀{p:Addr} {vs:List V},H4 p>>vs->H5 p>>vs:=λh=>B5 _ _ (D4.tupN h).1 (D4.tupN h).2 h
 have aa:=B4.trans B5;simp only[u_,Ge,or_false] at hv;rcases hv with rfl | rfl | rfl | rfl
 .exact k p1 (some _) (some _) H5 f1 (nt h1) D5 aa
 .exact k p2 (some _) (some _) H5 f2 (nt h2) D5 aa
 .exact k Y (some _) none H5 f3 (nt h3) D5 aa
 .exact k Z none (some _) H5 f4 (nt h4) D5 aa
abbrev DT:=Fn P w K mg base "_law_sum" 3 ["_law_deal_here","_law_some_here","_law_rooms_here"] (Am)
abbrev nz1:List Str:=["_law_deal_here","_law_some_here","_law_rooms_here","_law_terms","_law_low","_law_high","_law_name","_law_a"]
theorem tT (T:Txt w K mg) (L:FnL K mg "_law_sum" dZ ["_law_deal_here","_law_some_here","_law_rooms_here"]) (Fa : @Dz0 P w K mg base) (Fl : @Dz9 P w K mg base) : @DT P w K mg base:=by
  ctx_has z vj <;> obtain⟨d,l,sa,ra,cs,kvs,rm,rfl,D,au,aD,ax,aG,bd,aN,k⟩:=h
  . rfl
  refine⟨_,(ak (aL 3 (dA ap))
    (ak (aL 4 aw)
    (ak (aL 5 aw)
    (ak (bD (cK K (cJ mQ (pvM 1) dJ (dr aw))) (aJ 6) (ak (aL 7 (aK iR (dA (af aw (af aw (af (mW jw aw) (af aw (af (mW jw aw) (af aw ap))))))) (aC Fa (af (pvM 0) (af aw ap)))))
    (ak (dz (jP Gj Gk eI (pvM 3) (af (cX (af (pvM 7) (af (pvM 6) ap))) ap)))
    (ak (aL 4 (aT br (pvM 4) (aM (mj rfl) T.b_min (af (bB (N:=["_law_value","_law_a"]) (nt:=1) (js:=[7]) (aP nz1 (aj dZ).names) (cK K (cm hu (pvM 2) (pvM 6))) (aJ 0) aZ cF (aT gO (pvM 1) (pvM 0))) ap))))
    (ay (aL 5 (aT br (pvM 5) (aM (qy rfl) T.b_max (af (bB (N:=["_law_value","_law_a"]) (nt:=1) (js:=[7]) (aP nz1 (aj dZ).names) (cK K (cm hu (pvM 2) (pvM 6))) (aJ 0) aZ cF (aT gO (pvM 1) (pvM 0))) ap)))))))))
    (ak (CP (aC Fl (af (pvM 0) (af (pvM 4) (af (pvM 5) ap)))) (jH (n:=2) rfl (dM (aJ 4) (dM (aJ 5) jG))))
    (ay (aI (cX (af aO (af (bL dO T.b_tuple (af (pvM 3) ap)) (af (pvM 4) (af (pvM 5) ap)))))))))))),?_⟩
  ctx_has v
  refine⟨∅,λp hp=>?_⟩
  have np:=D.ne hp;refine⟨_,by rw[ao (az aD hp)];exact aD,λq H1 hq s1=>⟨_,hq,?_⟩⟩
  rw[show gP (cs.map V.str) none (some 4)=(cs.take 4).map V.str from sx V.str cs 4] at hq
  have a6:=(aA.upd0 (o:=.lst []) hp).trans s1;have D1:=D.same a6;refine cL ba (λi σ H'=>∃(as:List (Addr × Int × Str)) (lo hi:Int) (v6 v7:Option V),σ=[-d,-sa,-ra,-p,some (.int lo),some (.int hi),v6,v7]/\H' p*>(as.map λx=>V.ref x.1)/\(∀x∈as,H' x.1>>[.int x.2.1,.str x.2.2])/\as.map (·.2.2)=(cs.take 4).take i/\(∀x∈as,-1000000<=x.2.1/\x.2.1<=1000000/\x.2.1≠0)/\lo<=hi/\-(1000000000000 * (i:Int))<=lo/\hi<=1000000000000 * (i:Int)/\H' q>>((cs.take 4).map V.str)/\aQ H' d l/\But d l H H')
    ⟨[],0,0,_,_,rfl,s1 _ _ ah,by simp,by simp,by simp,∅,∅,∅,hq,D1,(But.refl H).same a6⟩ (λi σ H' a4=>by obtain⟨_,_,_,_,_,_,_,_,_,_,_,_,_,h,_⟩:=a4;exact(.of h)) ?_ ?_
  . rintro i x σ H2 hi hx ⟨as,lo,a9,v6,v7,rfl,ae,ai,ab,am,aB,aF,aV,aq,D2,B2⟩
    rw[d_] at hi;obtain⟨c,a7,rfl⟩ : ∃c,(cs.take 4)[i]? = some c/\V.str c=x:=by
      rw[f_] at hx;cases e:(cs.take 4)[i]? with
      | none=>rw[e] at hx;cases hx
      | some nm=>rw[e] at hx;exact⟨nm,rfl,h_ hx⟩
    have aE:c∈cs:=Hg (m_ a7)
    have bf  : i < 4 := by have:(cs.take 4).length<=4:=by simp;omega
                           omega
    have bh:as.length<=i:=by
      have:=congrArg List.length ab
      rw[d_] at this;rw[this];exact List.length_take_le _ _
    ctx_has v
    refine⟨∅,λt ht=>?_⟩
    refine lf D2 ht ∅ ∅ rfl λr v H3 hv ha D3 B3 h3=>?_
    obtain⟨a,rfl,a0,a1,an⟩ : ∃a:Int,v = .int a/\-1000000<=a/\a<=1000000/\a≠0:=by
      simp only[u_,Ge,or_false] at hv;rcases hv with rfl | rfl | rfl | rfl | rfl | rfl
      . exact⟨1,rfl,∅,∅,∅⟩
      . exact⟨1,rfl,∅,∅,∅⟩
      . exact⟨-1,rfl,∅,∅,∅⟩
      . exact⟨2,rfl,∅,∅,∅⟩
      . exact⟨-3,rfl,∅,∅,∅⟩
      . exact⟨1000000,rfl,∅,∅,∅⟩
    have ac:=B3 p _ np.1 np.2 ae;ctx_has v h3 ha
    obtain⟨ar,a3,aR⟩:=aG c aE;have hg:=aN c aE;have rp:ra≠p:=az ax hp
    refine⟨⟨_,ac⟩,∅,λY ad=>⟨_,(aA.upd0 ad) _ _ ac,by rw[d_];exact aU (),?_⟩⟩
    have pt:p≠Y:=az ac ad
    have aW:=(B2.trans B3).new (o:=.tup [.int a,.str c]) ad;have B4:=aW.put (o:=.lst (as.map (λx=>V.ref x.1)++[.ref Y])) hp
    have D4:=(D3.new (o:=.tup [.int a,.str c]) ad).put (o:=.lst (as.map (λx=>V.ref x.1)++[.ref Y])) np.1 np.2
    have kt : ∀b xs,H2 b>>xs->upd (upd H3 Y (.tup [.int a,.str c])) p (.lst (as.map (λx=>V.ref x.1)++[.ref Y])) b>>xs:=λb xs e=>by
      rw[ao (bo e ae (by intro z;cases z))]
      exact(aA.upd0 ad) _ _ (B3.tup D2 e)
    have ag:upd (upd H3 Y (.tup [.int a,.str c])) p (.lst (as.map (λx=>V.ref x.1)++[.ref Y])) Y>>[.int a,.str c]:=by rw[ao pt.symm];exact ah
    have a2:upd (upd H3 Y (.tup [.int a,.str c])) p (.lst (as.map (λx=>V.ref x.1)++[.ref Y])) p*>(as.map (λx=>V.ref x.1)++[.ref Y]):=ah
    have aa:=B4 ra _ au.1 au.2 ax;have B:=B4.tup D aR;generalize upd (upd H3 Y (.tup [.int a,.str c])) p (.lst (as.map (λx=>V.ref x.1)++[.ref Y]))=H4 at B4 D4 kt ag a2 aa B ⊢
    have a8:(rm c).map (λv=>a * v)≠[]:=by simp;exact hg.1
    refine⟨kvs,aa,_,a3,ar,rfl,_,B,λD5 g5=>pM B a0 a1 hg.2.1 g5 λH5 s5 e5=>⟨D5,rfl,_,e5,a8,λm hm a5=>⟨kvs,s5 _ _ aa,_,a3,ar,rfl,_,s5 _ _ B,λD6 g6=>pM (s5 _ _ B) a0 a1 hg.2.1 g6 λH6 s6 e6=>⟨D6,rfl,_,e6,a8,λM hM aY=>?_⟩⟩⟩⟩
    have Z:=s5.trans s6;obtain⟨v1,aS,em⟩:=r_.mp hm;obtain⟨v2,aX,eM⟩:=r_.mp hM;have b1:=hg.2.2 v1 aS;have b2:=hg.2.2 v2 aX;have be : -1000000000000<=m:=by rw[<- em];exact BI a0 a1 b1.1 b1.2
    have bg:M<=1000000000000:=by rw[<- eM];exact zX a0 a1 b2.1 b2.2
    have bb:=a5 M hM;refine⟨as++[(Y,a,c)],by rw[Z _ _ a2];simp,λx hx=>?_,?_,λx hx=>?_,(),by push_cast;omega,by push_cast;omega,Z _ _ (kt _ _ aq),D4.same Z,B4.same Z⟩
    . rcases y8.mp hx with z | z
      . exact Z _ _ (kt _ _ (ai x z))
      . rw[g_.mp z];exact Z _ _ ag
    . rw[za,a7,Gz,ab];rfl
    . rcases y8.mp hx with z | z
      . exact am x z
      . rw[g_.mp z];exact⟨a0,a1,an⟩
  . rintro σ H2 ⟨as,lo,a9,v6,v7,rfl,ae,ai,ab,am,aB,aF,aV,aq,D2,B2⟩
    have bc:((cs.take 4).map V.str).length<=4:=by simp;omega
    rw[FX (le_of_eq (by simp):(cs.take 4).length<=((cs.take 4).map V.str).length)] at ab
    ctx_has v
    refine⟨d,l,lo,a9,rfl,D2,aB,(),(),λu b1 b2 H3 fu aH D3 B3=>?_⟩
    have ac:=B3 p _ np.1 np.2 ae;ctx_has v aH ac
    intro t ht;have s4:=aA.upd0 (o:=.tup (as.map λx=>V.ref x.1)) ht
    refine⟨∅,λw hw=>?_⟩
    have s5:=s4.upd_new (o:=.tup [.str "sum",.ref t,bV b1,bV b2]) hw;have tw:t≠w:=λz=>by rw[<- z,ah] at hw;cases hw
    refine k w (as.map (·.2)) b1 b2 _ ?_ ⟨t,ah,as,by rw[ao tw,ah],rfl,λx hx=>s5 _ _ (B3.tup D2 (ai x hx))⟩ ?_ (λx hx=>?_) (D3.same s5) ((B2.trans B3).same s5)
    . exact((B2.trans B3).same s4).free (D3.same s4) hw
    . rw[FQ];exact ab
    . obtain⟨y,hy,rfl⟩:=r_.mp hx
      exact am y hy
def xD:Sp:=λvs H Q _=>∃(d l sa B:Addr) (cs:List Str) (ns:List Int),vs=[.ref d,.ref sa,.ref B]/\aQ H d l/\(B≠d/\B≠l)/\H sa>>(cs.map V.str)/\H B*>(ns.map V.int)/\ns.length=5/\cs.length<=12 /\
 ∀(p:Addr) (us:List V) (rows:List (List Int)) (H':Hp),H p=none->H' p>>us->fA H' us rows->rows.Nodup->(∀r∈rows,r.length=cs.length)->rows.length<=7->aQ H' d l->But d l H H'->Q (.ref p) H'
theorem xn {xs:List α} {r:Int} (F:0<=r) (L:r < (xs.length:Int)) (f:α->V) : ∃x∈xs,atI (xs.map f) r=some (f x):=by
 obtain⟨n,rfl⟩:=GT F;have B:n < xs.length:=()
 exact⟨xs[n],HD B,da (by simp[B])⟩
abbrev DO:=Fn P w K mg base "_law_rows" 2 ["_law_deal_here","_law_some_here","_law_pool_here"] (xD)
theorem tL (T:Txt w K mg) (L:FnL K mg "_law_rows" eC ["_law_deal_here","_law_some_here","_law_pool_here"]) (Fa : @Dz0 P w K mg base) : @DO P w K mg base:=by
 ctx_has z rE <;> obtain⟨d,l,sa,pa,cs,ns,rfl,D,B,ar,ac,ax,a0,k⟩:=h
 .rfl
 refine⟨_,(ak (aL 3 (dA ap))
  (ak (bD (fD rfl T.b_range (af (aC Fa (af (pvM 0) (af aw ap))) ap)) (aJ 4) (ak (aL 5 (bL dO T.b_tuple (af (bB (N:=["_law_name","_law_pool_here","_law_deal_here"]) (nt:=1) (js:=[2,0]) (aP ["_law_deal_here","_law_some_here","_law_pool_here","_law_rows_here","_law_k","_law_row"] (aj eC).names) (cK K (pvM 1)) (aJ 0) aZ cF (aK iR (pvM 1) (aC Fa (af (pvM 2) (af aw ap))))) ap)))
  (ay (bS (aS (wz (A5 hr)) (pvM 5) (pvM 3)) (ay (dz (jP Gj Gk eI (pvM 3) (af (pvM 5) ap)))) aV))))
  (ay (aI (bL dO T.b_tuple (af (pvM 3) ap)))))),?_⟩
 ctx_has v
 refine⟨∅,λg hg=>?_⟩
 have ng:=D.ne hg;refine bz (D.new hg) ∅ ∅ λn H1 n0 n1 D1 B1=>⟨_,rfl,(),(),?_⟩
 have ag:=((But.refl H).new (o:=.lst []) hg).trans B1;refine cL eE (λi σ H'=>∃(us:List V) (rows:List (List Int)) (v4 v5:Option V),σ=[-d,-sa,-pa,-g,v4,v5]/\H' g*>us/\fA H' us rows/\rows.Nodup/\(∀r∈rows,r.length=cs.length)/\rows.length<=i/\aQ H' d l/\But d l H H')
  ⟨[],[],_,_,rfl,B1 g _ ng.1 ng.2 ah,fA.nil,by simp,by simp,by simp,D1,ag⟩ (λ_ _ _ _=>Gf) ?_ ?_
 .rintro i x σ H2 hi hx ⟨us,rows,v4,v5,rfl,h2,hrv,hnd,hrl,hlen,D2,B2⟩
  rw[aY] at hi;have ab:=(But.keepTI B2 D).tup _ _ ar;ctx_has v ab
  intro q hq;have nq:=D2.ne hq;refine gl ba (λj ys Y=>∃vs:List Int,ys=vs.map V.int/\vs.length=j/\Y q*>ys/\(∀b o,b≠d->b≠l->b≠q->H2 b=some o->Y b=some o)/\aQ Y d l)
   ⟨[],rfl,rfl,ah,λb o _ _ hb e=>by rw[ao hb];exact e,D2.new hq⟩ (λj ys Y ⟨_,_,_,h,kk,_⟩=>.of (by
    obtain⟨m',sd,n',au,an,am,_⟩:=D2.ex;exact kk sa _ (bo ab an (by intro z;cases z)) (bo ab am (by intro z;cases z)) (az ab hq) ab)) ?_ ?_
  .rintro j y ys Y hj hy ⟨vs,rfl,hvl,h3,k3,D3⟩
   rw[d_] at hj;ctx_has v
   refine bz D3 ∅ ∅ λr4 H4 aq a1 D4 B4=>?_
   have ai:=B4 pa _ B.1 B.2 (k3 pa _ B.1 B.2 (az (B2 pa _ B.1 B.2 ac) hq) (B2 pa _ B.1 B.2 ac));obtain⟨z,_,hz⟩:=xn (xs:=ns) aq () V.int
   refine⟨r4,rfl,_,ai,_,hz,B4 q _ nq.1 nq.2 h3,by rw[d_];exact aU (),vs++[z],by simp,by simp;omega,ah,λb o h1 h2 h3 e=>by rw[ao h3];exact B4 b o h1 h2 (k3 b o h1 h2 h3 e),D4.put nq.1 nq.2⟩
  .rintro ys Y ⟨vs,rfl,hvl,h3,k3,D3⟩
   rw[d_] at hvl;ctx_has v h3
   intro t ht;have s4:aA Y (upd Y t (.tup (vs.map V.int))):=aA.upd0 ht
   have B3:But d l H2 Y:=λb o h1 h2 e=>k3 b o h1 h2 (az e hq) e
   have ae:=(B2.trans B3).same s4;have D4:=D3.same s4;have aa:=s4 _ _ (B3 g _ ng.1 ng.2 h2);have Z:=hrv.keep λa xs e=>s4 _ _ ((But.keepTI B3 D2).tup _ _ e)
   refine vH ah aa Z ⟨_,rfl,?_⟩
   refine fF (λad=>?_) (λad=>?_)
   .have hni:vs∉rows:=by simpa using ad
    have hk : ∀a xs,upd Y t (.tup (vs.map V.int)) a>>xs->upd (upd Y t (.tup (vs.map V.int))) g (.lst (us++[.ref t])) a>>xs:=λa xs e=>by rw[ao (bo e aa (by intro z;cases z))];exact e
    refine⟨⟨_,aa⟩,us,aa,by rw[hrv.length];exact aU (),us++[.ref t],ah,rows++[vs],(Z.keep hk).snoc (hk _ _ ah),Gr.mpr ⟨hnd,by simp,λa ha b hb e=>hni (by rw[g_.mp hb] at e;exact e ▸ ha)⟩,λr hr=>?_,by simp;omega,D4.put ng.1 ng.2,ae.put hg⟩
    rcases y8.mp hr with z | z
    .exact hrl r z
    .rw[g_.mp z];exact hvl
   .exact⟨us,aa,rows,Z,hnd,hrl,(),D4,ae⟩
 .rintro σ H2 ⟨us,rows,v4,v5,rfl,h2,hrv,hnd,hrl,hlen,D2,B2⟩
  rw[aY] at hlen;ctx_has v h2
  intro t ht;have s3:aA H2 (upd H2 t (.tup us)):=aA.upd0 ht
  exact k t us rows _ (B2.free D2 ht) ah (hrv.keep λa xs e=>s3 _ _ e) hnd hrl () (D2.same s3) (B2.same s3)
def ju (pool:List Int) (n:Nat):List (Int × Int):=List.flatMap (λs:Nat=>pool.map λv=>((s:Int),v)) (range n)
theorem kq (pool:List Int) (n:Nat):ju pool (n+1)=ju pool n++pool.map λv=>((n:Int),v):=by
 unfold ju;rw[List.range_succ,List.flatMap_append];simp
theorem Au {x:Int × Int} (h:x∈ju pool n):x.1 < (n:Int):=by
 unfold ju at h;obtain⟨s,F,B⟩:=mem_flatMap.mp h;obtain⟨v,_,rfl⟩:=r_.mp B;have:=IM.mp F
 show(s:Int) < n
 omega
theorem nb {pool:List Int} (h:pool.Nodup) : ∀n,(ju pool n).Nodup
 | 0=>by simp[ju]
 | n+1=>by
  rw[kq,Gr];refine⟨nb h n,G7.mpr (h.imp λB z=>B (by cases z;rfl)),λa ha b F e=>?_⟩
  subst e;obtain⟨v,_,rfl⟩:=r_.mp F;have:=Au ha
  simp at this
theorem mJ (pool:List Int) : ∀n,(ju pool n).length=n * pool.length
 | 0=>by simp[ju]
 | n+1=>by rw[kq,Gh,mJ pool n,d_,Nat.succ_mul]
def Cy (x:Addr × Int × Int × Int):Int × Int:=(x.2.1,x.2.2.1)
def Ay (H:Hp) (as:List (Addr × Int × Int × Int)):Prop:=∀x∈as,H x.1>>[.int x.2.1,.int x.2.2.1,.int x.2.2.2]
def CB:Sp:=λvs H Q _=>∃(d l sa B:Addr) (cs:List Str) (pool:List Int),vs=[.ref d,.ref sa,.ref B]/\aQ H d l/\H sa>>(cs.map V.str)/\(B≠d/\B≠l)/\H B*>(pool.map V.int)/\pool.length=5/\pool.Nodup /\
 ∀(wa:Addr) (ps:List (Int × Int × Int)) (es:List Int) H',H wa=none->(ps.map λx=>(x.1,x.2.1)).Nodup->ps.length<=60->es.length<=60->WS H' wa (.wy cs ps es)->aQ H' d l->But d l H H'->Q (.ref wa) H'
abbrev DU:=Fn P w K mg base "_law_way" 2 ["_law_deal_here","_law_some_here","_law_pool_here"] (CB)
theorem vf (T:Txt w K mg) (L:FnL K mg "_law_way" fc ["_law_deal_here","_law_some_here","_law_pool_here"]) (Fa : @Dz0 P w K mg base) : @DU P w K mg base:=by
  ctx_has z uy <;> obtain⟨d,l,sa,pa,cs,pool,rfl,D,aM,am,a2,aq,aH,k⟩:=h
  . rfl
  refine⟨_,(ak (aL 3 (aT br aw (aC Fa (af (pvM 0) (af aw ap)))))
    (ak (aL 4 (dA ap))
    (ak (bD (fD rfl T.b_range (af (pvM 3) ap)) (aJ 5) (ay (bD (ik K (pvM 2)) (aJ 6) (ay (bS (aS mS (aC Fa (af (pvM 0) (af aw ap))) aw) (ay (dz (jP Gj Gk eI (pvM 4) (af (cX (af (pvM 5) (af (pvM 6) (af (aC Fa (af (pvM 0) (af (pvM 3) ap))) ap)))) ap)))) aV)))))
    (ak (gR 7 (N:=["_law_state","_law_deal_here"]) (nt:=1) (js:=[0]) (aP ["_law_deal_here","_law_some_here","_law_pool_here","_law_many","_law_steps","_law_state","_law_value","_law_ends"] (aj fc).names) (fD rfl T.b_range (af (pvM 3) ap)) (aJ 0) aZ (gb (aS cI (aC Fa (af (pvM 1) (af aw ap))) aw)) (pvM 0))
    (ay (aI (cX (af aO (af (pvM 1) (af (bL dO T.b_tuple (af (pvM 4) ap)) (af (bL dO T.b_tuple (af (pvM 7) ap)) ap))))))))))),?_⟩
  ctx_has v
  refine bz D ∅ ∅ λr1 H1 aU aN D1 B1=>?_
  ctx_has v
  refine⟨∅,λp hp=>⟨(),(),?_⟩⟩
  have np:=D1.ne hp;have a0:H p=none:=by
    cases e:H p with
    | none=>rfl
    | some o=>rw[B1 p o np.1 np.2 e] at hp;cases hp
  obtain⟨n,hn⟩ : ∃n:Nat,(1+r1).toNat=n:=⟨_,rfl⟩;have aX:n<=3:=()
  rw[hn];refine cL eE (λi σ H2=>∃as v5 v6,σ=[-d,-sa,-pa,some (.int (1+r1)),-p,v5,v6,none]/\aQ H2 d l/\But d l H H2/\H2 p*>(as.map λx=>V.ref x.1)/\Ay H2 as/\(as.map Cy).Sublist (ju pool i)) ⟨[],_,_,rfl,D1.put np.1 np.2,B1.put a0,ah,(λx Y=>by simp at Y),by simp⟩ (λi σ H' h=>Gf) ?_ ?_
  . rintro i x σ H2 hi Y ⟨as,v5,v6,rfl,D2,B2,ad,hA,ab⟩
    rw[aY] at hi;rw[lh hi] at Y;cases Y;have a3:=B2 pa _ am.1 am.2 a2;ctx_has v a3
    refine cL dD (λj σ H3=>∃as v6,σ=[-d,-sa,-pa,some (.int (1+r1)),-p,some (.int (0+(i:Int))),v6,none]/\aQ H3 d l/\But d l H H3/\H3 p*>(as.map λx=>V.ref x.1)/\Ay H3 as/\(as.map Cy).Sublist (ju pool i++(pool.take j).map λv=>((i:Int),v))) ⟨as,_,rfl,D2,B2,ad,hA,by simpa using ab⟩ (λj σ H' a4=>by obtain⟨_,_,_,_,B,_⟩:=a4;exact(.of (B pa _ am.1 am.2 a2))) ?_ ?_
    . rintro j x σ H3 hj Y ⟨as,v6,rfl,D3,B3,ai,aa,Z⟩
      obtain⟨v,hv,rfl⟩ : ∃v,pool[j]? = some v/\V.int v=x:=by
        rw[f_] at Y;cases e:pool[j]? with
        | none=>rw[e] at Y;cases Y
        | some nm=>rw[e] at Y;exact⟨nm,rfl,h_ Y⟩
      ctx_has v
      refine bz D3 ∅ ∅ λr4 H4 aK aG D4 B4=>?_
      ctx_has v
      have ae:=B4 p _ np.1 np.2 ai;have a7:Ay H4 as:=λx Y=>(But.keepTI B4 D3).tup _ _ (aa x Y)
      have ek:pool.take (j+1)=pool.take j++[v]:=by rw[za,hv];rfl
      have aF:(as.map λx=>V.ref x.1).length < l_:=by
        have h1:=Z.length_le;rw[d_,Gh,mJ,aq,d_] at h1;have h2:(pool.take j).length<=5:=by rw[<- aq];exact IH _ _
        exact n_ (show(as.map λx=>V.ref x.1).length < 1000 by rw[d_];omega) ∅
      refine fF (λh=>?_) (λh=>?_)
      . refine⟨⟨_,ae⟩,bz D4 () () λr5 H5 aW aR D5 B5=>⟨∅,λtp ac=>?_⟩⟩
        have ag:=B5 p _ np.1 np.2 ae;have a1:Ay H5 as:=λx Y=>(But.keepTI B5 D4).tup _ _ (a7 x Y)
        refine⟨_,(aA.upd0 ac) _ _ ag,aF,(D5.new ac).put np.1 np.2,(((B3.trans B4).trans B5).new ac).put a0,as++[(tp,(i:Int),v,r5)],by rw[ah];simp,λx Y=>?_,?_⟩
        . rcases y8.mp Y with Y | Y
          . rw[ao (bo (a1 x Y) ag (by intro z;cases z))]
            exact(aA.upd0 ac) _ _ (a1 x Y)
          . rw[g_.mp Y]
            show upd (upd H5 tp _) p _ tp=_
            rw[ao (Gp (az ag ac)),ah,Int.zero_add]
        . rw[ek,Gz,Gz,<- append_assoc]
          exact Z.append (List.Sublist.refl _)
      . refine⟨D4,B3.trans B4,as,ae,a7,Z.trans ?_⟩
        rw[ek,Gz,<- append_assoc];exact List.sublist_append_left _ _
    . rintro σ H3 ⟨as,v6,rfl,D3,B3,ai,aa,Z⟩
      rw[d_,FV] at Z;exact⟨as,_,_,rfl,D3,B3,ai,aa,by rw[kq];exact Z⟩
  . rintro σ H2 ⟨as,v5,v6,rfl,D2,B2,ad,hA,ab⟩
    rw[aY] at ab;ctx_has v
    refine⟨(),(),λDd an=>?_⟩
    have nD:=D2.ne an;rw[hn];refine gl eE (λi ys H'=>∃zs:List Int,ys=zs.map V.int/\zs.length<=i/\aQ H' d l/\But d l H2 H'/\H' Dd*>ys) ⟨[],rfl,by simp,D2.new an,(But.refl H2).new an,ah⟩ (λi ys H' h=>Gf) ?_ ?_
    . rintro i x ys H3 hi Y ⟨zs,rfl,a5,D3,B3,ar⟩
      rw[aY] at hi;rw[lh hi] at Y;cases Y;ctx_has v
      refine bz D3 ∅ ∅ λr4 H4 aK aG D4 B4=>?_
      ctx_has v
      have ax:=B4 Dd _ nD.1 nD.2 ar;refine fF (λh=>?_) (λh=>?_)
      . exact⟨ax,n_ (show(zs.map V.int).length < 1000 by rw[d_];omega) ∅,zs++[0+(i:Int)],by simp,by simp;omega,D4.put nD.1 nD.2,(B3.trans B4).put an,ah⟩
      . exact⟨zs,rfl,(),D4,B3.trans B4,ax⟩
    . rintro ys H3 ⟨zs,rfl,a5,D3,B3,ar⟩
      rw[aY] at a5;have aB:=B3 p _ np.1 np.2 ad;refine⟨_,aB,λl1 g1=>⟨Dd,rfl,_,(aA.upd0 g1) _ _ ar,λl2 g2=>⟨∅,λwa g3=>?_⟩⟩⟩
      have s4:aA H3 (upd (upd (upd H3 l1 (.tup (as.map λx=>V.ref x.1))) l2 (.tup (zs.map V.int))) wa (.tup [.str "way",.ref sa,.ref l1,.ref l2])):=((aA.upd0 g1).upd_new g2).upd_new g3
      have B4:=(B2.trans B3).same s4;have a6:=((D3.new g1).new g2).ne g3;have a8:=B2.trans B3;have aE:=ab.length_le;rw[d_,mJ,aq] at aE;have au:l1≠l2:=λz=>by rw[z,ah] at g2;cases g2
      have a9:l1≠wa:=λz=>by rw[<- z,ao au,ah] at g3;cases g3
      have aD:l2≠wa:=λz=>by rw[<- z,ah] at g3;cases g3
      have aa:Ay H3 as:=λx Y=>(But.keepTI B3 D2).tup _ _ (hA x Y)
      refine k wa (as.map (·.2)) zs _ ?_ ?_ (by show(as.map (·.2)).length<=60;rw[d_];omega) (by show zs.length<=60;omega) ⟨sa,l1,l2,_,ah,s4 _ _ ((But.keepTI a8 D).tup _ _ aM),by rw[ao a9,ao au];exact ah,⟨as,rfl,rfl,λx Y=>s4 _ _ (aa x Y)⟩,by rw[ao aD];exact ah⟩ (D3.same s4) B4
      . cases e:H wa with
        | none=>rfl
        | some o =>
          have z:=((aA.upd0 (o:=.tup (as.map λx=>V.ref x.1)) g1).upd_new (o:=.tup (zs.map V.int)) g2) _ _ (a8 wa o a6.1 a6.2 e)
          rw[z] at g3;cases g3
      . show((as.map (·.2)).map λx=>(x.1,x.2.1)).Nodup
        rw[FQ];exact(nb aH n).sublist ab
def jl (h:Bool):List Str:=("unlike" : Str) :: "many" :: "sum" :: "table" :: "way" :: "behind" ::(if h then[("same" : Str)] else[])
theorem wm (h:Bool):6<=(jl h).length/\(jl h).length<=7:=by cases h <;> exact⟨∅,∅⟩
theorem ue (ns:List Str):G3 (.list (ns.map PyData.str)) (.list [])=decide (ns=[]):=by
 cases ns with
 | nil=>rfl
 | cons n ns=>simp[G3,HJ]
def okC (ws cs:List Str):Prop:=cs≠[]/\cs.Nodup/\(∀c∈cs,c∈ws)/\cs.length<=12
def okV (ns vs:List Int):Prop:=vs.Nodup/\(∀v∈vs,v∈ns)/\vs.length<=20
def okW (ws:List Str) (ns:List Int):Wi->Prop
 | .un cs=>okC ws cs
 | .mn av cs _ _=>okC ws cs/\okV ns av
 | .sm ts _ _=>okC ws (ts.map (·.2))/\∀x∈ts,-1000000<=x.1/\x.1<=1000000/\x.1≠0
 | .tb cs rows=>okC ws cs/\rows.Nodup/\(∀r∈rows,r.length=cs.length)/\rows.length<=7
 | .wy cs ps es=>okC ws cs/\(ps.map λx=>(x.1,x.2.1)).Nodup/\ps.length<=60/\es.length<=60
 | .bh cs _=>okC ws cs
def okX (ws:List Str) (ns:List Int):Wx->Prop
 | .pl W=>okW ws ns W
 | .sa c vs W=>c∈ws/\okV ns vs/\okW ws ns W/\c∉cu W
theorem AY {F:List Str} (h : ∀c∈ws,c∈F) : ∀{W:Wi},okW ws ns W->okW F ns W
 | .un _,⟨a,b,c,d⟩=>⟨a,b,λx B=>h x (c x B),d⟩
 | .mn _ _ _ _,⟨⟨a,b,c,d⟩,r⟩=>⟨⟨a,b,λx B=>h x (c x B),d⟩,r⟩
 | .sm _ _ _,⟨⟨a,b,c,d⟩,r⟩=>⟨⟨a,b,λx B=>h x (c x B),d⟩,r⟩
 | .tb _ _,⟨⟨a,b,c,d⟩,r⟩=>⟨⟨a,b,λx B=>h x (c x B),d⟩,r⟩
 | .wy _ _ _,⟨⟨a,b,c,d⟩,r⟩=>⟨⟨a,b,λx B=>h x (c x B),d⟩,r⟩
 | .bh _ _,⟨a,b,c,d⟩=>⟨a,b,λx B=>h x (c x B),d⟩
theorem ye : ∀{W:Wi},okW ws ns W->∀c∈cu W,c∈ws
 | .un _,⟨_,_,c,_⟩=>c
 | .mn _ _ _ _,⟨⟨_,_,c,_⟩,_⟩=>c
 | .sm _ _ _,⟨⟨_,_,c,_⟩,_⟩=>c
 | .tb _ _,⟨⟨_,_,c,_⟩,_⟩=>c
 | .wy _ _ _,⟨⟨_,_,c,_⟩,_⟩=>c
 | .bh _ _,⟨_,_,c,_⟩=>c
theorem zi : ∀{W:Wi},okW ws ns W->szW W
 | .un _,⟨_,_,_,d⟩=>d
 | .mn _ _ _ _,⟨⟨_,_,_,d⟩,_,_,e⟩=>⟨e,d⟩
 | .sm ts _ _,⟨⟨_,_,_,d⟩,_⟩=>by simpa [szW] using d
 | .tb _ _,⟨⟨_,_,_,d⟩,_⟩=>d
 | .wy _ _ _,⟨⟨_,_,_,d⟩,e,f,_⟩=>⟨d,e,f⟩
 | .bh _ _,⟨a,_,_,d⟩=>⟨a,d⟩
structure gZ (H:Hp) (d l a ra pa:Addr) (ws:List Str) (ns:List Int) (kvs:List (Key × V)) (rm:Str->List Int):Prop where
 D:aQ H d l
 na:a≠d/\a≠l
 nr:ra≠d/\ra≠l
 np:pa≠d/\pa≠l
 ha:H a*>(ws.map V.str)
 hr:H ra<*kvs
 hp:H pa*>(ns.map V.int)
 rf:bj H kvs ws rm
 wn:ws≠[]
 nd:ws.Nodup
 wl:ws.length<=12
 n5:ns.length=5
 nn:ns.Nodup
 nm : ∀c∈ws,gm c
 gd : ∀c∈ws,rm c≠[]/\(rm c).length<=20/\∀v∈rm c,-1000000<=v/\v<=1000000
theorem gZ.but {L:Addr} (F:gZ H d l a ra L ws ns kvs rm) (D:aQ H' d l) (B:But d l H H'):gZ H' d l a ra L ws ns kvs rm :=
 ⟨D,F.na,F.nr,F.np,B _ _ F.na.1 F.na.2 F.ha,B _ _ F.nr.1 F.nr.2 F.hr,B _ _ F.np.1 F.np.2 F.hp,F.rf.same λx vs e=>B.tup F.D e,F.wn,F.nd,F.wl,F.n5,F.nn,F.nm,F.gd⟩
theorem gZ.same {H H':Hp} {d l a ra B:Addr} {ws:List Str} {ns:List Int} {kvs:List (Key × V)} {rm:Str->List Int} (F:gZ H d l a ra B ws ns kvs rm) (s:aA H H'):gZ H' d l a ra B ws ns kvs rm :=
 F.but (F.D.same s) ((But.refl H).same s)
def nW (h:Bool):Sp:=λvs H Q _=>∃(d l a ra F B:Addr) (ws:List Str) (ns:List Int) (kvs:List (Key × V)) (rm:Str->List Int),vs=[.ref d,.ref a,.ref ra,.ref F,.ref B]/\gZ H d l a ra F ws ns kvs rm/\(B≠d/\B≠l)/\H B*>((jl h).map V.str) /\
 ∀(w:Addr) (W:Wx) (H':Hp),WX H' w W->okX ws ns W->(h=false->∃L,W = .pl L)->aQ H' d l->But d l H H'->Q (.ref w) H'
def sT (h:Bool):Sp:=if h then nW false else λ_ _ _ _=>False
theorem uf {h:Bool} {s:Str} (B:s∈jl h):s = "unlike" \/ s = "many" \/ s = "sum" \/ s = "table" \/ s = "way" \/ s = "behind" \/(h=true/\s = "same"):=by
 unfold jl at B;cases h
 .simpa using B
 .simpa using B
theorem Dr {zs:List Str} (hp:(cs++zs).Perm ws) (h1:1<=cs.length) (B:ws.Nodup) (Y:ws.length<=12):okC ws cs:=by
 have F:=hp.nodup_iff.mpr B;refine⟨λe=>by rw[e] at h1;simp at h1,(Gr.mp F).1,λc L=>hp.mem_iff.mp (A_ _ L),?_⟩
 have:=hp.length_eq
 rw[Gh] at this;omega
theorem zM {vs zs:List Int} (hp:(vs++zs).Perm ns) (B:ns.Nodup) (Y:ns.length=5):okV ns vs:=by
 have F:=hp.nodup_iff.mpr B;refine⟨(Gr.mp F).1,λc L=>hp.mem_iff.mp (A_ _ L),?_⟩
 have:=hp.length_eq
 rw[Gh] at this;omega
theorem rT {h:Bool} (T:Txt w K mg) (L:FnL K mg "_law_wish" eA ["_law_deal_here","_law_names_here","_law_rooms_here","_law_pool_here","_law_sorts"]) (Fa : @Dz0 P w K mg base) (Fd : @Dz4 P w K mg base) (Fx : @DT P w K mg base) (Ft : @DO P w K mg base) (Fw : @DU P w K mg base) (FF:Fn P w K mg base "_law_wish" (n+1) ["_law_deal_here","_law_names_here","_law_rooms_here","_law_pool_here","_law_sorts"] (sT h)):Fn P w K mg base "_law_wish" (n+5) ["_law_deal_here","_law_names_here","_law_rooms_here","_law_pool_here","_law_sorts"] (nW h):=by
 ctx_has z tm <;> obtain⟨d,l,a,ra,pa,so,ws,ns,kvs,rm,rfl,M,a0,a6,k⟩:=h
 .rfl
 refine⟨_,(ak (aL 5 (aK iR (pvM 4) (aC Fa (af (pvM 0) (af (aM ck T.b_len (af (pvM 4) ap)) ap)))))
  (ak (aL 6 (aC Fd (af (pvM 0) (af (pvM 1) (af (aM (qE rfl) T.b_min (af (aM ck T.b_len (af (pvM 1) ap)) (af (aT br aw (bL xS T.b_int (af (aX cI (pvM 5) aO) ap))) ap))) ap)))))
  (ak (bS (aS cI (pvM 5) aO) (ay (aI (cX (af aO (af (pvM 6) ap))))) aV)
  (ak (bS (aS cI (pvM 5) aO) (ak (aL 7 (aC Fa (af (pvM 0) (af (aT br (aM jE T.b_len (af (pvM 6) ap)) aw) ap))))
  (ay (aI (cX (af aO (af (aC Fd (af (pvM 0) (af (pvM 3) (af aw ap)))) (af (pvM 6) (af (pvM 7) (af (aT br (pvM 7) (aC Fa (af (pvM 0) (af (aT br (aT iB (aM jE T.b_len (af (pvM 6) ap)) (pvM 7)) aw) ap)))) ap))))))))) aV)
  (ak (bS (aS cI (pvM 5) aO) (ay (aI (aC Fx (af (pvM 0) (af (pvM 6) (af (pvM 2) ap)))))) aV)
  (ak (bS (aS cI (pvM 5) aO) (ay (aI (cX (af aO (af (pvM 6) (af (aC Ft (af (pvM 0) (af (pvM 6) (af (pvM 3) ap)))) ap)))))) aV)
  (ak (bS (aS cI (pvM 5) aO) (ay (aI (aC Fw (af (pvM 0) (af (pvM 6) (af (pvM 3) ap)))))) aV)
  (ak (bS (aS cI (pvM 5) aO) (ay (aI (cX (af aO (af (pvM 6) (af (aK iR (dA (af aw (af aw (af (mW jw aw) (af aw (af aw ap)))))) (aC Fa (af (pvM 0) (af aw ap)))) ap)))))) aV)
  (ak (gR 8 (N:=["_law_name","_law_some_here"]) (nt:=1) (js:=[6]) (aP ["_law_deal_here","_law_names_here","_law_rooms_here","_law_pool_here","_law_sorts","_law_sort","_law_some_here","_law_low","_law_rest","_law_inner"] (aj eA).names) (ik K (pvM 1)) (aJ 0) aZ (gb (aS Ez (pvM 0) (aK bg (pvM 1) aw))) (pvM 0))
  (ak (bS (aS (tz (xC hr)) (pvM 8) (dA ap)) (ay (aI (cX (af aO (af (pvM 6) ap))))) aV)
  (ak (aL 9 (aC FF (af (pvM 0) (af (pvM 8) (af (pvM 2) (af (pvM 3) (af (dA (af aO (af aO (af aO (af aO (af aO (af aO ap))))))) ap)))))))
  (ay (aI (cX (af aO (af (aK bg (pvM 6) aw) (af (aC Fd (af (pvM 0) (af (pvM 3) (af aw ap)))) (af (pvM 9) ap)))))))))))))))))),?_⟩
 ctx_has v a6
 have bi:=wm h;refine bz M.D (by rw[d_];omega) (by rw[d_];omega) λr H1 r0 r1 D1 B1=>?_
 rw[d_] at r1;obtain⟨s,hs,aE⟩:=xn (xs:=jl h) r0 r1 V.str;have a7:=B1 so _ a0.1 a0.2 a6;have M1:=M.but D1 B1;have a4:=M1.ha;have w1:=Ie.mpr M.wn;have wl:=M.wl;have n5:=M.n5;ctx_has v a7 aE a4
 obtain⟨m,hm,m1,m2⟩ : ∃m:Int,(if (1+if s=b_ "unlike" then 1 else 0) < ((ws.map V.str).length:Int) then 1+(if s=b_ "unlike" then 1 else 0) else((ws.map V.str).length:Int))=m/\1<=m/\m<=ws.length:=by
  refine⟨_,rfl,?_⟩
  rw[d_]
  split <;> split <;> constructor <;> omega
 rw[hm];refine⟨d,l,a,m,ws.map V.str,rfl,D1,.inl a4,(),by rw[d_];omega,by rw[d_];omega,λsa ar rest H2 be aG a8 B D2 B2=>?_⟩
 obtain⟨cs,zs,rfl,an⟩:=iX V.str ES (λ_=>rfl) aG
 rw[d_] at a8;have F:okC ws cs:=Dr an () M.nd M.wl
 have M2:=M1.but D2 B2;have aa:=B1.trans B2;have cl:=F.2.2.2;rcases uf hs with rfl | rfl | rfl | rfl | rfl | rfl | ⟨rfl,rfl⟩
 .ctx_has v
  refine⟨∅,λw Z=>k w (.pl (.un cs)) _ ⟨sa,ah,(aA.upd0 Z) _ _ B⟩ F (λ_=>⟨_,rfl⟩) (D2.new Z) (aa.new Z)⟩
 .ctx_has v B
  rw[d_];refine bz D2 () () λr3 H3 bj bm D3 B3=>?_
  have M3:=M2.but D3 B3;refine⟨d,l,pa,0,ns.map V.int,rfl,D3,.inl M3.hp,∅,by rw[d_];omega,by rw[d_];omega,λq ar rest H4 fq a1 _ bc D4 B4=>?_⟩
  obtain⟨av,zv,rfl,ao⟩:=iX V.int xR (λ_=>rfl) a1
  have ab:=B4.tup D3 (B3.tup D2 B);ctx_has v ab
  rw[d_];refine bz D4 () () λr5 H5 bk bf D5 B5=>?_
  ctx_has v
  refine⟨∅,λw Z=>k w (.pl (.mn av cs r3 (r3+r5))) _ ⟨q,sa,ah,(aA.upd0 Z) _ _ (B5.tup D4 bc),(aA.upd0 Z) _ _ (B5.tup D4 ab)⟩ ⟨F,zM ao M.nn M.n5⟩ (λ_=>⟨_,rfl⟩) (D5.new Z) ((((aa.trans B3).trans B4).trans B5).new Z)⟩
 .ctx_has v
  refine⟨d,l,sa,ra,cs,kvs,rm,rfl,D2,M.nr,B,M2.hr,λc Y=>M2.rf c (F.2.2.1 c Y),cl,λc Y=>M.gd c (F.2.2.1 c Y),λw ts lo hi H3 fw hW a9 hb D3 B3=>?_⟩
  refine k w (.pl (.sm ts lo hi)) H3 hW ⟨?_,hb⟩ (λ_=>⟨_,rfl⟩) D3 (aa.trans B3)
  rw[a9];refine⟨?_,F.2.1.sublist (If _ _),λc Y=>F.2.2.1 c (Hg Y),by simp;omega⟩
  intro e;have:=F.1
  cases cs with
  | nil=>exact this rfl
  | cons x xs=>simp at e
 .ctx_has v
  refine⟨d,l,sa,pa,cs,ns,rfl,D2,M.np,B,M2.hp,M.n5,cl,λp us rows H3 fp aU bd am aF az D3 B3=>⟨∅,λw Z=>?_⟩⟩
  have s4:=aA.upd0 (o:=.tup [.str "table",.ref sa,.ref p]) Z;exact k w (.pl (.tb cs rows)) _ ⟨sa,p,us,ah,s4 _ _ (B3.tup D2 B),s4 _ _ aU,bd.keep λb xs e=>s4 _ _ e⟩ ⟨F,am,aF,az⟩ (λ_=>⟨_,rfl⟩) (D3.same s4) ((aa.trans B3).same s4)
 .ctx_has v
  exact⟨d,l,sa,pa,cs,ns,rfl,D2,B,M.np,M2.hp,M.n5,M.nn,λwa ps es H3 fw am ai bb hW D3 B3=>k wa (.pl (.wy cs ps es)) H3 hW ⟨F,am,ai,bb⟩ (λ_=>⟨_,rfl⟩) D3 (aa.trans B3)⟩
 .ctx_has v
  refine⟨∅,λt ht=>lf D2 ht ∅ ∅ rfl λr3 v H3 hv aD D3 B3 h3=>?_⟩
  obtain⟨gap,rfl⟩ : ∃gap:Int,v = .int gap:=by
   simp only[u_,Ge,or_false] at hv;rcases hv with rfl | rfl | rfl | rfl | rfl
   .exact⟨_,rfl⟩
   .exact⟨_,rfl⟩
   .exact⟨_,rfl⟩
   .exact⟨_,rfl⟩
   .exact⟨_,rfl⟩
  ctx_has v h3 aD
  refine⟨∅,λw Z=>?_⟩
  have s4:=aA.upd0 (o:=.tup [.str "behind",.ref sa,.int gap]) Z;exact k w (.pl (.bh cs gap)) _ ⟨sa,ah,s4 _ _ (B3.tup D2 B)⟩ F (λ_=>⟨_,rfl⟩) (D3.same s4) ((aa.trans B3).same s4)
 .have h2a:=M2.ha
  obtain⟨c0,cr,au⟩ : ∃c0 cr,cs=c0 :: cr:=by
   cases cs with
   | nil=>exact absurd rfl F.1
   | cons x xs=>exact⟨x,xs,rfl⟩
  have e0:atI (cs.map V.str) 0=some (.str c0):=by rw[au];exact da (j:=0) (by simp)
  have aQ:c0∈cs:=by rw[au];exact FT
  ctx_has v h2a
  intro R hR;have nR:=D2.ne hR;refine dL dD (λv=>match v with | .str c=>!decide (c=c0) | _=>false) id hR (λH' s=>.of (s _ _ h2a)) (by simp;omega) ?_ ?_ ?_
  .intro x H3 Q3 hx sm q3
   obtain⟨y,hy,rfl⟩:=r_.mp hx;have e1:=sm _ _ B;ctx_has v e1 e0
   exact q3 H3 (aA.refl _)
  .intro x H3 Q3 hx _ sm q3
   ctx_has v
   exact q3 H3 (aA.refl _)
  .intro H3 sm h3
   obtain⟨rs,ad⟩ : ∃rs,ws.filter (λc=>!decide (c=c0))=rs:=⟨_,rfl⟩
   have a2:H3 R*>(rs.map V.str):=by rw[h3,map_id,HL,<- ad];rfl
   have ac : ∀c∈rs,c∈ws/\c≠c0:=λc Y=>by
    rw[<- ad] at Y;have:=GX.mp Y
    exact⟨this.1,by simpa using this.2⟩
   have aB:rs.length<=12:=by rw[<- ad];exact w_ (List.length_filter_le _ _) M.wl
   have ba:rs.Nodup:=by rw[<- ad];exact M.nd.sublist List.filter_sublist
   refine⟨∅,λe he=>?_⟩
   have s4:=aA.upd0 (o:=.lst []) he;refine⟨.list (rs.map PyData.str),.list [],.lst (.of (s4 _ _ a2)) (hU.strs rs),.lst (.of ah) .nil,by unfold PyData.canLay0;exact vg λc Y=>M.nm c (ac c Y).1,rfl,by unfold PyData.depth;rw[oY];decide,_,rfl,?_⟩
   rw[ue];have aq:=sm.trans s4;have D4:=D2.same aq;have B4:=aa.same aq;have ab:=aq _ _ B;refine fF (λh0=>?_) (λh0=>?_)
   .exact⟨∅,λw Z=>k w (.pl (.un cs)) _ ⟨sa,ah,(aA.upd0 Z) _ _ ab⟩ F (λ_=>⟨_,rfl⟩) (D4.new Z) (B4.new Z)⟩
   .refine⟨∅,λaY ae=>?_⟩
    have a5:=D4.ne ae;have aN:rs≠[]:=by simpa using h0
    have s5:=s4.upd_new (o:=.lst ((jl false).map V.str)) ae;have M5:=(M2.same sm).same s5;unfold sT;rw[if_pos rfl];refine⟨d,l,R,ra,pa,aY,rs,ns,kvs,rm,rfl,⟨M5.D,nR,M.nr,M.np,s5 _ _ a2,M5.hr,M5.hp,λc Y=>M5.rf c (ac c Y).1,aN,ba,aB,M.n5,M.nn,λc Y=>M.nm c (ac c Y).1,λc Y=>M.gd c (ac c Y).1⟩,a5,ah,λu W H6 hW aR ai D6 B6=>?_⟩
    obtain⟨W0,rfl⟩:=ai rfl;have a3:=B6.tup M5.D (s5 _ _ (sm _ _ B));have aH:=(aa.same (sm.trans s5)).trans B6;have M6:=M5.but D6 B6;refine⟨_,a3,_,e0,d,l,pa,0,ns.map V.int,rfl,D6,.inl M6.hp,∅,by rw[d_];omega,by rw[d_];omega,λq ar rest H7 fq ax _ aW D7 B7=>⟨∅,λw Z=>?_⟩⟩
    obtain⟨vs,zv,rfl,ao⟩:=iX V.int xR (λ_=>rfl) ax
    have s8:=aA.upd0 (o:=.tup [.str "same",.str c0,.ref q,.ref u]) Z;have ag:okW rs ns W0:=aR
    refine k w (.sa c0 vs W0) _ ⟨q,u,ah,s8 _ _ aW,dX hW λb xs e=>s8 _ _ (B7.tup D6 e)⟩ ⟨F.2.2.1 c0 aQ,zM ao M.nn M.n5,AY (λc Y=>(ac c Y).1) ag,λY=>(ac c0 (ye ag c0 Y)).2 rfl⟩ (λz=>by cases z) (D7.same s8) ((aH.trans B7).same s8)
abbrev DM:=Fn P w K mg base "_law_fillings" 1 ["_law_names_here","_law_rooms_here"] (xr)
theorem lV (T : Txt w K mg) (L:FnL K mg "_law_fillings" df ["_law_names_here","_law_rooms_here"]) : @DM P w K mg base:=by
  ctx_has z lA <;> obtain⟨a,r,cs,kvs,rm,rfl,ha,aQ,aH,aM,aO,a6,k⟩:=h
  . rfl
  refine⟨_,(ak (aL 2 (dA (af gh ap)))
    (ak (bD (ik K (pvM 0)) (aJ 3) (ak (aL 4 (dA ap))
    (ak (bD (ik K (pvM 2)) (aJ 5) (ay (bD (cK K (cm hu (pvM 1) (pvM 3))) (aJ 6) (ak (aL 7 (bL jW T.b_dict (af (pvM 5) ap)))
    (ak (iq hu (pvM 7) (pvM 3) (pvM 6) rfl)
    (ay (dz (jP Gj Gk eI (pvM 4) (af (pvM 7) ap)))))))))
    (ay (aL 2 (pvM 4))))))
    (ay (aI (pvM 2))))),?_⟩
  ctx_has v
  intro p0 aE;refine⟨∅,λp1 ai=>?_⟩
  have s1:aA H (upd (upd H p0 (HO.dK [])) p1 (HO.lst [V.ref p0])):=(aA.upd0 aE).upd_new ai
  have a2:p0≠p1:=by rintro rfl;rw[ah] at ai;cases ai
  refine⟨_,s1 _ _ ha,?_⟩
  refine cL dD (λi σ H'=>∃(p:Addr) (xs:List V) (v3 v4 v5 v6 v7:Option V),σ=[-a,-r,-p,v3,v4,v5,v6,v7]/\H p=none/\H' p*>xs/\xm H' xs (cs.take i) rm/\xs.length<=4 ^ i/\aA H H')
    ⟨p1,[.ref p0],_,_,_,_,_,rfl,(aA.upd0 aE).free ai,ah,⟨λx hx=>?_,λg _=>?_⟩,by simp,s1⟩ (λi σ H' aC=>by obtain⟨_,_,_,_,_,_,_,_,_,_,_,_,sm⟩:=aC;exact(.of (sm _ _ ha))) ?_ ?_
  . rw[g_.mp hx]
    exact⟨λ_=>0,λc hc=>by simp at hc,p0,[],rfl,by rw[ao a2];exact ah,λc hc=>by simp at hc,by simp⟩
  . exact⟨.ref p0,by simp,p0,[],rfl,by rw[ao a2];exact ah,λc hc=>by simp at hc,by simp⟩
  . rintro i x σ H2 hi hx ⟨p,xs,v3,v4,v5,v6,v7,rfl,fp,h2,fa,aw,Z⟩
    rw[d_] at hi;obtain⟨c,a0,rfl⟩ : ∃c,cs[i]? = some c/\V.str c=x:=by
      rw[f_] at hx;cases e:cs[i]? with
      | none=>rw[e] at hx;cases hx
      | some nm=>rw[e] at hx;exact⟨nm,rfl,h_ hx⟩
    have a1:c∈cs:=m_ a0
    have am:cs.take (i+1)=cs.take i++[c]:=by rw[za,a0];rfl
    have aS:c∉cs.take i:=λhm=>by
      obtain⟨j,hj,e⟩:=Gt hm;have ac:j < i:=by simp at hj;omega
      have e2:cs[j]? = some c:=by rw[<- e,List.getElem_take];simp
      have:=gi aM e2 a0
      omega
    obtain⟨ra,aK,a7⟩:=aH c a1;have h4:=Ej (show i<=5 by omega)
    ctx_has v
    refine⟨∅,λm hm=>?_⟩
    have pm:p≠m:=az h2 hm
    refine⟨_,by rw[ao pm];exact h2,?_⟩
    refine cL dD (λj σ H3=>∃(ys:List V) (v5 v6 v7:Option V),σ=[-a,-r,-p,some (.str c),-m,v5,v6,v7]/\H3 m*>ys/\(∀y∈ys,∃g,okF rm (cs.take (i+1)) g/\cU H3 y (cs.take (i+1)) g) /\
        (∀j',j' < j->∀z,xs[j']? = some z->∀g,cU H2 z (cs.take i) g->∀v∈rm c,∃y∈ys,cU H3 y (cs.take (i+1)) (cV g c v))/\ys.length<=4 * j/\aA H2 H3)
      ⟨[],_,_,_,rfl,ah,by simp,by simp,by simp,aA.upd0 hm⟩ (λj σ H' a4=>by obtain⟨_,_,_,_,_,_,_,_,_,sm⟩:=a4;exact(.of (sm _ _ h2))) ?_ ?_
    . rintro j x σ H3 hj a3 ⟨ys,v5,v6,v7,rfl,h3,Y,B,ag,ae⟩
      have aN:=ae _ _ (Z _ _ aQ);have aB:=ae _ _ (Z _ _ a7);ctx_has v aN aK aB
      refine cL ba (λe σ H4=>∃(ys:List V) (v6 v7:Option V),σ=[-a,-r,-p,some (.str c),-m,some x,v6,v7]/\H4 m*>ys/\(∀y∈ys,∃g,okF rm (cs.take (i+1)) g/\cU H4 y (cs.take (i+1)) g) /\
          (∀j',j' < j->∀z,xs[j']? = some z->∀g,cU H2 z (cs.take i) g->∀v∈rm c,∃y∈ys,cU H4 y (cs.take (i+1)) (cV g c v)) /\
          (∀v∈(rm c).take e,∀g,cU H2 x (cs.take i) g->∃y∈ys,cU H4 y (cs.take (i+1)) (cV g c v))/\ys.length<=4 * j+e/\aA H2 H4)
        ⟨ys,_,_,rfl,h3,Y,B,by simp,ag,ae⟩ (λe σ H' a8=>by obtain⟨_,_,_,_,_,_,_,_,_,sm⟩:=a8;exact(.of (sm _ _ (Z _ _ a7)))) ?_ ?_
      . rintro e y σ H4 he ad ⟨ys,v6,v7,rfl,ab,Y,B,aa,ag,an⟩
        rw[d_] at he;obtain⟨v,aD,rfl⟩ : ∃v,(rm c)[e]? = some v/\V.int v=y:=by
          rw[f_] at ad;cases e1:(rm c)[e]? with
          | none=>rw[e1] at ad;cases ad
          | some nm=>rw[e1] at ad;exact⟨nm,rfl,h_ ad⟩
        have aR:x∈xs:=m_ a3
        obtain⟨g0,aG,ax,kx,rfl,ar,aT,au⟩:=fa.sound x aR;have a5:=an _ _ ar;have aV:kx.length<=20:=by have:=au.1;simp at this;omega
        have aF:=a6 c a1;ctx_has v a5
        intro q hq;have mq:m≠q:=az ab hq
        refine⟨_,ah,aU (),?_⟩
        have hM:upd (upd H4 q (HO.dK kx)) q (HO.dK (bE kx (t_ c) (V.int v))) m=some (HO.lst ys):=by rw[ao mq,ao mq];exact ab
        have kk : ∀b kvs',H4 b<*kvs'->upd (upd (upd H4 q (HO.dK kx)) q (HO.dK (bE kx (t_ c) (V.int v)))) m (HO.lst (ys++[V.ref q])) b<*kvs':=λb kvs' eb=>by
          rw[ao (bo eb ab (by intro z;cases z)),ao (az eb hq),ao (az eb hq)];exact eb
        have hQ:upd (upd (upd H4 q (HO.dK kx)) q (HO.dK (bE kx (t_ c) (V.int v)))) m (HO.lst (ys++[V.ref q])) q<*(bE kx (t_ c) (V.int v)):=by rw[ao mq.symm];exact ah
        have nf : ∀g,cU H2 (V.ref ax) (cs.take i) g->cU (upd (upd (upd H4 q (HO.dK kx)) q (HO.dK (bE kx (t_ c) (V.int v)))) m (HO.lst (ys++[V.ref q]))) (.ref q) (cs.take (i+1)) (cV g c v):=λg ⟨a',k',e1,e2,e3,_⟩=>by
          cases e1;rw[ar] at e2;cases e2;rw[am];exact cU.put e3 au aS hQ
        refine⟨⟨_,hM⟩,ys,hM,Gc (show ys.length<=5000 by omega) ∅,ys++[V.ref q],ah,λy hy=>?_,λj' ac z hz g hg v' aq=>?_,λv' aq g hg=>?_,by simp;omega,?_⟩
        . rcases y8.mp hy with z | z
          . obtain⟨g,h5,h6⟩:=Y y z
            exact⟨g,h5,h6.keep kk⟩
          . rw[g_.mp z]
            refine⟨cV g0 c v,λc' aj=>?_,nf g0 ⟨ax,kx,rfl,ar,aT,au⟩⟩
            rw[am] at aj
            by_cases ec:c'=c
            . subst ec;rw[bx];exact m_ aD
            . rw[dq _ _ ec]
              rcases y8.mp aj with z | z
              . exact aG c' z
              . exact absurd (g_.mp z) ec
        . obtain⟨y,hy,hf⟩:=B j' ac z hz g hg v' aq
          exact⟨y,A_ _ hy,hf.keep kk⟩
        . rw[za,aD] at aq
          rcases y8.mp aq with z | z
          . obtain⟨y,hy,hf⟩:=aa v' z g hg
            exact⟨y,A_ _ hy,hf.keep kk⟩
          . have ev:v'=v:=by simpa using z
            subst ev;exact⟨.ref q,by simp,nf g hg⟩
        . intro b o eb
          have e4:=an b o eb;rw[ao (az eb hm),ao (az e4 hq),ao (az e4 hq)];exact e4
      . rintro σ H4 ⟨ys,v6,v7,rfl,ab,Y,B,aa,ag,an⟩
        rw[d_] at aa ag;rw[FV] at aa;have aF:=a6 c a1;refine⟨ys,_,_,_,rfl,ab,Y,λj' ac z hz g hg v hv=>?_,(),an⟩
        by_cases ej:j'=j
        . subst ej
          rw[a3] at hz;cases hz;exact aa v hv g hg
        . exact B j' () z hz g hg v hv
    . rintro σ H3 ⟨ys,v5,v6,v7,rfl,h3,Y,B,ag,ae⟩
      ctx_has v
      refine⟨(Z.free hm),ys,h3,⟨Y,λg hg=>?_⟩,by rw[Nat.pow_succ];omega,Z.trans ae⟩
      obtain⟨x,hx,aP⟩:=fa.comp g (λc' aj=>hg c' (by rw[am];exact A_ _ aj))
      obtain⟨j',ac,e'⟩:=Gt hx;obtain⟨y,hy,a9⟩:=B j' ac x (by rw[<- e'];simp) g aP (g c) (hg c (by rw[am];simp))
      rw[xZ] at a9;exact⟨y,hy,a9⟩
  . rintro σ H2 ⟨p,xs,v3,v4,v5,v6,v7,rfl,fp,h2,fa,aw,Z⟩
    rw[d_,FV] at fa;rw[d_] at aw;ctx_has v
    exact k p xs H2 fp h2 fa (w_ aw (Ej aO)) Z
def sP:Sp:=λvs H Q _=>∃(b c:Bool),vs=[.bl b,.bl c]/\Q (.bl (decide (b=c))) H
theorem ur (h:okF rm cs g) (ne : ∀c∈ws,rm c≠[]) : ∃g',okF rm ws g'/\∀c∈cs,g' c=g c:=by
 refine⟨λc=>if c∈cs then g c else(rm c).headD 0,λc F=>?_,λc F=>if_pos F⟩
 by_cases B:c∈cs
 .show(if c∈cs then g c else(rm c).headD 0)∈rm c
  rw[if_pos B];exact h c B
 .show(if c∈cs then g c else(rm c).headD 0)∈rm c
  rw[if_neg B];cases e:rm c with
  | nil=>exact absurd e (ne c F)
  | cons x xs=>simp
theorem aA.but (s:aA H H'):But d l H H':=λb o _ _ e=>s b o e
theorem eh (h:n<=4):n < 1000:=()
theorem yz (a b c d:Str) (x y z u:V):(cW a x []).length<=4:=by have:=eW a x [];simp at this;omega
theorem yt (a b c d:Str) (x y z u:V):(cW b y (cW a x [])).length<=4:=by have:=eW a x [];have:=eW b y (cW a x []);simp at *;omega
theorem BC (a b c d:Str) (x y z u:V):(cW c z (cW b y (cW a x []))).length<=4:=by have:=eW a x [];have:=eW b y (cW a x []);have:=eW c z (cW b y (cW a x []));simp at *;omega
theorem EL (a b c d:Str) (x y z u:V):(cW d u (cW c z (cW b y (cW a x [])))).length<=4:=by have:=eW a x [];have:=eW b y (cW a x []);have:=eW c z (cW b y (cW a x []));have:=eW d u (cW c z (cW b y (cW a x [])));simp at *;omega
def cq (mg:Str->Option Value) (C:Str):Sp:=λvs H Q _=>∃(p dx:Addr) (fs:List (Str × V)) (w:V),vs=[.ref p,w]/\H p=some (.ins (au mg C) dx fs)/\fs.length < 1000/\Q .non (upd H p (.ins (au mg C) dx (cW "wish" w fs)))
abbrev pW:=List Str × Int
def jF (dat:pW):List Str:=dat.1
def Di (dat:pW):Prop:=dat.1≠[]/\dat.1.Nodup/\dat.1.length<=12
def Ai (dat:pW) (g:Str->Int):Bool:=chB dat.2 (dat.1.map g)
def WSB (H:Hp) (w:Addr) (dat:pW):Prop:=∃c,H w>>[.str "behind",.ref c,.int dat.2]/\H c>>(dat.1.map V.str)
def OBB (mg:Str->Option Value) (H:Hp) (p:Addr) (dat:pW):Prop:=∃dx fs w c,H p=some (.ins (au mg "Behind") dx fs)/\WSB H w dat/\H c>>(dat.1.map V.str)/\fs.lookup (b_ "wish")=some (.ref w)/\fs.lookup (b_ "cells")=some (.ref c)/\fs.lookup (b_ "gap")=some (.int dat.2) /\
 fs.lookup (b_ "kept")=none/\fs.lookup (b_ "may_keep")=none/\fs.lookup (b_ "may_break")=none
theorem wY {dat:pW} (h:OBB mg H p dat) : ∃dx fs,H p=some (.ins (au mg "Behind") dx fs)/\fs.lookup (b_ "kept")=none/\fs.lookup (b_ "may_keep")=none/\fs.lookup (b_ "may_break")=none:=by
 obtain⟨dx,fs,w,c,h1,h2,B,_,_,_,r⟩:=h;exact⟨dx,fs,h1,r⟩
structure At (mg:Str->Option Value) (H:Hp) (p r:Addr) (dat:pW) (kvs:List (Key × V)) (rm:Str->List Int):Prop where
 ob:OBB mg H p dat
 rd:H r<*kvs
 rf:bj H kvs (jF dat) rm
 ok:Di dat
 ne : ∀c∈jF dat,rm c≠[]/\(rm c).length<=10/\(rm c).Pairwise (· < ·)
def fQ (mg:Str->Option Value):Sp:=λvs H Q _=>∃(p r:Addr) (dat:pW) (kvs:List (Key × V)) (rm:Str->List Int),vs=[.ref p,.ref r]/\At mg H p r dat kvs rm/\∀(b:Bool) H',(b=true↔∃g,okF rm (jF dat) g/\Ai dat g=true)->aA H H'->Q (.bl b) H'
def fv (mg:Str->Option Value):Sp:=λvs H Q _=>∃(p r:Addr) (dat:pW) (kvs:List (Key × V)) (rm:Str->List Int),vs=[.ref p,.ref r]/\At mg H p r dat kvs rm/\∀(b:Bool) H',(b=true↔∃g,okF rm (jF dat) g/\Ai dat g=false)->aA H H'->Q (.bl b) H'
def rW (mg:Str->Option Value) (C:Str):Sp:=λvs H Q _=>∃(p dx w:Addr) (dat:pW),vs=[.ref p,.ref w]/\H p=some (.ins (au mg C) dx [])/\WSB H w dat/\∀H',OBB mg H' p dat->gN p H H'->Q .non H'
theorem Ak {L:Int} (F:(c :: cs).Nodup) (Z:m∈rm c) (hL:L+gap<=m) (B : ∀v∈rm c,L+gap<=v->m<=v) :
  (∃g,okF rm (c :: cs) g/\chB gap (L ::(c :: cs).map g)=true)↔∃g,okF rm cs g/\chB gap (m :: cs.map g)=true:=by
 rw[FG] at F
 constructor
 .rintro⟨g,h1,h2⟩
  rw[y3,gT,B_,decide_eq_true_eq] at h2;exact⟨g,λx Y=>h1 x (zc _ Y),uR (B _ (h1 c (by simp)) h2.1) h2.2⟩
 .rintro⟨g,h1,h2⟩
  have e:cs.map (cV g c m)=cs.map g:=Gb λx Y=>dq _ _ (λz=>F.1 (z ▸ Y))
  refine⟨cV g c m,λx Y=>?_,?_⟩
  .by_cases z:x=c
   .subst z;rw[bx];exact Z
   .rw[dq _ _ z];exact h1 x ((u_.mp Y).resolve_left z)
  .rw[y3,bx,e,gT,B_,decide_eq_true_eq]
   exact⟨hL,h2⟩
theorem yc (F:(c :: cs).Nodup) (Y:m∈rm c) (B : ∀v∈rm c,m<=v) :
  (∃g,okF rm (c :: cs) g/\chB gap ((c :: cs).map g)=true)↔∃g,okF rm cs g/\chB gap (m :: cs.map g)=true:=by
 rw[FG] at F
 constructor
 .rintro⟨g,h1,h2⟩
  exact⟨g,λx L=>h1 x (zc _ L),uR (B _ (h1 c (by simp))) h2⟩
 .rintro⟨g,h1,h2⟩
  have e:cs.map (cV g c m)=cs.map g:=Gb λx L=>dq _ _ (λz=>F.1 (z ▸ L))
  refine⟨cV g c m,λx L=>?_,?_⟩
  .by_cases z:x=c
   .subst z;rw[bx];exact Y
   .rw[dq _ _ z];exact h1 x ((u_.mp L).resolve_left z)
  .rw[y3,bx,e]
   exact h2
def CG (rm:Str->List Int) (gap:Int) (cs:List Str) (j:Nat):Prop:=∃i,i < j/\∃c B,cs[i]? = some c/\cs[i+1]? = some B/\∃M∈rm c,∃m∈rm B,m < M+gap
theorem pb {gap:Int} : ∀{vs:List Int},chB gap vs=false->∃i,∃a b,vs[i]? = some a/\vs[i+1]? = some b/\b < a+gap
 | [],h=>by cases h
 | [a],h=>by cases h
 | a :: b :: r,h=>by
  rw[gT,Ip] at h;rcases h with h | h
  .exact⟨0,a,b,rfl,rfl,by simpa using h⟩
  .obtain⟨i,x,y,h1,h2,h3⟩:=pb h
   exact⟨i+1,x,y,by simpa using h1,by simpa using h2,h3⟩
theorem wV {gap:Int} : ∀{vs:List Int} {i:Nat} {a b:Int},vs[i]? = some a->vs[i+1]? = some b->b < a+gap->chB gap vs=false
 | [],i,a,b,h,_,_=>by simp at h
 | [x],i,a,b,_,h,_=>by simp at h
 | x :: y :: r,0,a,b,h1,h2,h3=>by
  simp at h1 h2
  subst h1;subst h2;rw[gT,Ip];exact .inl (by simpa using h3)
 | x :: y :: r,i+1,a,b,h1,h2,h3=>by
  rw[gT,Ip];exact .inr (wV (vs:=y :: r) (i:=i) (by simpa using h1) (by simpa using h2) h3)
theorem ym (Y:cs.Nodup) (L : ∀c∈cs,rm c≠[]) :
  (∃i c B,cs[i]? = some c/\cs[i+1]? = some B/\∃M∈rm c,∃m∈rm B,m < M+gap)↔∃g,okF rm cs g/\chB gap (cs.map g)=false:=by
 constructor
 .rintro⟨i,c,B,h1,h2,M,hM,m,hm,hlt⟩
  have Z:c≠B:=λe=>by
   subst e;have:=gi Y h1 h2
   omega
  obtain⟨g,F,_⟩:=ur (rm:=rm) (cs:=[]) (g:=λ_=>0) (λc hc=>by simp at hc) L
  refine⟨cV (cV g c M) B m,λx hx=>?_,?_⟩
  .by_cases e:x=B
   .subst e;rw[bx];exact hm
   .rw[dq _ _ e]
    by_cases e2:x=c
    .subst e2;rw[bx];exact hM
    .rw[dq _ _ e2];exact F x hx
  .refine wV (i:=i) (a:=M) (b:=m) ?_ ?_ hlt
   .rw[f_,h1,Iv,dq _ _ Z,bx]
   .rw[f_,h2,Iv,bx]
 .rintro⟨g,F,hb⟩
  obtain⟨i,a,b,h1,h2,h3⟩:=pb hb;rw[f_] at h1 h2;cases e1:cs[i]? with
  | none=>rw[e1] at h1;cases h1
  | some c =>
   cases e2:cs[i+1]? with
   | none=>rw[e2] at h2;cases h2
   | some B =>
    rw[e1] at h1;rw[e2] at h2;have h1:=h_ h1;have h2:=h_ h2;exact⟨i,c,B,e1,e2,g c,F c (m_ e1),g B,F B (m_ e2),()⟩
theorem lu (T:Txt w K mg) (L:bm K (fE K (au mg "Wish") "__init__") "__init__" "Wish.__init__" bi ["self","wish"]):FnR P w K mg base (fE K (au mg "Wish") "__init__") 1 ["self","wish"] (cq mg "Behind"):=by
 ctx_has z cg <;> obtain⟨p,dx,fs,w,rfl,hp,B,k⟩:=h
 .rfl
 refine⟨_,(ay (bF T.cl_Behind T.no_Behind_wish (pvM 0) (pvM 1) rfl)),?_⟩
 ctx_has v hp
 exact⟨B,k⟩
theorem kj (T:Txt w K mg) (L:bm K (Mk K (au mg "Behind")) "__init__" "Behind.__init__" cE ["self","wish"]) (B:FnR P w K mg base (fE K (au mg "Wish") "__init__") 1 ["self","wish"] (cq mg "Behind")):FnR P w K mg base (Mk K (au mg "Behind")) 2 ["self","wish"] (rW mg "Behind"):=by
 ctx_has z kD <;> obtain⟨p,dx,w,dat,rfl,hp,hW,k⟩:=h
 .rfl
 refine⟨_,(ak (dz (iJ B (hr.mono (by ctx_has m)) rfl T.at_Wish (af (pvM 0) (af (pvM 1) ap))))
  (ak (bF T.cl_Behind T.no_Behind_cells (pvM 0) (aK bg (pvM 1) aw) rfl)
  (ay (bF T.cl_Behind T.no_Behind_gap (pvM 0) (aK bg (pvM 1) aw) rfl)))),?_⟩
 obtain⟨cs,gap⟩:=dat;obtain⟨c,Z,h2⟩:=hW;ctx_has v Z
 have F:w≠p:=bo Z hp (by intro z;cases z)
 have Y:c≠p:=bo h2 hp (by intro z;cases z)
 refine⟨p,dx,[],.ref w,rfl,hp,∅,?_⟩
 ctx_has v ah
 refine⟨_,by rw[ao F];exact Z,?_⟩
 ctx_has v
 refine⟨eh (yz _ "" "" "" _ .non .non .non),_,by rw[ao F,ao F];exact Z,?_⟩
 ctx_has v
 refine⟨eh (yt _ _ "" "" _ _ .non .non),k _ ⟨dx,_,w,c,ah,⟨c,by rw[ao F,ao F,ao F];exact Z,by rw[ao Y,ao Y,ao Y];exact h2⟩,by rw[ao Y,ao Y,ao Y];exact h2,?_⟩ ?_⟩
 .simp only[cy,gy,String.reduceEq,if_true,if_false,true_and,Iu,and_self]
 .intro b o hb e
  rw[ao hb,ao hb,ao hb];exact e
theorem ko (T:Txt w K mg) (L:bm K (aN K (au mg "Behind") "may_keep") "may_keep" "Behind.may_keep" bR ["self","rooms"]):FnR P w K mg base (aN K (au mg "Behind") "may_keep") 22 ["self","rooms"] (fQ mg):=by
 ctx_has z ky <;> obtain⟨p,r,dat,kvs,rm,rfl,M,k⟩:=h
 .rfl
 refine⟨_,(ak (aL 2 (aM (rz rfl) T.b_min (af (cm hu (pvM 1) (aK bg (aR T.cl_Behind T.no_Behind_cells (pvM 0)) aw)) ap)))
  (ak (bD (cK K (cJ mQ (aR T.cl_Behind T.no_Behind_cells (pvM 0)) (dr aw) dJ)) (aJ 3) (ak (gR 4 (N:=["value","least","self"]) (nt:=1) (js:=[2,0]) (aP ["self","rooms","least","cell","enough"] (aj bR).names) (cK K (cm hu (pvM 1) (pvM 3))) (aJ 0) aZ (gb (aS ji (aT br (pvM 1) (aR T.cl_Behind T.no_Behind_gap (pvM 2))) (pvM 0))) (pvM 0))
  (ak (bS (aS cI (aM ck T.b_len (af (pvM 4) ap)) aw) (ay (aI dU)) aV)
  (ay (aL 2 (aM (mj rfl) T.b_min (af (pvM 4) ap)))))))
  (ay (aI dU)))),?_⟩
 obtain⟨dx,fs,w,c,h1,h2,h3,l1,l2,l3,l4⟩:=M.ob;obtain⟨cs,gap⟩:=dat;have F:=M.ok;have ab:=M.ne;have Y:=M.rf;simp only[jF,Di] at F ab Y h3 l2 l3 k;cases cs with
 | nil=>exact absurd rfl F.1
 | cons Z cs =>
  obtain⟨a0,ax,a3⟩:=Y Z (by simp)
  have ac:=M.rd;ctx_has v h1 l2 l3 h3 ac ax a3
  refine⟨rm Z,rfl,(ab Z (by simp)).1,λm0 ao ad=>?_⟩
  ctx_has v h1 l2 l3 h3 ac
  intro p2 H2 e2 s2
  replace e2:H2 p2>>(cs.map V.str):=by
   rw[e2];exact congrArg (λz=>some (HO.tup z)) (gB V.str (Z :: cs) 1)
  ctx_has v e2
  refine cL ba (λi σ H3=>∃(L:Int) (v3 v4:Option V),σ=[-p,-r,some (.int L),v3,v4]/\aA H2 H3/\((∃g,okF rm (Z :: cs) g/\chB gap ((Z :: cs).map g)=true)↔∃g,okF rm (cs.drop i) g/\chB gap (L ::(cs.drop i).map g)=true))
   ⟨m0,_,_,rfl,aA.refl _,yc F.2.1 ao ad⟩ (λi σ H' ae=>by obtain⟨_,_,_,_,sm,_⟩:=ae;exact(.of (sm _ _ e2))) ?_ ?_
  .rintro i x σ H3 hi hx ⟨L,v3,v4,rfl,sm3,hiff⟩
   rw[d_] at hi;obtain⟨B,aa,rfl⟩ : ∃B,cs[i]? = some B/\V.str B=x:=by
    rw[f_] at hx;cases e:cs[i]? with
    | none=>rw[e] at hx;cases hx
    | some nm=>rw[e] at hx;exact⟨nm,rfl,h_ hx⟩
   have an:B∈Z :: cs:=zc _ (m_ aa)
   have ed:cs.drop i=B :: cs.drop (i+1):=by
    rw[List.drop_eq_getElem_cons hi];rw[C_ hi] at aa;rw[h_ aa]
   have am:(B :: cs.drop (i+1)).Nodup:=by rw[<- ed];exact(FG.mp F.2.1).2.sublist (List.drop_sublist _ _)
   obtain⟨a1,aq,ar⟩:=Y B an;have a5:=sm3 _ _ (s2 _ _ h1);have az:=sm3 _ _ (s2 _ _ ac);have ai:=sm3 _ _ (s2 _ _ ar);ctx_has v az aq ai
   intro q hq;refine dL ba (λv=>match v with | .int v=>decide (L+gap<=v) | _=>false) id hq (λH' s=>.of (s _ _ ai)) (by have:=ab B an;simp;omega) ?_ ?_ ?_
   .intro x H4 Q4 hx sm q4
    obtain⟨y,hy,rfl⟩:=r_.mp hx;have e1:=sm _ _ a5;ctx_has v e1 l3
    exact q4 H4 (aA.refl _)
   .intro x H4 Q4 hx _ sm q4
    ctx_has v
    exact q4 H4 (aA.refl _)
   .intro H4 sm4 h4
    have a6:H4 q*>(((rm B).filter λv=>decide (L+gap<=v)).map V.int):=by
     rw[h4,HL,FQ];rfl
    ctx_has v a6
    refine fF (λh0=>?_) (λh0=>?_)
    .refine k false H4 ?_ ((s2.trans sm3).trans sm4)
     simp only[q_,false_iff];intro hg;obtain⟨g,g1,g2⟩:=hiff.mp hg;rw[ed,y3,gT,B_,decide_eq_true_eq] at g2;have:g B∈(rm B).filter λv=>decide (L+gap<=v):=GX.mpr ⟨g1 B (by rw[ed];simp),by simpa using g2.1⟩
     have:=Hm this
     simp only[d_] at h0;omega
    .refine⟨_,rfl,λhn=>h0 (by rw[hn];rfl),λm hm ag=>?_⟩
     obtain⟨a7,a2⟩:=GX.mp hm;refine⟨sm3.trans sm4,?_⟩
     refine Iff.trans hiff ?_
     rw[ed];exact Ak am a7 (by simpa using a2) λv hv a4=>ag v (GX.mpr ⟨hv,by simpa using a4⟩)
  .rintro σ H3 ⟨L,v3,v4,rfl,sm3,hiff⟩
   rw[d_,List.drop_length] at hiff;ctx_has v
   refine k true H3 ?_ (s2.trans sm3)
   simp only[true_iff];exact hiff.mpr ⟨λ_=>0,λc hc=>by simp at hc,rfl⟩
theorem jN (T:Txt w K mg) (L:bm K (aN K (au mg "Behind") "may_break") "may_break" "Behind.may_break" bJ ["self","rooms"]):FnR P w K mg base (aN K (au mg "Behind") "may_break") 22 ["self","rooms"] (fv mg):=by
 ctx_has z jM <;> obtain⟨p,r,dat,kvs,rm,rfl,M,k⟩:=h
 .rfl
 refine⟨_,(ak (aL 2 (wK rfl rfl T.b_list rfl T.b_zip (af (aR T.cl_Behind T.no_Behind_cells (pvM 0)) (af (cJ mQ (aR T.cl_Behind T.no_Behind_cells (pvM 0)) (dr aw) dJ) ap))))
  (ay (aI (aM (gF rfl) T.b_any (af (bB (N:=["ahead","later","rooms","self"]) (nt:=2) (js:=[1,0]) (aP ["self","rooms","pairs"] (aj bJ).names) (ik K (pvM 2)) (jH (n:=2) rfl (dM (aJ 0) (dM (aJ 1) jG))) iz cF (aX mS (aT br (aM (yw rfl) T.b_max (af (cm hu (pvM 2) (pvM 0)) ap)) (aR T.cl_Behind T.no_Behind_gap (pvM 3))) (aM (rz rfl) T.b_min (af (cm hu (pvM 2) (pvM 1)) ap)))) ap))))),?_⟩
 obtain⟨dx,fs,w,c,h1,h2,h3,l1,l2,l3,l4⟩:=M.ob;obtain⟨cs,gap⟩:=dat;have ai:=M.ok;have Y:=M.ne;have ac:=M.rf;have a4:=M.rd;simp only[jF,Di] at ai Y ac h3 l2 l3 k;ctx_has v h1 l2 h3
 intro p2 H2 e2 s2;rw[show gP (cs.map V.str) (some 1) none=(cs.drop 1).map V.str from gB V.str cs 1] at e2
 have a2:=s2 _ _ h3;ctx_has v a2 e2
 refine⟨by rw[d_];omega,λpl ts H3 s3 aG ae hp=>?_⟩
 have B:=s2.trans s3;have aC:=B _ _ h1;have a7:=B _ _ a4;ctx_has v ae
 intro q hq;have aF:ts.length=cs.length - 1:=by rw[hp.1];simp
 refine gl dD (λj ys H4=>∃bs:List Bool,ys=bs.map V.bl/\bs.length=j/\(true∈bs↔CG rm gap cs j)/\H4 q*>ys/\aA H3 H4)
  ⟨[],rfl,rfl,⟨λh=>by simp at h,λan=>by obtain⟨i,hi,_⟩:=an;exact(absurd hi ())⟩,ah,aA.upd0 hq⟩ (λj ys H' ad=>by obtain⟨_,_,_,_,_,sm⟩:=ad;exact(.of (sm _ _ ae))) ?_ ?_
 .rintro j x ys H4 hj hx ⟨bs,rfl,hbl,hiff,h4,sm4⟩
  rw[d_] at hj;obtain⟨t,a3,rfl⟩ : ∃t,ts[j]? = some t/\V.ref t=x:=by
   rw[f_] at hx;cases e:ts[j]? with
   | none=>rw[e] at hx;cases hx
   | some nm=>rw[e] at hx;exact⟨nm,rfl,h_ hx⟩
  obtain⟨ca,Z⟩ : ∃ca,cs[j]? = some ca:=⟨cs[j]'(),by simp⟩
  obtain⟨cb,F⟩ : ∃cb,cs[j+1]? = some cb:=⟨cs[j+1]'(),by simp⟩
  have ht:=hp.2 j t (.str ca) (.str cb) a3 (by rw[f_,Z];rfl) (by rw[f_,List.getElem?_drop,Nat.add_comm,F];rfl)
  have a1:=sm4 _ _ ht;have aq:ca∈cs:=m_ Z
  have am:cb∈cs:=m_ F
  obtain⟨aa,a8,aD⟩:=ac ca aq;obtain⟨ab,aE,a0⟩:=ac cb am;have aB:=sm4 _ _ a7;have a9:=sm4 _ _ (B _ _ aD);have ax:=sm4 _ _ (B _ _ a0);have a6:=sm4 _ _ aC;ctx_has v a1 aB a8 aE a9 ax a6 l3
  refine⟨rm ca,rfl,(Y ca aq).1,λM hM ar=>⟨rm cb,rfl,(Y cb am).1,λm hm ag=>?_⟩⟩
  refine⟨h4,by rw[d_];exact aU (),bs++[decide (M+gap > m)],by simp,by simp;omega,?_,ah,λb o e=>by rw[ao (az e hq)];exact sm4 _ _ e⟩
  constructor
  .intro hb
   rcases y8.mp hb with z | z
   .obtain⟨i,hi,r⟩:=hiff.mp z
    exact⟨i,(),r⟩
   .exact⟨j,(),ca,cb,Z,F,M,hM,m,hm,by simpa using (g_.mp z).symm⟩
  .rintro⟨i,hi,c1,c2,e1,e2,M',hM',m',hm',hlt⟩
   by_cases a5:i=j
   .subst a5
    rw[Z] at e1;rw[F] at e2;cases e1;cases e2;have:=ar M' hM'
    have:=ag m' hm'
    exact Ga _ (g_.mpr (by simp;omega))
   .exact A_ _ (hiff.mpr ⟨i,(),c1,c2,e1,e2,M',hM',m',hm',hlt⟩)
 .rintro ys H4 ⟨bs,rfl,hbl,hiff,h4,sm4⟩
  rw[d_] at hbl hiff;ctx_has v
  refine⟨bs,h4,k _ H4 ?_ (B.trans sm4)⟩
  refine Iff.trans ?_ (ym (gap:=gap) ai.2.1 λc hc=>(Y c hc).1)
  have:bs.any id=true↔true∈bs:=by simp
  rw[this,hiff]
  constructor
  .rintro⟨i,hi,r⟩
   exact⟨i,r⟩
  .rintro⟨i,c1,c2,e1,e2,r⟩
   refine⟨i,?_,c1,c2,e1,e2,r⟩
   have:=(p_.mp e2).1
   omega
def er (rm:Str->List Int) (cs:List Str):List (List Int):=cs.foldl (λps c=>ps.flatMap λp=>(rm c).map λv=>p++[v]) [[]]
theorem pB (rm:Str->List Int):er rm []=[[]]:=rfl
theorem jx (rm:Str->List Int) (cs:List Str) (c:Str):er rm (cs++[c])=(er rm cs).flatMap λp=>(rm c).map λv=>p++[v]:=by simp[er,foldl_append]
def yA (rm:Str->List Int) (cs:List Str) (p:List Int):Prop:=p.length=cs.length/\∀(i:Nat) c v,cs[i]? = some c->p[i]? = some v->v∈rm c
theorem mm {P:List α->Prop} (L:P []) (F : ∀l a,P l->P (l++[a])) (l:List α):P l:=by
 rw[<- List.reverse_reverse l]
 induction l.reverse with
 | nil=>exact L
 | cons a r B=>rw[List.reverse_cons];exact F _ _ B
theorem jX (cs:List Str) : ∀{p:List Int},p∈er rm cs↔yA rm cs p:=by
 refine mm (P:=λcs=>∀{p:List Int},p∈er rm cs↔yA rm cs p) ?_ ?_ cs
 .intro p
  rw[pB,g_]
  constructor
  .rintro rfl;exact⟨rfl,λi c v e=>by simp at e⟩
  .intro h;exact List.length_eq_zero_iff.mp h.1
 .intro cs c ih p
  rw[jx,mem_flatMap]
  constructor
  .rintro⟨q,hq,hp⟩
   obtain⟨v,F,rfl⟩:=r_.mp hp;obtain⟨h1,h2⟩:=ih.mp hq;refine⟨by simp[h1],λi x u e1 e2=>?_⟩
   by_cases hi:i < cs.length
   .rw[Gn hi] at e1
    rw[Gn (by rw[h1];exact hi)] at e2
    exact h2 i x u e1 e2
   .have hl:=(p_.mp e1).1
    have B:i=cs.length:=by simp at hl;omega
    subst B;rw[Gx (s_ _),sub_self] at e1;rw[<- h1,Gx (s_ _),sub_self] at e2;cases e1;cases e2;exact F
  .rintro⟨h1,h2⟩
   rcases Is p with rfl | ⟨q,v,rfl⟩
   .simp at h1
   .have hql:q.length=cs.length:=by simpa using h1
    refine⟨q,ih.mpr ⟨hql,λi x u e1 e2=>h2 i x u ?_ ?_⟩,r_.mpr ⟨v,?_,by simp⟩⟩
    .rw[Gn (p_.mp e1).1];exact e1
    .rw[Hw,Gn (p_.mp e2).1];exact e2
    .exact h2 cs.length c v (by simp) (by rw[Hw,<- hql];simp)
theorem kH (cs:List Str):(er rm cs).length=(cs.map λc=>(rm c).length).foldl (· * ·) 1:=by
 refine mm (P:=λcs=>(er rm cs).length=(cs.map λc=>(rm c).length).foldl (· * ·) 1) ?_ ?_ cs
 .rfl
 .intro cs c ih
  rw[jx,Gz,foldl_append,<- ih];have F : ∀ps:List (List Int),(ps.flatMap λp=>(rm c).map λv=>p++[v]).length=ps.length * (rm c).length:=λps=>by
   induction ps with
   | nil=>simp
   | cons p ps B=>rw[List.flatMap_cons,Gh,d_,GG,Nat.succ_mul,B];omega
  rw[F];rfl
theorem sH (cs:List Str):(∀c∈cs,(rm c).Nodup)->(er rm cs).Nodup:=by
 refine mm (P:=λcs=>(∀c∈cs,(rm c).Nodup)->(er rm cs).Nodup) ?_ ?_ cs
 .intro _;rw[pB];simp
 .intro cs c ih h
  rw[jx];have h1:=ih λx hx=>h x (A_ _ hx)
  have h2:=h c (by simp)
  generalize er rm cs=ps at h1
  induction ps with
  | nil=>simp
  | cons p ps B =>
   rw[FG] at h1;rw[List.flatMap_cons,Gr];refine⟨?_,B h1.2,λa ha b L e=>?_⟩
   .clear B
    generalize rm c=vs at h2
    induction vs with
    | nil=>simp
    | cons v vs F =>
     rw[FG] at h2;rw[y3,FG];refine⟨λY=>?_,F h2.2⟩
     obtain⟨u,hu,e⟩:=r_.mp Y;have:=List.append_inj_right' e rfl
     simp at this
     exact h2.1 (this ▸ hu)
   .obtain⟨v,_,rfl⟩:=r_.mp ha
    obtain⟨q,Z,L⟩:=mem_flatMap.mp L;obtain⟨u,_,rfl⟩:=r_.mp L;have:=List.append_inj_left' e rfl
    exact h1.1 (this ▸ Z)
theorem uQ (h:okF rm cs g):yA rm cs (cs.map g):=⟨by simp,λi c v e1 e2=>by
 rw[f_,e1] at e2;cases e2;exact h c (m_ e1)⟩
theorem tZ {p:List Int} (L:cs.Nodup) (h:yA rm cs p) : ∃g,okF rm cs g/\cs.map g=p:=by
 refine⟨λc=>p.getD (cs.idxOf c) 0,λc F=>?_,?_⟩
 .have hl:=List.idxOf_lt_length_iff.mpr F
  have hp:cs.idxOf c < p.length:=by rw[h.1];exact hl
  have e1:cs[cs.idxOf c]? = some c:=by rw[C_ hl];simp
  have e2:p[cs.idxOf c]? = some (p.getD (cs.idxOf c) 0):=by simp[C_ hp]
  exact h.2 _ c _ e1 e2
 .apply List.ext_getElem?
  intro i;rw[f_]
  by_cases hi:i < cs.length
  .rw[C_ hi,Iv]
   have B:cs.idxOf cs[i]=i:=by
    have hl:=List.idxOf_lt_length_iff.mpr (HD hi);have e1:cs[cs.idxOf cs[i]]? = some cs[i]:=by rw[C_ hl];simp
    exact gi L e1 (by simp)
   rw[B];have hp:i < p.length:=by rw[h.1];exact hi
   simp[C_ hp]
  .rw[List.getElem?_eq_none (),List.getElem?_eq_none (by rw[h.1];omega)]
   rfl
abbrev jn:=List Str × List (List Int)
def iK (dat:jn):List Str:=dat.1
def Bn (dat:jn):Prop:=dat.1≠[]/\dat.1.Nodup/\dat.1.length<=12/\dat.2.Nodup/\(∀r∈dat.2,r.length=dat.1.length)/\dat.2.length<=60
def jq (dat:jn) (g:Str->Int):Bool:=decide (dat.1.map g∈dat.2)
def WST (H:Hp) (w:Addr) (dat:jn):Prop:=∃c t vs,H w>>[.str "table",.ref c,.ref t]/\H c>>(dat.1.map V.str)/\H t>>vs/\fA H vs dat.2
theorem yU {w:Addr} {dat:jn} (h:WST H w dat) (k:gk H H'):WST H' w dat:=by
 obtain⟨c,t,vs,h1,h2,F,B⟩:=h;exact⟨c,t,vs,k.tup _ _ h1,k.tup _ _ h2,k.tup _ _ F,B.keep k.tup⟩
def OBT (mg:Str->Option Value) (H:Hp) (p:Addr) (dat:jn):Prop:=∃dx fs w c t vs,H p=some (.ins (au mg "Table") dx fs)/\WST H w dat/\H c>>(dat.1.map V.str)/\H t>>vs/\fA H vs dat.2/\fs.lookup (b_ "wish")=some (.ref w)/\fs.lookup (b_ "cells")=some (.ref c)/\fs.lookup (b_ "rows")=some (.ref t) /\
 fs.lookup (b_ "kept")=none/\fs.lookup (b_ "may_keep")=none/\fs.lookup (b_ "may_break")=none/\fs.lookup (b_ "has_room")=none/\fs.lookup (b_ "rows_in")=none
theorem A1 {dat:jn} (h:OBT mg H p dat) (k:gk H H'):OBT mg H' p dat:=by
 obtain⟨dx,fs,w,c,t,vs,h1,h2,F,B,L,r⟩:=h;exact⟨dx,fs,w,c,t,vs,k.ins _ _ _ _ h1,yU h2 k,k.tup _ _ F,k.tup _ _ B,L.keep k.tup,r⟩
theorem xG {dat:jn} (h:OBT mg H p dat) : ∃dx fs,H p=some (.ins (au mg "Table") dx fs)/\fs.lookup (b_ "kept")=none/\fs.lookup (b_ "may_keep")=none/\fs.lookup (b_ "may_break")=none:=by
 obtain⟨dx,fs,w,c,t,vs,h1,h2,Z,Y,h5,_,_,_,F,L,B,_⟩:=h;exact⟨dx,fs,h1,F,L,B⟩
structure ka (mg:Str->Option Value) (H:Hp) (p r:Addr) (dat:jn) (kvs:List (Key × V)) (rm:Str->List Int):Prop where
 ob:OBT mg H p dat
 rd:H r<*kvs
 rf:bj H kvs (iK dat) rm
 ok:Bn dat
 ne : ∀c∈iK dat,rm c≠[]/\(rm c).length<=10/\(rm c).Pairwise (· < ·)
theorem ka.same {mg:Str->Option Value} {H H':Hp} {p r:Addr} {dat:jn} {kvs:List (Key × V)} {rm:Str->List Int} (h:ka mg H p r dat kvs rm) (s:aA H H'):ka mg H' p r dat kvs rm :=
 ⟨A1 h.ob (aA.keepTI s),s _ _ h.rd,h.rf.same (λa vs e=>s _ _ e),h.ok,h.ne⟩
def fU (mg:Str->Option Value):Sp:=λvs H Q _=>∃(p r:Addr) (dat:jn) (kvs:List (Key × V)) (rm:Str->List Int),vs=[.ref p,.ref r]/\ka mg H p r dat kvs rm/\∀(b:Bool) H',(b=true↔∃g,okF rm (iK dat) g/\jq dat g=true)->aA H H'->Q (.bl b) H'
def fm (mg:Str->Option Value):Sp:=λvs H Q _=>∃(p r:Addr) (dat:jn) (kvs:List (Key × V)) (rm:Str->List Int),vs=[.ref p,.ref r]/\ka mg H p r dat kvs rm/\∀(b:Bool) H',(b=true↔∃g,okF rm (iK dat) g/\jq dat g=false)->aA H H'->Q (.bl b) H'
def rO (mg:Str->Option Value) (C:Str):Sp:=λvs H Q _=>∃(p dx w:Addr) (dat:jn),vs=[.ref p,.ref w]/\H p=some (.ins (au mg C) dx [])/\WST H w dat/\∀H',OBT mg H' p dat->gN p H H'->Q .non H'
theorem vh (l:List Int):l.map (xR ∘ V.int)=l:=(Gb (g:=id) λ_ _=>rfl).trans (map_id l)
def gM (rm:Str->List Int) (cs:List Str) (r:List Int):Bool:=(zipWith (λc v=>decide (v∈rm c)) cs r).all id
theorem ig {rm:Str->List Int} : ∀{cs:List Str} {r:List Int},r.length=cs.length->(gM rm cs r=true↔yA rm cs r)
 | [],[],_=>by simp[gM,yA]
 | [],_ :: _,h=>by simp at h
 | _ :: _,[],h=>by simp at h
 | c :: cs,v :: r,h=>by
  have B:=ig (rm:=rm) (cs:=cs) (r:=r) (by simpa using h)
  have e:gM rm (c :: cs) (v :: r)=(decide (v∈rm c) && gM rm cs r):=by simp[gM]
  rw[e,B_,decide_eq_true_eq,B]
  constructor
  .rintro⟨h1,h2,h3⟩
   refine⟨by simp[h2],λi x u e1 e2=>?_⟩
   cases i with
   | zero=>simp at e1 e2;subst e1;subst e2;exact h1
   | succ i=>exact h3 i x u (by simpa using e1) (by simpa using e2)
  .rintro⟨h2,h3⟩
   exact⟨h3 0 c v rfl rfl,by simpa using h2,λi x u e1 e2=>h3 (i+1) x u (by simpa using e1) (by simpa using e2)⟩
def wr (mg:Str->Option Value):Sp:=λvs H Q _=>∃(p t r:Addr) (dat:jn) (kvs:List (Key × V)) (rm:Str->List Int) (B:List Int),vs=[.ref p,.ref t,.ref r]/\ka mg H p r dat kvs rm/\H t>>(B.map V.int)/\∀H',aA H H'->Q (.bl (gM rm (iK dat) B)) H'
def jD (mg:Str->Option Value):Sp:=λvs H Q _=>∃(p r:Addr) (dat:jn) (kvs:List (Key × V)) (rm:Str->List Int),vs=[.ref p,.ref r]/\ka mg H p r dat kvs rm/\∀(l:Addr) (vs:List V) H',aA H H'->H' l*>vs->vs.length=(dat.2.filter (gM rm dat.1)).length->Q (.ref l) H'
theorem wF {dat:jn} (B:Bn dat):0 < (dat.2.filter (gM rm dat.1)).length↔∃g,okF rm dat.1 g/\jq dat g=true:=by
 constructor
 .intro h
  obtain⟨r,Z⟩:=List.exists_mem_of_length_pos h;obtain⟨h1,h2⟩:=GX.mp Z;obtain⟨g,L,F⟩:=tZ B.2.1 ((ig (B.2.2.2.2.1 r h1)).mp h2);exact⟨g,L,by unfold jq;rw[F];simpa using h1⟩
 .rintro⟨g,L,F⟩
  have Y:dat.1.map g∈dat.2:=by simpa [jq] using F
  exact Hm (GX.mpr ⟨Y,(ig (by simp)).mpr (uQ L)⟩)
theorem uw {dat:jn} (F:Bn dat) (aa : ∀c∈dat.1,(rm c).Nodup):(dat.2.filter (gM rm dat.1)).length < (er rm dat.1).length↔∃g,okF rm dat.1 g/\jq dat g=false:=by
 have ad:(dat.2.filter (gM rm dat.1)).Nodup:=F.2.2.2.1.sublist List.filter_sublist
 have ab : ∀r∈dat.2.filter (gM rm dat.1),r∈er rm dat.1:=λr Y=>by
  obtain⟨h1,h2⟩:=GX.mp Y;exact(jX dat.1).mpr ((ig (F.2.2.2.2.1 r h1)).mp h2)
 constructor
 .intro h
  have : ∃p∈er rm dat.1,p∉dat.2.filter (gM rm dat.1):=by
   refine F7 λac=>?_
   have Z : ∀p∈er rm dat.1,p∈dat.2.filter (gM rm dat.1):=λp hp=>F7 λhn=>ac ⟨p,hp,hn⟩
   have:=fH (sH dat.1 aa) Z
   omega
  obtain⟨p,hp,ae⟩:=this;have B:=(jX dat.1).mp hp;obtain⟨g,g1,g2⟩:=tZ F.2.1 B;refine⟨g,g1,?_⟩
  unfold jq;rw[g2,decide_eq_false_iff_not];exact λhm=>ae (GX.mpr ⟨hm,(ig B.1).mpr B⟩)
 .rintro⟨g,g1,g2⟩
  have hm:dat.1.map g∉dat.2:=by simpa [jq] using g2
  have hp:dat.1.map g∈er rm dat.1:=(jX dat.1).mpr (uQ g1)
  have L:(dat.1.map g :: dat.2.filter (gM rm dat.1)).Nodup:=FG.mpr ⟨λhx=>hm (GX.mp hx).1,ad⟩
  have:=fH L (λr Y=>by
   rcases u_.mp Y with rfl | Y
   .exact hp
   .exact ab r Y)
  simp at this
  omega
theorem ld (T:Txt w K mg) (L:bm K (fE K (au mg "Wish") "__init__") "__init__" "Wish.__init__" bi ["self","wish"]):FnR P w K mg base (fE K (au mg "Wish") "__init__") 1 ["self","wish"] (cq mg "Table"):=by
 ctx_has z cg <;> obtain⟨p,dx,fs,w,rfl,hp,B,k⟩:=h
 .rfl
 refine⟨_,(ay (bF T.cl_Table T.no_Table_wish (pvM 0) (pvM 1) rfl)),?_⟩
 ctx_has v hp
 exact⟨B,k⟩
theorem kN (T:Txt w K mg) (L:bm K (Mk K (au mg "Table")) "__init__" "Table.__init__" cP ["self","wish"]) (B:FnR P w K mg base (fE K (au mg "Wish") "__init__") 1 ["self","wish"] (cq mg "Table")):FnR P w K mg base (Mk K (au mg "Table")) 2 ["self","wish"] (rO mg "Table"):=by
 ctx_has z kP <;> obtain⟨p,dx,w,dat,rfl,hp,hW,k⟩:=h
 .rfl
 refine⟨_,(ak (dz (iJ B (hr.mono (by ctx_has m)) rfl T.at_Wish (af (pvM 0) (af (pvM 1) ap))))
  (ak (bF T.cl_Table T.no_Table_cells (pvM 0) (aK bg (pvM 1) aw) rfl)
  (ay (bF T.cl_Table T.no_Table_rows (pvM 0) (aK bg (pvM 1) aw) rfl)))),?_⟩
 obtain⟨cs,rows⟩:=dat;obtain⟨c,tr,vs,Y,h2,h3,h4⟩:=hW;ctx_has v Y
 have Z:w≠p:=bo Y hp (by intro z;cases z)
 have pt : ∀b xs,H b>>xs->b≠p:=λb xs e=>bo e hp (by intro z;cases z)
 refine⟨p,dx,[],.ref w,rfl,hp,∅,?_⟩
 ctx_has v ah
 refine⟨_,by rw[ao Z];exact Y,?_⟩
 ctx_has v
 refine⟨eh (yz _ "" "" "" _ .non .non .non),_,by rw[ao Z,ao Z];exact Y,?_⟩
 ctx_has v
 have F : ∀b xs o1 o2 o3,H b>>xs->upd (upd (upd H p o1) p o2) p o3 b>>xs:=λb xs o1 o2 o3 e=>by rw[ao (pt b xs e),ao (pt b xs e),ao (pt b xs e)];exact e
 refine⟨eh (yt _ _ "" "" _ _ .non .non),k _ ⟨dx,_,w,c,tr,vs,ah,⟨c,tr,vs,F _ _ _ _ _ Y,F _ _ _ _ _ h2,F _ _ _ _ _ h3,h4.keep λa xs e=>F _ _ _ _ _ e⟩,F _ _ _ _ _ h2,F _ _ _ _ _ h3,h4.keep λa xs e=>F _ _ _ _ _ e,?_⟩ ?_⟩
 .simp only[cy,gy,String.reduceEq,if_true,if_false,true_and,Iu,and_self]
 .intro b o hb e
  rw[ao hb,ao hb,ao hb];exact e
theorem lb (T:Txt w K mg) (L:bm K (aN K (au mg "Table") "has_room") "has_room" "Table.has_room" ci ["self","row","rooms"]):FnR P w K mg base (aN K (au mg "Table") "has_room") 1 ["self","row","rooms"] (wr mg):=by
 ctx_has z ls <;> obtain⟨p,t,r,dat,kvs,rm,ac,rfl,M,ht,k⟩:=h
 .rfl
 refine⟨_,(ay (aI (aM (jA rfl) T.b_all (af (bB (N:=["cell","value","rooms"]) (nt:=2) (js:=[2]) (aP ["self","row","rooms"] (aj ci).names) (AW (K:=K) rfl rfl T.b_zip (af (aR T.cl_Table T.no_Table_cells (pvM 0)) (af (pvM 1) ap))) (jH (n:=2) rfl (dM (aJ 0) (dM (aJ 1) jG))) iz cF (aX gS (pvM 1) (cm hu (pvM 2) (pvM 0)))) ap)))),?_⟩
 obtain⟨dx,fs,w,c,tr,vs,h1,h2,Y,h4,h5,l1,l2,l3,l4⟩:=M.ob;obtain⟨cs,rows⟩:=dat;have B:=M.rf;have F:=M.rd;have Z:=M.ok;simp only[iK,Bn] at Z B Y l2 k;ctx_has v h1 l2 Y ht
 intro q hq;refine qL (λx y=>match x,y with | .str c,.int v=>.bl (decide (v∈rm c)) | _,_=>.non) hq Y ht (by rw[d_];omega) ?_ ?_
 .intro x y H3 Q3 hx hy sm q3
  obtain⟨cx,ad,rfl⟩:=r_.mp hx;obtain⟨y,_,rfl⟩:=r_.mp hy;obtain⟨a1,ab,aa⟩:=B cx ad;have e1:=sm _ _ F;have e2:=sm _ _ aa;ctx_has v e1 ab e2
  refine⟨rfl,cR _,?_⟩
  rw[dN];exact q3 H3 (aA.refl _)
 .intro H3 sm h3'
  ctx_has v
  refine⟨zipWith (λc v=>decide (v∈rm c)) cs ac,?_,k H3 sm⟩
  rw[h3',List.map_zipWith,List.zipWith_map]
theorem mN (T:Txt w K mg) (L:bm K (aN K (au mg "Table") "rows_in") "rows_in" "Table.rows_in" cG ["self","rooms"]) (B:FnR P w K mg base (aN K (au mg "Table") "has_room") 1 ["self","row","rooms"] (wr mg)):FnR P w K mg base (aN K (au mg "Table") "rows_in") 2 ["self","rooms"] (jD mg):=by
 ctx_has z lX <;> obtain⟨p,r,dat,kvs,rm,rfl,M,k⟩:=h
 .rfl
 refine⟨_,(ay (aI (bB (N:=["row","self","rooms"]) (nt:=1) (js:=[0,1]) (aP ["self","rooms"] (aj cG).names) (cK K (aR T.cl_Table T.no_Table_rows (pvM 0))) (aJ 0) aZ (gb (gp (bM T.cl_Table B (hr.mono (by ctx_has m)) (pvM 1) (af (pvM 0) (af (pvM 2) ap))))) (pvM 0)))),?_⟩
 obtain⟨dx,fs,w,c,tr,vs,h1,h2,h3,h4,h5,l1,l2,l3,l4,l5,l6,l7,l8⟩:=M.ob;have Z:=M.ok;ctx_has v h1 l3 h4
 intro q hq;obtain⟨as,rfl,e2,Y⟩:=h5;refine dL ba (λv=>match v with | .ref a=>(match H a with | some (.tup xs)=>gM rm dat.1 (xs.map xR) | _=>false) | _=>false) id hq (λH' s=>.of (s _ _ h4)) (by have:=Z.2.2.2.2.2;rw[e2] at this;simp at this ⊢;omega) ?_ ?_ ?_
 .intro x H4 Q4 F sm q4
  obtain⟨y,hy,rfl⟩:=r_.mp F;have g1:=sm _ _ h1;ctx_has v g1 l7
  refine⟨p,y.1,r,dat,kvs,rm,y.2,rfl,M.same sm,sm _ _ (Y y hy),λH5 s5=>?_⟩
  have:=q4 H5 s5
  simp only[Y y hy,FQ] at this;rw[vh] at this;exact⟨_,rfl,this⟩
 .intro x H4 Q4 F _ sm q4
  ctx_has v
  exact q4 H4 (aA.refl _)
 .intro H4 sm h4'
  refine k q _ H4 sm h4' ?_
  rw[d_,HL,d_,e2,HL,d_]
  congr 1
  refine List.filter_congr λx F=>?_
  simp only[Function.comp_apply,Y x F,FQ];rw[vh]
theorem lg (T:Txt w K mg) (L:bm K (aN K (au mg "Table") "may_keep") "may_keep" "Table.may_keep" cO ["self","rooms"]) (B:FnR P w K mg base (aN K (au mg "Table") "rows_in") 2 ["self","rooms"] (jD mg)):FnR P w K mg base (aN K (au mg "Table") "may_keep") 22 ["self","rooms"] (fU mg):=by
 ctx_has z kK <;> obtain⟨p,r,dat,kvs,rm,rfl,M,k⟩:=h
 .rfl
 refine⟨_,(ay (aI (aX mS (aM ck T.b_len (af (bM T.cl_Table B (hr.mono (by ctx_has m)) (pvM 0) (af (pvM 1) ap)) ap)) aw))),?_⟩
 obtain⟨dx,fs,w,c,tr,vs,h1,h2,h3,Z,h5,l1,l2,l3,l4,l5,l6,l7,Y⟩:=M.ob;ctx_has v h1 Y
 refine⟨p,r,dat,kvs,rm,rfl,M,λl vs H1 F e1 hl=>?_⟩
 ctx_has v e1
 refine k _ H1 ?_ F
 refine Iff.trans ?_ (wF M.ok)
 rw[decide_eq_true_eq,hl];omega
theorem kl (T:Txt w K mg) (L:bm K (aN K (au mg "Table") "may_break") "may_break" "Table.may_break" cC ["self","rooms"]) (B:FnR P w K mg base (aN K (au mg "Table") "rows_in") 2 ["self","rooms"] (jD mg)):FnR P w K mg base (aN K (au mg "Table") "may_break") 22 ["self","rooms"] (fm mg):=by
 ctx_has z kB <;> obtain⟨p,r,dat,kvs,rm,rfl,M,k⟩:=h
 .rfl
 refine⟨_,(ak (aL 2 aw)
  (ak (bD (cK K (aR T.cl_Table T.no_Table_cells (pvM 0))) (aJ 3) (ay (Du 2 (aM jE T.b_len (af (cm hu (pvM 1) (pvM 3)) ap)) Dc)))
  (ay (aI (aX zW (aM ck T.b_len (af (bM T.cl_Table B (hr.mono (by ctx_has m)) (pvM 0) (af (pvM 1) ap)) ap)) (pvM 2)))))),?_⟩
 obtain⟨dx,fs,w,c,tr,vs,h1,h2,h3,h4,h5,l1,l2,l3,l4,l5,l6,l7,l8⟩:=M.ob;have am:=M.ok;have F:=M.ne;have aa:=M.rf;have ad:=M.rd;simp only[iK] at F aa;ctx_has v h1 l2 h3
 refine cL ba (λi σ H2=>∃(v3:Option V),σ=[-p,-r,some (.int ((er rm (dat.1.take i)).length:Int)),v3]/\H2=H) ⟨_,by rfl,rfl⟩ (λi σ H2 Z=>by obtain⟨_,_,e⟩:=Z;exact(by rw[e];exact .of h3)) ?_ ?_
 .rintro i x σ H2 hi hx ⟨v3,rfl,rfl⟩
  obtain⟨Y,ab,rfl⟩ : ∃Y,dat.1[i]? = some Y/\V.str Y=x:=by
   rw[f_] at hx;cases e:dat.1[i]? with
   | none=>rw[e] at hx;cases hx
   | some nm=>rw[e] at hx;exact⟨nm,rfl,h_ hx⟩
  have ac:Y∈dat.1:=m_ ab
  obtain⟨a1,ag,ae⟩:=aa Y ac;have ai:dat.1.take (i+1)=dat.1.take i++[Y]:=by rw[za,ab];rfl
  ctx_has v ad ag ae
  have aj:=(F Y ac).2.1;refine⟨.inr ⟨by rw[d_];omega,by rw[d_];omega⟩,?_⟩
  rw[ai,kH,kH,Gz,foldl_append,d_];simp
 .rintro σ H2 ⟨v3,rfl,rfl⟩
  rw[d_,FV];ctx_has v h1 l8
  refine⟨p,r,dat,kvs,rm,rfl,M,λl vs H1 s1 e1 hl=>?_⟩
  ctx_has v e1
  refine k _ H1 ?_ s1
  refine Iff.trans ?_ (uw M.ok λc hc=>(F c hc).2.2.imp λh=>by omega)
  rw[decide_eq_true_eq,hl];omega
abbrev lv:=List Str × List (Int × Int × Int) × List Int
def gX (dat:lv):List Str:=dat.1
def C7 (dat:lv):Prop:=dat.1≠[]/\dat.1.Nodup/\dat.1.length<=12/\(dat.2.1.map λx=>(x.1,x.2.1)).Nodup/\dat.2.1.length<=60/\dat.2.2.length<=60
def rN (dat:lv) (g:Str->Int):Bool:=sy dat.2.2 (gz dat.2.1 (some 0) (dat.1.map g))
def WSW (H:Hp) (w:Addr) (dat:lv):Prop:=∃c t e vs,H w>>[.str "way",.ref c,.ref t,.ref e]/\H c>>(dat.1.map V.str)/\H t>>vs/\kT H vs dat.2.1/\H e>>(dat.2.2.map V.int)
theorem AT {w:Addr} {dat:lv} (h:WSW H w dat) (k:gk H H'):WSW H' w dat:=by
 obtain⟨c,t,e,vs,h1,h2,F,B,L⟩:=h;exact⟨c,t,e,vs,k.tup _ _ h1,k.tup _ _ h2,k.tup _ _ F,B.keep k.tup,k.tup _ _ L⟩
def OBW (mg:Str->Option Value) (H:Hp) (p:Addr) (dat:lv):Prop:=∃dx fs w c e l,H p=some (.ins (au mg "Way") dx fs)/\WSW H w dat/\H c>>(dat.1.map V.str)/\H e>>(dat.2.2.map V.int)/\H l=some (.dT (dC dat.2.1))/\fs.lookup (b_ "wish")=some (.ref w)/\fs.lookup (b_ "cells")=some (.ref c)/\fs.lookup (b_ "ends")=some (.ref e)/\fs.lookup (b_ "leads")=some (.ref l) /\
 fs.lookup (b_ "kept")=none/\fs.lookup (b_ "may_keep")=none/\fs.lookup (b_ "may_break")=none/\fs.lookup (b_ "states_behind")=none/\fs.lookup (b_ "last_states")=none
theorem zT {dat:lv} (h:OBW mg H p dat) (k:gk H H'):OBW mg H' p dat:=by
 obtain⟨dx,fs,w,c,e,l,h1,h2,F,B,L,r⟩:=h;exact⟨dx,fs,w,c,e,l,k.ins _ _ _ _ h1,AT h2 k,k.tup _ _ F,k.tup _ _ B,k.dt _ _ L,r⟩
theorem xc {dat:lv} (h:OBW mg H p dat) : ∃dx fs,H p=some (.ins (au mg "Way") dx fs)/\fs.lookup (b_ "kept")=none/\fs.lookup (b_ "may_keep")=none/\fs.lookup (b_ "may_break")=none:=by
 obtain⟨dx,fs,w,c,e,l,h1,h2,Z,Y,h5,_,_,_,_,F,L,B,_⟩:=h;exact⟨dx,fs,h1,F,L,B⟩
structure vR (mg:Str->Option Value) (H:Hp) (p r:Addr) (dat:lv) (kvs:List (Key × V)) (rm:Str->List Int):Prop where
 ob:OBW mg H p dat
 rd:H r<*kvs
 rf:bj H kvs (gX dat) rm
 ok:C7 dat
 ne : ∀c∈gX dat,rm c≠[]/\(rm c).length<=10/\(rm c).Pairwise (· < ·)
def ga (mg:Str->Option Value):Sp:=λvs H Q _=>∃(p r:Addr) (dat:lv) (kvs:List (Key × V)) (rm:Str->List Int),vs=[.ref p,.ref r]/\vR mg H p r dat kvs rm/\∀(b:Bool) H',(b=true↔∃g,okF rm (gX dat) g/\rN dat g=true)->aA H H'->Q (.bl b) H'
def fe (mg:Str->Option Value):Sp:=λvs H Q _=>∃(p r:Addr) (dat:lv) (kvs:List (Key × V)) (rm:Str->List Int),vs=[.ref p,.ref r]/\vR mg H p r dat kvs rm/\∀(b:Bool) H',(b=true↔∃g,okF rm (gX dat) g/\rN dat g=false)->aA H H'->Q (.bl b) H'
def oF (mg:Str->Option Value) (C:Str):Sp:=λvs H Q _=>∃(p dx w:Addr) (dat:lv),vs=[.ref p,.ref w]/\H p=some (.ins (au mg C) dx [])/\WSW H w dat/\C7 dat/\∀H',OBW mg H' p dat->gN p H H'->Q .non H'
theorem ke (ps:List (Int × Int × Int)) (st:Option Int) (v:Int):jv ps st v∈none :: ps.map λx=>some x.2.2:=by
 cases st with
 | none=>exact FT
 | some s =>
  show(ps.find? λx=>decide (x.1=s/\x.2.1=v)).map (λx=>x.2.2)∈none :: ps.map λx=>some x.2.2
  cases e:ps.find? λx=>decide (x.1=s/\x.2.1=v) with
  | none=>exact FT
  | some x=>exact zc _ (r_.mpr ⟨x,List.mem_of_find?_eq_some e,rfl⟩)
theorem vc {k:Option Int} (h:ks.Nodup):(qv ks k).Nodup:=by
 unfold qv
 split
 .exact h
 .rename_i hk
  rw[Gr];exact⟨h,by simp,λa ha b B=>by rw[g_.mp B];rintro rfl;exact hk ha⟩
theorem xO {k x:Option Int}:x∈qv ks k↔x∈ks\/x=k:=by
 unfold qv
 split
 .rename_i hk
  exact⟨.inl,λh=>h.elim id λe=>e ▸ hk⟩
 .rw[y8,g_]
def vB (P:Program) (w:World) (mg:Str->Option Value):Sp:=λvs H Q _=>∃(p d r:Addr) (dat:lv) (o:Obj) (ks:List (Option Int)) (L:List Int),vs=[.ref p,.ref d,.ref r]/\OBW mg H p dat/\C7 dat/\H d=some (fI P w d o ks)/\H r>>(L.map V.int) /\
 ∀(q:Addr) (o':Obj) (B:List (Option Int)) H',aA H H'->H' q=some (fI P w q o' B)->B.length<=100->(∀F,F∈B↔∃k∈ks,∃v∈L,jv dat.2.1 k v=F)->Q (.ref q) H'
def og (P:Program) (w:World) (mg:Str->Option Value):Sp:=λvs H Q _=>∃(p r:Addr) (dat:lv) (kvs:List (Key × V)) (rm:Str->List Int),vs=[.ref p,.ref r]/\vR mg H p r dat kvs rm /\
 ∀(q:Addr) (o:Obj) (ks:List (Option Int)) H',aA H H'->H' q=some (fI P w q o ks)->ks.length<=100->(∀B,B∈ks↔∃g,okF rm (gX dat) g/\gz dat.2.1 (some 0) ((gX dat).map g)=B)->Q (.ref q) H'
theorem yx {ps:List (Int × Int × Int)} (hn:cs.Nodup) (hc:cs[i]? = some c) {ks F:List (Option Int)} (h : ∀B,B∈ks↔∃g,okF rm cs g/\gz ps (some 0) ((cs.map g).take i)=B) (h' : ∀B,B∈F↔∃k∈ks,∃v∈rm c,jv ps k v=B) :
  ∀B,B∈F↔∃g,okF rm cs g/\gz ps (some 0) ((cs.map g).take (i+1))=B:=λB=>by
 have aa:c∈cs:=m_ hc
 have et : ∀g:Str->Int,(cs.map g).take (i+1)=(cs.map g).take i++[g c]:=λg=>by rw[za,f_,hc];rfl
 have Y:c∉cs.take i:=λhm=>by
  have e2:cs.take (i+1)=cs.take i++[c]:=by rw[za,hc];rfl
  have hd:(cs.take i++[c]).Nodup:=by rw[<- e2];exact hn.sublist (If _ _)
  rw[Gr] at hd;exact hd.2.2 _ hm _ (by simp) rfl
 rw[h']
 constructor
 .rintro⟨k,hk,v,hv,rfl⟩
  obtain⟨g,L,rfl⟩:=(h k).mp hk;refine⟨λx=>if x=c then v else g x,λx Z=>?_,?_⟩
  .by_cases e:x=c
   .subst e;simpa using hv
   .simpa [e] using L x Z
  .rw[et,kL]
   have e1:(cs.map λx=>if x=c then v else g x).take i=(cs.map g).take i:=by
    rw[<- map_take,<- map_take]
    apply Gb
    intro x Z;have:x≠c:=λe=>Y (e ▸ Z)
    simp[this]
   rw[e1];simp[gz]
 .rintro⟨g,L,rfl⟩
  refine⟨_,(h _).mpr ⟨g,L,rfl⟩,g c,L c aa,?_⟩
  rw[et,kL];rfl
theorem yV (es:List Int) (k:Option Int):inV (oV k) (es.map V.int)=sy es k:=by
 cases k with
 | some s=>exact dN s es
 | none =>
  show inV .non (es.map V.int)=false
  induction es with
  | nil=>rfl
  | cons a es B=>rw[y3];unfold inV at B ⊢;rw[any_cons,B];rfl
theorem kR (T:Txt w K mg) (L:bm K (fE K (au mg "Wish") "__init__") "__init__" "Wish.__init__" bi ["self","wish"]):FnR P w K mg base (fE K (au mg "Wish") "__init__") 1 ["self","wish"] (cq mg "Way"):=by
 ctx_has z cg <;> obtain⟨p,dx,fs,w,rfl,hp,B,k⟩:=h
 .rfl
 refine⟨_,(ay (bF T.cl_Way T.no_Way_wish (pvM 0) (pvM 1) rfl)),?_⟩
 ctx_has v hp
 exact⟨B,k⟩
theorem nN (T:Txt w K mg) (L:bm K (Mk K (au mg "Way")) "__init__" "Way.__init__" dG ["self","wish"]) (F:FnR P w K mg base (fE K (au mg "Wish") "__init__") 1 ["self","wish"] (cq mg "Way")):FnR P w K mg base (Mk K (au mg "Way")) 2 ["self","wish"] (oF mg "Way"):=by
 ctx_has z nF <;> obtain⟨p,dx,w,dat,rfl,hp,hW,ab,k⟩:=h
 .rfl
 refine⟨_,(ak (dz (iJ F (hr.mono (by ctx_has m)) rfl T.at_Wish (af (pvM 0) (af (pvM 1) ap))))
  (ak (bF T.cl_Way T.no_Way_cells (pvM 0) (aK bg (pvM 1) aw) rfl)
  (ak (bF T.cl_Way T.no_Way_ends (pvM 0) (aK bg (pvM 1) aw) rfl)
  (ak (bF T.cl_Way T.no_Way_leads (pvM 0) uS rfl)
  (ay (bD (cK K (aK bg (pvM 1) aw)) (aJ 2) (ay (xA hu (aR T.cl_Way T.no_Way_leads (pvM 0)) (cJ mQ (pvM 2) dJ (dr aw)) (aK bg (pvM 2) aw) rfl)))))))),?_⟩
 obtain⟨cs,ps,es⟩:=dat;obtain⟨c,t,e,vs,hw,h2,Z,h4,h5⟩:=hW;obtain⟨as,rfl,rfl,ad⟩:=h4;have ae:=ab.2.2.2.1;have ag:=ab.2.2.2.2.1;have pt : ∀b xs,H b>>xs->b≠p:=λb xs e=>bo e hp (by intro z;cases z)
 have pw:=pt _ _ hw;ctx_has v hw
 refine⟨p,dx,[],.ref w,rfl,hp,∅,?_⟩
 ctx_has v ah
 refine⟨_,by rw[ao pw];exact hw,?_⟩
 ctx_has v
 refine⟨eh (yz _ "" "" "" _ .non .non .non),_,by rw[ao pw,ao pw];exact hw,?_⟩
 ctx_has v wp
 refine⟨eh (yt _ _ "" "" _ _ .non .non),λl hl=>?_⟩
 simp only[kY] at hl ⊢;have lp:l≠p:=λz=>by rw[z,ah] at hl;cases hl
 have Y:H l=none:=by rw[ao lp] at hl;exact hl
 refine⟨dx,_,by rw[ao (Gp lp)];exact ah,eh (BC _ _ _ "" _ _ _ .non),_,by rw[ao pw,ao (az hw Y),ao pw];exact hw,_,rfl,t,rfl,_,by rw[ao (pt _ _ Z),ao (az Z Y),ao (pt _ _ Z)];exact Z,?_⟩
 have lk:(cW "leads" (.ref l) (cW "ends" (.ref e) (cW "cells" (.ref c) (cW "wish" (.ref w) [])))).lookup (b_ "leads")=some (.ref l):=by simp only[cy,if_true]
 have B5 : ∀o1 o2,gN p H (upd (upd (upd H p o1) l (.dT [])) p o2):=λo1 o2 b o hb e=>by rw[ao hb,ao (az e Y),ao hb];exact e
 refine cL ba (λi σ H'=>∃v2,σ=[-p,-w,v2]/\gN p H H'/\H' p=some (.ins (au mg "Way") dx (cW "leads" (.ref l) (cW "ends" (.ref e) (cW "cells" (.ref c) (cW "wish" (.ref w) [])))))/\H' l=some (.dT (dC ((as.map (·.2)).take i)))) ⟨_,rfl,B5 _ _,ah,by rw[ao lp];exact ah⟩ (λi σ H' aa=>by obtain⟨_,_,B,_⟩:=aa;exact(.of (B _ _ (pt _ _ Z) Z))) ?_ ?_
 .rintro i x σ H' hi hx ⟨v2,rfl,B,hpp,hd⟩
  obtain⟨y,hy,rfl⟩ : ∃y,as[i]? = some y/\V.ref y.1=x:=by
   rw[f_] at hx;cases e:as[i]? with
   | none=>rw[e] at hx;cases hx
   | some nm=>rw[e] at hx;exact⟨nm,rfl,h_ hx⟩
  have ac:=ad y (m_ hy);have ai:=B _ _ (pt _ _ ac) ac;ctx_has v wU ai hpp lk
  intro q H2 hq s2;have aj:(as.map (·.2))[i]? = some y.2:=by rw[f_,hy];rfl
  refine⟨_,ww.t (k:=[o_ y.2.1,o_ y.2.2.1]) (s2 _ _ hd) hq ?_,λb o hb e=>?_,by rw[ao (Gp lp)];exact s2 _ _ hpp,by rw[ah,oK ae aj]⟩
  .unfold dC
   rw[d_];exact Gc (IH _ _) (n_ (show(as.map (·.2)).length < 1000 by have:(as.map (·.2)).length<=60:=ag;omega) ∅)
  .rw[ao (az e Y)]
   exact s2 _ _ (B b o hb e)
 .rintro σ H' ⟨v2,rfl,B,hpp,hd⟩
  rw[d_,show(as.map (·.2)).take as.length=as.map (·.2) from FX (by simp)] at hd
  have kt : ∀b xs,H b>>xs->H' b>>xs:=λb xs e=>B _ _ (pt _ _ e) e
  ctx_has v
  refine k _ ⟨dx,_,w,c,e,l,hpp,⟨c,t,e,_,kt _ _ hw,kt _ _ h2,kt _ _ Z,⟨as,rfl,rfl,λx hx=>kt _ _ (ad x hx)⟩,kt _ _ h5⟩,kt _ _ h2,kt _ _ h5,hd,?_⟩ B
  simp only[cy,gy,String.reduceEq,if_true,if_false,true_and,Iu,and_self]
theorem iS (T : Txt w K mg) (L:bm K (aN K (au mg "Way") "states_behind") "states_behind" "Way.states_behind" bT ["self","states","room"]):FnR P w K mg base (aN K (au mg "Way") "states_behind") 1 ["self","states","room"] (vB P w mg):=by
  ctx_has z jg <;> obtain⟨p,d,r,dat,o,ks,rs,rfl,hO,ax,hd,aj,k⟩:=h
  . rfl
  refine⟨_,(ak (aL 3 (xq (P:=P) (w:=w) rfl rfl gh))
    (ak (bD (zB (P:=P) (w:=w) rfl rfl (pvM 1)) (aJ 4) (ay (bD (cK K (pvM 2)) (aJ 5) (ay (yK (P:=P) (w:=w) rfl rfl hu (pvM 3) (yZ hu (aR T.cl_Way T.no_Way_leads (pvM 0)) (cX (af (pvM 4) (af (pvM 5) ap))) ⟨rfl,rfl,rfl,rfl⟩) dU rfl)))))
    (ay (aI (pvM 3))))),?_⟩
  obtain⟨cs,ps,es⟩:=dat;obtain⟨dx,fs,wa,c,e,l,h1,h2,h3,h4,h5,l1,l2,l3,l4,l5⟩:=hO;have a1:ps.length<=60:=ax.2.2.2.2.1
  ctx_has v BE sZ
  intro q hq;refine⟨[],ah,∅,λo1=>?_⟩
  rw[kY];ctx_has v iN
  refine⟨o,ks,(aA.upd0 hq) _ _ hd,?_⟩
  refine cL yY (λi σ H'=>∃o' Z v4 v5,σ=[-p,-d,-r,-q,v4,v5]/\aA H H'/\H' q=some (fI P w q o' Z)/\Z.Nodup/\(∀k',k'∈Z↔∃k∈ks.take i,∃v∈rs,jv ps k v=k')) ⟨_,[],_,_,rfl,aA.upd0 hq,ah,by simp,by simp⟩ (λi σ H' aq=>by obtain⟨_,_,_,_,_,sm,_⟩:=aq;exact(sm _ _ hd)) ?_ ?_
  . rintro i x σ H' hi hx ⟨o',Z,v4,v5,rfl,sm,ae,ad,B⟩
    obtain⟨kk,ar,rfl⟩ : ∃y,ks[i]? = some y/\oV y=x:=by
      rw[f_] at hx;cases e:ks[i]? with
      | none=>rw[e] at hx;cases hx
      | some nm=>rw[e] at hx;exact⟨nm,rfl,h_ hx⟩
    have aw:=sm _ _ aj;ctx_has v aw
    refine cL ba (λj σ H3=>∃o2 F v5,σ=[-p,-d,-r,-q,some (oV kk),v5]/\aA H H3/\H3 q=some (fI P w q o2 F)/\F.Nodup/\(∀k',k'∈F↔(∃k∈ks.take i,∃v∈rs,jv ps k v=k')\/∃v∈rs.take j,jv ps kk v=k')) ⟨_,_,_,rfl,sm,ae,ad,λk'=>by rw[B];simp⟩ (λi σ H' an=>by obtain⟨_,_,_,_,s3,_⟩:=an;exact(.of (s3 _ _ aj))) ?_ ?_
    . rintro j x σ H3 hj hx ⟨o2,F,v5,rfl,s3,ac,aa,ab⟩
      obtain⟨v,hv,rfl⟩ : ∃v,rs[j]? = some v/\V.int v=x:=by
        rw[f_] at hx;cases e:rs[j]? with
        | none=>rw[e] at hx;cases hx
        | some nm=>rw[e] at hx;exact⟨nm,rfl,h_ hx⟩
      have a0:=s3 _ _ h1;have am:=s3 _ _ h5;have ag:F.length < 1000:=by
        have:=fH (ys:=none :: ps.map λx=>some x.2.2) aa λk' ai=>by
          rcases (ab k').mp ai with⟨k0,_,v0,_,rfl⟩ | ⟨v0,_,rfl⟩
          . exact ke _ _ _
          . exact ke _ _ _
        simp at this
        omega
      ctx_has v AS As a0 l4
      refine⟨ps,am,∅,λtp g1=>⟨(aA.upd0 g1) _ _ am,kk,v,ah,_,rfl,o2,F,(aA.upd0 g1) _ _ ac,ag,λo'=>⟨λb o e=>?_,o',_,ah,vc aa,λk'=>?_⟩⟩⟩
      . rw[ao (az e hq)]
        exact(aA.upd0 g1) _ _ (s3 b o e)
      . rw[xO,ab,za,hv]
        constructor
        . rintro((z | ⟨v0,Y,z⟩) | rfl)
          . exact .inl z
          . exact .inr ⟨v0,A_ _ Y,z⟩
          . exact .inr ⟨v,Ga _ (by simp),rfl⟩
        . rintro(z | ⟨v0,Y,z⟩)
          . exact .inl (.inl z)
          . rcases y8.mp Y with Y | Y
            . exact .inl (.inr ⟨v0,Y,z⟩)
            . have e0:v0=v:=by simpa using Y
              subst e0;exact .inr z.symm
    . rintro σ H3 ⟨o2,F,v5,rfl,s3,ac,aa,ab⟩
      rw[d_,FV] at ab;refine⟨o2,F,_,_,rfl,s3,ac,aa,λk'=>?_⟩
      rw[ab,za,ar]
      constructor
      . rintro(⟨k0,Y,z⟩ | z)
        . exact⟨k0,A_ _ Y,z⟩
        . exact⟨kk,Ga _ (by simp),z⟩
      . rintro⟨k0,Y,z⟩
        rcases y8.mp Y with Y | Y
        . exact .inl ⟨k0,Y,z⟩
        . have e0:k0=kk:=by simpa using Y
          subst e0;exact .inr z
  . rintro σ H' ⟨o',Z,v4,v5,rfl,sm,ae,ad,B⟩
    ctx_has v
    rw[d_,FV] at B;have ag:Z.length<=100:=by
      have:=fH (ys:=none :: ps.map λx=>some x.2.2) ad λk' ai=>by
        obtain⟨k0,_,v0,_,rfl⟩:=(B k').mp ai;exact ke _ _ _
      simp at this
      omega
    exact k q o' Z H' sm ae ag B
theorem kA (T:Txt w K mg) (L:bm K (aN K (au mg "Way") "last_states") "last_states" "Way.last_states" cD ["self","rooms"]) (B:FnR P w K mg base (aN K (au mg "Way") "states_behind") 1 ["self","states","room"] (vB P w mg)):FnR P w K mg base (aN K (au mg "Way") "last_states") 2 ["self","rooms"] (og P w mg):=by
 ctx_has z kb <;> obtain⟨p,r,dat,kvs,rm,rfl,M,k⟩:=h
 .rfl
 refine⟨_,(ak (aL 2 (xq (P:=P) (w:=w) rfl rfl (sI (il aw dU rH) rfl rfl (by nofun) ∅)))
  (ak (bD (cK K (aR T.cl_Way T.no_Way_cells (pvM 0))) (aJ 3) (ay (aL 2 (bM T.cl_Way B (hr.mono (by ctx_has m)) (pvM 0) (af (pvM 2) (af (cm hu (pvM 1) (pvM 3)) ap))))))
  (ay (aI (pvM 2))))),?_⟩
 obtain⟨dx,fs,wa,c,e,l,h1,h2,h3,h4,h5,l1,l2,l3,l4,l5,l6,l7,l8,l9⟩:=id M.ob;have F:=M.ok;have ab:=F.2.1;obtain⟨cs,ps,es⟩:=dat;ctx_has v BE
 intro q hq;have em:iW ([]:List (Key × V)) [(o_ 0,.bl true)]=[(o_ 0,.bl true)]:=gj _ gg
 refine⟨ah,[(o_ 0,.bl true)],rfl,∅,[0],by rw[ah,em];rfl,∅,λo=>?_⟩
 simp only[kY];refine⟨dx,fs,(aA.upd0 hq) _ _ h1,_,l2,c,rfl,_,(aA.upd0 hq) _ _ h3,?_⟩
 refine cL ba (λi σ H'=>∃q o ks v3,σ=[-p,-r,-q,v3]/\aA H H'/\H' q=some (fI P w q o ks)/\ks.length<=100/\(∀k',k'∈ks↔∃g,okF rm cs g/\gz ps (some 0) ((cs.map g).take i)=k')) ⟨q,o,[some 0],_,rfl,aA.upd0 hq,ah,∅,λk'=>?_⟩ (λi σ H' Y=>by obtain⟨_,_,_,_,_,s3,_⟩:=Y;exact(.of (s3 _ _ h3))) ?_ ?_
 .constructor
  .intro z
   refine⟨λc=>(rm c).headD 0,λc hc=>?_,(g_.mp z).symm⟩
   have:=(M.ne c hc).1
   show(rm c).headD 0∈rm c
   cases e:rm c with
   | nil=>exact absurd e this
   | cons a b=>simp
  .rintro⟨g,_,rfl⟩
   exact g_.mpr rfl
 .rintro i x σ H' hi hx ⟨q1,o1,ks,v3,rfl,sm,hq1,hkl,hmem⟩
  obtain⟨cc,Z,rfl⟩ : ∃y,cs[i]? = some y/\V.str y=x:=by
   rw[f_] at hx;cases e:cs[i]? with
   | none=>rw[e] at hx;cases hx
   | some nm=>rw[e] at hx;exact⟨nm,rfl,h_ hx⟩
  have ai:=sm _ _ h1;have aa:=sm _ _ M.rd;obtain⟨ad,hv,ag⟩:=M.rf cc (m_ Z);ctx_has v ai aa
  exact⟨l8,_,hv,p,q1,ad,(cs,ps,es),o1,ks,rm cc,rfl,zT M.ob (aA.keepTI sm),F,hq1,sm _ _ ag,λq2 o2 am H2 s2 ac ae aj=>⟨q2,rfl,sm.trans s2,o2,am,ac,ae,yx ab Z hmem aj⟩⟩
 .rintro σ H' ⟨q1,o1,ks,v3,rfl,sm,hq1,hkl,hmem⟩
  ctx_has v
  rw[d_] at hmem;refine k q1 o1 ks H' sm hq1 hkl λk'=>?_
  rw[hmem]
  constructor
  .rintro⟨g,hg,z⟩
   exact⟨g,hg,by rw[FX (by simp)] at z;exact z⟩
  .rintro⟨g,hg,z⟩
   exact⟨g,hg,by rw[FX (by simp)];exact z⟩
theorem nG (T:Txt w K mg) (L:bm K (aN K (au mg "Way") "may_keep") "may_keep" "Way.may_keep" cY ["self","rooms"]) (B:FnR P w K mg base (aN K (au mg "Way") "last_states") 2 ["self","rooms"] (og P w mg)):FnR P w K mg base (aN K (au mg "Way") "may_keep") 22 ["self","rooms"] (ga mg):=by
 ctx_has z nO <;> obtain⟨p,r,dat,kvs,rm,rfl,M,k⟩:=h
 .rfl
 refine⟨_,(ay (aI (aM (gF rfl) T.b_any (af (bB (N:=["state","self"]) (nt:=1) (js:=[0]) (aP ["self","rooms"] (aj cY).names) (zB (P:=P) (w:=w) rfl rfl (bM T.cl_Way B (hr.mono (by ctx_has m)) (pvM 0) (af (pvM 1) ap))) (aJ 0) aZ cF (aX gS (pvM 0) (aR T.cl_Way T.no_Way_ends (pvM 1)))) ap)))),?_⟩
 obtain⟨dx,fs,wa,c,e,l,h1,h2,h3,h4,h5,l1,l2,l3,l4,l5,l6,l7,l8,l9⟩:=id M.ob;obtain⟨cs,ps,es⟩:=dat;ctx_has v h1 iN
 refine⟨l9,p,r,(cs,ps,es),kvs,rm,rfl,M,λq o ks H1 Y hq hl hm=>⟨q,rfl,o,ks,hq,λD hD=>?_⟩⟩
 refine cQ yY (λv=>.bl (inV v (es.map V.int))) hD (λH' s'=>s' _ _ hq) (by rw[d_];omega) ?_ ?_
 .intro x H2 Q2 hx s2 q2
  obtain⟨kk,_,rfl⟩:=r_.mp hx;have aa:=s2 _ _ (Y _ _ h1);have ab:=s2 _ _ (Y _ _ h4);ctx_has v aa l3
  exact⟨_,ab,by cases kk <;> rfl,cR es,q2 H2 (aA.refl _)⟩
 .intro H2 s2 hd2
  refine⟨D,rfl,ks.map (λk=>sy es k),?_,k _ H2 ?_ (Y.trans s2)⟩
  .rw[hd2,FQ,FQ]
   refine congrArg (λz=>some (HO.lst z)) (Gb λF _=>?_)
   show V.bl (inV (oV F) (es.map V.int))=V.bl (sy es F)
   rw[yV]
  .rw[GK]
   constructor
   .rintro⟨b,hb,e⟩
    obtain⟨F,Z,rfl⟩:=r_.mp hb;obtain⟨g,hg,rfl⟩:=(hm F).mp Z;exact⟨g,hg,e⟩
   .rintro⟨g,hg,e⟩
    exact⟨_,r_.mpr ⟨_,(hm _).mpr ⟨g,hg,rfl⟩,rfl⟩,e⟩
theorem mM (T:Txt w K mg) (L:bm K (aN K (au mg "Way") "may_break") "may_break" "Way.may_break" cH ["self","rooms"]) (B:FnR P w K mg base (aN K (au mg "Way") "last_states") 2 ["self","rooms"] (og P w mg)):FnR P w K mg base (aN K (au mg "Way") "may_break") 22 ["self","rooms"] (fe mg):=by
 ctx_has z mi <;> obtain⟨p,r,dat,kvs,rm,rfl,M,k⟩:=h
 .rfl
 refine⟨_,(ay (aI (aM (gF rfl) T.b_any (af (bB (N:=["state","self"]) (nt:=1) (js:=[0]) (aP ["self","rooms"] (aj cH).names) (zB (P:=P) (w:=w) rfl rfl (bM T.cl_Way B (hr.mono (by ctx_has m)) (pvM 0) (af (pvM 1) ap))) (aJ 0) aZ cF (aX qA (pvM 0) (aR T.cl_Way T.no_Way_ends (pvM 1)))) ap)))),?_⟩
 obtain⟨dx,fs,wa,c,e,l,h1,h2,h3,h4,h5,l1,l2,l3,l4,l5,l6,l7,l8,l9⟩:=id M.ob;obtain⟨cs,ps,es⟩:=dat;ctx_has v h1 iN
 refine⟨l9,p,r,(cs,ps,es),kvs,rm,rfl,M,λq o ks H1 Y hq hl hm=>⟨q,rfl,o,ks,hq,λD hD=>?_⟩⟩
 refine cQ yY (λv=>.bl (!inV v (es.map V.int))) hD (λH' s'=>s' _ _ hq) (by rw[d_];omega) ?_ ?_
 .intro x H2 Q2 hx s2 q2
  obtain⟨kk,_,rfl⟩:=r_.mp hx;have aa:=s2 _ _ (Y _ _ h1);have ab:=s2 _ _ (Y _ _ h4);ctx_has v aa l3
  exact⟨_,ab,by cases kk <;> rfl,cR es,q2 H2 (aA.refl _)⟩
 .intro H2 s2 hd2
  refine⟨D,rfl,ks.map (λk=>!sy es k),?_,k _ H2 ?_ (Y.trans s2)⟩
  .rw[hd2,FQ,FQ]
   refine congrArg (λz=>some (HO.lst z)) (Gb λF _=>?_)
   show V.bl (!inV (oV F) (es.map V.int))=V.bl (!sy es F)
   rw[yV]
  .rw[GK]
   constructor
   .rintro⟨b,hb,e⟩
    obtain⟨F,Z,rfl⟩:=r_.mp hb;obtain⟨g,hg,rfl⟩:=(hm F).mp Z;exact⟨g,hg,(by simpa [rN,gX] using e)⟩
   .rintro⟨g,hg,e⟩
    exact⟨_,r_.mpr ⟨_,(hm _).mpr ⟨g,hg,rfl⟩,rfl⟩,(by simpa [rN,gX] using e)⟩
abbrev mr:=List (Int × Str) × Option Int × Option Int
def WSS (H:Hp) (w:Addr) (dat:mr) (cs:List Str):Prop:=∃t,H w>>[.str "sum",.ref t,bV dat.2.1,bV dat.2.2]/\gV H t dat.1
def Dp (dat:mr) (cs:List Str):Prop:=dat.1.map (·.2)=cs/\cs≠[]/\∀x∈dat.1,-1000000<=x.1/\x.1<=1000000
def OBS (mg:Str->Option Value) (H:Hp) (t:Addr) (dat:mr) (cs:List Str):Prop:=∃dx fs te,H t=some (.ins (au mg "Sum") dx fs)/\gV H te dat.1/\fs.lookup (b_ "terms")=some (.ref te)/\fs.lookup (b_ "low")=some (bV dat.2.1)/\fs.lookup (b_ "high")=some (bV dat.2.2) /\
 fs.lookup (b_ "may_keep")=none/\fs.lookup (b_ "may_break")=none/\fs.lookup (b_ "may_end_well")=none/\fs.lookup (b_ "sums_with")=none/\fs.lookup (b_ "sums_kept")=none
theorem wW {t:Addr} {dat:mr} (h:OBS mg H t dat cs) : ∃dx fs,H t=some (.ins (au mg "Sum") dx fs)/\fs.lookup (b_ "may_keep")=none/\fs.lookup (b_ "may_break")=none:=by
 obtain⟨dx,fs,te,h1,h2,Y,L,Z,B,F,_⟩:=h;exact⟨dx,fs,h1,B,F⟩
theorem uC {t:Addr} {dat:mr} (h:OBS mg H t dat cs) (k:gk H H'):OBS mg H' t dat cs:=by
 obtain⟨dx,fs,te,h1,h2,B⟩:=h;exact⟨dx,fs,te,k.ins _ _ _ _ h1,h2.keep k.tup,B⟩
def fS (ts:List (Int × Str)) (g:Str->Int):Int:=(ts.map λx=>x.1 * g x.2).sum
def sF (dat:mr) (cs:List Str) (g:Str->Int):Bool:=eU (fS dat.1 g) dat.2.1 dat.2.2
def tI (mg:Str->Option Value):Sp:=λvs H Q _=>∃(p dx w:Addr) (dat:mr) (cs:List Str),vs=[.ref p,.ref w]/\H p=some (.ins (au mg "Sum") dx [])/\WSS H w dat cs/\∀H',OBS mg H' p dat cs->gN p H H'->Q .non H'
structure wE (mg:Str->Option Value) (H:Hp) (p r:Addr) (dat:mr) (cs:List Str) (kvs:List (Key × V)) (rm:Str->List Int):Prop where
 ob:OBS mg H p dat cs
 rd:H r<*kvs
 rf:bj H kvs cs rm
 ok:Dp dat cs
 nd:cs.Nodup
 cl:cs.length<=5
 gd : ∀c∈cs,1<=(rm c).length/\(rm c).length<=4/\(rm c).Nodup
def fW (mg:Str->Option Value):Sp:=λvs H Q _=>∃(p r:Addr) (dat:mr) (cs:List Str) (kvs:List (Key × V)) (rm:Str->List Int),vs=[.ref p,.ref r]/\wE mg H p r dat cs kvs rm/\∀(b:Bool) H',(b=true↔∃g,okF rm cs g/\sF dat cs g=true)->aA H H'->Q (.bl b) H'
def fh (mg:Str->Option Value):Sp:=λvs H Q _=>∃(p r:Addr) (dat:mr) (cs:List Str) (kvs:List (Key × V)) (rm:Str->List Int),vs=[.ref p,.ref r]/\wE mg H p r dat cs kvs rm/\∀(b:Bool) H',(b=true↔∃g,okF rm cs g/\sF dat cs g=false)->aA H H'->Q (.bl b) H'
structure dW (rm:Str->List Int) (ts:List (Int × Str)) (lo hi:Int):Prop where
 bd : ∀g,okF rm (ts.map (·.2)) g->lo<=fS ts g/\fS ts g<=hi
 lo' : ∃g,okF rm (ts.map (·.2)) g/\fS ts g=lo
 hi' : ∃g,okF rm (ts.map (·.2)) g/\fS ts g=hi
theorem dW.nil (rm:Str->List Int):dW rm [] 0 0:=⟨λg _=>⟨Int.le_refl _,Int.le_refl _⟩,⟨λ_=>0,λc B=>by simp at B,rfl⟩,⟨λ_=>0,λc B=>by simp at B,rfl⟩⟩
theorem dW.zero {hi:Int} (h:dW rm [] lo hi):lo=0/\hi=0:=by
 obtain⟨g,_,e⟩:=h.lo';obtain⟨g',_,B⟩:=h.hi';exact⟨e.symm,B.symm⟩
theorem jZ (a:Int) (c:Str) (ts:List (Int × Str)) (g:Str->Int):fS ((a,c) :: ts) g=a * g c+fS ts g:=by simp[fS]
theorem jY (h:c∉ts.map (·.2)):fS ts (cV g c v)=fS ts g:=by
 unfold fS;rw[Gb (f:=λx:Int × Str=>x.1 * cV g c v x.2) (g:=λx:Int × Str=>x.1 * g x.2) λx B=>by rw[dq _ _ (λe=>h (r_.mpr ⟨x,B,e⟩))]]
theorem rj (h:okF rm cs g) (B:v∈rm c):okF rm (c :: cs) (cV g c v):=λx F=>by
 by_cases e:x=c
 .subst e;rw[bx];exact B
 .rw[dq _ _ e];exact h x ((u_.mp F).resolve_left e)
theorem dW.cons {hi a M:Int} (h:dW rm ts lo hi) (Z:c∉ts.map (·.2)) (hm:m∈(rm c).map (a * ·)) (B : ∀x∈(rm c).map (a * ·),m<=x) (hM:M∈(rm c).map (a * ·)) (F : ∀x∈(rm c).map (a * ·),x<=M):dW rm ((a,c) :: ts) (lo+m) (hi+M):=by
 refine⟨λg Y=>?_,?_,?_⟩
 .have h1:=h.bd g λx hx=>Y x (zc _ hx)
  have h2:a * g c∈(rm c).map (a * ·):=r_.mpr ⟨g c,Y c (by simp),rfl⟩
  have h3:=B _ h2;have h4:=F _ h2;rw[jZ];omega
 .obtain⟨g,g1,g2⟩:=h.lo'
  obtain⟨v,L,e⟩:=r_.mp hm;exact⟨cV g c v,rj g1 L,by rw[jZ,bx,jY Z];have e:a * v=_:=e;omega⟩
 .obtain⟨g,g1,g2⟩:=h.hi'
  obtain⟨v,L,e⟩:=r_.mp hM;exact⟨cV g c v,rj g1 L,by rw[jZ,bx,jY Z];have e:a * v=_:=e;omega⟩
def ve:Sp:=λvs H Q _=>∃(t r F:Addr) (a:Int) (c:Str) (kvs:List (Key × V)) (B:List Int),vs=[.ref t,.ref r]/\H t>>[.int a,.str c]/\H r<*kvs/\bY kvs (t_ c)=some (.ref F)/\H F>>(B.map V.int)/\(-1000000<=a/\a<=1000000)/\B.length<=10/\∀l H',aA H H'->H l=none->H' l*>((B.map (a * ·)).map V.int)->Q (.ref l) H'
def uU:Sp:=λvs H Q _=>∃(t r:Addr) (ts:List (Int × Str)) (kvs:List (Key × V)) (rm:Str->List Int),vs=[.ref t,.ref r]/\gV H t ts/\H r<*kvs/\bj H kvs (ts.map (·.2)) rm/\(ts.map (·.2)).Nodup/\ts.length<=12/\(∀x∈ts,-1000000<=x.1/\x.1<=1000000)/\(∀c∈ts.map (·.2),rm c≠[]/\(rm c).length<=10) /\
 ∀(l:Addr) (zs:List (Addr × Int × Int)) H',aA H H'->H' l*>(zs.map λx=>V.ref x.1)->zs.length=ts.length+1->(∀x∈zs,H' x.1>>[.int x.2.1,.int x.2.2])->(∀(i:Nat) z,zs[i]? = some z->dW rm (ts.drop i) z.2.1 z.2.2)->Q (.ref l) H'
def gu (s mn B:Int) (lo hi:Option Int):Bool:=(match lo with | none=>true | some a=>decide (a<=s+B)) && (match hi with | none=>true | some b=>decide (s+mn<=b))
def wP (mg:Str->Option Value):Sp:=λvs H Q _=>∃(p b:Addr) (s mn B:Int) (dat:mr) (cs:List Str),vs=[.ref p,.int s,.ref b]/\OBS mg H p dat cs/\H b>>[.int mn,.int B]/\Q (.bl (gu s mn B dat.2.1 dat.2.2)) H
def nh (kvs:List (Key × V)):Prop:=∀x∈kvs,∃i:Int,x.1=o_ i
def gx (kvs:List (Key × V)) (s:Int):Prop:=(bY kvs (o_ s)).isSome=true
def sX (mg:Str->Option Value):Sp:=λvs H Q _=>∃(p r l b:Addr) (kvs:List (Key × V)) (ps:List Int) (mn F:Int) (dat:mr) (cs:List Str),vs=[.ref p,.ref r,.ref l,.ref b]/\OBS mg H p dat cs/\H r<*kvs/\nh kvs/\H l*>(ps.map V.int)/\H b>>[.int mn,.int F]/\kvs.length * ps.length<=100000 /\
 ∀(q:Addr) (B:List (Key × V)) H',aA H H'->H' q<*B->nh B->B.length<=kvs.length * ps.length->(∀s,gx B s↔∃e,gx kvs e/\∃x∈ps,s=e+x/\gu s mn F dat.2.1 dat.2.2=true)->Q (.ref q) H'
theorem lP {s:Int} (L:(∃v,(o_ s,v)∈kvs)):gx kvs s:=by
 obtain⟨v,B⟩:=L;unfold gx
 induction kvs with
 | nil=>simp at B
 | cons x kvs F =>
  by_cases e:x.1=o_ s
  .obtain⟨x1,x2⟩:=x
   simp only at e;subst e;rw[bN rfl];rfl
  .obtain⟨x1,x2⟩:=x
   rw[bb e];exact F ((u_.mp B).resolve_left λz=>e (congrArg Prod.fst z).symm)
theorem lW {s:Int} (h:gx kvs s) : ∃v,(o_ s,v)∈kvs:=by
 unfold gx at h
 induction kvs with
 | nil=>rw[gg] at h;cases h
 | cons x kvs B =>
  obtain⟨x1,F⟩:=x
  by_cases e:x1=o_ s
  .subst e;exact⟨F,by simp⟩
  .rw[bb e] at h
   obtain⟨v,L⟩:=B h;exact⟨v,zc _ L⟩
theorem yI {s t:Int} {v:V}:gx (bE kvs (o_ t) v) s↔s=t\/gx kvs s:=by
 unfold gx;rw[jb]
 by_cases e:s=t
 .subst e;simp
 .rw[if_neg (λz=>e (Hu z))];simp[e]
theorem nh.put {t:Int} {v:V} (h:nh kvs):nh (bE kvs (o_ t) v):=by
 intro x B;unfold bE at B
 split at B
 .obtain⟨y,hy,rfl⟩:=r_.mp B
  split
  .rename_i e;exact⟨t,e⟩
  .exact h y hy
 .rcases y8.mp B with q | q
  .exact h x q
  .rw[g_.mp q];exact⟨t,rfl⟩
theorem iu (as bs:List (Int × Str)) (g:Str->Int):fS (as++bs) g=fS as g+fS bs g:=by simp[fS]
theorem ux (ts:List (Int × Str)) (i:Nat) (g:Str->Int):fS ts g=fS (ts.take i) g+fS (ts.drop i) g:=by rw[<- iu,List.take_append_drop]
theorem BO {mn B:Int} {lo:Option Int} (h:dW rm (ts.drop i) mn B) (Y:okF rm (ts.map (·.2)) g) (L:eU (fS ts g) lo hi=true):gu (fS (ts.take i) g) mn B lo hi=true:=by
 have h1:=h.bd g λc F=>Y c (by rw[map_drop] at F;exact List.mem_of_mem_drop F)
 have h2:=ux ts i g;cases lo <;> cases hi <;> simp[eU,gu] at L ⊢
 .omega
 .omega
 .omega
theorem Aa {s mn B:Int} {lo:Option Int} (h:dW rm [] mn B):gu s mn B lo hi=eU s lo hi:=by
 obtain⟨rfl,rfl⟩:=h.zero;cases lo <;> cases hi <;> simp[eU,gu]
theorem uY {a b:Int} {lo:Option Int} (h:dW rm ts a b):(!eU a lo hi || !eU b lo hi)=true↔∃g,okF rm (ts.map (·.2)) g/\eU (fS ts g) lo hi=false:=by
 constructor
 .intro hb
  rw[Bool.or_eq_true,Bool.not_eq_true',Bool.not_eq_true'] at hb;rcases hb with hb | hb
  .obtain⟨g,g1,g2⟩:=h.lo'
   exact⟨g,g1,by rw[g2];exact hb⟩
  .obtain⟨g,g1,g2⟩:=h.hi'
   exact⟨g,g1,by rw[g2];exact hb⟩
 .rintro⟨g,g1,g2⟩
  have:=h.bd g g1
  refine F7 λB=>?_
  have B:eU a lo hi=true/\eU b lo hi=true:=by
   cases e1:eU a lo hi <;> cases e2:eU b lo hi <;> simp[e1,e2] at B ⊢
  obtain⟨h1,h2⟩:=B;rw[Bool.eq_false_iff] at g2;refine g2 ?_
  cases lo <;> cases hi <;> simp[eU] at h1 h2 ⊢
  .omega
  .omega
  .omega
def pG (mg:Str->Option Value):Sp:=λvs H Q _=>∃(p r:Addr) (dat:mr) (cs:List Str) (kvs:List (Key × V)) (rm:Str->List Int),vs=[.ref p,.ref r]/\wE mg H p r dat cs kvs rm/\∀(q:Addr) (B:List (Key × V)) H',H' q<*B->(0 < B.length↔∃g,okF rm cs g/\sF dat cs g=true)->aA H H'->Q (.ref q) H'
theorem Dv (h:i<=5):4 ^ i<=1024:=w_ (Nat.pow_le_pow_right ∅ h) ∅
theorem yh (h : ∀c∈cs,1<=(rm c).length) : ∃g,okF rm cs g:=by
 refine⟨λc=>(rm c).headD 0,λc B=>?_⟩
 show(rm c).headD 0∈rm c
 have:=h c B
 cases e:rm c with
 | nil=>rw[e] at this;simp at this
 | cons a b=>simp
theorem By (h:okF rm cs g) (B:v∈rm c):okF rm cs (cV g c v):=λx F=>by
 by_cases e:x=c
 .subst e;rw[bx];exact B
 .rw[dq _ _ e];exact h x F
theorem lx (T:Txt w K mg) (L:bm K (fE K (au mg "Wish") "__init__") "__init__" "Wish.__init__" bi ["self","wish"]):FnR P w K mg base (fE K (au mg "Wish") "__init__") 1 ["self","wish"] (cq mg "Sum"):=by
 ctx_has z cg <;> obtain⟨p,dx,fs,w,rfl,hp,B,k⟩:=h
 .rfl
 refine⟨_,(ay (bF T.cl_Sum T.no_Sum_wish (pvM 0) (pvM 1) rfl)),?_⟩
 ctx_has v hp
 exact⟨B,k⟩
theorem nP (T:Txt w K mg) (L:bm K (Mk K (au mg "Sum")) "__init__" "Sum.__init__" dB ["self","wish"]) (B:FnR P w K mg base (fE K (au mg "Wish") "__init__") 1 ["self","wish"] (cq mg "Sum")):FnR P w K mg base (Mk K (au mg "Sum")) 2 ["self","wish"] (tI mg):=by
 ctx_has z nM <;> obtain⟨p,dx,w,dat,cs,rfl,hp,W,k⟩:=h
 .rfl
 refine⟨_,(ak (dz (iJ B (hr.mono (by ctx_has m)) rfl T.at_Wish (af (pvM 0) (af (pvM 1) ap))))
  (ak (bF T.cl_Sum T.no_Sum_terms (pvM 0) (aK bg (pvM 1) aw) rfl)
  (ak (bF T.cl_Sum T.no_Sum_low (pvM 0) (aK bg (pvM 1) aw) rfl)
  (ay (bF T.cl_Sum T.no_Sum_high (pvM 0) (aK bg (pvM 1) aw) rfl))))),?_⟩
 obtain⟨ts,lo,hi⟩:=dat;obtain⟨t,Y,h2⟩:=W;ctx_has v Y
 have F:w≠p:=bo Y hp (by intro z;cases z)
 have pt : ∀b xs,H b>>xs->b≠p:=λb xs e=>bo e hp (by intro z;cases z)
 refine⟨p,dx,[],.ref w,rfl,hp,∅,?_⟩
 ctx_has v ah
 refine⟨_,by rw[ao F];exact Y,?_⟩
 ctx_has v
 refine⟨eh (yz _ "" "" "" _ .non .non .non),_,by rw[ao F,ao F];exact Y,?_⟩
 ctx_has v
 refine⟨eh (yt _ _ "" "" _ _ .non .non),_,by rw[ao F,ao F,ao F];exact Y,?_⟩
 ctx_has v
 refine⟨eh (BC _ _ _ "" _ _ _ .non),k _ ⟨dx,_,t,ah,h2.keep λa xs e=>by rw[ao (pt a xs e),ao (pt a xs e),ao (pt a xs e),ao (pt a xs e)];exact e,?_⟩ ?_⟩
 .simp only[cy,gy,String.reduceEq,if_true,if_false,true_and,Iu,and_self]
 .intro b o hb e
  rw[ao hb,ao hb,ao hb,ao hb];exact e
abbrev CL:=Fn P w K mg base "parts_of" 1 ["term","rooms"] (ve)
theorem tU (T:Txt w K mg) (L:FnL K mg "parts_of" eY ["term","rooms"]) : @CL P w K mg base:=by
 ctx_has z tV <;> obtain⟨t,r,ad,a,c,kvs,rs,rfl,Y,F,hv,B,ha,hl,k⟩:=h
 .rfl
 refine⟨_,(ay (aI (bB (N:=["value","term"]) (nt:=1) (js:=[0]) (aP ["term","rooms"] (aj eY).names) (cK K (cm hu (pvM 1) (aK bg (pvM 0) aw))) (aJ 0) aZ cF (aT gO (aK bg (pvM 1) aw) (pvM 0))))),?_⟩
 ctx_has v Y F hv B
 intro q Z;refine cQ ba (λv=>match v with | .int v=>.int (a * v) | _=>.non) Z (λH' s=>.of (s _ _ B)) (by rw[d_];omega) ?_ ?_
 .intro x H2 Q2 hx sm q2
  obtain⟨y,hy,rfl⟩:=r_.mp hx;have e1:=sm _ _ Y;ctx_has v e1
  exact⟨.inl ⟨(),()⟩,q2 H2 (aA.refl _)⟩
 .intro H2 sm h2
  refine k q H2 sm Z ?_
  rw[h2,FQ,FQ];rfl
abbrev CM:=Fn P w K mg base "spans_of" 2 ["terms","rooms"] (uU)
theorem vo (T:Txt w K mg) (L:FnL K mg "spans_of" fY ["terms","rooms"]) (Fi : @CL P w K mg base) : @CM P w K mg base:=by
 ctx_has z tQ <;> obtain⟨t,r,ts,kvs,rm,rfl,hT,a9,a6,a7,hl,a5,an,k⟩:=h
 .rfl
 refine⟨_,(ak (aL 2 (dA (af (cX (af aw (af aw ap))) ap)))
  (ak (bD (A7 (K:=K) rfl rfl T.b_reversed (af (pvM 0) ap)) (aJ 3) (ak (aL 4 (aC Fi (af (pvM 3) (af (pvM 1) ap))))
  (ay (dz (jP Gj Gk eI (pvM 2) (af (cX (af (aT br (aK bg (aK iR (pvM 2) (mW jw aw)) aw) (aM (mj rfl) T.b_min (af (pvM 4) ap))) (af (aT br (aK bg (aK iR (pvM 2) (mW jw aw)) aw) (aM (qy rfl) T.b_max (af (pvM 4) ap))) ap))) ap))))))
  (ay (aI (oz rfl rfl T.b_list rfl T.b_reversed (pvM 2)))))),?_⟩
 obtain⟨as,ht,rfl,a4⟩:=hT;ctx_has v
 refine⟨∅,λz0 aj=>⟨∅,λq hq=>?_⟩⟩
 have s1:aA H (upd (upd H z0 (.tup [.int 0,.int 0])) q (.lst [.ref z0])):=(aA.upd0 aj).upd_new hq
 have zq:z0≠q:=by rintro rfl;rw[ah] at hq;cases hq
 have a8:H q=none:=(aA.upd0 aj).free hq
 refine⟨_,s1 _ _ ht,?_⟩
 have B:(as.map λx=>V.ref x.1).length=as.length:=by simp
 have aF:as.length<=12:=by simpa using hl
 refine cL Bo (λi σ H'=>∃(zs:List (Addr × Int × Int)) (v3 v4:Option V),σ=[-t,-r,-q,v3,v4]/\H' q*>(zs.map λx=>V.ref x.1)/\zs.length=i+1/\(∀x∈zs,H' x.1>>[.int x.2.1,.int x.2.2])/\(∀(j:Nat) z,zs[j]? = some z->dW rm ((as.map (·.2)).drop (as.length - j)) z.2.1 z.2.2)/\aA H H')
  ⟨[(z0,0,0)],_,_,rfl,ah,rfl,λx hx=>?_,λj z Z=>?_,s1⟩ (λi σ H' am=>by obtain⟨_,_,_,_,_,_,_,_,sm⟩:=am;exact(.of (sm _ _ ht))) ?_ ?_
 .rw[g_.mp hx,ao zq];exact ah
 .have hj0:j=0:=by have:=(p_.mp Z).1;simp at this;omega
  subst hj0;simp at Z
  subst Z;rw[sub_zero,List.drop_of_length_le (by simp)]
  exact dW.nil rm
 .rintro i x σ H2 hi hx ⟨zs,v3,v4,rfl,h2,hzl,hzt,hzo,sm2⟩
  rw[List.length_reverse,B] at hi;have Y:(as.map λx=>V.ref x.1)[as.length - 1 - i]? = some x:=by
   rw[Im (by rw[B];exact hi),B] at hx;exact hx
  have ae:as.length - 1 - i < as.length:=()
  obtain⟨y,hy,rfl⟩ : ∃y,as[as.length - 1 - i]? = some y/\V.ref y.1=x:=by
   rw[f_] at Y;cases e:as[as.length - 1 - i]? with
   | none=>rw[e] at Y;cases Y
   | some nm=>rw[e] at Y;exact⟨nm,rfl,h_ Y⟩
  have ab:y∈as:=m_ hy
  have ai:y.2.2∈(as.map (·.2)).map (·.2):=r_.mpr ⟨y.2,r_.mpr ⟨y,ab,rfl⟩,rfl⟩
  obtain⟨ad,hv,a3⟩:=a6 _ ai;ctx_has v
  refine⟨y.1,r,ad,y.2.1,y.2.2,kvs,rm y.2.2,rfl,sm2 _ _ (a4 y ab),sm2 _ _ a9,hv,sm2 _ _ a3,a5 y.2 (r_.mpr ⟨y,ab,rfl⟩),(an _ ai).2,λpl H3 s3 ar h3=>?_⟩
  have a0:=s3 _ _ h2;have aG:pl≠q:=λe=>by rw[e,h2] at ar;cases ar
  rcases Is zs with rfl | ⟨zs',zl,ezs⟩
  .simp at hzl
  rw[Hw] at ezs;have ac:atI (zs.map λx=>V.ref x.1) (-1)=some (V.ref zl.1):=by rw[ezs,Gz];exact oI _ _
  have a1:zl∈zs:=by rw[ezs];simp
  have au:=s3 _ _ (hzt zl a1);have aq:(rm y.2.2).map (y.2.1 * ·)≠[]:=λe=>(an _ ai).1 (List.map_eq_nil_iff.mp e)
  ctx_has v a0 ac au h3
  refine⟨_,rfl,aq,λm hm aB=>⟨_,rfl,aq,λM hM a2=>?_⟩⟩
  refine⟨∅,λzn aE=>?_⟩
  have s4:aA H3 (upd H3 zn (.tup [.int (zl.2.1+m),.int (zl.2.2+M)])):=aA.upd0 aE
  have ax:=s4 _ _ a0;have kt : ∀a xs,upd H3 zn (.tup [.int (zl.2.1+m),.int (zl.2.2+M)]) a>>xs->upd (upd H3 zn (.tup [.int (zl.2.1+m),.int (zl.2.2+M)])) q (.lst ((zs.map λx=>V.ref x.1)++[V.ref zn])) a>>xs:=λa xs e=>by rw[ao (bo e ax (by intro z;cases z))];exact e
  refine⟨_,ax,by rw[d_];exact aU (),zs++[(zn,zl.2.1+m,zl.2.2+M)],by rw[ah];simp,by simp[hzl],λx hx=>?_,λj z Z=>?_,λb o e=>?_⟩
  .rcases y8.mp hx with w | w
   .exact kt _ _ (s4 _ _ (s3 _ _ (hzt x w)))
   .rw[g_.mp w];exact kt _ _ ah
  .by_cases hjl:j < zs.length
   .rw[Gn hjl] at Z
    exact hzo j z Z
   .have hjn:j=zs.length:=by have:=(p_.mp Z).1;simp at this;omega
    subst hjn;rw[Gx (s_ _),sub_self] at Z;simp at Z
    subst Z;have ag:=hzo i zl (by rw[ezs,Gx (by rw[ezs] at hzl;simp at hzl;omega)];rw[ezs] at hzl;simp at hzl;simp[hzl])
    have ed:(as.map (·.2)).drop (as.length - zs.length)=(y.2.1,y.2.2) ::(as.map (·.2)).drop (as.length - i):=by
     rw[hzl,show as.length - (i+1)=as.length - 1 - i by omega,List.drop_eq_getElem_cons (by simp;omega),show as.length - 1 - i+1=as.length - i by omega]
     congr 1
     rw[List.getElem_map];rw[C_ ae] at hy;rw[h_ hy]
    rw[ed];refine ag.cons ?_ hm aB hM a2
    have aa:(((as.map (·.2)).drop (as.length - zs.length)).map (·.2)).Nodup:=a7.sublist ((List.drop_sublist _ _).map _)
    rw[ed,y3,FG] at aa;exact aa.1
  .rw[ao (az e a8)];exact s4 _ _ (s3 _ _ (sm2 _ _ e))
 .rintro σ H2 ⟨zs,v3,v4,rfl,h2,hzl,hzt,hzo,sm2⟩
  rw[List.length_reverse,B] at hzl;ctx_has v h2
  intro lr aD;have s3:aA H2 (upd H2 lr (.lst (zs.map λx=>V.ref x.1).reverse)):=aA.upd0 aD
  refine k lr zs.reverse _ (sm2.trans s3) (by rw[ah,List.map_reverse]) (by simp[hzl]) (λx hx=>s3 _ _ (hzt x (List.mem_reverse.mp hx))) λi z hz=>?_
  have ae:i < zs.length:=by have:=(p_.mp hz).1;simpa using this
  rw[Im ae] at hz;have:=hzo _ z hz
  rw[show as.length - (zs.length - 1 - i)=i by omega] at this
  exact this
theorem jK (T:Txt w K mg) (L:bm K (aN K (au mg "Sum") "may_end_well") "may_end_well" "Sum.may_end_well" cj ["self","reached","behind"]):FnR P w K mg base (aN K (au mg "Sum") "may_end_well") 1 ["self","reached","behind"] (wP mg):=by
 ctx_has z jL <;> obtain⟨p,b,s,mn,mx,dat,cs,rfl,Z,Y,k⟩:=h
 .rfl
 refine⟨_,(ak (aL 3 (jS (lH (lQ (aR T.cl_Sum T.no_Sum_low (pvM 0)))) (dS (aX ji (aR T.cl_Sum T.no_Sum_low (pvM 0)) (aT br (pvM 1) (aK bg (pvM 2) aw))))))
  (ak (aL 4 (jS (lH (lQ (aR T.cl_Sum T.no_Sum_high (pvM 0)))) (dS (aX ji (aT br (pvM 1) (aK bg (pvM 2) aw)) (aR T.cl_Sum T.no_Sum_high (pvM 0))))))
  (ay (aI (jh (pvM 3) (dS (pvM 4))))))),?_⟩
 obtain⟨dx,fs,te,h1,h2,l1,B,F,l4⟩:=Z;obtain⟨ts,lo,hi⟩:=dat;simp only at B F k;cases lo with
 | none =>
  cases hi with
  | none=>ctx_has v h1 B F Y bV decide_true decide_false q_;simpa [gu] using k
  | some h=>ctx_has v h1 B F Y bV decide_true decide_false q_;simpa [gu] using k
 | some a =>
  cases hi with
  | none =>
   ctx_has v h1 B F Y bV decide_true decide_false q_
   refine fF (λh=>?_) (λh=>?_)
   .simpa [gu,h] using k
   .simpa [gu,h] using k
  | some c =>
   ctx_has v h1 B F Y bV decide_true decide_false q_
   refine fF (λh=>?_) (λh=>?_)
   .simpa [gu,h] using k
   .simpa [gu,h] using k
theorem lT (T : Txt w K mg) (L:bm K (aN K (au mg "Sum") "sums_with") "sums_with" "Sum.sums_with" dm ["self","reached","parts","behind"]) (B:FnR P w K mg base (aN K (au mg "Sum") "may_end_well") 1 ["self","reached","behind"] (wP mg)):FnR P w K mg base (aN K (au mg "Sum") "sums_with") 2 ["self","reached","parts","behind"] (sX mg):=by
  ctx_has z mI <;> obtain⟨p,r,l,b,kvs,ps,mn,mx,dat,cs,rfl,hO,aa,aB,hl,hb,hsz,k⟩:=h
  . rfl
  refine⟨_,(ak (aL 4 gh)
    (ak (bD (ik K (pvM 2)) (aJ 5) (ay (BF (bD (E3 (pvM 1)) (aJ 6) (ay (bS (gp (bM T.cl_Sum B (hr.mono (by ctx_has m)) (pvM 0) (af (aT br (pvM 6) (pvM 5)) (af (pvM 3) ap)))) (ay (iq hu (pvM 4) (aT br (pvM 6) (pvM 5)) dU rfl)) aV))))))
    (ay (aI (pvM 4))))),?_⟩
  ctx_has v
  intro q hq;have s0:aA H (upd H q (.dK [])):=aA.upd0 hq
  have rq:r≠q:=az aa hq
  refine⟨_,s0 _ _ hl,?_⟩
  have ag : ∀j,j<=ps.length->kvs.length * j<=100000:=λj hj=>w_ (Nat.mul_le_mul_left _ hj) hsz
  refine cL dD (λi σ H'=>∃(kv:List (Key × V)) (v5 v6:Option V),σ=[-p,-r,-l,-b,-q,v5,v6]/\H' q<*kv/\nh kv/\kv.length<=kvs.length * i/\(∀s,gx kv s↔∃e,gx kvs e/\∃x∈ps.take i,s=e+x/\gu s mn mx dat.2.1 dat.2.2=true)/\(∀b o,b≠q->H b=some o->H' b=some o))
    ⟨[],_,_,rfl,ah,λx hx=>by simp at hx,by simp,λs=>⟨λh=>(by unfold gx at h;rw[gg] at h;exact absurd h (by simp)),λa3=>by obtain⟨e,_,x,hx,_⟩:=a3;exact((by simp at hx))⟩,λb o hb e=>by rw[ao hb];exact e⟩ (λi σ H' ax=>by obtain⟨_,_,_,_,_,_,_,_,kk⟩:=ax;exact(.of (kk _ _ (az hl hq) hl))) ?_ ?_
  . rintro i x σ H2 hi hx ⟨kv,v5,v6,rfl,h2,aj,ai,Y,k2⟩
    rw[d_] at hi;obtain⟨y,hy,rfl⟩ : ∃y,ps[i]? = some y/\V.int y=x:=by
      rw[f_] at hx;cases e:ps[i]? with
      | none=>rw[e] at hx;cases hx
      | some nm=>rw[e] at hx;exact⟨nm,rfl,h_ hx⟩
    have a6:ps.take (i+1)=ps.take i++[y]:=by rw[za,hy];rfl
    have a1:=k2 r _ rq aa;have aE:kvs.length * i+kvs.length<=100000:=by rw[<- Nat.mul_succ];exact ag (i+1) hi
    have aD:=ag i ()
    refine⟨r,kvs,a1,?_⟩
    ctx_has v a1
    intro ob;have ar:upd H2 r (.frz ob (.dK kvs)) r=some (.frz ob (.dK kvs)):=ah
    refine cL C5 (λj σ H'=>∃(kv:List (Key × V)) (v6:Option V),σ=[-p,-r,-l,-b,-q,some (.int y),v6]/\H' q<*kv/\nh kv/\kv.length<=kvs.length * i+j/\(∀s,gx kv s↔(∃e,gx kvs e/\∃x∈ps.take i,s=e+x/\gu s mn mx dat.2.1 dat.2.2=true)\/∃e,(∃v,(o_ e,v)∈kvs.take j)/\s=e+y/\gu s mn mx dat.2.1 dat.2.2=true)/\H' r=some (.frz ob (.dK kvs))/\(∀b o,b≠q->b≠r->H b=some o->H' b=some o))
      ⟨kv,_,rfl,by rw[ao rq.symm];exact h2,aj,(),λs=>⟨λh=>.inl ((Y s).mp h),λh=>(Y s).mpr (h.resolve_right λa0=>by obtain⟨e,⟨v,hv⟩,_⟩:=a0;exact(by simp at hv))⟩,ar,λb o hb ab e=>by rw[ao ab];exact k2 b o hb e⟩ (λj σ H' an=>by obtain⟨_,_,_,_,_,_,_,h,_⟩:=an;exact(h)) ?_ ?_
    . rintro j z σ H3 hj hz ⟨kv,v6,rfl,h3,ad,ac,F,ae,k3⟩
      rw[d_] at hj;obtain⟨kx,a2,rfl⟩ : ∃kx,kvs[j]? = some kx/\kV kx.1=z:=by
        rw[f_] at hz;cases e:kvs[j]? with
        | none=>rw[e] at hz;cases hz
        | some nm=>rw[e] at hz;exact⟨nm,rfl,h_ hz⟩
      obtain⟨e0,a4⟩:=aB kx (m_ a2);have am:kx=(o_ e0,kx.2):=by rw[<- a4]
      have aq:kvs.take (j+1)=kvs.take j++[kx]:=by rw[za,a2];rfl
      have a8:kV kx.1=V.int e0:=by rw[a4];rfl
      rw[a8];obtain⟨dx,fs,te,g1,g2,g3⟩:=hO;have pq:p≠q:=az g1 hq
      have pr:p≠r:=bo g1 aa (by intro z;cases z)
      have a9:=k3 p _ pq pr g1;have aC:=k3 b _ (az hb hq) (bo hb aa (by intro z;cases z)) hb
      have a5:gk H H3:=⟨λa vs e=>k3 a _ (az e hq) (bo e aa (by intro z;cases z)) e,λa C dx fs e=>k3 a _ (az e hq) (bo e aa (by intro z;cases z)) e,λa ks e=>k3 a _ (az e hq) (bo e aa (by intro z;cases z)) e⟩
      have a7:OBS mg H3 p dat cs:=uC ⟨dx,fs,te,g1,g2,g3⟩ a5
      ctx_has v a9
      refine⟨g3.2.2.2.2.2.1,p,b,e0+y,mn,mx,dat,cs,rfl,a7,aC,?_⟩
      refine⟨_,rfl,fF (λhm=>?_) (λhm=>?_)⟩
      . ctx_has v h3
        have qr:q≠r:=rq.symm
        refine⟨Gc (show kv.length<=200000 by omega) ∅,_,ah,ad.put,w_ (du _ _ _) (),λs=>?_,by rw[ao rq];exact ae,λb o aw ab e=>by rw[ao aw];exact k3 b o aw ab e⟩
        rw[yI,F,aq]
        constructor
        . rintro(rfl | h | ⟨e,⟨v,hv⟩,Z⟩)
          . exact .inr ⟨e0,⟨kx.2,by rw[<- am];simp⟩,rfl,hm⟩
          . exact .inl h
          . exact .inr ⟨e,⟨v,A_ _ hv⟩,Z⟩
        . rintro(h | ⟨e,⟨v,hv⟩,Z⟩)
          . exact .inr (.inl h)
          . rcases y8.mp hv with w | w
            . exact .inr (.inr ⟨e,⟨v,w⟩,Z⟩)
            . rw[g_,am] at w
              have:e=e0:=Hu (congrArg Prod.fst w)
              subst this;exact .inl Z.1
      . refine⟨_,h3,ad,(),λs=>?_,ae,k3⟩
        rw[F,aq]
        constructor
        . rintro(h | ⟨e,⟨v,hv⟩,Z⟩)
          . exact .inl h
          . exact .inr ⟨e,⟨v,A_ _ hv⟩,Z⟩
        . rintro(h | ⟨e,⟨v,hv⟩,Z⟩)
          . exact .inl h
          . rcases y8.mp hv with w | w
            . exact .inr ⟨e,⟨v,w⟩,Z⟩
            . rw[g_,am] at w
              have:e=e0:=Hu (congrArg Prod.fst w)
              subst this;exact absurd (Z.1 ▸ Z.2) hm
    . rintro σ H3 ⟨kv,v6,rfl,h3,ad,ac,F,ae,k3⟩
      rw[d_] at ac F;rw[FV] at F;refine⟨⟨ob,ae⟩,kv,_,_,rfl,by rw[ao rq.symm];exact h3,ad,by rw[Nat.mul_succ];exact ac,λs=>?_,λb o hb e=>?_⟩
      . rw[F,a6]
        constructor
        . rintro(⟨e,he,x,hx,Z⟩ | ⟨e,hv,Z⟩)
          . exact⟨e,he,x,A_ _ hx,Z⟩
          . exact⟨e,lP hv,y,by simp,Z⟩
        . rintro⟨e,he,x,hx,Z⟩
          rcases y8.mp hx with w | w
          . exact .inl ⟨e,he,x,w,Z⟩
          . rw[g_.mp w] at Z
            exact .inr ⟨e,lW he,Z⟩
      . by_cases ab:b=r
        . subst ab;rw[aa] at e;rw[ah];exact e
        . rw[ao ab];exact k3 b o hb ab e
  . rintro σ H2 ⟨kv,v5,v6,rfl,h2,aj,ai,Y,k2⟩
    rw[d_] at ai Y;rw[FV] at Y;ctx_has v
    exact k q kv H2 (λb o e=>k2 b o (az e hq) e) h2 aj ai Y
theorem lG (T:Txt w K mg) (L:bm K (aN K (au mg "Sum") "sums_kept") "sums_kept" "Sum.sums_kept" db ["self","rooms"]) (Fh : @CM P w K mg base) (Fi : @CL P w K mg base) (B:FnR P w K mg base (aN K (au mg "Sum") "sums_with") 2 ["self","reached","parts","behind"] (sX mg)):FnR P w K mg base (aN K (au mg "Sum") "sums_kept") 4 ["self","rooms"] (pG mg):=by
 ctx_has z mB <;> obtain⟨p,r,dat,cs,kvs,rm,rfl,M,k⟩:=h
 .rfl
 refine⟨_,(ak (aL 2 (aC Fh (af (aR T.cl_Sum T.no_Sum_terms (pvM 0)) (af (pvM 1) ap))))
  (ak (aL 3 (sI (il aw dU rH) rfl rfl (by nofun) ∅))
  (ak (bD (A3 (K:=K) rfl rfl T.b_enumerate (af (aR T.cl_Sum T.no_Sum_terms (pvM 0)) ap)) (jH (n:=2) rfl (dM (aJ 4) (dM (aJ 5) jG))) (ay (aL 3 (bM T.cl_Sum B (hr.mono (by ctx_has m)) (pvM 0) (af (pvM 3) (af (aC Fi (af (pvM 5) (af (pvM 1) ap))) (af (aK iR (pvM 2) (aT br (pvM 4) aw)) ap)))))))
  (ay (aI (pvM 3)))))),?_⟩
 obtain⟨dx,fs,te,h1,h2,l1,l2,l3,l4,l5,l6,l7,l8⟩:=M.ob;obtain⟨ts,lo,hi⟩:=dat;have aB:=M.ok;have a4:=M.nd;have a8:=M.rd;simp only[Dp] at aB h2 l2 l3;obtain⟨aW,aE,a2⟩:=aB;subst aW;have a5:=M.cl;rw[d_] at a5;obtain⟨as,aD,rfl,aM⟩:=id h2;ctx_has v h1 l1
 refine⟨te,r,_,kvs,rm,rfl,h2,a8,M.rf,a4,(),a2,λc hc=>(by have:=M.gd c hc;exact⟨λe=>by rw[e] at this;simp at this,()⟩),λsl zs H1 s1 e1 aV bb aP=>?_⟩
 ctx_has v
 intro q hq;refine⟨ah,[(o_ 0,.bl true)],rfl,∅,?_⟩
 have em:iW ([]:List (Key × V)) [(o_ 0,.bl true)]=[(o_ 0,.bl true)]:=gj _ gg
 rw[em];have s2:aA H1 (upd (upd H1 q (.dK [])) q (.dK [(o_ 0,.bl true)])):=λb o e=>by rw[ao (az e hq),ao (az e hq)];exact e
 have a1:upd (upd H1 q (.dK [])) q (.dK [(o_ 0,.bl true)]) q<*[(o_ 0,.bl true)]:=ah
 generalize upd (upd H1 q (.dK [])) q (.dK [(o_ 0,.bl true)])=H2 at s2 a1 ⊢;have a0:=s1.trans s2;have g1:=a0 _ _ h1;have g2:=a0 _ _ aD;ctx_has v g1 l1 g2
 have h4:=λi (hi:i<=5)=>Dv hi
 have ar : ∀g,sF (as.map (·.2),lo,hi) (((as.map (·.2))).map (·.2)) g=eU (fS (as.map (·.2)) g) lo hi:=λg=>rfl
 simp only[ar] at k;have be:as.length<=5:=by simpa using a5
 refine CF (xs:=as.map λx=>V.ref x.1) (λi σ H'=>∃(q:Addr) (Y:List (Key × V)) (v4 v5:Option V),σ=[-p,-r,-sl,-q,v4,v5]/\H' q<*Y/\nh Y/\Y.length<=4 ^ i/\(∀s,gx Y s->∃g,okF rm ((as.map (·.2)).map (·.2)) g/\fS ((as.map (·.2)).take i) g=s/\(0 < i->∃mn mx,dW rm ((as.map (·.2)).drop i) mn mx/\gu s mn mx lo hi=true))/\(∀g,okF rm ((as.map (·.2)).map (·.2)) g->eU (fS (as.map (·.2)) g) lo hi=true->gx Y (fS ((as.map (·.2)).take i) g))/\aA H H'/\aA H1 H')
  ⟨q,_,_,_,rfl,a1,λx hx=>⟨0,by rw[g_.mp hx]⟩,by simp,λs hs=>?_,λg _ _=>?_,a0,s2⟩ (λi σ H' a7=>by obtain⟨_,_,_,_,_,_,_,_,_,_,sm,_⟩:=a7;exact(.of (sm _ _ aD))) ?_ ?_
 .obtain⟨v,hv⟩:=lW hs
  have e0:s=0:=Hu (congrArg Prod.fst (g_.mp hv))
  obtain⟨g,hg⟩:=yh (rm:=rm) (cs:=(as.map (·.2)).map (·.2)) λc hc=>(M.gd c hc).1
  exact⟨g,hg,by rw[e0];rfl,λh=>absurd h ()⟩
 .exact lP ⟨.bl true,g_.mpr rfl⟩
 .rintro i x σ H3 t hx ⟨q,Y,v4,v5,rfl,h3,hik,hkl,hso,hcm,s3,s13⟩ ht
  obtain⟨y,hy,rfl⟩ : ∃y,as[i]? = some y/\V.ref y.1=x:=by
   rw[f_] at hx;cases e:as[i]? with
   | none=>rw[e] at hx;cases hx
   | some nm=>rw[e] at hx;exact⟨nm,rfl,h_ hx⟩
  have bh:i < as.length:=(p_.mp hy).1
  have aj:y∈as:=m_ hy
  have F:y.2.2∈(as.map (·.2)).map (·.2):=r_.mpr ⟨y.2,r_.mpr ⟨y,aj,rfl⟩,rfl⟩
  obtain⟨ad,hv,aH⟩:=M.rf _ F;have st:aA H3 (upd H3 t (.tup [.int (i:Nat),.ref y.1])):=aA.upd0 ht
  have Z:=s3.trans st;have f1:=Z _ _ h1;have ag:upd H3 t (.tup [.int (i:Nat),.ref y.1]) t>>[.int (i:Nat),.ref y.1]:=ah
  ctx_has v ag f1
  refine⟨l7,y.1,r,ad,y.2.1,y.2.2,kvs,rm y.2.2,rfl,Z _ _ (aM y aj),Z _ _ a8,hv,Z _ _ aH,a2 y.2 (r_.mpr ⟨y,aj,rfl⟩),by have:=(M.gd _ F).2.1;omega,λpl H4 s4 bi bd=>?_⟩
  have am:=s13.trans st;have aU:=(am.trans s4) _ _ e1;obtain⟨zn,ax⟩ : ∃zn,zs[i+1]? = some zn:=⟨zs[i+1]'(by rw[aV];simp;omega),by simp⟩
  have aF:zn∈zs:=m_ ax
  have aG:atI (zs.map λx=>V.ref x.1) ((i:Int)+1)=some (V.ref zn.1):=da (j:=i+1) (by rw[f_,ax];rfl)
  ctx_has v aU aG
  have ae:=aP (i+1) zn ax;have aS:=(M.gd _ F).2.1;have bg:=h4 (i+1) ()
  have hb:Y.length * ((rm y.2.2).map (y.2.1 * ·)).length<=4 ^ (i+1):=by
   rw[d_,Nat.pow_succ];exact Nat.mul_le_mul hkl aS
  have a9:=Z.trans s4;refine⟨p,q,pl,zn.1,Y,_,zn.2.1,zn.2.2,(as.map (·.2),lo,hi),(as.map (·.2)).map (·.2),rfl,uC M.ob (aA.keepTI a9),(st.trans s4) _ _ h3,hik,bd,(am.trans s4) _ _ (bb zn aF),(),λq5 aQ H5 s5 h5 a6 bf aa=>?_⟩
  have aq:(as.map (·.2)).take (i+1)=(as.map (·.2)).take i++[y.2]:=by rw[za,f_,hy];rfl
  have ba:y.2.2∉((as.map (·.2)).take i).map (·.2):=λhm=>by
   have a3:(((as.map (·.2)).take (i+1)).map (·.2)).Nodup:=a4.sublist ((If _ _).map _)
   rw[aq,Gz,Gr] at a3;exact a3.2.2 _ hm _ (by simp) rfl
  refine⟨q5,rfl,aQ,h5,a6,(),λs hs=>?_,λg hg hk=>?_,a9.trans s5,(am.trans s4).trans s5⟩
  .obtain⟨e,he,x,hx,rfl,ai⟩:=(aa s).mp hs
   obtain⟨g,ab,ac,_⟩:=hso e he;obtain⟨v,aZ,rfl⟩:=r_.mp hx;refine⟨cV g y.2.2 v,By ab aZ,?_,λ_=>⟨_,_,ae,ai⟩⟩
   rw[aq,iu,jY ba,ac];simp[fS,bx]
  .rw[aa]
   refine⟨_,hcm g hg hk,y.2.1 * g y.2.2,r_.mpr ⟨g y.2.2,hg _ F,rfl⟩,?_,BO ae hg hk⟩
   rw[aq,iu];simp[fS]
 .rintro σ H3 ⟨q,Y,v4,v5,rfl,h3,hik,hkl,hso,hcm,s3,s13⟩
  rw[d_] at hso hcm;have ag:(as.map (·.2)).take as.length=as.map (·.2):=FX (by simp)
  have aX:(as.map (·.2)).drop as.length=[]:=List.drop_of_length_le (by simp)
  rw[ag] at hcm;simp only[ag,aX] at hso;ctx_has v h3
  refine k _ Y H3 h3 ?_ s3
  have an:0 < as.length:=by
   rcases as with _ | ⟨y,as⟩
   .exact absurd rfl aE
   .simp
  constructor
  .intro hpos
   rcases Y with _ | ⟨y,Y⟩
   .simp at hpos
   obtain⟨e0,bc⟩:=hik y (by simp)
   obtain⟨g,ab,ac,aY⟩:=hso e0 (lP ⟨y.2,by rw[<- bc];simp⟩)
   obtain⟨mn,mx,aO,ai⟩:=aY an;rw[Aa aO] at ai;exact⟨g,ab,by rw[ac];exact ai⟩
  .rintro⟨g,ab,ac⟩
   obtain⟨v,hv⟩:=lW (hcm g ab ac);have:=Hm hv
   omega
theorem nK (T:Txt w K mg) (L:bm K (aN K (au mg "Sum") "may_keep") "may_keep" "Sum.may_keep" dE ["self","rooms"]) (B:FnR P w K mg base (aN K (au mg "Sum") "sums_kept") 4 ["self","rooms"] (pG mg)):FnR P w K mg base (aN K (au mg "Sum") "may_keep") 22 ["self","rooms"] (fW mg):=by
 ctx_has z nL <;> obtain⟨p,r,dat,cs,kvs,rm,rfl,M,k⟩:=h
 .rfl
 refine⟨_,(ay (aI (aX mS (aM yC T.b_len (af (bM T.cl_Sum B (hr.mono (by ctx_has m)) (pvM 0) (af (pvM 1) ap)) ap)) aw))),?_⟩
 obtain⟨dx,fs,te,h1,h2,l1,l2,l3,l4,l5,l6,l7,l8⟩:=id M.ob;ctx_has v h1
 refine⟨l8,p,r,dat,cs,kvs,rm,rfl,M,λq kv Z Y F s3=>?_⟩
 ctx_has v Y
 refine k _ Z ?_ s3
 rw[decide_eq_true_eq,<- F];omega
theorem lS (T:Txt w K mg) (L:bm K (aN K (au mg "Sum") "may_break") "may_break" "Sum.may_break" dg ["self","rooms"]) (Fh : @CM P w K mg base) (Fc : @Dz5 P w K mg base):FnR P w K mg base (aN K (au mg "Sum") "may_break") 22 ["self","rooms"] (fh mg):=by
 ctx_has z mF <;> obtain⟨p,r,dat,cs,kvs,rm,rfl,M,k⟩:=h
 .rfl
 refine⟨_,(ak (aL 2 (aK iR (aC Fh (af (aR T.cl_Sum T.no_Sum_terms (pvM 0)) (af (pvM 1) ap))) aw))
  (ay (aI (jS (AR (aC Fc (af (aK bg (pvM 2) aw) (af (aR T.cl_Sum T.no_Sum_low (pvM 0)) (af (aR T.cl_Sum T.no_Sum_high (pvM 0)) ap))))) (dS (AR (aC Fc (af (aK bg (pvM 2) aw) (af (aR T.cl_Sum T.no_Sum_low (pvM 0)) (af (aR T.cl_Sum T.no_Sum_high (pvM 0)) ap)))))))))),?_⟩
 obtain⟨dx,fs,te,h1,h2,l1,l2,l3,l4,l5,l6,l7,l8⟩:=M.ob;obtain⟨ts,lo,hi⟩:=dat;have Z:=M.ok;have ag:=M.nd;have ae:=M.rd;simp only[Dp] at Z h2 l2 l3;obtain⟨ai,ar,an⟩:=Z;subst ai;have am:=M.cl;rw[d_] at am;ctx_has v h1 l1
 refine⟨te,r,ts,kvs,rm,rfl,h2,ae,M.rf,ag,(),an,λc hc=>(by have:=M.gd c hc;exact⟨λe=>by rw[e] at this;simp at this,()⟩),λsl zs H1 s1 e1 ax ao aq=>?_⟩
 obtain⟨B,F⟩ : ∃B,zs[0]? = some B:=⟨zs[0]'(),by simp⟩
 have ab:B∈zs:=m_ F
 have aj:atI (zs.map λx=>V.ref x.1) 0=some (V.ref B.1):=da (j:=0) (by rw[f_,F];rfl)
 have ac:=aq 0 B F;rw[drop_zero] at ac;have aa:=ao B ab;have g1:=s1 _ _ h1;ctx_has v e1 aj aa g1 l2 l3
 refine⟨B.2.1,lo,hi,rfl,λH2 s2=>?_⟩
 have g2:=(s1.trans s2) _ _ h1;have ad:=s2 _ _ aa;have Y:=uY (lo:=lo) (hi:=hi) ac;cases eb:eU B.2.1 lo hi with
 | false =>
  ctx_has v Bool.not_false
  refine k true H2 ?_ (s1.trans s2)
  refine Iff.trans ?_ Y
  rw[eb];simp
 | true =>
  ctx_has v Hk q_ ad g2 l2 l3
  refine⟨B.2.2,lo,hi,rfl,λH3 s3=>?_⟩
  refine⟨_,rfl,k _ H3 ?_ ((s1.trans s2).trans s3)⟩
  refine Iff.trans ?_ Y
  rw[eb];simp
abbrev rQ:=List Str
def WSU (H:Hp) (w:Addr) (dat:rQ) (cs:List Str):Prop:=∃B,H w>>[.str "unlike",.ref B]/\H B>>(dat.map V.str)
def E4 (dat:rQ) (cs:List Str):Prop:=dat.Perm cs
def OBU (mg:Str->Option Value) (H:Hp) (t:Addr) (dat:rQ) (cs:List Str):Prop:=∃dx fs B,H t=some (.ins (au mg "Unlike") dx fs)/\fs.lookup (b_ "cells")=some (.ref B)/\H B>>(dat.map V.str)/\fs.lookup (b_ "may_keep")=none/\fs.lookup (b_ "may_break")=none
theorem xE {t:Addr} {dat:rQ} (h:OBU mg H t dat cs) : ∃dx fs,H t=some (.ins (au mg "Unlike") dx fs)/\fs.lookup (b_ "may_keep")=none/\fs.lookup (b_ "may_break")=none:=by
 obtain⟨dx,fs,Y,h1,h2,L,B,F⟩:=h;exact⟨dx,fs,h1,B,F⟩
def zg (dat:rQ) (cs:List Str) (g:Str->Int):Bool:=decide ((dat.map g).Nodup)
def sg (mg:Str->Option Value):Sp:=λvs H Q _=>∃(p dx w:Addr) (dat:rQ) (cs:List Str),vs=[.ref p,.ref w]/\H p=some (.ins (au mg "Unlike") dx [])/\WSU H w dat cs/\∀H',OBU mg H' p dat cs->gN p H H'->Q .non H'
structure yN (mg:Str->Option Value) (H:Hp) (p r:Addr) (dat:rQ) (cs:List Str) (kvs:List (Key × V)) (rm:Str->List Int):Prop where
 ob:OBU mg H p dat cs
 rd:H r<*kvs
 rf:bj H kvs cs rm
 ok:E4 dat cs
 nd:cs.Nodup
 cl:cs.length<=5
 gd : ∀c∈cs,1<=(rm c).length/\(rm c).length<=4/\(rm c).Nodup
def fV (mg:Str->Option Value):Sp:=λvs H Q _=>∃(p r:Addr) (dat:rQ) (cs:List Str) (kvs:List (Key × V)) (rm:Str->List Int),vs=[.ref p,.ref r]/\yN mg H p r dat cs kvs rm/\∀(b:Bool) H',(b=true↔∃g,okF rm cs g/\zg dat cs g=true)->aA H H'->Q (.bl b) H'
def fo (mg:Str->Option Value):Sp:=λvs H Q _=>∃(p r:Addr) (dat:rQ) (cs:List Str) (kvs:List (Key × V)) (rm:Str->List Int),vs=[.ref p,.ref r]/\yN mg H p r dat cs kvs rm/\∀(b:Bool) H',(b=true↔∃g,okF rm cs g/\zg dat cs g=false)->aA H H'->Q (.bl b) H'
theorem fK {dat:List Str} (hd:dat.Nodup) : ¬ (dat.map g).Nodup↔∃c∈dat,∃F∈dat,c≠F/\g c=g F:=by
 constructor
 .intro h
  refine F7 λB=>h ?_
  refine G7.mpr (Ha (λ{a b} ha hb q e=>B ⟨a,ha,b,hb,q,e⟩) hd)
 .rintro⟨c,hc,F,hc',hne,e⟩ h
  obtain⟨i,hi,Y⟩:=Gt hc;obtain⟨j,Z,L⟩:=Gt hc';have e1:(dat.map g)[i]? = some (g c):=by simp[hi,Y]
  have e2:(dat.map g)[j]? = some (g c):=by simp[Z,L,e]
  have:=gi h e1 e2
  subst this;exact hne (Y.symm.trans L)
theorem DC {B:Str} (F:c≠B) (Z:v∈rm c) (L:v'∈rm B) (Y : ∀x∈cs,1<=(rm x).length) : ∃g,okF rm cs g/\g c=v/\g B=v':=by
 refine⟨λx=>if x=c then v else if x=B then v' else(rm x).headD 0,λx hx=>?_,by simp,by simp[Gp F]⟩
 by_cases e:x=c
 .subst e;simp;exact Z
 .by_cases e':x=B
  .subst e';simp[e];exact L
  .simp[e,e']
   have:=Y x hx
   cases h:rm x with
   | nil=>rw[h] at this;simp at this
   | cons a b=>simp
def ij (x:Int × Str):Key × V:=(o_ x.1,.str x.2)
def iP (v:Int):Key × V:=(o_ v,.bl true)
def bH:List (Int × Str)->Int->Option Str
 | [],_=>none
 | (w,x) :: r,v=>if w=v then some x else bH r v
def eP:List (Int × Str)->Int->Str->List (Int × Str)
 | [],v,c=>[(v,c)]
 | (w,x) :: r,v,c=>if w=v then(w,c) :: r else(w,x) :: eP r v c
def fC:List (Int × Str)->Str->Nat
 | [],_=>0
 | (_,x) :: r,y=>(if x=y then 1 else 0)+fC r y
theorem lR : ∀(hl:List (Int × Str)) (v:Int),bY (hl.map ij) (o_ v)=(bH hl v).map V.str
 | [],v=>rfl
 | (w,x) :: r,v=>by
  rw[y3]
  by_cases h:w=v
  .subst h
   rw[show ij (w,x)=(o_ w,.str x) from rfl,bN rfl]
   simp[bH]
  .rw[show ij (w,x)=(o_ w,.str x) from rfl,bb (λz=>h (Hu z)),lR r v]
   simp[bH,h]
theorem vY {k B:Key} {v v':V} {r:List (Key × V)}:bE ((k,v) :: r) B v'=if k=B then(k,v') :: r.map (λF=>if F.1=B then(F.1,v') else F) else(k,v) :: bE r B v':=by
 unfold bE
 by_cases h:k=B
 .simp[h]
 .simp only[any_cons,decide_eq_false h,Bool.false_or,if_neg h,y3]
  split <;> simp
theorem mU {B:Key} {v':V} : ∀{r:List (Key × V)},bY r B=none->r.map (λF=>if F.1=B then(F.1,v') else F)=r
 | [],_=>rfl
 | (k,v) :: r,h=>by
  by_cases e:k=B
  .rw[bN e] at h;cases h
  .rw[bb e] at h
   rw[y3,mU h];simp[e]
theorem we {hl:List (Int × Str)} (h:v∉hl.map (·.1)):bH hl v=none:=by
 induction hl with
 | nil=>rfl
 | cons p r B =>
  obtain⟨w,x⟩:=p;simp at h
  unfold bH;rw[if_neg (λz=>h.1 z.symm)]
  exact B (by simpa using h.2)
theorem lE : ∀{hl:List (Int × Str)} (v:Int) (c:Str),(hl.map (·.1)).Nodup->bE (hl.map ij) (o_ v) (.str c)=(eP hl v c).map ij
 | [],v,c,_=>rfl
 | (w,x) :: r,v,c,hn=>by
  rw[y3,FG] at hn;rw[y3,show ij (w,x)=(o_ w,.str x) from rfl,vY]
  by_cases h:w=v
  .subst h
   rw[if_pos rfl,mU (by rw[lR,we hn.1];rfl)]
   simp[eP,ij]
  .rw[if_neg (λz=>h (Hu z)),lE v c hn.2]
   simp[eP,h,ij]
theorem lK (v:Int) (c:Str) (v':Int) : ∀hl:List (Int × Str),bH (eP hl v c) v'=if v'=v then some c else bH hl v'
 | []=>by
  by_cases h:v'=v
  .subst h;simp[eP,bH]
  .simp[eP,bH,h,Gp h]
 | (w, x) :: r=>by
  unfold eP
  by_cases h:w=v
  .subst h
   by_cases h2:v'=w
   .subst h2;simp[bH]
   .simp[bH,h2,Gp h2]
  .rw[if_neg h]
   by_cases h2:w=v'
   .subst h2
    simp[bH,h]
   .simp only[bH,if_neg h2,lK v c v' r]
theorem qC (v:Int) (c:Str) : ∀{hl:List (Int × Str)},(hl.map (·.1)).Nodup->((eP hl v c).map (·.1)).Nodup/\∀w,w∈(eP hl v c).map (·.1)↔w=v\/w∈hl.map (·.1)
 | [],_=>by simp[eP]
 | (w, x) :: r,hn=>by
  rw[y3,FG] at hn;unfold eP
  by_cases h:w=v
  .subst h
   rw[if_pos rfl];refine⟨by simpa using hn,λu=>?_⟩
   simp
  .rw[if_neg h]
   have B:=qC v c hn.2;refine⟨?_,λu=>?_⟩
   .rw[y3,FG]
    refine⟨λz=>?_,B.1⟩
    rcases (B.2 w).mp z with e | e
    .exact h e
    .exact hn.1 e
   .rw[y3,u_,B.2 u,y3,u_]
    constructor
    .rintro(e | e | e)
     .exact .inr (.inl e)
     .exact .inl e
     .exact .inr (.inr e)
    .rintro(e | e | e)
     .exact .inr (.inl e)
     .exact .inl e
     .exact .inr (.inr e)
theorem ow (v:Int) (c y:Str) : ∀{hl:List (Int × Str)},(hl.map (·.1)).Nodup->fC (eP hl v c) y+(if bH hl v=some y then 1 else 0)=fC hl y+(if c=y then 1 else 0)
 | [],_=>by simp[eP,fC,bH]
 | (w,x) :: r,hn=>by
  rw[y3,FG] at hn;unfold eP bH
  by_cases h:w=v
  .subst h
   rw[if_pos rfl,if_pos rfl];simp only[fC,Option.some.injEq]
   split <;> split <;> omega
  .rw[if_neg h,if_neg h]
   have B:=ow v c y hn.2;simp only[fC];omega
theorem uH {v:Int} {c:Str} {x:Int × Str} : ∀{hl:List (Int × Str)},x∈eP hl v c->x=(v,c)\/x∈hl
 | [],h=>by simp[eP] at h;exact .inl h
 | (w, z) :: r,h=>by
  unfold eP at h
  by_cases e:w=v
  .subst e
   rw[if_pos rfl] at h;rcases u_.mp h with q | q
   .exact .inl q
   .exact .inr (by simp[q])
  .rw[if_neg e] at h
   rcases u_.mp h with q | q
   .exact .inr (by simp[q])
   .rcases uH q with q | q
    .exact .inl q
    .exact .inr (by simp[q])
theorem gE {v:Int} {x:Str} : ∀{hl:List (Int × Str)},bH hl v=some x->(v,x)∈hl
 | (w,z) :: r,h=>by
  unfold bH at h
  by_cases e:w=v
  .subst e;rw[if_pos rfl] at h;cases h;simp
  .rw[if_neg e] at h;simp[gE h]
theorem my {v:Int} {x:Str} : ∀{hl:List (Int × Str)},(hl.map (·.1)).Nodup->(v,x)∈hl->bH hl v=some x
 | (w,z) :: r,hn,h=>by
  rw[y3,FG] at hn;rcases u_.mp h with q | q
  .cases q;simp[bH]
  .have hne:w≠v:=λe=>hn.1 (by subst e;exact r_.mpr ⟨_,q,rfl⟩)
   unfold bH;rw[if_neg hne];exact my hn.2 q
theorem jU:(bY (tl.map iP) (o_ v)).isSome=decide (v∈tl):=by
 induction tl with
 | nil=>rfl
 | cons w r B =>
  rw[y3]
  by_cases h:w=v
  .subst h
   rw[show iP w=(o_ w,.bl true) from rfl,bN rfl]
   simp
  .rw[show iP w=(o_ w,.bl true) from rfl,bb (λz=>h (Hu z)),B]
   simp[Gp h]
theorem yg (h:v∉tl):bE (tl.map iP) (o_ v) (.bl true)=(tl++[v]).map iP:=by
 rw[gj]
 .simp[iP]
 .have:=jU (tl:=tl) (v:=v)
  rw[decide_eq_false h] at this;cases e:bY (tl.map iP) (o_ v) with
  | none=>rfl
  | some x=>rw[e] at this;cases this
structure eL (H:Hp) (r ha ta:Addr) (CS:List Str) (kvs:List (Key × V)) (rm:Str->List Int) (U:List Int) (hl:List (Int × Str)) (tl:List Int):Prop where
 rd:H r<*kvs
 rf:bj H kvs CS rm
 hh:H ha<*(hl.map ij)
 ht:H ta<*(tl.map iP)
 ne:r≠ha/\r≠ta/\ha≠ta
 hk:(hl.map (·.1)).Nodup
 hv : ∀x∈hl,x.2∈CS/\x.1∈rm x.2
 tn:tl.Nodup
 tu : ∀v∈tl,v∈U
 ru : ∀x∈CS,∀v∈rm x,v∈U
 ul:U.length<=100
 rl : ∀x∈CS,(rm x).length<=100
def jI (n:Nat):Sp:=λvs H Q _=>∃(r ha ta:Addr) (CS:List Str) (kvs:List (Key × V)) (rm:Str->List Int) (U:List Int) (hl:List (Int × Str)) (tl:List Int) (c:Str),vs=[.str c,.ref r,.ref ha,.ref ta]/\eL H r ha ta CS kvs rm U hl tl/\c∈CS/\(U.filter λv=>decide (v∉tl)).length<=n /\
 ∀ (b:Bool) (F:List (Int × Str)) (B:List Int) (H':Hp),eL H' r ha ta CS kvs rm U F B->(∀v∈tl,v∈B)->(∀a o,a≠ha->a≠ta->H a=some o->H' a=some o) ->
  (b=true->(∀y,fC F y=fC hl y+if c=y then 1 else 0)/\∀v∈tl,bH F v=bH hl v)->(b=false->F=hl/\(∀v∈rm c,v∈B)/\∀v∈B,v∉tl->∃x,bH hl v=some x/\∀v'∈rm x,v'∈B)->Q (.bl b) H'
theorem eL.small {r ta:Addr} {hl:List (Int × Str)} (k:eL H r ha ta CS kvs rm U hl tl):hl.length<=100/\tl.length<=100:=by
 have h1:=fH k.tn k.tu;have h2:=fH (ys:=U) k.hk λv hv=>by
  obtain⟨x,B,rfl⟩:=r_.mp hv;exact k.ru _ (k.hv x B).1 _ (k.hv x B).2
 rw[d_] at h2;have:=k.ul
 omega
theorem eL.tryV {r ta:Addr} {hl:List (Int × Str)} (k:eL H r ha ta CS kvs rm U hl tl) (hv:v∉tl) (L:v∈U):eL (upd H ta (.dK ((tl++[v]).map iP))) r ha ta CS kvs rm U hl (tl++[v]):=by
 refine⟨by rw[ao k.ne.2.1];exact k.rd,k.rf.same λa vs e=>by rw[ao (bo e k.ht (by intro z;cases z))];exact e,by rw[ao k.ne.2.2];exact k.hh,ah,k.ne,k.hk,k.hv,?_,λx F=>?_,k.ru,k.ul,k.rl⟩
 .rw[Gr]
  exact⟨k.tn,by simp,λa ha b B=>by rw[g_.mp B];rintro rfl;exact hv ha⟩
 .rcases y8.mp F with q | q
  .exact k.tu x q
  .rw[g_.mp q];exact L
theorem eL.hold {r ta:Addr} {hl:List (Int × Str)} (k:eL H r ha ta CS kvs rm U hl tl) (B:c∈CS) (hv:v∈rm c):eL (upd H ha (.dK ((eP hl v c).map ij))) r ha ta CS kvs rm U (eP hl v c) tl:=by
 refine⟨by rw[ao k.ne.1];exact k.rd,k.rf.same λa vs e=>by rw[ao (bo e k.hh (by intro z;cases z))];exact e,ah,by rw[ao k.ne.2.2.symm];exact k.ht,k.ne,(qC v c k.hk).1,λx F=>?_,k.tn,k.tu,k.ru,k.ul,k.rl⟩
 rcases uH F with q | q
 .rw[q];exact⟨B,hv⟩
 .exact k.hv x q
theorem wA {F:List Int} (h : ∀v∈tl,v∈F):(U.filter λx=>decide (x∉F)).length<=(U.filter λx=>decide (x∉tl)).length:=by
 induction U with
 | nil=>simp
 | cons a r B =>
  rw[GF,GF]
  by_cases h1:a∈tl
  .have h2:=h a h1
   simp[h1,h2];simpa using B
  .by_cases h2:a∈F
   .simp[h1,h2];have:=B;simp at this;omega
   .simp[h1,h2];simpa using B
theorem AK (L:v∈U) (Y:v∉tl):(U.filter λx=>decide (x∉tl++[v])).length < (U.filter λx=>decide (x∉tl)).length:=by
 induction U with
 | nil=>simp at L
 | cons a r B =>
  have F : ∀r:List Int,(r.filter λx=>decide (x∉tl++[v])).length<=(r.filter λx=>decide (x∉tl)).length:=by
   intro r
   induction r with
   | nil=>simp
   | cons b r B =>
    rw[GF,GF]
    by_cases h1:b∈tl
    .simp[h1];simpa using B
    .by_cases h2:b=v
     .subst h2;simp[h1];have:=B;simp at this;omega
     .simp[h1,h2];simpa using B
  rw[GF,GF]
  by_cases h2:a=v
  .subst h2
   have:=F r
   simp[Y]
   simp at this
   omega
  .have hr:v∈r:=by
    rcases u_.mp L with q | q
    .exact absurd q.symm h2
    .exact q
   have:=B hr
   by_cases h1:a∈tl
   .simp[h1];simpa using this
   .simp[h1,h2];simpa using this
theorem kX (T:Txt w K mg) (L:bm K (fE K (au mg "Wish") "__init__") "__init__" "Wish.__init__" bi ["self","wish"]):FnR P w K mg base (fE K (au mg "Wish") "__init__") 1 ["self","wish"] (cq mg "Unlike"):=by
 ctx_has z cg <;> obtain⟨p,dx,fs,w,rfl,hp,B,k⟩:=h
 .rfl
 refine⟨_,(ay (bF T.cl_Unlike T.no_Unlike_wish (pvM 0) (pvM 1) rfl)),?_⟩
 ctx_has v hp
 exact⟨B,k⟩
theorem kn (T:Txt w K mg) (L:bm K (Mk K (au mg "Unlike")) "__init__" "Unlike.__init__" cB ["self","wish"]) (B:FnR P w K mg base (fE K (au mg "Wish") "__init__") 1 ["self","wish"] (cq mg "Unlike")):FnR P w K mg base (Mk K (au mg "Unlike")) 2 ["self","wish"] (sg mg):=by
 ctx_has z kf <;> obtain⟨p,dx,w,dat,cs,rfl,hp,W,k⟩:=h
 .rfl
 refine⟨_,(ak (dz (iJ B (hr.mono (by ctx_has m)) rfl T.at_Wish (af (pvM 0) (af (pvM 1) ap))))
  (ay (bF T.cl_Unlike T.no_Unlike_cells (pvM 0) (aK bg (pvM 1) aw) rfl))),?_⟩
 obtain⟨ce,F,Z⟩:=W;ctx_has v F
 have pw:w≠p:=bo F hp (by intro z;cases z)
 have Y:ce≠p:=bo Z hp (by intro z;cases z)
 refine⟨p,dx,[],.ref w,rfl,hp,∅,?_⟩
 ctx_has v ah
 refine⟨_,by rw[ao pw];exact F,?_⟩
 ctx_has v
 refine⟨Gc (eW _ _ _) ∅,k _ ⟨dx,_,ce,ah,?_,by rw[ao Y,ao Y];exact Z,?_⟩ ?_⟩
 .simp only[cy,gy,String.reduceEq,if_true,if_false]
 .simp only[cy,gy,String.reduceEq,if_true,if_false,true_and,Iu,and_self]
 .intro b o hb e
  rw[ao hb,ao hb];exact e
theorem jO (T:Txt w K mg) (L:bm K (aN K (au mg "Unlike") "may_break") "may_break" "Unlike.may_break" bZ ["self","rooms"]):FnR P w K mg base (aN K (au mg "Unlike") "may_break") 22 ["self","rooms"] (fo mg):=by
  ctx_has z jJ <;> obtain⟨p,r,dat,cs,kvs,rm,rfl,M,k⟩:=h
  . rfl
  refine⟨_,(ak (aL 2 gh)
    (ak (bD (cK K (aR T.cl_Unlike T.no_Unlike_cells (pvM 0))) (aJ 3) (ay (bD (cK K (cm hu (pvM 1) (pvM 3))) (aJ 4) (ak (bS (mE (Bh hu (pvM 4) (pvM 2))) (ay (aI dU)) aV)
    (ay (iq hu (pvM 2) (pvM 4) dU rfl))))))
    (ay (aI dU)))),?_⟩
  obtain⟨dx,fs,ce,h1,f1,aw,_,_⟩:=M.ob;have a9:=M.rd;have am:dat.Nodup:=M.ok.nodup_iff.mpr M.nd
  have aG:dat.length=cs.length:=M.ok.length_eq
  have aK:=M.cl;have ac : ∀c∈dat,c∈cs:=λc hc=>M.ok.mem_iff.mp hc
  ctx_has v
  intro se ar;have s1:aA H (upd H se (.dK [])):=aA.upd0 ar
  refine⟨dx,fs,s1 _ _ h1,_,f1,ce,rfl,_,s1 _ _ aw,?_⟩
  refine cL ba (λi σ H'=>∃(sv:List (Key × V)) (v3 v4:Option V),σ=[-p,-r,-se,v3,v4]/\H' se<*sv/\(∀v:Int,(bY sv (o_ v)).isSome=true↔∃c∈dat.take i,v∈rm c)/\(∀c∈dat.take i,∀Y∈dat.take i,c≠Y->∀v∈rm c,v∉rm Y)/\sv.length<=4 * i/\aA H H')
    ⟨[],_,_,rfl,ah,by simp[bY],by simp,by simp,s1⟩ (λi σ H' aq=>by obtain⟨_,_,_,_,_,_,_,_,sm⟩:=aq;exact(.of (sm _ _ aw))) ?_ ?_
  . rintro i x σ H2 hi hx ⟨sv,v3,v4,rfl,h2,a6,ab,a1,ae⟩
    rw[d_] at hi;obtain⟨c,an,rfl⟩ : ∃c,dat[i]? = some c/\V.str c=x:=by
      rw[f_] at hx;cases e:dat[i]? with
      | none=>rw[e] at hx;cases hx
      | some nm=>rw[e] at hx;exact⟨nm,rfl,h_ hx⟩
    have a3:c∈dat:=m_ an
    have a4:=ac c a3;have a0:dat.take (i+1)=dat.take i++[c]:=by rw[za,an];rfl
    have aD:c∉dat.take i:=λhm=>by
      obtain⟨j,hj,e⟩:=Gt hm;have a2:j < i:=by simp at hj;omega
      have e2:dat[j]? = some c:=by rw[<- e,List.getElem_take];simp
      have:=gi am e2 an
      omega
    obtain⟨ra,a8,ax⟩:=M.rf c a4;obtain⟨g1,g2,g3⟩:=M.gd c a4;have aF:=ae _ _ a9;have a5:=ae _ _ ax;ctx_has v aF a8 a5
    refine cL ba (λj σ H'=>∃(sv:List (Key × V)) (v4:Option V),σ=[-p,-r,-se,some (.str c),v4]/\H' se<*sv/\(∀v:Int,(bY sv (o_ v)).isSome=true↔(∃c∈dat.take i,v∈rm c)\/v∈(rm c).take j)/\(∀v∈(rm c).take j,∀Y∈dat.take i,v∉rm Y)/\sv.length<=4 * i+j/\aA H H')
      ⟨sv,_,rfl,h2,λv=>by rw[a6 v];simp,by simp,a1,ae⟩ (λi σ H' a7=>by obtain⟨_,_,_,_,_,_,_,sm⟩:=a7;exact(.of (sm _ _ ax))) ?_ ?_
    . rintro j y σ H3 hj hy ⟨sv,v4,rfl,h3,B,ad,ag,af⟩
      rw[d_] at hj;obtain⟨v,aj,rfl⟩ : ∃v,(rm c)[j]? = some v/\V.int v=y:=by
        rw[f_] at hy;cases e:(rm c)[j]? with
        | none=>rw[e] at hy;cases hy
        | some nm=>rw[e] at hy;exact⟨nm,rfl,h_ hy⟩
      have aE:v∈rm c:=m_ aj
      have aC:v∉(rm c).take j:=λhm=>by
        obtain⟨j',a2,e⟩:=Gt hm;have aH:j' < j:=by simp at a2;omega
        have e2:(rm c)[j']? = some v:=by rw[<- e,List.getElem_take];simp
        have:=gi g3 e2 aj
        omega
      have ai:(rm c).take (j+1)=(rm c).take j++[v]:=by rw[za,aj];rfl
      ctx_has v h3
      refine fF (λh=>?_) (λh=>?_)
      . refine k true H3 ⟨λ_=>?_,λ_=>rfl⟩ af
        rcases (B v).mp h with⟨Y,Z,F⟩ | z
        . have aa:c≠Y:=λe=>aD (e ▸ Z)
          obtain⟨g,hg,e1,e2⟩:=DC aa aE F (λx hx=>(M.gd x hx).1) (cs:=cs)
          refine⟨g,hg,decide_eq_false ((fK am).mpr ⟨c,a3,Y,Hg Z,aa,by rw[e1,e2]⟩)⟩
        . exact absurd z aC
      . have aB : ¬ ((∃c∈dat.take i,v∈rm c)\/v∈(rm c).take j):=λz=>h ((B v).mpr z)
        refine⟨aU (),bE sv (o_ v) (.bl true),ah,λv'=>?_,λv' F Y Z ap=>?_,w_ (du _ _ _) (),λb o e=>?_⟩
        . rw[jb]
          by_cases ev:v'=v
          . subst ev
            rw[if_pos rfl,ai];simp
          . rw[if_neg (λz=>ev (Hu z)),B v',ai]
            simp[ev]
        . rw[ai] at F
          rcases y8.mp F with z | z
          . exact ad v' z Y Z ap
          . rw[g_.mp z] at ap
            exact aB (.inl ⟨Y,Z,ap⟩)
        . rw[ao (az e ar)];exact af b o e
    . rintro σ H3 ⟨sv,v4,rfl,h3,B,ad,ag,af⟩
      rw[d_,FV] at B ad;rw[d_] at ag;refine⟨sv,_,_,rfl,h3,λv=>?_,λx hx y hy aa v hv F=>?_,(),af⟩
      . rw[B v,a0]
        constructor
        . rintro(⟨Y,h5,h6⟩ | h5)
          . exact⟨Y,A_ _ h5,h6⟩
          . exact⟨c,by simp,h5⟩
        . rintro⟨Y,h5,h6⟩
          rcases y8.mp h5 with z | z
          . exact .inl ⟨Y,z,h6⟩
          . rw[g_.mp z] at h6;exact .inr h6
      . rw[a0] at hx hy
        rcases y8.mp hx with z | z
        . rcases y8.mp hy with z' | z'
          . exact ab x z y z' aa v hv F
          . rw[g_.mp z'] at F
            exact ad v F x z hv
        . rw[g_.mp z] at hv aa
          rcases y8.mp hy with z' | z'
          . exact ad v hv y z' F
          . exact aa (g_.mp z').symm
  . rintro σ H2 ⟨sv,v3,v4,rfl,h2,a6,ab,a1,ae⟩
    rw[d_,FV] at ab;ctx_has v
    refine k false H2 ⟨λz=>(by cases z),?_⟩ ae
    rintro⟨g,hg,hk⟩
    obtain⟨c,hc,Y,Z,aa,e⟩:=(fK am).mp (of_decide_eq_false hk);exact absurd (e ▸ hg Y (ac Y Z)) (λz=>ab c hc Y Z aa (g c) (hg c (ac c hc)) z)
theorem nQ (T : Txt w K mg) (L:FnL K mg "finds_value" cM ["cell","rooms","holders","tried"]) (Fe:Fn P w K mg base "finds_value" (n+1) ["cell","rooms","holders","tried"] (jI n)):Fn P w K mg base "finds_value" (n+1+1) ["cell","rooms","holders","tried"] (jI (n+1)):=by
  ctx_has z jf <;> obtain⟨r,ha,ta,CS,kvs,rm,U,hl,tl,c,rfl,k0,hc,hm,k⟩:=h
  . rfl
  refine⟨_,(ak (bD (cK K (cm hu (pvM 1) (pvM 0))) (aJ 4) (ay (bS (mE (ir hu (pvM 4) (pvM 3))) (ak (iq hu (pvM 3) (pvM 4) dU rfl)
    (ay (bS (PW.pt (qK (mE (ir hu (pvM 4) (pvM 2))) (lU (gp (aC Fe (af (cm hu (pvM 2) (pvM 4)) (af (pvM 1) (af (pvM 2) (af (pvM 3) ap))))))))) (ak (iq hu (pvM 2) (pvM 4) (pvM 0) rfl)
    (ay (aI dU))) aV))) aV)))
    (ay (aI dU))),?_⟩
  obtain⟨ra,a3,ae⟩:=k0.rf c hc;have a6:=k0.rd;ctx_has v a6 a3 ae
  refine cL ba (λj σ H'=>∃(Z:List Int) (v4:Option V),σ=[some (.str c),-r,-ha,-ta,v4]/\eL H' r ha ta CS kvs rm U hl Z/\(∀v∈tl,v∈Z)/\(∀v∈(rm c).take j,v∈Z)/\(∀v∈Z,v∉tl->∃x,bH hl v=some x/\∀v'∈rm x,v'∈Z)/\∀a o,a≠ha->a≠ta->H a=some o->H' a=some o)
    ⟨tl,_,rfl,k0,λv h=>h,by simp,λv h h'=>absurd h h',λa o _ _ e=>e⟩ (λj σ H' ax=>by obtain⟨_,_,_,_,_,_,_,kp⟩:=ax;exact(.of (kp _ _ (bo ae k0.hh (by intro z;cases z)) (bo ae k0.ht (by intro z;cases z)) ae))) ?_ ?_
  . rintro j y σ H1 hj hy ⟨Z,v4,rfl,k1,Y,F,ac,kp⟩
    rw[d_] at hj;obtain⟨v,an,rfl⟩ : ∃v,(rm c)[j]? = some v/\V.int v=y:=by
      rw[f_] at hy;cases e:(rm c)[j]? with
      | none=>rw[e] at hy;cases hy
      | some nm=>rw[e] at hy;exact⟨nm,rfl,h_ hy⟩
    have aj:v∈rm c:=m_ an
    have am:(rm c).take (j+1)=(rm c).take j++[v]:=by rw[za,an];rfl
    have ar:=k1.ru c hc v aj;have a4:=k1.ht;ctx_has v a4
    rw[jU];refine fF (λh=>?_) (λh=>?_)
    . have ad:v∉Z:=by simpa using h
      have ag:v∉tl:=λz=>ad (Y v z)
      rw[yg ad];have k2:=k1.tryV ad ar;have a1:=k2.hh;have ai : ∀a o,a≠ha->a≠ta->H a=some o->upd H1 ta (.dK ((Z++[v]).map iP)) a=some o:=λa o h1 h2 e=>by rw[ao h2];exact kp a o h1 h2 e
      generalize upd H1 ta (.dK ((Z++[v]).map iP))=H2 at k2 a1 ai ⊢;have ab : ∀u∈tl,u∈Z++[v]:=λu B=>A_ _ (Y u B)
      refine⟨Gc (show(Z.map iP).length<=100 by rw[d_];exact k1.small.2) ∅,?_⟩
      ctx_has v a1
      rw[lR];cases hg:bH hl v with
      | none =>
        ctx_has v Option.map_none
        simp only[Option.isSome_none,Bool.not_false,if_true];refine⟨Gc (show(hl.map ij).length<=100 by rw[d_];exact k2.small.1) ∅,?_⟩
        rw[lE v c k2.hk];refine k true (eP hl v c) (Z++[v]) _ (k2.hold hc aj) ab (λa o h1 h2 e=>by rw[ao h1];exact ai a o h1 h2 e) (λ_=>⟨λy=>?_,λu B=>?_⟩) (λz=>by cases z)
        . have h1:=ow v c y k2.hk
          rw[hg,if_neg (by intro z;cases z)] at h1
          exact h1
        . rw[lK,if_neg (show ¬ u=v from λe=>ag (e ▸ B))]
      | some x =>
        simp only[Iv,isSome_some,Hk,q_,if_false];rw[if_neg ∅]
        have a9:=gE hg;refine⟨_,rfl,r,ha,ta,CS,kvs,rm,U,hl,Z++[v],x,rfl,k2,(k2.hv _ a9).1,?_,λb2 az aw H3 k3 aa a8 ht hf=>⟨b2,rfl,?_⟩⟩
        . have h1:=AK ar ad
          have h2:=wA (U:=U) Y;omega
        have aq : ∀a o,a≠ha->a≠ta->H a=some o->H3 a=some o:=λa o h1 h2 e=>a8 a o h1 h2 (ai a o h1 h2 e)
        cases b2 with
        | true =>
          rw[if_pos rfl];obtain⟨a0,au⟩:=ht rfl;refine⟨_,k3.hh,Gc (show(az.map ij).length<=100 by rw[d_];exact k3.small.1) ∅,?_⟩
          rw[lE v c k3.hk];refine k true (eP az v c) aw _ (k3.hold hc aj) (λu B=>aa u (ab u B)) (λa o h1 h2 e=>by rw[ao h1];exact aq a o h1 h2 e) (λ_=>⟨λy=>?_,λu B=>?_⟩) (λz=>by cases z)
          . have h1:=ow v c y k3.hk
            have h2:=a0 y;rw[au v (by simp),hg] at h1
            simp only[Option.some.injEq] at h1;omega
          . rw[lK,if_neg (show ¬ u=v from λe=>ag (e ▸ B))]
            exact au u (ab u B)
        | false =>
          rw[if_neg ∅]
          obtain⟨rfl,a5,a2⟩:=hf rfl;refine⟨aw,k3,λu B=>aa u (ab u B),λu B=>?_,λu B aB=>?_,aq⟩
          . rw[am] at B
            rcases y8.mp B with q | q
            . exact aa u (A_ _ (F u q))
            . rw[g_.mp q];exact aa v (by simp)
          . by_cases h1:u∈Z
            . obtain⟨x',h2,h3⟩:=ac u h1 aB
              exact⟨x',h2,λv' a7=>aa v' (A_ _ (h3 v' a7))⟩
            . by_cases h2:u=v
              . subst h2;exact⟨x,hg,a5⟩
              . exact a2 u B (by simp[h1,h2])
    . have ad:v∈Z:=by simpa using h
      refine⟨Z,k1,Y,λu B=>?_,ac,kp⟩
      rw[am] at B;rcases y8.mp B with q | q
      . exact F u q
      . rw[g_.mp q];exact ad
  . rintro σ H1 ⟨Z,v4,rfl,k1,Y,F,ac,kp⟩
    rw[d_,FV] at F;ctx_has v
    exact k false hl Z H1 k1 Y kp (λz=>by cases z) (λ_=>⟨rfl,F,ac⟩)
theorem nS (T:Txt w K mg) (L:FnL K mg "finds_value" cM ["cell","rooms","holders","tried"]):Fn P w K mg base "finds_value" (0+1) ["cell","rooms","holders","tried"] (jI 0):=by
 ctx_has z jf <;> obtain⟨r,ha,ta,CS,kvs,rm,U,hl,tl,c,rfl,Z,hc,hm,k⟩:=h
 .rfl
 refine⟨_,(ak (bD (cK K (cm hu (pvM 1) (pvM 0))) (aJ 4) (ay (bS (mE (ir hu (pvM 4) (pvM 3))) (ak (iq hu (pvM 3) (pvM 4) dU rfl)
  (ay (bS (PW.pt (qK (mE (ir hu (pvM 4) (pvM 2))) (lU (gp AE)))) (ak (iq hu (pvM 2) (pvM 4) (pvM 0) rfl)
  (ay (aI dU))) aV))) aV)))
  (ay (aI dU))),?_⟩
 obtain⟨ra,am,F⟩:=Z.rf c hc;have ae:=Z.rd;ctx_has v ae am F
 refine cL ba (λj σ H'=>∃(B:List Int) (v4:Option V),σ=[some (.str c),-r,-ha,-ta,v4]/\eL H' r ha ta CS kvs rm U hl B/\(∀v∈tl,v∈B)/\(∀v∈(rm c).take j,v∈B)/\(∀v∈B,v∉tl->∃x,bH hl v=some x/\∀v'∈rm x,v'∈B)/\∀a o,a≠ha->a≠ta->H a=some o->H' a=some o)
  ⟨tl,_,rfl,Z,λv h=>h,by simp,λv h h'=>absurd h h',λa o _ _ e=>e⟩ (λj σ H' ad=>by obtain⟨_,_,_,_,_,_,_,kp⟩:=ad;exact(.of (kp _ _ (bo F Z.hh (by intro z;cases z)) (bo F Z.ht (by intro z;cases z)) F))) ?_ ?_
 .rintro j y σ H1 hj hy ⟨B,v4,rfl,k1,hsub,hdone,hclo,kp⟩
  rw[d_] at hj;obtain⟨v,ab,rfl⟩ : ∃v,(rm c)[j]? = some v/\V.int v=y:=by
   rw[f_] at hy;cases e:(rm c)[j]? with
   | none=>rw[e] at hy;cases hy
   | some nm=>rw[e] at hy;exact⟨nm,rfl,h_ hy⟩
  have aj:v∈rm c:=m_ ab
  have ai:(rm c).take (j+1)=(rm c).take j++[v]:=by rw[za,ab];rfl
  have ag:=k1.ru c hc v aj;have af:=k1.ht;ctx_has v af
  rw[jU];refine fF (λh=>?_) (λh=>?_)
  .have hvn:v∉B:=by simpa using h
   have aa:v∉tl:=λz=>hvn (hsub v z)
   exfalso
   have ac:v∈U.filter (λx=>decide (x∉tl)):=GX.mpr ⟨ag,decide_eq_true aa⟩
   have:=Hm ac
   omega
  .have hvn:v∈B:=by simpa using h
   refine⟨B,k1,hsub,λu Y=>?_,hclo,kp⟩
   rw[ai] at Y;rcases y8.mp Y with q | q
   .exact hdone u q
   .rw[g_.mp q];exact hvn
 .rintro σ H1 ⟨B,v4,rfl,k1,hsub,hdone,hclo,kp⟩
  rw[d_,FV] at hdone;ctx_has v
  exact k false hl B H1 k1 hsub kp (λz=>by cases z) (λ_=>⟨rfl,hdone,hclo⟩)
theorem uv {P:Program} {w:World} {K:j_} {mg:Str->Option Value} {base:Heap} (T:Txt w K mg) (L:FnL K mg "finds_value" cM ["cell","rooms","holders","tried"]) : ∀n,Fn P w K mg base "finds_value" (n+1) ["cell","rooms","holders","tried"] (jI n)
 | 0=>nS T L
 | n+1=>nQ T L (uv T L n)
theorem nZ {v:Int} {x:Str} : ∀{hl:List (Int × Str)},(v,x)∈hl->1<=fC hl x
 | (w,z) :: r,h=>by
  simp only[fC];rcases u_.mp h with q | q
  .cases q;rw[if_pos rfl];omega
  .have:=nZ q;omega
theorem xz {v v':Int} {x:Str} (B:v≠v') : ∀{hl:List (Int × Str)},(v,x)∈hl->(v',x)∈hl->2<=fC hl x
 | (w, z) :: r,h,h'=>by
  simp only[fC];rcases u_.mp h with q | q
  .rcases u_.mp h' with q' | q'
   .cases q;cases q';exact absurd rfl B
   .cases q
    have:=nZ q'
    rw[if_pos rfl];omega
  .rcases u_.mp h' with q' | q'
   .cases q'
    have:=nZ q
    rw[if_pos rfl];omega
   .have:=xz B q q';omega
theorem xt {x:Str} : ∀{hl:List (Int × Str)},1<=fC hl x->∃v,(v,x)∈hl
 | [],h=>by simp[fC] at h
 | (w,z) :: r,h=>by
  by_cases e:z=x
  .subst e;exact⟨w,by simp⟩
  .simp only[fC,if_neg e] at h
   obtain⟨v,B⟩:=xt (x:=x) (hl:=r) ()
   exact⟨v,by simp[B]⟩
theorem yF {hl:List (Int × Str)} (tn:tl.Nodup) (h0:fC hl c=0) (h1 : ∀y,fC hl y<=1) (hc : ∀v∈rm c,v∈tl) (L : ∀v∈tl,∃x,bH hl v=some x/\∀v'∈rm x,v'∈tl)
  (inj : ∀x y,(x=c\/∃v,bH hl v=some x)->(y=c\/∃v,bH hl v=some y)->g x=g y->x=y) (aa:g c∈rm c) (ab : ∀v x,bH hl v=some x->g x∈rm x):False:=by
 have Y : ∀v∈tl,bH hl v=some ((bH hl v).getD c):=λv F=>by obtain⟨x,e,_⟩:=L v F;rw[e];rfl
 have Z:(c :: tl.map λv=>(bH hl v).getD c).Nodup:=by
  rw[FG];refine⟨λz=>?_,G7.mpr (Ha (λ{a b} ha hb q e=>?_) tn)⟩
  .obtain⟨v,F,e⟩:=r_.mp z
   have h2:=nZ (gE (Y v F));rw[e] at h2;omega
  .have h2:=xz q (gE (Y a ha)) (by rw[e];exact gE (Y b hb))
   have:=h1 ((bH hl a).getD c)
   omega
 have B : ∀y∈(c :: tl.map λv=>(bH hl v).getD c),(y=c\/∃v,bH hl v=some y)/\g y∈tl:=λy hy=>by
  rcases u_.mp hy with q | q
  .subst q;exact⟨.inl rfl,hc _ aa⟩
  .obtain⟨v,F,rfl⟩:=r_.mp q
   obtain⟨x,e,hx⟩:=L v F;have e':=Y v F;refine⟨.inr ⟨v,e'⟩,?_⟩
   have:(bH hl v).getD c=x:=by rw[e];rfl
   rw[this];exact hx _ (ab v x e)
 have hg:((c :: tl.map λv=>(bH hl v).getD c).map g).Nodup:=G7.mpr (Ha (λ{a b} ha hb q e=>q (inj a b (B a ha).1 (B b hb).1 e)) Z)
 have:=fH (ys:=tl) hg λv F=>by
  obtain⟨y,hy,rfl⟩:=r_.mp F;exact(B y hy).2
 simp at this
 omega
def AF (hl:List (Int × Str)) (y:Str):Int:=((hl.find? λx=>decide (x.2=y)).map (·.1)).getD 0
theorem lM {hl:List (Int × Str)} {y:Str} (h:1<=fC hl y):(AF hl y,y)∈hl:=by
 obtain⟨v,F⟩:=xt h;unfold AF;cases e:hl.find? λx=>decide (x.2=y) with
 | none =>
  have:=List.find?_eq_none.mp e (v,y) F
  simp at this
 | some x =>
  have h1:=List.mem_of_find?_eq_some e;have h2:=List.find?_some e;have B:x.2=y:=by simpa using h2
  subst B;exact h1
theorem va {rm:Str->List Int} : ∀{cs:List Str},(∀c∈cs,(rm c).length<=4)->(cs.flatMap rm).length<=4 * cs.length
 | [],_=>by simp
 | c :: cs,h=>by
  have h1:=h c (by simp)
  have h2:=va (cs:=cs) λx B=>h x (by simp[B])
  rw[List.flatMap_cons,Gh,GG];omega
theorem kF (T:Txt w K mg) (L:bm K (aN K (au mg "Unlike") "may_keep") "may_keep" "Unlike.may_keep" cz ["self","rooms"]) (Fe:Fn P w K mg base "finds_value" 21 ["cell","rooms","holders","tried"] (jI 20)):FnR P w K mg base (aN K (au mg "Unlike") "may_keep") 22 ["self","rooms"] (fV mg):=by
 ctx_has z kr <;> obtain⟨p,r,dat,cs,kvs,rm,rfl,M,k⟩:=h
 .rfl
 refine⟨_,(ak (aL 2 gh)
  (ak (bD (cK K (aR T.cl_Unlike T.no_Unlike_cells (pvM 0))) (aJ 3) (ay (bS (mD (gp (aC Fe (af (pvM 3) (af (pvM 1) (af (pvM 2) (af gh ap))))))) (ay (aI dU)) aV)))
  (ay (aI dU)))),?_⟩
 obtain⟨dx,fs,ce,h1,f1,ai,_,_⟩:=M.ob;have ad:=M.rd;have ab:dat.Nodup:=M.ok.nodup_iff.mpr M.nd
 have a6:dat.length=cs.length:=M.ok.length_eq
 have ag : ∀c∈dat,c∈cs:=λc hc=>M.ok.mem_iff.mp hc
 have a3:(cs.flatMap rm).length<=20:=by
  have:=va (rm:=rm) (cs:=cs) (λc hc=>(M.gd c hc).2.1)
  have:=M.cl
  omega
 have a7:=M.cl;ctx_has v
 intro ha Z;have s1:aA H (upd H ha (.dK [])):=aA.upd0 Z
 refine⟨dx,fs,s1 _ _ h1,_,f1,ce,rfl,_,s1 _ _ ai,?_⟩
 refine cL ba (λi σ H'=>∃(hl:List (Int × Str)) (v3:Option V),σ=[-p,-r,-ha,v3]/\H' ha<*(hl.map ij)/\(hl.map (·.1)).Nodup/\(∀x∈hl,x.2∈cs/\x.1∈rm x.2)/\(∀y,fC hl y=if y∈dat.take i then 1 else 0)/\aA H H')
  ⟨[],_,rfl,ah,by simp,by simp,by simp[fC],s1⟩ (λi σ H' aq=>by obtain⟨_,_,_,_,_,_,_,sm⟩:=aq;exact(.of (sm _ _ ai))) ?_ ?_
 .rintro i x σ H2 hi B ⟨hl,v3,rfl,h2,hkn,hkv,hcn,sm2⟩
  rw[d_] at hi;obtain⟨c,ac,rfl⟩ : ∃c,dat[i]? = some c/\V.str c=x:=by
   rw[f_] at B;cases e:dat[i]? with
   | none=>rw[e] at B;cases B
   | some nm=>rw[e] at B;exact⟨nm,rfl,h_ B⟩
  have ar:c∈dat:=m_ ac
  have am:=ag c ar;have a1:dat.take (i+1)=dat.take i++[c]:=by rw[za,ac];rfl
  have F:c∉dat.take i:=λhm=>by
   obtain⟨j,hj,e⟩:=Gt hm;have a8:j < i:=by simp at hj;omega
   have e2:dat[j]? = some c:=by rw[<- e,List.getElem_take];simp
   have:=gi ab e2 ac
   omega
  ctx_has v
  intro ta Y;have s3:aA H2 (upd H2 ta (.dK [])):=aA.upd0 Y
  have a5:r≠ha:=az ad Z
  have k0:eL (upd H2 ta (.dK [])) r ha ta cs kvs rm (cs.flatMap rm) hl []:=⟨s3 _ _ (sm2 _ _ ad),(M.rf.same (λa vs e=>sm2 _ _ e)).same (λa vs e=>s3 _ _ e),s3 _ _ h2,ah,⟨a5,az (sm2 _ _ ad) Y,az h2 Y⟩,hkn,hkv,by simp,by simp,λx B v hv=>mem_flatMap.mpr ⟨x,B,hv⟩,(),λx B=>by have:=(M.gd x B).2.1;omega⟩
  refine⟨r,ha,ta,cs,kvs,rm,cs.flatMap rm,hl,[],c,rfl,k0,am,w_ (List.length_filter_le _ _) a3,λb aa a9 H3 k3 _ kp ht hf=>?_⟩
  have ao:aA H H3:=λa o e=>kp a o (az e Z) (az (sm2 _ _ e) Y) (s3 _ _ (sm2 _ _ e))
  ctx_has v
  cases b with
  | true =>
   rw[if_neg ∅]
   obtain⟨aw,_⟩:=ht rfl;refine⟨aa,k3.hh,k3.hk,k3.hv,λy=>?_,ao⟩
   rw[aw y,hcn y,a1]
   by_cases e:c=y
   .subst e;simp[F]
   .simp[e,Gp e]
  | false =>
   rw[if_pos rfl];obtain⟨rfl,ax,aj⟩:=hf rfl;refine k false H3 ⟨λz=>(by cases z),?_⟩ ao
   rintro⟨g,hg,hk⟩
   exfalso
   have a4:(dat.map g).Nodup:=of_decide_eq_true hk
   have hold : ∀v x,bH aa v=some x->x∈dat/\x∈cs:=λv x e=>by
    have:=(hkv _ (gE e)).1
    exact⟨M.ok.mem_iff.mpr this,this⟩
   have inj : ∀x∈dat,∀y∈dat,g x=g y->x=y:=λx B y hy e=>F7 λae=>(fK ab).mpr ⟨x,B,y,hy,ae,e⟩ a4
   have inD : ∀x,(x=c\/∃v,bH aa v=some x)->x∈dat:=λx h=>by
    rcases h with h | ⟨v,h⟩
    .rw[h];exact ar
    .exact(hold v x h).1
   refine yF (g:=g) k3.tn (by rw[hcn c,if_neg F]) (λy=>by rw[hcn y];split <;> omega) ax (λv hv=>aj v hv (by simp)) (λx y B hy e=>inj x (inD x B) y (inD y hy) e) (hg c am) (λv x e=>hg x (hold v x e).2)
 .rintro σ H2 ⟨hl,v3,rfl,h2,hkn,hkv,hcn,sm2⟩
  rw[d_,FV] at hcn;ctx_has v
  refine k true H2 ⟨λ_=>⟨AF hl,λc hc=>?_,?_⟩,λ_=>rfl⟩ sm2
  .have hm:=lM (hl:=hl) (y:=c) (by rw[hcn c,if_pos (M.ok.mem_iff.mpr hc)];exact s_ _)
   exact(hkv _ hm).2
  .refine decide_eq_true (F7 λa2=>?_)
   obtain⟨c,hc,c',a0,ae,e⟩:=(fK ab).mp a2;have hm:=lM (hl:=hl) (y:=c) (by rw[hcn c,if_pos hc];exact s_ _)
   have an:=lM (hl:=hl) (y:=c') (by rw[hcn c',if_pos a0];exact s_ _)
   rw[<- e] at an;have:=(my hkn hm).symm.trans (my hkn an)
   exact ae (h_ this)
structure jC (mg:Str->Option Value) (H:Hp) (p:Addr) (am ce:V) (lo hi:Int):Prop where
 ex : ∃dx fs,H p=some (.ins (au mg "Many") dx fs)/\fs.lookup (b_ "among")=some am/\fs.lookup (b_ "cells")=some ce/\fs.lookup (b_ "low")=some (.int lo)/\fs.lookup (b_ "high")=some (.int hi) /\
  fs.lookup (b_ "fewest")=none/\fs.lookup (b_ "most")=none/\fs.lookup (b_ "may_keep")=none/\fs.lookup (b_ "may_break")=none
theorem jC.same {B F:V} {hi:Int} (h:jC mg H p B F lo hi) (s:aA H H'):jC mg H' p B F lo hi:=by
 obtain⟨dx,fs,h1,r⟩:=h.ex;exact⟨dx,fs,s _ _ h1,r⟩
def oQ (mg:Str->Option Value):Sp:=λvs H Q _=>∃(p dx w:Addr) (B F:V) (lo hi:Int),vs=[.ref p,.ref w]/\H p=some (.ins (au mg "Many") dx [])/\H w>>[.str "many",B,F,.int lo,.int hi]/\∀H',jC mg H' p B F lo hi->gN p H H'->Q .non H'
def eR (av:List Int) (rm:Str->List Int) (cs:List Str):Nat:=(cs.filter λc=>(rm c).all λv=>decide (v∈av)).length
def dF (av:List Int) (rm:Str->List Int) (cs:List Str):Nat:=(cs.filter λc=>(rm c).any λv=>decide (v∈av)).length
structure iA (mg:Str->Option Value) (H:Hp) (p r:Addr) (av:List Int) (cs:List Str) (lo hi:Int) (kvs:List (Key × V)) (rm:Str->List Int):Prop where
 ob : ∃am ce,jC mg H p (.ref am) (.ref ce) lo hi/\H am>>(av.map V.int)/\H ce>>(cs.map V.str)
 rd:H r<*kvs
 rf:bj H kvs cs rm
 sm:av.length<=20/\cs.length<=20/\∀c∈cs,(rm c).length<=20
def rM (mg:Str->Option Value):Sp:=λvs H Q _=>∃(p r:Addr) (av:List Int) (cs:List Str) (lo hi:Int) (kvs:List (Key × V)) (rm:Str->List Int),vs=[.ref p,.ref r]/\iA mg H p r av cs lo hi kvs rm/\∀H',aA H H'->Q (.int (eR av rm cs)) H'
def nY (mg:Str->Option Value):Sp:=λvs H Q _=>∃(p r:Addr) (av:List Int) (cs:List Str) (lo hi:Int) (kvs:List (Key × V)) (rm:Str->List Int),vs=[.ref p,.ref r]/\iA mg H p r av cs lo hi kvs rm/\∀H',aA H H'->Q (.int (dF av rm cs)) H'
def ic (lo hi:Int) (a b:Nat):Bool:=decide (lo<=hi) && decide (lo<=b) && decide ((a:Int)<=hi) && decide (a<=b)
def gG (lo hi:Int) (a b:Nat):Bool:=decide ((a:Int) < lo) || decide (hi < (b:Int))
def fZ (mg:Str->Option Value):Sp:=λvs H Q _=>∃(p r:Addr) (av:List Int) (cs:List Str) (lo hi:Int) (kvs:List (Key × V)) (rm:Str->List Int),vs=[.ref p,.ref r]/\iA mg H p r av cs lo hi kvs rm/\∀H',aA H H'->Q (.bl (ic lo hi (eR av rm cs) (dF av rm cs))) H'
def ff (mg:Str->Option Value):Sp:=λvs H Q _=>∃(p r:Addr) (av:List Int) (cs:List Str) (lo hi:Int) (kvs:List (Key × V)) (rm:Str->List Int),vs=[.ref p,.ref r]/\iA mg H p r av cs lo hi kvs rm/\∀H',aA H H'->Q (.bl (gG lo hi (eR av rm cs) (dF av rm cs))) H'
theorem iA.same {mg:Str->Option Value} {H H':Hp} {p r:Addr} {av:List Int} {cs:List Str} {lo hi:Int} {kvs:List (Key × V)} {rm:Str->List Int} (h:iA mg H p r av cs lo hi kvs rm) (s:aA H H'):iA mg H' p r av cs lo hi kvs rm:=by
 obtain⟨F,Y,h1,h2,B⟩:=h.ob;refine⟨⟨F,Y,h1.same s,s _ _ h2,s _ _ B⟩,s _ _ h.rd,λc L=>?_,h.sm⟩
 obtain⟨a,e1,e2⟩:=h.rf c L;exact⟨a,e1,s _ _ e2⟩
def iQ (av:List Int) (cs:List Str) (g:Str->Int):Nat:=(cs.filter λc=>decide (g c∈av)).length
def rC (lo hi:Int) (av:List Int) (cs:List Str) (g:Str->Int):Bool:=decide (lo<=(iQ av cs g:Int)) && decide ((iQ av cs g:Int)<=hi)
theorem iU {av:List Int} {rm:Str->List Int} {g:Str->Int} : ∀{cs:List Str},okF rm cs g->eR av rm cs<=iQ av cs g/\iQ av cs g<=dF av rm cs
 | [],_=>⟨s_ _,s_ _⟩
 | c :: cs,h=>by
  have Y:=iU (av:=av) (cs:=cs) λx L=>h x (by simp[L])
  have F:=h c (by simp)
  unfold eR iQ dF at *;rw[GF,GF,GF]
  by_cases B:g c∈av
  .have h3:(rm c).any (λv=>decide (v∈av))=true:=GK.mpr ⟨g c,F,by simp[B]⟩
   rw[if_pos h3,if_pos (decide_eq_true B)]
   split <;> (try simp only[GG]) <;> omega
  .have h3 : ¬ ((rm c).all (λv=>decide (v∈av))=true):=λz=>B (by simpa using GQ.mp z (g c) F)
   rw[if_neg h3,if_neg (by simpa using B)]
   split <;> (try simp only[GG]) <;> omega
theorem yX : ∀{cs:List Str},c∉cs->iQ av cs (cV g c v)=iQ av cs g:=λ{cs} h=>by
 unfold iQ
 congr 1
 refine List.filter_congr λx B=>?_
 rw[dq];rintro rfl
 exact h B
theorem ix {av:List Int} {rm:Str->List Int} : ∀{cs:List Str},(∀c∈cs,1<=(rm c).length)->eR av rm cs<=dF av rm cs
 | [],_=>s_ _
 | c :: cs,h=>by
  have F:=ix (av:=av) (rm:=rm) (cs:=cs) λx L=>h x (by simp[L])
  have B:=h c (by simp)
  unfold eR dF at *;rw[GF,GF]
  by_cases h1:(rm c).all (λv=>decide (v∈av))=true
  .have h3:(rm c).any (λv=>decide (v∈av))=true:=by
    cases e:rm c with
    | nil=>rw[e] at B;simp at B
    | cons a b=>rw[e] at h1;simp at h1 ⊢;exact .inl h1.1
   rw[if_pos h1,if_pos h3];simp;exact F
  .rw[if_neg h1]
   split <;> (try simp only[GG]) <;> omega
theorem kO {av:List Int} {rm:Str->List Int} : ∀{cs:List Str} {n:Nat},(∀c∈cs,1<=(rm c).length)->cs.Nodup->eR av rm cs<=n->n<=dF av rm cs->∃g,okF rm cs g/\iQ av cs g=n
 | [],n,_,_,h1,h2=>⟨λ_=>0,λc hc=>by simp at hc,by simp[eR,dF,iQ] at *;omega⟩
 | c :: cs,n,hne,hnd,h1,h2=>by
  have ae:c∉cs:=(FG.mp hnd).1
  have ac:=(FG.mp hnd).2;have Z : ∀x∈cs,1<=(rm x).length:=λx hx=>hne x (by simp[hx])
  have hc:=hne c (by simp)
  have am:=ix (av:=av) Z;have ab : ∀(v:Int) (m:Nat),v∈rm c->eR av rm cs<=m->m<=dF av rm cs->n=m+(if v∈av then 1 else 0)->∃g,okF rm (c :: cs) g/\iQ av (c :: cs) g=n:=λv m hv aj L e=>by
   obtain⟨g,hg,F⟩:=kO (av:=av) Z ac aj L;refine⟨cV g c v,λx hx=>?_,?_⟩
   .by_cases ex:x=c
    .subst ex;rw[bx];exact hv
    .rw[dq _ _ ex]
     rcases u_.mp hx with z | z
     .exact absurd z ex
     .exact hg x z
   .have e2:=yX (av:=av) (v:=v) (g:=g) ae
    unfold iQ at e2 F ⊢;rw[GF,bx]
    by_cases Y:v∈av
    .rw[if_pos Y] at e
     rw[if_pos (decide_eq_true Y),GG,e2,F];omega
    .rw[if_neg Y] at e
     rw[if_neg (by simpa using Y),e2,F];omega
  obtain⟨v0,aa⟩ : ∃v,v∈rm c:=by
   cases e:rm c with
   | nil=>rw[e] at hc;simp at hc
   | cons a b=>exact⟨a,by simp⟩
  have f1:eR av rm (c :: cs)=eR av rm cs+(if (rm c).all (λv=>decide (v∈av))=true then 1 else 0):=by
   unfold eR;rw[GF];split <;> simp
  have f2:dF av rm (c :: cs)=dF av rm cs+(if (rm c).any (λv=>decide (v∈av))=true then 1 else 0):=by
   unfold dF;rw[GF];split <;> simp
  rw[f1] at h1;rw[f2] at h2
  by_cases ha:(rm c).all (λv=>decide (v∈av))=true
  .rw[if_pos ha] at h1
   have hm:v0∈av:=by simpa using GQ.mp ha v0 aa
   have B:(rm c).any (λv=>decide (v∈av))=true:=GK.mpr ⟨v0,aa,by simp[hm]⟩
   rw[if_pos B] at h2;exact ab v0 (n - 1) aa () () (by rw[if_pos hm];omega)
  .rw[if_neg ha] at h1
   obtain⟨v1,af,ad⟩ : ∃v∈rm c,v∉av:=F7 λag=>ha (GQ.mpr λv hv=>decide_eq_true (F7 λz=>ag ⟨v,hv,z⟩))
   by_cases ai:n<=dF av rm cs
   .exact ab v1 n af () ai (by rw[if_neg ad];omega)
   .by_cases B:(rm c).any (λv=>decide (v∈av))=true
    .rw[if_pos B] at h2
     obtain⟨v2,ak,L⟩:=GK.mp B;have L:v2∈av:=by simpa using L
     exact ab v2 (n - 1) ak () () (by rw[if_pos L];omega)
    .rw[if_neg B] at h2;omega
theorem xT {hi:Int} (B : ∀c∈cs,1<=(rm c).length) (F:cs.Nodup):(∃g,okF rm cs g/\rC lo hi av cs g=true)↔ic lo hi (eR av rm cs) (dF av rm cs)=true:=by
 unfold rC ic;simp only[B_,decide_eq_true_eq]
 constructor
 .rintro⟨g,L,h1,h2⟩
  have:=iU (av:=av) L
  omega
 .rintro⟨⟨⟨h1,h2⟩,h3⟩,h4⟩
  obtain⟨g,L,e⟩:=kO (av:=av) (n:=if lo<=(eR av rm cs:Int) then eR av rm cs else lo.toNat) B F (by split <;> omega) (by split <;> omega)
  refine⟨g,L,?_⟩
  rw[e]
  split <;> omega
theorem vD {hi:Int} (B : ∀c∈cs,1<=(rm c).length) (F:cs.Nodup):(∃g,okF rm cs g/\rC lo hi av cs g=false)↔gG lo hi (eR av rm cs) (dF av rm cs)=true:=by
 unfold rC gG;simp only[Ip,decide_eq_false_iff_not,Bool.or_eq_true,decide_eq_true_eq];have L:=ix (av:=av) B
 constructor
 .rintro⟨g,hg,h⟩
  have:=iU (av:=av) hg
  omega
 .rintro(h | h)
  .obtain⟨g,hg,e⟩:=kO (av:=av) (n:=eR av rm cs) B F (s_ _) L
   exact⟨g,hg,by rw[e];omega⟩
  .obtain⟨g,hg,e⟩:=kO (av:=av) (n:=dF av rm cs) B F L (s_ _)
   exact⟨g,hg,by rw[e];omega⟩
theorem kJ (T:Txt w K mg) (L:bm K (fE K (au mg "Wish") "__init__") "__init__" "Wish.__init__" bi ["self","wish"]):FnR P w K mg base (fE K (au mg "Wish") "__init__") 1 ["self","wish"] (cq mg "Many"):=by
 ctx_has z cg <;> obtain⟨p,dx,fs,w,rfl,hp,B,k⟩:=h
 .rfl
 refine⟨_,(ay (bF T.cl_Many T.no_Many_wish (pvM 0) (pvM 1) rfl)),?_⟩
 ctx_has v hp
 exact⟨B,k⟩
theorem lN (T:Txt w K mg) (L:bm K (Mk K (au mg "Many")) "__init__" "Many.__init__" dc ["self","wish"]) (B:FnR P w K mg base (fE K (au mg "Wish") "__init__") 1 ["self","wish"] (cq mg "Many")):FnR P w K mg base (Mk K (au mg "Many")) 2 ["self","wish"] (oQ mg):=by
 ctx_has z lD <;> obtain⟨p,dx,w,Z,ce,lo,hi,rfl,hp,Y,k⟩:=h
 .rfl
 refine⟨_,(ak (dz (iJ B (hr.mono (by ctx_has m)) rfl T.at_Wish (af (pvM 0) (af (pvM 1) ap))))
  (ak (bF T.cl_Many T.no_Many_among (pvM 0) (aK bg (pvM 1) aw) rfl)
  (ak (bF T.cl_Many T.no_Many_cells (pvM 0) (aK bg (pvM 1) aw) rfl)
  (ak (bF T.cl_Many T.no_Many_low (pvM 0) (aK bg (pvM 1) aw) rfl)
  (ay (bF T.cl_Many T.no_Many_high (pvM 0) (aK bg (pvM 1) aw) rfl)))))),?_⟩
 ctx_has v Y
 have F:w≠p:=bo Y hp (by intro z;cases z)
 refine⟨p,dx,[],.ref w,rfl,hp,∅,?_⟩
 ctx_has v ah
 refine⟨_,by rw[ao F];exact Y,?_⟩
 ctx_has v
 refine⟨eh (yz _ "" "" "" _ .non .non .non),_,by rw[ao F,ao F];exact Y,?_⟩
 ctx_has v
 refine⟨eh (yt _ _ "" "" _ _ .non .non),_,by rw[ao F,ao F,ao F];exact Y,?_⟩
 ctx_has v
 refine⟨eh (BC _ _ _ "" _ _ _ .non),_,by rw[ao F,ao F,ao F,ao F];exact Y,?_⟩
 ctx_has v
 refine⟨eh (EL _ _ _ _ _ _ _ _),k _ ⟨dx,_,ah,?_⟩ ?_⟩
 .simp only[cy,gy,String.reduceEq,if_true,if_false,true_and,Iu,and_self]
 .intro b o hb e
  rw[ao hb,ao hb,ao hb,ao hb,ao hb];exact e
theorem oB (T:Txt w K mg) (L:bm K (aN K (au mg "Many") "fewest") "fewest" "Many.fewest" cp ["self","rooms"]):FnR P w K mg base (aN K (au mg "Many") "fewest") 1 ["self","rooms"] (rM mg):=by
 ctx_has z pL <;> obtain⟨p,r,av,cs,lo,hi,kvs,rm,rfl,M,k⟩:=h
 .rfl
 refine⟨_,(ay (aI (aM ck T.b_len (af (bB (N:=["cell","self","rooms"]) (nt:=1) (js:=[0,1]) (aP ["self","rooms"] (aj cp).names) (cK K (aR T.cl_Many T.no_Many_cells (pvM 0))) (aJ 0) aZ (gb (gp (aM (jA rfl) T.b_all (af (bB (N:=["value","self"]) (nt:=1) (js:=[1]) (aP ["cell","self","rooms"] (DY (aj cp).kind (aj cp).names _)) (cK K (cm hu (pvM 2) (pvM 0))) (aJ 0) aZ cF (aX gS (pvM 0) (aR T.cl_Many T.no_Many_among (pvM 1)))) ap)))) (pvM 0)) ap)))),?_⟩
 obtain⟨am,ce,⟨dx,fs,h1,f1,f2,f3,f4,f5,f6,f7,f8⟩,ha,hc⟩:=M.ob;have ab:=M.rd;obtain⟨z1,z2,z3⟩:=M.sm;ctx_has v h1 f2 hc
 intro q hq;refine dL ba (λv=>match v with | .str c=>(rm c).all (λx=>decide (x∈av)) | _=>false) id hq (λH' s=>.of (s _ _ hc)) (by simp;omega) ?_ ?_ ?_
 .intro x H2 Q2 hx sm q2
  obtain⟨c,F,rfl⟩:=r_.mp hx;obtain⟨a,hv,Z⟩:=M.rf c F;have ac:=sm _ _ ab;have B:=sm _ _ Z;ctx_has v ac hv B
  intro g hg;refine cQ ba (λv=>match v with | .int i=>.bl (decide (i∈av)) | _=>.non) hg (λH' s=>.of (s _ _ B)) (by simp;have:=z3 c F;omega) ?_ ?_
  .intro y H3 Q3 hy s3 q3
   obtain⟨i,_,rfl⟩:=r_.mp hy;have aa:=s3 _ _ (sm _ _ h1);have Y:=s3 _ _ (sm _ _ ha);ctx_has v aa f1 Y
   refine⟨rfl,cR _,?_⟩
   rw[dN];exact q3 H3 (aA.refl _)
  .intro H3 s3 h3
   ctx_has v
   refine⟨(rm c).map (λi=>decide (i∈av)),by rw[h3,FQ,FQ];rfl,?_⟩
   have:=q2 H3 s3
   rw[List.all_map];exact this
 .intro x H2 Q2 hx _ sm q2
  ctx_has v
  exact q2 H2 (aA.refl _)
 .intro H2 sm h2
  ctx_has v h2
  have:=k H2 sm
  rw[d_,HL,d_];exact this
theorem rX (T:Txt w K mg) (L:bm K (aN K (au mg "Many") "most") "most" "Many.most" dn ["self","rooms"]):FnR P w K mg base (aN K (au mg "Many") "most") 1 ["self","rooms"] (nY mg):=by
 ctx_has z sf <;> obtain⟨p,r,av,cs,lo,hi,kvs,rm,rfl,M,k⟩:=h
 .rfl
 refine⟨_,(ay (aI (aM ck T.b_len (af (bB (N:=["cell","self","rooms"]) (nt:=1) (js:=[0,1]) (aP ["self","rooms"] (aj dn).names) (cK K (aR T.cl_Many T.no_Many_cells (pvM 0))) (aJ 0) aZ (gb (gp (aM (gF rfl) T.b_any (af (bB (N:=["value","self"]) (nt:=1) (js:=[1]) (aP ["cell","self","rooms"] (DY (aj dn).kind (aj dn).names _)) (cK K (cm hu (pvM 2) (pvM 0))) (aJ 0) aZ cF (aX gS (pvM 0) (aR T.cl_Many T.no_Many_among (pvM 1)))) ap)))) (pvM 0)) ap)))),?_⟩
 obtain⟨am,ce,⟨dx,fs,h1,f1,f2,f3,f4,f5,f6,f7,f8⟩,ha,hc⟩:=M.ob;have ab:=M.rd;obtain⟨z1,z2,z3⟩:=M.sm;ctx_has v h1 f2 hc
 intro q hq;refine dL ba (λv=>match v with | .str c=>(rm c).any (λx=>decide (x∈av)) | _=>false) id hq (λH' s=>.of (s _ _ hc)) (by simp;omega) ?_ ?_ ?_
 .intro x H2 Q2 hx sm q2
  obtain⟨c,F,rfl⟩:=r_.mp hx;obtain⟨a,hv,Z⟩:=M.rf c F;have ac:=sm _ _ ab;have B:=sm _ _ Z;ctx_has v ac hv B
  intro g hg;refine cQ ba (λv=>match v with | .int i=>.bl (decide (i∈av)) | _=>.non) hg (λH' s=>.of (s _ _ B)) (by simp;have:=z3 c F;omega) ?_ ?_
  .intro y H3 Q3 hy s3 q3
   obtain⟨i,_,rfl⟩:=r_.mp hy;have aa:=s3 _ _ (sm _ _ h1);have Y:=s3 _ _ (sm _ _ ha);ctx_has v aa f1 Y
   refine⟨rfl,cR _,?_⟩
   rw[dN];exact q3 H3 (aA.refl _)
  .intro H3 s3 h3
   ctx_has v
   refine⟨(rm c).map (λi=>decide (i∈av)),by rw[h3,FQ,FQ];rfl,?_⟩
   have:=q2 H3 s3
   rw[any_map];exact this
 .intro x H2 Q2 hx _ sm q2
  ctx_has v
  exact q2 H2 (aA.refl _)
 .intro H2 sm h2
  ctx_has v h2
  have:=k H2 sm
  rw[d_,HL,d_];exact this
theorem ml (T:Txt w K mg) (L:bm K (aN K (au mg "Many") "may_keep") "may_keep" "Many.may_keep" de ["self","rooms"]) (B:FnR P w K mg base (aN K (au mg "Many") "fewest") 1 ["self","rooms"] (rM mg)) (F:FnR P w K mg base (aN K (au mg "Many") "most") 1 ["self","rooms"] (nY mg)):FnR P w K mg base (aN K (au mg "Many") "may_keep") 22 ["self","rooms"] (fZ mg):=by
 ctx_has z mh <;> obtain⟨p,r,av,cs,lo,hi,kvs,rm,rfl,M,k⟩:=h
 .rfl
 refine⟨_,(ay (aI (aX ji (aM (rn rfl) T.b_max (af (aR T.cl_Many T.no_Many_low (pvM 0)) (af (bM T.cl_Many B (hr.mono (by ctx_has m)) (pvM 0) (af (pvM 1) ap)) ap))) (aM (qE rfl) T.b_min (af (aR T.cl_Many T.no_Many_high (pvM 0)) (af (bM T.cl_Many F (hr.mono (by ctx_has m)) (pvM 0) (af (pvM 1) ap)) ap)))))),?_⟩
 obtain⟨am,ce,⟨dx,fs,h1,f1,f2,f3,f4,f5,f6,f7,f8⟩,ha,hc⟩:=M.ob;ctx_has v h1 f3 f4 f5 f6
 refine⟨p,r,av,cs,lo,hi,kvs,rm,rfl,M,λH1 Y=>?_⟩
 have Z:=Y _ _ h1;ctx_has v Z f4 f6
 refine⟨p,r,av,cs,lo,hi,kvs,rm,rfl,M.same Y,λH2 s2=>?_⟩
 ctx_has v
 have:=k H2 (Y.trans s2)
 have e:ic lo hi (eR av rm cs) (dF av rm cs)=decide ((if (eR av rm cs:Int) > lo then(eR av rm cs:Int) else lo)<=if (dF av rm cs:Int) < hi then(dF av rm cs:Int) else hi):=by
  unfold ic;rw[FY];simp only[B_,decide_eq_true_eq]
  split <;> split <;> omega
 rw[e] at this;exact this
theorem lc (T:Txt w K mg) (L:bm K (aN K (au mg "Many") "may_break") "may_break" "Many.may_break" cS ["self","rooms"]) (B:FnR P w K mg base (aN K (au mg "Many") "fewest") 1 ["self","rooms"] (rM mg)) (F:FnR P w K mg base (aN K (au mg "Many") "most") 1 ["self","rooms"] (nY mg)):FnR P w K mg base (aN K (au mg "Many") "may_break") 22 ["self","rooms"] (ff mg):=by
 ctx_has z lq <;> obtain⟨p,r,av,cs,lo,hi,kvs,rm,rfl,M,k⟩:=h
 .rfl
 refine⟨_,(ay (aI (jS (aX zW (bM T.cl_Many B (hr.mono (by ctx_has m)) (pvM 0) (af (pvM 1) ap)) (aR T.cl_Many T.no_Many_low (pvM 0))) (dS (aX zW (aR T.cl_Many T.no_Many_high (pvM 0)) (bM T.cl_Many F (hr.mono (by ctx_has m)) (pvM 0) (af (pvM 1) ap))))))),?_⟩
 obtain⟨am,ce,⟨dx,fs,h1,f1,f2,f3,f4,f5,f6,f7,f8⟩,ha,hc⟩:=M.ob;ctx_has v h1 f3 f4 f5 f6
 refine⟨p,r,av,cs,lo,hi,kvs,rm,rfl,M,λH1 Y=>?_⟩
 have Z:=Y _ _ h1;ctx_has v Z f3 f4 f6
 refine fF (λh=>?_) (λh=>?_)
 .have:=k H1 Y
  unfold gG at this;rw[decide_eq_true h,Bool.true_or] at this;exact this
 .refine⟨p,r,av,cs,lo,hi,kvs,rm,rfl,M.same Y,λH2 s2=>⟨_,rfl,?_⟩⟩
  have:=k H2 (Y.trans s2)
  unfold gG at this;rw[decide_eq_false h,Bool.false_or] at this;exact this
def qt (mg:Str->Option Value) (H:Hp) (p:Addr):Wi->Prop
 | .un cs=>OBU mg H p cs cs
 | .mn av cs lo hi=>∃B F,jC mg H p (.ref B) (.ref F) lo hi/\H B>>(av.map V.int)/\H F>>(cs.map V.str)
 | .sm ts lo hi=>OBS mg H p (ts,lo,hi) (ts.map (·.2))
 | .tb cs rows=>OBT mg H p (cs,rows)
 | .wy cs ps es=>OBW mg H p (cs,ps,es)
 | .bh cs gap=>OBB mg H p (cs,gap)
theorem qt.obj {W:Wi} (h:qt mg H p W) (B : ∀a xs,H a>>xs->H' a>>xs) (kd : ∀a ks,H a=some (.dT ks)->H' a=some (.dT ks)) (L : ∀C dx fs,H p=some (.ins C dx fs)->H' p=some (.ins C dx fs)):qt mg H' p W:=by
 cases W with
 | un cs =>
  obtain⟨dx,fs,ce,h1,h2,F,r⟩:=h;exact⟨dx,fs,ce,L _ _ _ h1,h2,B _ _ F,r⟩
 | mn av cs lo hi =>
  obtain⟨am,ce,⟨dx,fs,h1,r⟩,h2,F⟩:=h;exact⟨am,ce,⟨dx,fs,L _ _ _ h1,r⟩,B _ _ h2,B _ _ F⟩
 | sm ts lo hi =>
  obtain⟨dx,fs,te,h1,h2,r⟩:=h;exact⟨dx,fs,te,L _ _ _ h1,h2.keep B,r⟩
 | tb cs rows =>
  obtain⟨dx,fs,w,c,t,vs,h1,h2,F,Y,Z,r⟩:=h;exact⟨dx,fs,w,c,t,vs,L _ _ _ h1,dX (W:=.tb cs rows) h2 B,B _ _ F,B _ _ Y,Z.keep B,r⟩
 | wy cs ps es =>
  obtain⟨dx,fs,w,c,e,l,h1,h2,F,Y,Z,r⟩:=h;exact⟨dx,fs,w,c,e,l,L _ _ _ h1,dX (W:=.wy cs ps es) h2 B,B _ _ F,B _ _ Y,kd _ _ Z,r⟩
 | bh cs gap =>
  obtain⟨dx,fs,w,c,h1,h2,F,r⟩:=h;exact⟨dx,fs,w,c,L _ _ _ h1,dX (W:=.bh cs gap) h2 B,B _ _ F,r⟩
theorem qt.keep {W:Wi} (h:qt mg H p W) (k:gk H H'):qt mg H' p W:=h.obj k.tup k.dt λ_ _ _ e=>k.ins _ _ _ _ e
def CsK (mg:Str->Option Value):List (Addr × Sp):=[(au mg "Unlike",fV mg),(au mg "Many",fZ mg),(au mg "Sum",fW mg),(au mg "Table",fU mg),(au mg "Way",ga mg),(au mg "Behind",fQ mg)]
def CsB (mg:Str->Option Value):List (Addr × Sp):=[(au mg "Unlike",fo mg),(au mg "Many",ff mg),(au mg "Sum",fh mg),(au mg "Table",fm mg),(au mg "Way",fe mg),(au mg "Behind",fv mg)]
theorem BB {P:Addr->Sp->Prop} {a1 a2 a3 a4 Y a6:Addr} {L F Z B b5 b6:Sp} (h1:P a1 L) (h2:P a2 F) (h3:P a3 Z) (h4:P a4 B) (h5:P Y b5) (h6:P a6 b6) : ∀C sp,(C,sp)∈[(a1,L),(a2,F),(a3,Z),(a4,B),(Y,b5),(a6,b6)]->P C sp:=λC sp h=>by
 simp only[u_,Prod.mk.injEq,Ge,or_false] at h;rcases h with⟨rfl,rfl⟩ | ⟨rfl,rfl⟩ | ⟨rfl,rfl⟩ | ⟨rfl,rfl⟩ | ⟨rfl,rfl⟩ | ⟨rfl,rfl⟩
 .exact h1
 .exact h2
 .exact h3
 .exact h4
 .exact h5
 .exact h6
structure yM (mg:Str->Option Value) (H:Hp) (i r:Addr) (W:Wi) (kvs:List (Key × V)) (rm:Str->List Int):Prop where
 ob:qt mg H i W
 rd:H r<*kvs
 rf:bj H kvs (cu W) rm
 ok : ∃ws ns,okW ws ns W
 cl:(cu W).length<=5
 ne : ∀c∈cu W,rm c≠[]/\(rm c).length<=4/\(rm c).Pairwise (· < ·)
theorem lL (ne : ∀c∈cs,rm c≠[]/\(rm c).length<=4/\(rm c).Pairwise (· < ·)) : ∀c∈cs,1<=(rm c).length/\(rm c).length<=4/\(rm c).Nodup:=λc B=>⟨Ie.mpr (ne c B).1,(ne c B).2.1,(ne c B).2.2.imp λh=>by omega⟩
theorem mK (ne : ∀c∈cs,rm c≠[]/\(rm c).length<=4/\(rm c).Pairwise (· < ·)) : ∀c∈cs,rm c≠[]/\(rm c).length<=10/\(rm c).Pairwise (· < ·):=λc B=>⟨(ne c B).1,w_ (ne c B).2.1 ∅,(ne c B).2.2⟩
theorem oU {i r:Addr} {W:Wi} {Q:VK} (M:yM mg H i r W kvs rm) (k : ∀(b:Bool) H',(b=true↔∃g,okF rm (cu W) g/\bX W g=true)->aA H H'->Q (.bl b) H') :
  ∃C sp,(C,sp)∈CsK mg/\∃dx fs,H i=some (.ins C dx fs)/\fs.lookup (b_ "may_keep")=none/\sp [.ref i,.ref r] H Q E0:=by
 obtain⟨ob,L,F,⟨ws,ns,ok⟩,cl,ne⟩:=M;cases W with
 | un cs =>
  obtain⟨dx,fs,h1,h2,B⟩:=xE (cs:=cs) ob;exact⟨_,fV mg,by simp[CsK],dx,fs,h1,h2,i,r,cs,cs,kvs,rm,rfl,⟨ob,L,F,.refl _,ok.2.1,cl,lL ne⟩,k⟩
 | mn av cs lo hi =>
  obtain⟨am,ce,m,h2,B⟩:=id ob;obtain⟨dx,fs,h1,_,_,_,_,_,_,q1,q2⟩:=m.ex;exact⟨_,fZ mg,by simp[CsK],dx,fs,h1,q1,i,r,av,cs,lo,hi,kvs,rm,rfl,⟨⟨am,ce,m,h2,B⟩,L,F,ok.2.2.2,w_ cl ∅,λc Y=>w_ (ne c Y).2.1 ∅⟩,λH' s=>k _ H' (xT (λc Y=>(lL ne c Y).1) ok.1.2.1).symm s⟩
 | sm ts lo hi =>
  obtain⟨dx,fs,h1,h2,B⟩:=wW (cs:=ts.map (λx:Int × Str=>x.2)) ob
  exact⟨_,fW mg,by simp[CsK],dx,fs,h1,h2,i,r,(ts,lo,hi),ts.map (λx:Int × Str=>x.2),kvs,rm,rfl,⟨ob,L,F,⟨rfl,ok.1.1,λx Z=>⟨(ok.2 x Z).1,(ok.2 x Z).2.1⟩⟩,ok.1.2.1,cl,lL ne⟩,k⟩
 | tb cs rows =>
  obtain⟨dx,fs,h1,_,h2,B⟩:=xG ob;exact⟨_,fU mg,by simp[CsK],dx,fs,h1,h2,i,r,(cs,rows),kvs,rm,rfl,⟨ob,L,F,⟨ok.1.1,ok.1.2.1,ok.1.2.2.2,ok.2.1,ok.2.2.1,w_ ok.2.2.2 ∅⟩,mK ne⟩,k⟩
 | wy cs ps es =>
  obtain⟨dx,fs,h1,_,h2,B⟩:=xc ob;exact⟨_,ga mg,by simp[CsK],dx,fs,h1,h2,i,r,(cs,ps,es),kvs,rm,rfl,⟨ob,L,F,⟨ok.1.1,ok.1.2.1,ok.1.2.2.2,ok.2.1,ok.2.2.1,ok.2.2.2⟩,mK ne⟩,k⟩
 | bh cs gap =>
  obtain⟨dx,fs,h1,_,h2,B⟩:=wY ob;exact⟨_,fQ mg,by simp[CsK],dx,fs,h1,h2,i,r,(cs,gap),kvs,rm,rfl,⟨ob,L,F,⟨ok.1,ok.2.1,ok.2.2.2⟩,mK ne⟩,k⟩
theorem lI {i r:Addr} {W:Wi} {Q:VK} (M:yM mg H i r W kvs rm) (k : ∀(b:Bool) H',(b=true↔∃g,okF rm (cu W) g/\bX W g=false)->aA H H'->Q (.bl b) H') :
  ∃C sp,(C,sp)∈CsB mg/\∃dx fs,H i=some (.ins C dx fs)/\fs.lookup (b_ "may_break")=none/\sp [.ref i,.ref r] H Q E0:=by
 obtain⟨ob,L,F,⟨ws,ns,ok⟩,cl,ne⟩:=M;cases W with
 | un cs =>
  obtain⟨dx,fs,h1,h2,B⟩:=xE (cs:=cs) ob;exact⟨_,fo mg,by simp[CsB],dx,fs,h1,B,i,r,cs,cs,kvs,rm,rfl,⟨ob,L,F,.refl _,ok.2.1,cl,lL ne⟩,k⟩
 | mn av cs lo hi =>
  obtain⟨am,ce,m,h2,B⟩:=id ob;obtain⟨dx,fs,h1,_,_,_,_,_,_,q1,q2⟩:=m.ex;exact⟨_,ff mg,by simp[CsB],dx,fs,h1,q2,i,r,av,cs,lo,hi,kvs,rm,rfl,⟨⟨am,ce,m,h2,B⟩,L,F,ok.2.2.2,w_ cl ∅,λc Y=>w_ (ne c Y).2.1 ∅⟩,λH' s=>k _ H' (vD (λc Y=>(lL ne c Y).1) ok.1.2.1).symm s⟩
 | sm ts lo hi =>
  obtain⟨dx,fs,h1,h2,B⟩:=wW (cs:=ts.map (λx:Int × Str=>x.2)) ob
  exact⟨_,fh mg,by simp[CsB],dx,fs,h1,B,i,r,(ts,lo,hi),ts.map (λx:Int × Str=>x.2),kvs,rm,rfl,⟨ob,L,F,⟨rfl,ok.1.1,λx Z=>⟨(ok.2 x Z).1,(ok.2 x Z).2.1⟩⟩,ok.1.2.1,cl,lL ne⟩,k⟩
 | tb cs rows =>
  obtain⟨dx,fs,h1,_,h2,B⟩:=xG ob;exact⟨_,fm mg,by simp[CsB],dx,fs,h1,B,i,r,(cs,rows),kvs,rm,rfl,⟨ob,L,F,⟨ok.1.1,ok.1.2.1,ok.1.2.2.2,ok.2.1,ok.2.2.1,w_ ok.2.2.2 ∅⟩,mK ne⟩,k⟩
 | wy cs ps es =>
  obtain⟨dx,fs,h1,_,h2,B⟩:=xc ob;exact⟨_,fe mg,by simp[CsB],dx,fs,h1,B,i,r,(cs,ps,es),kvs,rm,rfl,⟨ob,L,F,⟨ok.1.1,ok.1.2.1,ok.1.2.2.2,ok.2.1,ok.2.2.1,ok.2.2.2⟩,mK ne⟩,k⟩
 | bh cs gap =>
  obtain⟨dx,fs,h1,_,h2,B⟩:=wY ob;exact⟨_,fv mg,by simp[CsB],dx,fs,h1,B,i,r,(cs,gap),kvs,rm,rfl,⟨ob,L,F,⟨ok.1,ok.2.1,ok.2.2.2⟩,mK ne⟩,k⟩
def zG (mg:Str->Option Value):Sp:=λvs H Q _=>∃(w:Addr) (W:Wi),vs=[.ref w]/\WS H w W/\(∃ws ns,okW ws ns W)/\∀p H',H p=none->qt mg H' p W->aA H H'->Q (.ref p) H'
theorem fT {x:Addr} (L:H x=none) (F:H dx=none) (B:dx≠x):aA H (upd (upd H dx (.own x)) x (.ins C dx [])):=(aA.upd0 F).upd_new (by rw[ao B.symm];exact L)
theorem fJ {x:Addr} (B:H x=none) (s:aA H H1) (b:gN x H1 H2):aA H H2:=λa o e=>b a o (az e B) (s a o e)
theorem lF (T:Txt w K mg) (L:FnL K mg "plain_wish_of" di ["wish"]) (F:FnR P w K mg base (Mk K (au mg "Unlike")) 2 ["self","wish"] (sg mg)) (Z:FnR P w K mg base (Mk K (au mg "Many")) 2 ["self","wish"] (oQ mg)) (ad:FnR P w K mg base (Mk K (au mg "Sum")) 2 ["self","wish"] (tI mg)) (Y:FnR P w K mg base (Mk K (au mg "Table")) 2 ["self","wish"] (rO mg "Table")) (ac:FnR P w K mg base (Mk K (au mg "Way")) 2 ["self","wish"] (oF mg "Way")) (B:FnR P w K mg base (Mk K (au mg "Behind")) 2 ["self","wish"] (rW mg "Behind")):Fn P w K mg base "plain_wish_of" 6 ["wish"] (zG mg):=by
 ctx_has z ma <;> obtain⟨w,W,rfl,hW,ae,k⟩:=h
 .rfl
 refine⟨_,(ak (bS (aS cI (aK bg (pvM 0) aw) aO) (ay (aI (gK F (hr.mono (by ctx_has m)) rfl T.at_Unlike (af (pvM 0) ap)))) aV)
  (ak (bS (aS cI (aK bg (pvM 0) aw) aO) (ay (aI (gK Z (hr.mono (by ctx_has m)) rfl T.at_Many (af (pvM 0) ap)))) aV)
  (ak (bS (aS cI (aK bg (pvM 0) aw) aO) (ay (aI (gK ad (hr.mono (by ctx_has m)) rfl T.at_Sum (af (pvM 0) ap)))) aV)
  (ak (bS (aS cI (aK bg (pvM 0) aw) aO) (ay (aI (gK Y (hr.mono (by ctx_has m)) rfl T.at_Table (af (pvM 0) ap)))) aV)
  (ak (bS (aS cI (aK bg (pvM 0) aw) aO) (ay (aI (gK ac (hr.mono (by ctx_has m)) rfl T.at_Way (af (pvM 0) ap)))) aV)
  (ay (aI (gK B (hr.mono (by ctx_has m)) rfl T.at_Behind (af (pvM 0) ap))))))))),?_⟩
 cases W with
 | un cs =>
  obtain⟨c,h1,h2⟩:=id hW;ctx_has v h1
  intro x dx hx ab aa;have s1:=fT (C:=au mg (b_ "Unlike")) hx ab aa;exact⟨x,dx,w,cs,cs,rfl,ah,dX hW λa xs e=>s1 _ _ e,λH2 ob b2=>⟨rfl,k x H2 hx ob (fJ hx s1 b2)⟩⟩
 | mn av cs lo hi =>
  obtain⟨am,c,h1,h2,h3⟩:=id hW;ctx_has v h1
  intro x dx hx ab aa;have s1:=fT (C:=au mg (b_ "Many")) hx ab aa;exact⟨x,dx,w,_,_,lo,hi,rfl,ah,s1 _ _ h1,λH2 ob b2=>⟨rfl,k x H2 hx ⟨am,c,ob,fJ hx s1 b2 _ _ h2,fJ hx s1 b2 _ _ h3⟩ (fJ hx s1 b2)⟩⟩
 | sm ts lo hi =>
  obtain⟨t,h1,h2⟩:=id hW;ctx_has v h1
  intro x dx hx ab aa;have s1:=fT (C:=au mg (b_ "Sum")) hx ab aa;exact⟨x,dx,w,(ts,lo,hi),ts.map (·.2),rfl,ah,dX hW λa xs e=>s1 _ _ e,λH2 ob b2=>⟨rfl,k x H2 hx ob (fJ hx s1 b2)⟩⟩
 | tb cs rows =>
  obtain⟨c,t,vs,h1,h2⟩:=id hW;ctx_has v h1
  intro x dx hx ab aa;have s1:=fT (C:=au mg (b_ "Table")) hx ab aa;exact⟨x,dx,w,(cs,rows),rfl,ah,dX hW λa xs e=>s1 _ _ e,λH2 ob b2=>⟨rfl,k x H2 hx ob (fJ hx s1 b2)⟩⟩
 | wy cs ps es =>
  obtain⟨c,t,e,vs,h1,h2⟩:=id hW;obtain⟨ws,ns,ok⟩:=ae;ctx_has v h1
  intro x dx hx ab aa;have s1:=fT (C:=au mg (b_ "Way")) hx ab aa;exact⟨x,dx,w,(cs,ps,es),rfl,ah,dX hW λa xs e=>s1 _ _ e,⟨ok.1.1,ok.1.2.1,ok.1.2.2.2,ok.2.1,ok.2.2.1,ok.2.2.2⟩,λH2 ob b2=>⟨rfl,k x H2 hx ob (fJ hx s1 b2)⟩⟩
 | bh cs gap =>
  obtain⟨c,h1,h2⟩:=id hW;ctx_has v h1
  intro x dx hx ab aa;have s1:=fT (C:=au mg (b_ "Behind")) hx ab aa;exact⟨x,dx,w,(cs,gap),rfl,ah,dX hW λa xs e=>s1 _ _ e,λH2 ob b2=>⟨rfl,k x H2 hx ob (fJ hx s1 b2)⟩⟩
abbrev fG:=Str × List Int × Wi
def dw (dat:fG):List Str:=dat.1 :: cu dat.2.2
def sR (dat:fG):Prop:=(∃ws ns,okW ws ns dat.2.2)/\(cu dat.2.2).length<=5/\dat.2.1.length<=20/\dat.1∉cu dat.2.2
def fL (dat:fG) (g:Str->Int):Bool:=on (.sa dat.1 dat.2.1 dat.2.2) g
def WSX (H:Hp) (w:Addr) (dat:fG):Prop:=WX H w (.sa dat.1 dat.2.1 dat.2.2)
theorem je {w:Addr} {dat:fG} (h:WSX H w dat) (k:gk H H'):WSX H' w dat:=BX h k.tup
def OBX (mg:Str->Option Value) (H:Hp) (p:Addr) (dat:fG):Prop:=∃dx fs w u i,H p=some (.ins (au mg "Same") dx fs)/\WSX H w dat/\H u>>(dat.2.1.map V.int)/\qt mg H i dat.2.2/\fs.lookup (b_ "wish")=some (.ref w)/\fs.lookup (b_ "cell")=some (.str dat.1)/\fs.lookup (b_ "among")=some (.ref u)/\fs.lookup (b_ "inner")=some (.ref i) /\
 fs.lookup (b_ "kept")=none/\fs.lookup (b_ "may_keep")=none/\fs.lookup (b_ "may_break")=none/\fs.lookup (b_ "may_be_among")=none/\fs.lookup (b_ "may_be_none_of_them")=none
theorem jo {dat:fG} (h:OBX mg H p dat) (k:gk H H'):OBX mg H' p dat:=by
 obtain⟨dx,fs,w,u,i,h1,h2,F,B,r⟩:=h;exact⟨dx,fs,w,u,i,k.ins _ _ _ _ h1,je h2 k,k.tup _ _ F,B.keep k,r⟩
theorem xg {dat:fG} (h:OBX mg H p dat) : ∃dx fs,H p=some (.ins (au mg "Same") dx fs)/\fs.lookup (b_ "kept")=none/\fs.lookup (b_ "may_keep")=none/\fs.lookup (b_ "may_break")=none:=by
 obtain⟨dx,fs,w,u,i,h1,h2,Z,Y,_,_,_,_,L,B,F,_⟩:=h;exact⟨dx,fs,h1,L,B,F⟩
theorem mY {W:Wi} {g':Str->Int} (h : ∀c∈cu W,g c=g' c):bX W g=bX W g':=by
 have e : ∀cs:List Str,(∀c∈cs,g c=g' c)->cs.map g=cs.map g':=λcs h=>Gb h
 cases W with
 | un cs=>show decide (cs.map g).Nodup=decide (cs.map g').Nodup;rw[e cs h]
 | mn av cs lo hi =>
  have e2:(cs.filter λc=>decide (g c∈av))=cs.filter λc=>decide (g' c∈av):=List.filter_congr λc F=>by rw[h c F]
  simp only[bX,e2]
 | sm ts lo hi=>show eU ((ts.map λx=>x.1 * g x.2).sum) lo hi=eU ((ts.map λx=>x.1 * g' x.2).sum) lo hi;rw[Gb λx B=>by rw[h x.2 (List.mem_map_of_mem (f:=Prod.snd) B)]]
 | tb cs rows=>show decide (cs.map g∈rows)=decide (cs.map g'∈rows);rw[e cs h]
 | wy cs ps es=>show sy es (gz ps (some 0) (cs.map g))=sy es (gz ps (some 0) (cs.map g'));rw[e cs h]
 | bh cs gap=>show chB gap (cs.map g)=chB gap (cs.map g');rw[e cs h]
theorem ni {dat:fG} {g':Str->Int} (B:sR dat) (h : ∀c∈dw dat,g c=g' c):fL dat g=fL dat g':=by
 show decide (decide (g dat.1∈dat.2.1)=bX dat.2.2 g)=decide (decide (g' dat.1∈dat.2.1)=bX dat.2.2 g')
 rw[h dat.1 FT,mY λc F=>h c (zc _ F)]
def pH (mg:Str->Option Value):Sp:=λvs H Q _=>∃(p f:Addr) (dat:fG) (ws:List Str) (g:Str->Int),vs=[.ref p,.ref f]/\OBX mg H p dat/\sR dat/\(∀c∈dw dat,c∈ws)/\ws.length<=40/\(∀c∈dw dat,-2000000<=g c/\g c<=2000000)/\cU H (.ref f) ws g/\∀H',aA H H'->Q (.bl (fL dat g)) H'
structure ia (mg:Str->Option Value) (H:Hp) (p r:Addr) (dat:fG) (kvs:List (Key × V)) (rm:Str->List Int):Prop where
 ob:OBX mg H p dat
 rd:H r<*kvs
 rf:bj H kvs (dw dat) rm
 ok:sR dat
 ne : ∀c∈dw dat,rm c≠[]/\(rm c).length<=4/\(rm c).Pairwise (· < ·)
theorem ia.same {mg:Str->Option Value} {H H':Hp} {p r:Addr} {dat:fG} {kvs:List (Key × V)} {rm:Str->List Int} (h:ia mg H p r dat kvs rm) (s:aA H H'):ia mg H' p r dat kvs rm :=
 ⟨jo h.ob (aA.keepTI s),s _ _ h.rd,h.rf.same (λa vs e=>s _ _ e),h.ok,h.ne⟩
def km (mg:Str->Option Value):Sp:=λvs H Q _=>∃(p r:Addr) (dat:fG) (kvs:List (Key × V)) (rm:Str->List Int),vs=[.ref p,.ref r]/\ia mg H p r dat kvs rm/\∀(b:Bool) H',(b=true↔∃g,okF rm (dw dat) g/\fL dat g=true)->aA H H'->Q (.bl b) H'
def jd (mg:Str->Option Value):Sp:=λvs H Q _=>∃(p r:Addr) (dat:fG) (kvs:List (Key × V)) (rm:Str->List Int),vs=[.ref p,.ref r]/\ia mg H p r dat kvs rm/\∀(b:Bool) H',(b=true↔∃g,okF rm (dw dat) g/\fL dat g=false)->aA H H'->Q (.bl b) H'
structure AJ (mg:Str->Option Value) (H:Hp) (t w a r:Addr) (dat:fG) (ws:List Str) (kvs:List (Key × V)) (rm:Str->List Int):Prop where
 ob:OBX mg H t dat
 W:WSX H w dat
 rd:H r<*kvs
 rf:bj H kvs ws rm
 ok:sR dat
 gd : ∀c∈ws,rm c≠[]/\(rm c).length<=4/\(rm c).Pairwise (· < ·)
 ha:H a*>(ws.map V.str)
 nd:ws.Nodup
 wl:ws.length<=5
 sub : ∀c∈dw dat,c∈ws
 pl : ∀x∈kvs,fb x.2=true
 bd : ∀c∈ws,∀v∈rm c,-2000000<=v/\v<=2000000
def pR (mg:Str->Option Value):Sp:=λvs H Q _=>∃(t w a r:Addr) (dat:fG) (ws:List Str) (kvs:List (Key × V)) (rm:Str->List Int),vs=[.ref t,.ref w,.ref a,.ref r]/\AJ mg H t w a r dat ws kvs rm/\∀H',aA H H'->Q (.bl true) H'
theorem wq {x:V} {g':Str->Int} (h:cU H x cs g) (h':cU H x cs g') : ∀c∈cs,g c=g' c:=by
 obtain⟨a,kvs,rfl,h1,h2,_⟩:=h;obtain⟨Y,kvs',e,B,F,_⟩:=h';cases e;rw[h1] at B;cases B;intro c L;have:=(h2 c L).symm.trans (F c L)
 exact V.int.inj (h_ this)
theorem Ah {dat:fG} {F:Bool} (B:sR dat) (sub : ∀c∈dw dat,c∈ws) (ne : ∀c∈ws,rm c≠[]):(∃g,okF rm (dw dat) g/\fL dat g=F)↔∃g,okF rm ws g/\fL dat g=F:=by
 constructor
 .rintro⟨g,h1,h2⟩
  obtain⟨g',Y,L⟩:=ur h1 ne;exact⟨g',Y,by rw[ni B L];exact h2⟩
 .rintro⟨g,h1,h2⟩
  exact⟨g,λc Z=>h1 c (sub c Z),h2⟩
def si (mg:Str->Option Value) (C:Str):Sp:=λvs H Q _=>∃(p dx w:Addr) (dat:fG),vs=[.ref p,.ref w]/\H p=some (.ins (au mg C) dx [])/\WSX H w dat/\sR dat/\∀H',OBX mg H' p dat->gN p H H'->Q .non H'
def rJ (mg:Str->Option Value):Sp:=λvs H Q _=>∃(p r:Addr) (dat:fG) (kvs:List (Key × V)) (rm:Str->List Int),vs=[.ref p,.ref r]/\ia mg H p r dat kvs rm/\∀H',aA H H'->Q (.bl ((rm dat.1).any λv=>decide (v∈dat.2.1))) H'
def rS (mg:Str->Option Value):Sp:=λvs H Q _=>∃(p r:Addr) (dat:fG) (kvs:List (Key × V)) (rm:Str->List Int),vs=[.ref p,.ref r]/\ia mg H p r dat kvs rm/\∀H',aA H H'->Q (.bl ((rm dat.1).any λv=>decide (v∉dat.2.1))) H'
theorem ia.inn {r i:Addr} {dat:fG} (M:ia mg H p r dat kvs rm) (hi:qt mg H i dat.2.2):yM mg H i r dat.2.2 kvs rm :=
 ⟨hi,M.rd,λc B=>M.rf c (zc _ B),M.ok.1,M.ok.2.1,λc B=>M.ne c (zc _ B)⟩
theorem dP {dat:fG} (Y:sR dat) (F:Bool):(∃g,okF rm (dw dat) g/\fL dat g=F)↔((∃v∈rm dat.1,v∈dat.2.1)/\∃g,okF rm (cu dat.2.2) g/\bX dat.2.2 g=F)\/((∃v∈rm dat.1,v∉dat.2.1)/\∃g,okF rm (cu dat.2.2) g/\bX dat.2.2 g = !F):=by
 constructor
 .rintro⟨g,h1,h2⟩
  have h2:decide (decide (g dat.1∈dat.2.1)=bX dat.2.2 g)=F:=h2
  have Z:okF rm (cu dat.2.2) g:=λc B=>h1 c (zc _ B)
  have L:=h1 dat.1 FT
  by_cases z:g dat.1∈dat.2.1
  .refine .inl ⟨⟨_,L,z⟩,g,Z,?_⟩
   rw[decide_eq_true z] at h2;cases e:bX dat.2.2 g <;> rw[e] at h2 <;> simpa using h2
  .refine .inr ⟨⟨_,L,z⟩,g,Z,?_⟩
   rw[decide_eq_false z] at h2;cases e:bX dat.2.2 g <;> rw[e] at h2 <;> cases F <;> simp at h2 ⊢
 .have key : ∀v∈rm dat.1,∀g,okF rm (cu dat.2.2) g->okF rm (dw dat) (cV g dat.1 v)/\cV g dat.1 v dat.1=v/\bX dat.2.2 (cV g dat.1 v)=bX dat.2.2 g:=λv L g hg=>by
   have ne : ∀c∈cu dat.2.2,c≠dat.1:=λc B e=>Y.2.2.2 (e ▸ B)
   refine⟨λc B=>?_,bx _ _ _,mY λc B=>dq _ _ (ne c B)⟩
   rcases u_.mp B with e | B
   .rw[e,bx];exact L
   .rw[dq _ _ (ne c B)];exact hg c B
  rintro(⟨⟨v,L,z⟩,g,h1,h2⟩ | ⟨⟨v,L,z⟩,g,h1,h2⟩)
  .obtain⟨a1,a2,a3⟩:=key v L g h1
   refine⟨_,a1,?_⟩
   show decide (decide (cV g dat.1 v dat.1∈dat.2.1)=bX dat.2.2 (cV g dat.1 v))=F
   rw[a2,a3,h2,decide_eq_true z];cases F <;> rfl
  .obtain⟨a1,a2,a3⟩:=key v L g h1
   refine⟨_,a1,?_⟩
   show decide (decide (cV g dat.1 v dat.1∈dat.2.1)=bX dat.2.2 (cV g dat.1 v))=F
   rw[a2,a3,h2,decide_eq_false z];cases F <;> rfl
theorem lw (T:Txt w K mg) (L:bm K (fE K (au mg "Wish") "__init__") "__init__" "Wish.__init__" bi ["self","wish"]):FnR P w K mg base (fE K (au mg "Wish") "__init__") 1 ["self","wish"] (cq mg "Same"):=by
 ctx_has z cg <;> obtain⟨p,dx,fs,w,rfl,hp,B,k⟩:=h
 .rfl
 refine⟨_,(ay (bF T.cl_Same T.no_Same_wish (pvM 0) (pvM 1) rfl)),?_⟩
 ctx_has v hp
 exact⟨B,k⟩
theorem lY (T:Txt w K mg) (L:bm K (Mk K (au mg "Same")) "__init__" "Same.__init__" dj ["self","wish"]) (B:FnR P w K mg base (fE K (au mg "Wish") "__init__") 1 ["self","wish"] (cq mg "Same")) (Fj:Fn P w K mg base "plain_wish_of" 6 ["wish"] (zG mg)):FnR P w K mg base (Mk K (au mg "Same")) 8 ["self","wish"] (si mg "Same"):=by
 ctx_has z me <;> obtain⟨p,dx,w,dat,rfl,hp,hW,aa,k⟩:=h
 .rfl
 refine⟨_,(ak (dz (iJ B (hr.mono (by ctx_has m)) rfl T.at_Wish (af (pvM 0) (af (pvM 1) ap))))
  (ak (bF T.cl_Same T.no_Same_cell (pvM 0) (aK bg (pvM 1) aw) rfl)
  (ak (bF T.cl_Same T.no_Same_among (pvM 0) (aK bg (pvM 1) aw) rfl)
  (ay (bF T.cl_Same T.no_Same_inner (pvM 0) (aC Fj (af (aK bg (pvM 1) aw) ap)) rfl))))),?_⟩
 obtain⟨c,us,W⟩:=dat;obtain⟨t,u,Y,h2,h3⟩:=hW;ctx_has v Y
 have pw:w≠p:=bo Y hp (by intro z;cases z)
 refine⟨p,dx,[],.ref w,rfl,hp,∅,?_⟩
 refine⟨_,by rw[ao pw];exact Y,_,rfl,dx,_,ah,eh (yz _ "" "" "" _ .non .non .non),_,by rw[ao pw,ao pw];exact Y,_,rfl,dx,_,ah,eh (yt _ _ "" "" _ _ .non .non),_,by rw[ao pw,ao pw,ao pw];exact Y,_,rfl,?_⟩
 rw[kY,kY];have b1 : ∀o,gN p H (upd H p o):=λo b x Z e=>by rw[ao Z];exact e
 have kt : ∀o a xs,H a>>xs->upd H p o a>>xs:=λo a xs e=>b1 o _ _ (bo e hp (by intro z;cases z)) e
 refine⟨u,W,rfl,dX h3 (kt _),aa.1,λi H2 hi ob s2=>⟨dx,_,s2 _ _ ah,eh (BC _ _ _ "" _ _ _ .non),?_⟩⟩
 have g2:=s2 _ _ ah;have ip:i≠p:=λe=>by rw[e,ah] at hi;cases hi
 have k2 : ∀o a x,a≠p->H2 a=some x->upd H2 p o a=some x:=λo a x Z e=>by rw[ao Z];exact e
 have F : ∀o a xs,H a>>xs->upd H2 p o a>>xs:=λo a xs e=>k2 o _ _ (bo e hp (by intro z;cases z)) (s2 _ _ (kt _ _ _ e))
 refine k _ ⟨dx,_,w,t,i,ah,⟨t,u,F _ _ _ Y,F _ _ _ h2,dX h3 (F _)⟩,F _ _ _ h2,ob.obj (λa xs e=>k2 _ _ _ (bo e g2 (by intro z;cases z)) e) (λa xs e=>k2 _ _ _ (bo e g2 (by intro z;cases z)) e) (λC dx fs e=>k2 _ _ _ ip e),?_⟩ ?_
 .simp only[cy,gy,String.reduceEq,if_true,if_false,true_and,Iu,and_self]
 .intro b o Z e
  exact k2 _ _ _ Z (s2 _ _ (b1 _ b o Z e))
theorem xF (h:cU H (.ref f) ws g) (Z : ∀c∈cs,c∈ws) (hl:ws.length<=40) (L : ∀c∈cs,-2000000<=g c/\g c<=2000000):gn H f cs g:=by
 obtain⟨a,kvs,e,h1,h2,F,B⟩:=h;cases e;exact⟨⟨kvs,h1,λc Y=>h2 c (Z c Y),B,w_ F hl⟩,L⟩
theorem tH (T:Txt w K mg) (L:bm K (aN K (au mg "Same") "kept") "kept" "Same.kept" fi ["self","filling"]) (Fv:Fn P w K mg base "same_kept" 5 ["wish","filling"] (ph)):FnR P w K mg base (aN K (au mg "Same") "kept") 6 ["self","filling"] (pH mg):=by
 ctx_has z tD <;> obtain⟨p,f,dat,ws,g,rfl,hO,hk,B,Y,Z,F,k⟩:=h
 .rfl
 refine⟨_,(ay (aI (aC Fv (af (aR T.cl_Same T.no_Same_wish (pvM 0)) (af (pvM 1) ap))))),?_⟩
 obtain⟨dx,fs,w,u,i,h1,h2,h3,h4,l1,l2,l3,l4,r⟩:=hO;ctx_has v h1 l1
 obtain⟨_,_,ok⟩:=hk.1;exact⟨w,f,dat.1,dat.2.1,dat.2.2,g,rfl,h2,zi ok,xF F B Y Z,k⟩
theorem iY (T:Txt w K mg) (L:bm K (aN K (au mg "Same") "may_be_among") "may_be_among" "Same.may_be_among" bC ["self","rooms"]):FnR P w K mg base (aN K (au mg "Same") "may_be_among") 1 ["self","rooms"] (rJ mg):=by
 ctx_has z jr <;> obtain⟨p,r,dat,kvs,rm,rfl,M,k⟩:=h
 .rfl
 refine⟨_,(ay (aI (aM (gF rfl) T.b_any (af (bB (N:=["value","self"]) (nt:=1) (js:=[0]) (aP ["self","rooms"] (aj bC).names) (cK K (cm hu (pvM 1) (aR T.cl_Same T.no_Same_cell (pvM 0)))) (aJ 0) aZ cF (aX gS (pvM 0) (aR T.cl_Same T.no_Same_among (pvM 1)))) ap)))),?_⟩
 obtain⟨dx,fs,w,u,i,h1,h2,h3,h4,l1,l2,l3,l4,r⟩:=M.ob;obtain⟨a0,Z,F⟩:=M.rf dat.1 FT;have aa:=M.ne dat.1 FT;have Y:=M.rd;ctx_has v h1 l2 Y Z F
 refine λD hD=>gl ba (λj ys H'=>ys=((rm dat.1).take j).map (λv=>V.bl (decide (v∈dat.2.1)))/\aA H H'/\H' D*>ys) ⟨rfl,aA.upd0 hD,ah⟩ (λj ys H' B=>by obtain⟨_,s,_⟩:=B;exact(.of (s _ _ F))) ?_ ?_
 .rintro j x ys H1 hj hx ⟨rfl,s1,h1D⟩
  obtain⟨v,hv,rfl⟩ : ∃v,(rm dat.1)[j]? = some v/\V.int v=x:=by
   rw[f_] at hx;cases e:(rm dat.1)[j]? with
   | none=>rw[e] at hx;cases hx
   | some u=>rw[e] at hx;exact⟨u,rfl,h_ hx⟩
  have g1:=s1 _ _ h1;have g3:=s1 _ _ h3;ctx_has v g1 l3 g3
  refine⟨rfl,cR _,h1D,?_,?_,λb o e=>(by rw[ao (az e hD)];exact s1 _ _ e),ah⟩
  .rw[d_,G6]
   exact aU ()
  .rw[za,hv,dN]
   simp
 .rintro ys H1 ⟨rfl,s1,h1D⟩
  rw[d_,FV] at h1D;have:=k H1 s1
  refine⟨D,rfl,(rm dat.1).map λv=>decide (v∈dat.2.1),by rw[h1D,FQ];rfl,?_⟩
  rw[any_map];exact this
theorem gD (T:Txt w K mg) (L:bm K (aN K (au mg "Same") "may_be_none_of_them") "may_be_none_of_them" "Same.may_be_none_of_them" aW ["self","rooms"]):FnR P w K mg base (aN K (au mg "Same") "may_be_none_of_them") 1 ["self","rooms"] (rS mg):=by
 ctx_has z gA <;> obtain⟨p,r,dat,kvs,rm,rfl,M,k⟩:=h
 .rfl
 refine⟨_,(ay (aI (aM (gF rfl) T.b_any (af (bB (N:=["value","self"]) (nt:=1) (js:=[0]) (aP ["self","rooms"] (aj aW).names) (cK K (cm hu (pvM 1) (aR T.cl_Same T.no_Same_cell (pvM 0)))) (aJ 0) aZ cF (aX qA (pvM 0) (aR T.cl_Same T.no_Same_among (pvM 1)))) ap)))),?_⟩
 obtain⟨dx,fs,w,u,i,h1,h2,h3,h4,l1,l2,l3,l4,r⟩:=M.ob;obtain⟨a0,Z,F⟩:=M.rf dat.1 FT;have aa:=M.ne dat.1 FT;have Y:=M.rd;ctx_has v h1 l2 Y Z F
 refine λD hD=>gl ba (λj ys H'=>ys=((rm dat.1).take j).map (λv=>V.bl (decide (v∉dat.2.1)))/\aA H H'/\H' D*>ys) ⟨rfl,aA.upd0 hD,ah⟩ (λj ys H' B=>by obtain⟨_,s,_⟩:=B;exact(.of (s _ _ F))) ?_ ?_
 .rintro j x ys H1 hj hx ⟨rfl,s1,h1D⟩
  obtain⟨v,hv,rfl⟩ : ∃v,(rm dat.1)[j]? = some v/\V.int v=x:=by
   rw[f_] at hx;cases e:(rm dat.1)[j]? with
   | none=>rw[e] at hx;cases hx
   | some u=>rw[e] at hx;exact⟨u,rfl,h_ hx⟩
  have g1:=s1 _ _ h1;have g3:=s1 _ _ h3;ctx_has v g1 l3 g3
  refine⟨rfl,cR _,h1D,?_,?_,λb o e=>(by rw[ao (az e hD)];exact s1 _ _ e),ah⟩
  .rw[d_,G6]
   exact aU ()
  .rw[za,hv,dN]
   simp
 .rintro ys H1 ⟨rfl,s1,h1D⟩
  rw[d_,FV] at h1D;have:=k H1 s1
  refine⟨D,rfl,(rm dat.1).map λv=>decide (v∉dat.2.1),by rw[h1D,FQ];rfl,?_⟩
  rw[any_map];exact this
theorem nT {l us:List Int}:(l.any λv=>decide (v∈us))=true↔∃v∈l,v∈us:=by simp
theorem gW {l us:List Int}:(l.any λv=>decide (v∉us))=true↔∃v∈l,v∉us:=by simp
theorem lB (T:Txt w K mg) (L:bm K (aN K (au mg "Same") "may_keep") "may_keep" "Same.may_keep" dh ["self","rooms"]) (F:FnR P w K mg base (aN K (au mg "Same") "may_be_among") 1 ["self","rooms"] (rJ mg)) (B:FnR P w K mg base (aN K (au mg "Same") "may_be_none_of_them") 1 ["self","rooms"] (rS mg)) (ab:FnR P w K mg base (aN K (au mg "Unlike") "may_keep") 22 ["self","rooms"] (fV mg)) (ai:FnR P w K mg base (aN K (au mg "Many") "may_keep") 22 ["self","rooms"] (fZ mg)) (an:FnR P w K mg base (aN K (au mg "Sum") "may_keep") 22 ["self","rooms"] (fW mg)) (ad:FnR P w K mg base (aN K (au mg "Table") "may_keep") 22 ["self","rooms"] (fU mg)) (ak:FnR P w K mg base (aN K (au mg "Way") "may_keep") 22 ["self","rooms"] (ga mg)) (ac:FnR P w K mg base (aN K (au mg "Behind") "may_keep") 22 ["self","rooms"] (fQ mg)) (Y:FnR P w K mg base (aN K (au mg "Unlike") "may_break") 22 ["self","rooms"] (fo mg)) (ae:FnR P w K mg base (aN K (au mg "Many") "may_break") 22 ["self","rooms"] (ff mg)) (aj:FnR P w K mg base (aN K (au mg "Sum") "may_break") 22 ["self","rooms"] (fh mg)) (aa:FnR P w K mg base (aN K (au mg "Table") "may_break") 22 ["self","rooms"] (fm mg)) (ag:FnR P w K mg base (aN K (au mg "Way") "may_break") 22 ["self","rooms"] (fe mg)) (Z:FnR P w K mg base (aN K (au mg "Behind") "may_break") 22 ["self","rooms"] (fv mg)):FnR P w K mg base (aN K (au mg "Same") "may_keep") 23 ["self","rooms"] (km mg):=by
 ctx_has z lZ <;> obtain⟨p,r,dat,kvs,rm,rfl,M,k⟩:=h
 .rfl
 refine⟨_,(ay (aI (jS (jh (bM T.cl_Same F (hr.mono (by ctx_has m)) (pvM 0) (af (pvM 1) ap)) (dS (kZ (BB ⟨T.cl_Unlike,ab⟩ ⟨T.cl_Many,ai⟩ ⟨T.cl_Sum,an⟩ ⟨T.cl_Table,ad⟩ ⟨T.cl_Way,ak⟩ ⟨T.cl_Behind,ac⟩) (hr.mono (by ctx_has m)) (aR T.cl_Same T.no_Same_inner (pvM 0)) (af (pvM 1) ap)))) (dS (jh (bM T.cl_Same B (hr.mono (by ctx_has m)) (pvM 0) (af (pvM 1) ap)) (dS (kZ (BB ⟨T.cl_Unlike,Y⟩ ⟨T.cl_Many,ae⟩ ⟨T.cl_Sum,aj⟩ ⟨T.cl_Table,aa⟩ ⟨T.cl_Way,ag⟩ ⟨T.cl_Behind,Z⟩) (hr.mono (by ctx_has m)) (aR T.cl_Same T.no_Same_inner (pvM 0)) (af (pvM 1) ap)))))))),?_⟩
 obtain⟨dx,fs,w,u,i,h1,h2,h3,h4,l1,l2,l3,l4,r1,r2,r3,r4,r5⟩:=M.ob;ctx_has v h1 r4
 refine⟨p,r,dat,kvs,rm,rfl,M,λH1 s1=>⟨_,rfl,?_⟩⟩
 by_cases hA:((rm dat.1).any λv=>decide (v∈dat.2.1))=true
 .rw[if_pos hA]
  refine⟨dx,fs,s1 _ _ h1,_,l4,i,rfl,oU ((M.same s1).inn (h4.keep (aA.keepTI s1))) λb1 H2 ar s2=>⟨_,rfl,?_⟩⟩
  have s3:=s1.trans s2;cases b1 with
  | true =>
   rw[if_pos rfl];refine k true H2 ?_ s3
   rw[dP M.ok];exact⟨λ_=>.inl ⟨nT.mp hA,ar.mp rfl⟩,λ_=>rfl⟩
  | false =>
   rw[if_neg ∅]
   have ao : ¬ ((∃v∈rm dat.1,v∈dat.2.1)/\∃g,okF rm (cu dat.2.2) g/\bX dat.2.2 g=true):=λz=>by cases ar.mpr z.2
   refine⟨dx,fs,s3 _ _ h1,r5,p,r,dat,kvs,rm,rfl,M.same s3,λHB sB=>⟨_,rfl,?_⟩⟩
   have am:=s3.trans sB
   by_cases hN:((rm dat.1).any λv=>decide (v∉dat.2.1))=true
   .rw[if_pos hN]
    refine⟨dx,fs,am _ _ h1,_,l4,i,rfl,lI ((M.same am).inn (h4.keep (aA.keepTI am))) λb2 HC aq sC=>k b2 HC ?_ (am.trans sC)⟩
    rw[dP M.ok,aq];exact⟨λz=>.inr ⟨gW.mp hN,z⟩,λz=>z.elim (λz=>absurd z ao) λz=>z.2⟩
   .rw[if_neg hN]
    refine k false HB ?_ am
    rw[dP M.ok];exact⟨λz=>(by cases z),λz=>z.elim (λz=>absurd z ao) λz=>absurd (gW.mpr z.1) hN⟩
 .rw[if_neg hA]
  have ao : ¬ ((∃v∈rm dat.1,v∈dat.2.1)/\∃g,okF rm (cu dat.2.2) g/\bX dat.2.2 g=true):=λz=>hA (nT.mpr z.1)
  refine⟨dx,fs,s1 _ _ h1,r5,p,r,dat,kvs,rm,rfl,M.same s1,λHB sB=>⟨_,rfl,?_⟩⟩
  have am:=s1.trans sB
  by_cases hN:((rm dat.1).any λv=>decide (v∉dat.2.1))=true
  .rw[if_pos hN]
   refine⟨dx,fs,am _ _ h1,_,l4,i,rfl,lI ((M.same am).inn (h4.keep (aA.keepTI am))) λb2 HC aq sC=>k b2 HC ?_ (am.trans sC)⟩
   rw[dP M.ok,aq];exact⟨λz=>.inr ⟨gW.mp hN,z⟩,λz=>z.elim (λz=>absurd z ao) λz=>z.2⟩
  .rw[if_neg hN]
   refine k false HB ?_ am
   rw[dP M.ok];exact⟨λz=>(by cases z),λz=>z.elim (λz=>absurd z ao) λz=>absurd (gW.mpr z.1) hN⟩
theorem li (T:Txt w K mg) (L:bm K (aN K (au mg "Same") "may_break") "may_break" "Same.may_break" cT ["self","rooms"]) (F:FnR P w K mg base (aN K (au mg "Same") "may_be_among") 1 ["self","rooms"] (rJ mg)) (B:FnR P w K mg base (aN K (au mg "Same") "may_be_none_of_them") 1 ["self","rooms"] (rS mg)) (ab:FnR P w K mg base (aN K (au mg "Unlike") "may_keep") 22 ["self","rooms"] (fV mg)) (ai:FnR P w K mg base (aN K (au mg "Many") "may_keep") 22 ["self","rooms"] (fZ mg)) (an:FnR P w K mg base (aN K (au mg "Sum") "may_keep") 22 ["self","rooms"] (fW mg)) (ad:FnR P w K mg base (aN K (au mg "Table") "may_keep") 22 ["self","rooms"] (fU mg)) (ak:FnR P w K mg base (aN K (au mg "Way") "may_keep") 22 ["self","rooms"] (ga mg)) (ac:FnR P w K mg base (aN K (au mg "Behind") "may_keep") 22 ["self","rooms"] (fQ mg)) (Y:FnR P w K mg base (aN K (au mg "Unlike") "may_break") 22 ["self","rooms"] (fo mg)) (ae:FnR P w K mg base (aN K (au mg "Many") "may_break") 22 ["self","rooms"] (ff mg)) (aj:FnR P w K mg base (aN K (au mg "Sum") "may_break") 22 ["self","rooms"] (fh mg)) (aa:FnR P w K mg base (aN K (au mg "Table") "may_break") 22 ["self","rooms"] (fm mg)) (ag:FnR P w K mg base (aN K (au mg "Way") "may_break") 22 ["self","rooms"] (fe mg)) (Z:FnR P w K mg base (aN K (au mg "Behind") "may_break") 22 ["self","rooms"] (fv mg)):FnR P w K mg base (aN K (au mg "Same") "may_break") 23 ["self","rooms"] (jd mg):=by
 ctx_has z kQ <;> obtain⟨p,r,dat,kvs,rm,rfl,M,k⟩:=h
 .rfl
 refine⟨_,(ay (aI (jS (jh (bM T.cl_Same F (hr.mono (by ctx_has m)) (pvM 0) (af (pvM 1) ap)) (dS (kZ (BB ⟨T.cl_Unlike,Y⟩ ⟨T.cl_Many,ae⟩ ⟨T.cl_Sum,aj⟩ ⟨T.cl_Table,aa⟩ ⟨T.cl_Way,ag⟩ ⟨T.cl_Behind,Z⟩) (hr.mono (by ctx_has m)) (aR T.cl_Same T.no_Same_inner (pvM 0)) (af (pvM 1) ap)))) (dS (jh (bM T.cl_Same B (hr.mono (by ctx_has m)) (pvM 0) (af (pvM 1) ap)) (dS (kZ (BB ⟨T.cl_Unlike,ab⟩ ⟨T.cl_Many,ai⟩ ⟨T.cl_Sum,an⟩ ⟨T.cl_Table,ad⟩ ⟨T.cl_Way,ak⟩ ⟨T.cl_Behind,ac⟩) (hr.mono (by ctx_has m)) (aR T.cl_Same T.no_Same_inner (pvM 0)) (af (pvM 1) ap)))))))),?_⟩
 obtain⟨dx,fs,w,u,i,h1,h2,h3,h4,l1,l2,l3,l4,r1,r2,r3,r4,r5⟩:=M.ob;ctx_has v h1 r4
 refine⟨p,r,dat,kvs,rm,rfl,M,λH1 s1=>⟨_,rfl,?_⟩⟩
 by_cases hA:((rm dat.1).any λv=>decide (v∈dat.2.1))=true
 .rw[if_pos hA]
  refine⟨dx,fs,s1 _ _ h1,_,l4,i,rfl,lI ((M.same s1).inn (h4.keep (aA.keepTI s1))) λb1 H2 ar s2=>⟨_,rfl,?_⟩⟩
  have s3:=s1.trans s2;cases b1 with
  | true =>
   rw[if_pos rfl];refine k true H2 ?_ s3
   rw[dP M.ok];exact⟨λ_=>.inl ⟨nT.mp hA,ar.mp rfl⟩,λ_=>rfl⟩
  | false =>
   rw[if_neg ∅]
   have ao : ¬ ((∃v∈rm dat.1,v∈dat.2.1)/\∃g,okF rm (cu dat.2.2) g/\bX dat.2.2 g=false):=λz=>by cases ar.mpr z.2
   refine⟨dx,fs,s3 _ _ h1,r5,p,r,dat,kvs,rm,rfl,M.same s3,λHB sB=>⟨_,rfl,?_⟩⟩
   have am:=s3.trans sB
   by_cases hN:((rm dat.1).any λv=>decide (v∉dat.2.1))=true
   .rw[if_pos hN]
    refine⟨dx,fs,am _ _ h1,_,l4,i,rfl,oU ((M.same am).inn (h4.keep (aA.keepTI am))) λb2 HC aq sC=>k b2 HC ?_ (am.trans sC)⟩
    rw[dP M.ok,aq];exact⟨λz=>.inr ⟨gW.mp hN,z⟩,λz=>z.elim (λz=>absurd z ao) λz=>z.2⟩
   .rw[if_neg hN]
    refine k false HB ?_ am
    rw[dP M.ok];exact⟨λz=>(by cases z),λz=>z.elim (λz=>absurd z ao) λz=>absurd (gW.mpr z.1) hN⟩
 .rw[if_neg hA]
  have ao : ¬ ((∃v∈rm dat.1,v∈dat.2.1)/\∃g,okF rm (cu dat.2.2) g/\bX dat.2.2 g=false):=λz=>hA (nT.mpr z.1)
  refine⟨dx,fs,s1 _ _ h1,r5,p,r,dat,kvs,rm,rfl,M.same s1,λHB sB=>⟨_,rfl,?_⟩⟩
  have am:=s1.trans sB
  by_cases hN:((rm dat.1).any λv=>decide (v∉dat.2.1))=true
  .rw[if_pos hN]
   refine⟨dx,fs,am _ _ h1,_,l4,i,rfl,oU ((M.same am).inn (h4.keep (aA.keepTI am))) λb2 HC aq sC=>k b2 HC ?_ (am.trans sC)⟩
   rw[dP M.ok,aq];exact⟨λz=>.inr ⟨gW.mp hN,z⟩,λz=>z.elim (λz=>absurd z ao) λz=>z.2⟩
  .rw[if_neg hN]
   refine k false HB ?_ am
   rw[dP M.ok];exact⟨λz=>(by cases z),λz=>z.elim (λz=>absurd z ao) λz=>absurd (gW.mpr z.1) hN⟩
theorem qm (T:Txt w K mg) (L:FnL K mg "_law_truth" eN ["_law_found","_law_due"]):Fn P w K mg base "_law_truth" 1 ["_law_found","_law_due"] (sP):=by
 ctx_has z qu <;> obtain⟨b,c,rfl,k⟩:=h
 .rfl
 refine⟨_,(ay (aI (jh (aM AU T.b_isinstance (af (pvM 0) (af (Ec (T := "bool") rfl T.b_bool (by decide+kernel)) ap))) (dS (aX cI (pvM 0) (pvM 1)))))),?_⟩
 ctx_has v
 cases b <;> cases c <;> exact k
abbrev En:=Fn P w K mg base "_law_right" 30 ["_law_thing","_law_wish_here","_law_names_here","_law_rooms_here"] (pR mg)
theorem qg (T:Txt w K mg) (L:FnL K mg "_law_right" eD ["_law_thing","_law_wish_here","_law_names_here","_law_rooms_here"]) (Fk : @DM P w K mg base) (Fr : @Dz8 P w K mg base) (Fg:Fn P w K mg base "_law_truth" 1 ["_law_found","_law_due"] (sP)) (Z:FnR P w K mg base (aN K (au mg "Same") "kept") 6 ["self","filling"] (pH mg)) (Y:FnR P w K mg base (aN K (au mg "Same") "may_keep") 23 ["self","rooms"] (km mg)) (B:FnR P w K mg base (aN K (au mg "Same") "may_break") 23 ["self","rooms"] (jd mg)) : @En P w K mg base:=by
 ctx_has z qo <;> obtain⟨t,w,a,r,dat,ws,kvs,rm,rfl,M,k⟩:=h
 .rfl
 refine⟨_,(ak (aL 4 (dA ap))
  (ak (bD (ik K (aC Fk (af (pvM 2) (af (pvM 3) ap)))) (aJ 5) (ak (aL 6 (aC Fr (af (pvM 1) (af (pvM 5) ap))))
  (ak (aL 7 (bL jW T.b_dict (af (pvM 5) ap)))
  (ak (bS (PW.pt (qK (mD (gp (aC Fg (af (bM T.cl_Same Z (hr.mono (by ctx_has m)) (pvM 0) (af (pvM 7) ap)) (af (pvM 6) ap))))) (lU (aS (Bl (Nat.lt_of_succ_lt hu)) (pvM 7) (pvM 5))))) (ay (aI dU)) aV)
  (ay (dz (jP Gj Gk eI (pvM 4) (af (pvM 6) ap))))))))
  (ak (aL 7 (bL jW T.b_dict (af (pvM 3) ap)))
  (ak (bS (PW.pt (qK (mD (gp (aC Fg (af (bM T.cl_Same Y (hr.mono (by ctx_has m)) (pvM 0) (af (pvM 7) ap)) (af (aX tJ dU (pvM 4)) ap))))) (lU (mD (gp (aC Fg (af (bM T.cl_Same B (hr.mono (by ctx_has m)) (pvM 0) (af (pvM 7) ap)) (af (aX tJ dU (pvM 4)) ap)))))))) (ay (aI dU)) aV)
  (ay (aI (aX (Be (Nat.lt_of_succ_lt hu)) (pvM 7) (pvM 3)))))))),?_⟩
 ctx_has v
 refine⟨∅,λkh ab=>?_⟩
 have s0:aA H (upd H kh (.lst [])):=aA.upd0 ab
 refine⟨a,r,ws,kvs,rm,rfl,s0 _ _ M.ha,s0 _ _ M.rd,M.rf.same (λa vs e=>s0 _ _ e),M.nd,M.wl,λc hc=>(M.gd c hc).2.1,λp xs H1 fp h1 fa aM a6=>?_⟩
 have aa:=s0.trans a6;have a0:=a6 _ _ (show upd H kh (.lst []) kh*>[] from ah)
 ctx_has v h1
 have pk:p≠kh:=λe=>by rw[e,ah] at fp;cases fp
 refine cL dD (λj σ H2=>∃(bs:List Bool) (v5 v6 v7:Option V),σ=[-t,-w,-a,-r,-kh,v5,v6,v7]/\bs.length=j/\(∀b∈bs,∃g,okF rm ws g/\fL dat g=b)/\(∀j',j' < j->∀z,xs[j']? = some z->∀g,cU H1 z ws g->fL dat g∈bs)/\H2 kh*>(bs.map V.bl)/\(∀b o,b≠kh->H1 b=some o->H2 b=some o))
  ⟨[],_,_,_,rfl,rfl,by simp,by simp,a0,λb o _ e=>e⟩ (λj σ H' a8=>by obtain⟨_,_,_,_,_,_,_,_,_,sm⟩:=a8;exact(.of (sm _ _ pk h1))) ?_ ?_
 .rintro j x σ H2 hj hx ⟨bs,v5,v6,v7,rfl,hbl,hso,hco,h2,sm2⟩
  obtain⟨g0,aq,ai⟩:=fa.sound x (m_ hx);obtain⟨ax,kx,rfl,aD,aH,ar⟩:=id ai;have aG:=ar.2;have dk : ∀b kv,H1 b<*kv->H2 b<*kv:=λb kv e=>sm2 _ _ (bo e a0 (by intro z;cases z)) e
  have a5:gk H H2:=⟨λb vs e=>sm2 _ _ (az e ab) (aa _ _ e),λb C dx fs e=>sm2 _ _ (az e ab) (aa _ _ e),λb ks e=>sm2 _ _ (az e ab) (aa _ _ e)⟩
  have an:=dk _ _ aD;have a3 : ∀c∈dw dat,-2000000<=g0 c/\g0 c<=2000000:=λc hc=>M.bd c (M.sub c hc) _ (aq c (M.sub c hc))
  have a1:ws.length<=40:=w_ M.wl ∅
  obtain⟨_,_,aK⟩:=M.ok.1;have aB:=ai.keep dk;ctx_has v
  refine⟨w,ax,dat.1,dat.2.1,dat.2.2,g0,rfl,je M.W a5,zi aK,xF aB M.sub a1 a3,λH3 s3=>?_⟩
  rw[show on (.sa dat.1 dat.2.1 dat.2.2) g0=fL dat g0 from rfl]
  have ad:=s3 _ _ an;ctx_has v ad
  intro q hq;have s4:aA H3 (upd H3 q (.dK kx)):=aA.upd0 hq
  have a2:=jo (jo M.ob a5) (aA.keepTI (s3.trans s4));obtain⟨dx,fs,ac,f6,f7,f8⟩:=xg a2;refine⟨dx,fs,ac,f6,t,q,dat,ws,g0,rfl,a2,M.ok,M.sub,a1,a3,⟨q,kx,rfl,ah,aH,ar⟩,λH5 s5=>?_⟩
  refine⟨_,_,rfl,?_⟩
  ctx_has v decide_true Hk q_
  refine⟨kx,s5 _ _ (show upd H3 q (.dK kx) q<*kx from ah),s5 _ _ (s4 _ _ ad),aG,?_⟩
  have ag:=s5 _ _ (s4 _ _ (s3 _ _ h2));ctx_has v ag
  refine⟨Gc (show(bs.map V.bl).length<=2000 by simp;omega) ∅,bs++[fL dat g0],by simp;omega,λb hb=>?_,λj' aw z hz g hg=>?_,by rw[ah];simp,λb o hb e=>?_⟩
  .rcases y8.mp hb with z | z
   .exact hso b z
   .rw[g_.mp z];exact⟨g0,aq,rfl⟩
  .by_cases ej:j'=j
   .subst ej
    rw[hx] at hz;cases hz;rw[ni M.ok (λc hc=>wq hg ai c (M.sub c hc))]
    simp
   .exact A_ _ (hco j' () z hz g hg)
  .rw[ao hb];exact s5 _ _ (s4 _ _ (s3 _ _ (sm2 _ _ hb e)))
 .rintro σ H2 ⟨bs,v5,v6,v7,rfl,hbl,hso,hco,h2,sm2⟩
  have hC : ∀g,okF rm ws g->fL dat g∈bs:=λg hg=>by
   obtain⟨x,hx,hf⟩:=fa.comp g hg;obtain⟨j',aw,e'⟩:=Gt hx;exact hco j' aw x (by rw[<- e'];simp) g hf
  have aF : ∀c∈ws,rm c≠[]:=λc hc=>(M.gd c hc).1
  have eT : ∀b0 b:Bool,(b=true↔∃g,okF rm (dw dat) g/\fL dat g=b0)->decide (b0∈bs)=b:=λb0 b hb=>by
   rw[FY,decide_eq_true_eq,hb,Ah M.ok M.sub aF]
   constructor
   .intro h;obtain⟨g,h1,h2⟩:=hso _ h;exact⟨g,h1,h2⟩
   .rintro⟨g,h1,h2⟩;rw[<- h2];exact hC g h1
  have a7:aA H H2:=λb o e=>sm2 _ _ (az e ab) (aa _ _ e)
  have a4:=a7 _ _ M.rd;ctx_has v a4
  intro q hq;have s3:aA H2 (upd H2 q (.dK kvs)):=aA.upd0 hq
  have ae:=a7.trans s3;have M3:ia mg (upd H2 q (.dK kvs)) t q dat kvs rm:=⟨jo M.ob (aA.keepTI ae),ah,λc hc=>(M.rf.same (λa vs e=>ae _ _ e)) c (M.sub c hc),M.ok,λc hc=>(by have:=M.gd c (M.sub c hc);exact⟨this.1,(),this.2.2⟩)⟩
  obtain⟨dx,fs,ac,f6,f7,f8⟩:=xg M3.ob;refine⟨dx,fs,ac,f7,t,q,dat,kvs,rm,rfl,M3,λb1 H4 a9 s4=>?_⟩
  have am:=s4 _ _ (s3 _ _ h2);ctx_has v am
  refine⟨rfl,tO _,?_⟩
  rw[xw,eT true b1 a9];refine⟨b1,b1,rfl,?_⟩
  ctx_has v decide_true Hk q_
  refine⟨dx,fs,s4 _ _ ac,f8,t,q,dat,kvs,rm,rfl,M3.same s4,λb2 H5 aE s5=>?_⟩
  have ag:=s5 _ _ am;ctx_has v ag
  refine⟨rfl,tO _,?_⟩
  rw[xw,eT false b2 aE];refine⟨b2,b2,rfl,?_⟩
  ctx_has v decide_true Hk q_
  have aj:=s4.trans s5;exact⟨kvs,aj _ _ (show upd H2 q (.dK kvs) q<*kvs from ah),aj _ _ (s3 _ _ a4),M.pl,k _ (ae.trans aj)⟩
def Eb (t u:TS):TS:=λD σ H=>∃R:St->Hp->Prop,t { D with nx:=R } σ H/\∀ σ H,R σ H->u D σ H
theorem Bt {t u:TS} (h1:PS X st t) (h2:PSs X rest u):PSs X (st :: rest) (Eb t u):=by
 intro pins s σ H D I h;obtain⟨R,h,F⟩:=h;refine wpAny_execs_cons (thn (h1 pins s σ H { D with nx:=R } I h) λf B q=>?_)
 cases f with
 | next =>
  obtain⟨σ',H',L,q⟩:=q;exact h2 pins B σ' H' D L (F _ _ q)
 | ret v=>exact q
 | brk=>exact q
 | cont=>exact q
theorem zV {a b c d rest:TS} (h : ∀R:TS,R=rest->mf a (mf b (mf c (mf d R))) D σ H):mf a (mf b (mf c (mf d rest))) D σ H:=h rest rfl
theorem Dx {a b:TS} (R:St->Hp->Prop) (h1:a { D with nx:=R } σ H) (h2 : ∀ σ H,R σ H->b D σ H):Eb a b D σ H:=⟨R,h1,h2⟩
theorem jk {a rest:TS} (h : ∀R:TS,R=rest->mf a R D σ H):mf a rest D σ H:=h rest rfl
local macro_rules | `(tactic| ctx_has s $ids*) => `(tactic| (refine jk λR hR => ?_; ctx_has v $ids*; subst hR))
theorem xo {α:Type} : ∀{l m:List α},l.Nodup->(∀x∈l,x∈m)->l.length<=m.length
 | [],m,_,_=>GR _
 | x :: l,m,hn,h=>by
  rw[FG] at hn;obtain⟨s,t,rfl⟩:=List.append_of_mem (h x FT);have:=xo (m:=s++t) hn.2 λy B=>by
   rcases y8.mp (h y (zc _ B)) with z | z
   .exact A_ _ z
   .rcases u_.mp z with z | z
    .subst z;exact absurd B hn.1
    .exact Ga _ z
  simp at this ⊢
  omega
theorem AQ {W:Wi} (h:okW ws ns W):(cu W).Nodup/\∀x∈cu W,x∈ws:=by
 cases W with
 | un cs=>exact⟨h.2.1,h.2.2.1⟩
 | mn av cs lo hi=>exact⟨h.1.2.1,h.1.2.2.1⟩
 | sm ts lo hi=>exact⟨h.1.2.1,h.1.2.2.1⟩
 | tb cs rows=>exact⟨h.1.2.1,h.1.2.2.1⟩
 | wy cs ps es=>exact⟨h.1.2.1,h.1.2.2.1⟩
 | bh cs gap=>exact⟨h.2.1,h.2.2.1⟩
structure S3X (mg:Str->Option Value) (d l ca ra tx wa:Addr) (ws:List Str) (kvs:List (Key × V)) (rm:Str->List Int) (dat:fG) (H:Hp):Prop where
 deal:aQ H d l
 fca:H ca*>(ws.map V.str)
 fra:H ra<*kvs
 rf:bj H kvs ws rm
 ob:OBX mg H tx dat
 W:WSX H wa dat
 ne:(ca≠d/\ca≠l)/\(ra≠d/\ra≠l)
theorem S3X.but {dat:fG} (s:S3X mg d l ca ra tx wa ws kvs rm dat H) (D:aQ H' d l) (B:But d l H H'):S3X mg d l ca ra tx wa ws kvs rm dat H' :=
 ⟨D,B _ _ s.ne.1.1 s.ne.1.2 s.fca,B _ _ s.ne.2.1 s.ne.2.2 s.fra,s.rf.same (But.keepTI B s.deal).tup,jo s.ob (But.keepTI B s.deal),je s.W (But.keepTI B s.deal),s.ne⟩
theorem S3X.same {mg:Str->Option Value} {d l ca ra tx wa:Addr} {ws:List Str} {kvs:List (Key × V)} {rm:Str->List Int} {dat:fG} {H H':Hp} (s:S3X mg d l ca ra tx wa ws kvs rm dat H) (B:aA H H'):S3X mg d l ca ra tx wa ws kvs rm dat H':=s.but (s.deal.same B) (aA.but B)
structure F3X (ws:List Str) (kvs:List (Key × V)) (rm:Str->List Int) (dat:fG):Prop where
 nd:ws.Nodup
 wl:ws.length<=5
 ok:sR dat
 sub : ∀c∈dw dat,c∈ws
 gd : ∀c∈ws,rm c≠[]/\(rm c).length<=4/\(rm c).Pairwise (· < ·)
 pl : ∀x∈kvs,fb x.2=true
 bd : ∀c∈ws,∀v∈rm c,-2000000<=v/\v<=2000000
theorem mw {B:Addr} {dat:fG} {Q:VK} (s:S3X mg d l ca ra tx wa ws kvs rm dat H) (f:F3X ws kvs' rm' dat) (F:H B<*kvs') (L:bj H kvs' ws rm') (k : ∀H',aA H H'->Q (.bl true) H'):pR mg [.ref tx,.ref wa,.ref ca,.ref B] H Q E0 :=
 ⟨tx,wa,ca,B,dat,ws,kvs',rm',rfl,⟨s.ob,s.W,F,L,f.ok,f.gd,s.fca,f.nd,f.wl,f.sub,f.pl,f.bd⟩,k⟩
theorem Ca (hp:ms.Perm ns) (L:ms.Pairwise (·<=·)) (Y:ns.Nodup):ms.Pairwise (· < ·):=by
 have F:ms.Nodup:=hp.nodup_iff.mpr Y
 exact(L.and F).imp λB=>by obtain⟨h1,h2⟩:=B;exact()
def xi (K:j_):Sp:=λvs H Q _=>∃(a:Addr) (ns:List Int),vs=[.ref a]/\SqL K H a (ns.map V.int)/\ns.length<=63/\∀H',Q (.bl true) H'
theorem DD (T:Txt w K mg) (L:Fun K "law" "law" nA f fd) (Fs : @Dz1 P w K mg base) (Fa : @Dz0 P w K mg base) (Fm : @Dz2 P w K mg base) (Fu:Fn P w K mg base "_law_pool" 2 ["_law_deal_here"] (sL)) (Fq : @Dz3 P w K mg base) (Fd : @Dz4 P w K mg base) (Fo:Fn P w K mg base "_law_wish" 15 ["_law_deal_here","_law_names_here","_law_rooms_here","_law_pool_here","_law_sorts"] (nW false)) (Z:FnR P w K mg base (Mk K (au mg "Same")) 8 ["self","wish"] (si mg "Same")) (Ff : @En P w K mg base):iH P w K mg base CX0 45 f fd ["_law_script"] (xi K):=by
 have nd:=A0.nd;refine L.ok A0 (λvs H Q E h=>?_) (λcdv A outer s H vs Q E hr h=>?_) <;> obtain⟨a,ns,rfl,hS,bJ,k⟩:=h
 .rfl
 have hu:=Cp hr;refine⟨_,(ak (aL 1 (aC Fs (af (pvM 0) (af aw ap))))
  (ak (aL 2 (aC Fm (af (pvM 1) (af (aT br aw (aC Fa (af (pvM 1) (af aw ap)))) ap))))
  (ak (aL 3 (aC Fu (af (pvM 1) ap)))
  (ak (aL 4 (aC Fq (af (pvM 1) (af (pvM 2) (af (pvM 3) (af aw ap))))))
  (ak (aL 5 (aC Fa (af (pvM 1) (af (aM ck T.b_len (af (pvM 2) ap)) ap))))
  (ak (aL 6 (aT BQ (cJ C4 (pvM 2) dJ (dr (pvM 5))) (cJ C4 (pvM 2) (dr (aT br (pvM 5) aw)) dJ)))
  (ak (aL 7 (aC Fo (af (pvM 1) (af (pvM 6) (af (pvM 4) (af (pvM 3) (af (dA (af aO (af aO (af aO (af aO (af aO (af aO ap))))))) ap)))))))
  (Bt (bS (PW.pt (oH (aS cI (aK bg (pvM 7) aw) aO) (oH (aS mS (aK bg (pvM 7) aw) aw) (sr (aS cI (aC Fa (af (pvM 1) (af aw ap))) aw))))) (ay (aL 7 (aT AM (cJ mQ (pvM 7) dJ (dr aw)) (cX (af (aT iB (aK bg (pvM 7) aw) aw) ap))))) aV)
  (ak (aL 8 (cX (af aO (af (aK iR (pvM 2) (pvM 5)) (af (aC Fd (af (pvM 1) (af (pvM 3) (af aw ap)))) (af (pvM 7) ap))))))
  (ak (aL 9 (gK Z (hr.mono (by ctx_has m)) rfl T.at_Same (af (pvM 8) ap)))
  (ak (aL 10 gh)
  (ak (bD (ik K (pvM 2)) (aJ 11) (ay (iq hu (pvM 10) (pvM 11) (bL dO T.b_tuple (af (aM rY T.b_sorted (af (aC Fd (af (pvM 1) (af (cm hu (pvM 4) (pvM 11)) (af aw ap)))) ap)) ap)) rfl)))
  (ak (bS (PW.pt (qK (mD (gp (aC Ff (af (pvM 9) (af (pvM 8) (af (pvM 2) (af (pvM 4) ap))))))) (lU (mD (gp (aC Ff (af (pvM 9) (af (pvM 8) (af (pvM 2) (af (pvM 10) ap)))))))))) (ay (aI dU)) aV)
  (ay (aI (aC Ff (af (pvM 9) (af (pvM 8) (af (pvM 2) (af (pvM 4) ap)))))))))))))))))))),?_⟩
 refine zV λR hR=>?_
 ctx_has v
 refine⟨a,ns,0,rfl,hS,bJ,∅,∅,λd l H1 hd hl D1 cz=>?_⟩
 refine bz D1 ∅ ∅ λr1 H2 cD c7 D2 B2=>?_
 refine⟨_,rfl,d,l,_,rfl,D2,(),(),λca ws H3 cb ok bx h3 D3 B3=>?_⟩
 have ae:=D2.ne cb;refine⟨d,l,rfl,D3,λpa ps H4 bB bn b8 cp bq D4 B4=>?_⟩
 have a3:=D3.ne bB;have h4:=B4 ca _ ae.1 ae.2 h3;refine⟨d,l,ca,pa,ws,ps,3,rfl,D4,ae,a3,h4,(),bq,bn,b8,∅,∅,λra kvs rm H5 bG bX bC aF cf bI D5 B5=>?_⟩
 have bp:=D4.ne bG;have h5:=B5 ca _ ae.1 ae.2 h4;have bY:=B5 pa _ a3.1 a3.2 bq;have bx:2<=ws.length/\ws.length<=5:=()
 have cc : ∀c∈ws,∀v∈rm c,-1000000<=v/\v<=1000000:=λc hc v hv=>cp v ((aF c hc).2.2.2 v hv)
 have F5:gZ H5 d l ca ra pa ws ps kvs rm:=⟨D5,ae,bp,a3,h5,bX,bY,bC,λe=>by rw[e] at bx;simp at bx,ok.nd,(),bn,b8.imp λh=>by omega,ok.nm,λc hc=>⟨(aF c hc).1,by have:=(aF c hc).2.1;omega,cc c hc⟩⟩
 clear hS cz B2 B3 B4 B5 D1 D2 D3 D4 hd hl h3 h4 bq cb bB bG;subst hR;dsimp only;refine jk λR hR=>?_
 ctx_has v h5
 refine bz D5 (by rw[d_];omega) (by rw[d_];omega) λbR H6 cC cg D6 B6=>?_
 have F6:=F5.but D6 B6;rw[d_] at cg;obtain⟨n,rfl⟩ : ∃n:Nat,bR=(n:Int):=⟨bR.toNat,()⟩
 have bv:n < ws.length:=()
 obtain⟨c,aX⟩ : ∃c,ws[n]? = some c:=⟨_,C_ bv⟩;clear F5 B6 D5 D6 h5 bY bX bC;subst hR;refine jk λR hR=>?_
 have g6:=F6.ha;ctx_has v g6
 intro p1 bO;rw[sx];have s7:=aA.upd0 (o:=.lst ((ws.take n).map V.str)) bO;refine⟨_,s7 _ _ g6,λp2 bu=>?_⟩
 rw[show((n:Int)+1)=((n+1:Nat):Int) by omega,gB]
 have ag:(ws.take n++ws.drop (n+1)).length=ws.length - 1:=by rw[Gh,G6,HX];omega
 have s8:=s7.upd_new (o:=.lst ((ws.drop (n+1)).map V.str)) bu;refine⟨_,(aA.upd0 bu) _ _ ah,_,ah,by rw[d_,d_,G6,HX];exact Hd (aU ()),λre b4=>?_⟩
 have s9:=s8.upd_new (o:=.lst ((ws.take n).map V.str++(ws.drop (n+1)).map V.str)) b4;have ce:=(F6.D.same s8).ne b4;have g9:upd (upd (upd H6 p1 (.lst ((ws.take n).map V.str))) p2 (.lst ((ws.drop (n+1)).map V.str))) re (.lst ((ws.take n).map V.str++(ws.drop (n+1)).map V.str)) re*>((ws.take n++ws.drop (n+1)).map V.str):=by rw[ah,Gz]
 generalize upd (upd (upd H6 p1 (.lst ((ws.take n).map V.str))) p2 (.lst ((ws.drop (n+1)).map V.str))) re (.lst ((ws.take n).map V.str++(ws.drop (n+1)).map V.str))=H9 at s9 g9 ⊢;have bd:ws=ws.take n++c :: ws.drop (n+1):=by
  have h1:=List.take_append_drop n ws;have h2:ws.drop n=c :: ws.drop (n+1):=by
   rw[List.drop_eq_getElem_cons bv];rw[C_ bv] at aX;rw[h_ aX]
  rw[h2] at h1;exact h1.symm
 have b0:c∉ws.take n++ws.drop (n+1)/\(ws.take n++ws.drop (n+1)).Nodup:=by
  have:=ok.nd
  rw[bd,List.perm_middle.nodup_iff,FG] at this;exact this
 have a8 : ∀x∈ws.take n++ws.drop (n+1),x∈ws:=λx hx=>by
  rcases y8.mp hx with z | z
  .exact Hg z
  .exact List.mem_of_mem_drop z
 obtain⟨rs,b9⟩ : ∃rs,rs=ws.take n++ws.drop (n+1):=⟨_,rfl⟩;rw[<- b9] at g9 b0 a8 ag;have F9:=F6.same s9;have E9:gZ H9 d l re ra pa rs ps kvs rm:=⟨F9.D,ce,bp,a3,g9,F9.hr,F9.hp,λx hx=>F9.rf x (a8 x hx),(λe=>by rw[e] at ag;simp at ag;omega),b0.2,(),bn,F9.nn,λx hx=>ok.nm x (a8 x hx),λx hx=>F9.gd x (a8 x hx)⟩
 clear s7 s8 s9 bO bu b4 g6 F6 b9 bd;subst hR;refine jk λR hR=>?_
 ctx_has v
 refine⟨∅,λso b3=>?_⟩
 have ax:=aA.upd0 (o:=.lst ((jl false).map V.str)) b3;refine⟨d,l,re,ra,pa,so,rs,ps,kvs,rm,rfl,E9.same ax,F9.D.ne b3,ah,λiw WW aR hW bc bk aq ar=>?_⟩
 obtain⟨W,rfl⟩:=bk rfl;have Y:=(F9.same ax).but aq ar;have F:okW rs ps W:=bc
 have hW:Lw.WS aR iw W:=hW
 clear E9 F9 ax b3 ar bc bk;subst hR;refine Dx (λσ H'=>∃iw W,σ=[-a,-d,-ca,-pa,-ra,some (.int n),-re,-iw,none,none,none,none]/\Lw.WS H' iw W/\okW rs ps W/\gZ H' d l ca ra pa ws ps kvs rm) ?_ ?_
 .cases W with
  | mn av cs lo hi =>
   obtain⟨am,c1,h1,h2,h3⟩:=id hW;ctx_has v h1
   refine fF (λh=>?_) (λh=>⟨_,hW,F,Y⟩)
   refine bz Y.D ∅ ∅ λx a1 x0 x1 b2 aj=>⟨rfl,?_⟩
   have ad:=Y.but b2 aj;have g1:=aj.tup Y.D h1;have g2:=aj.tup Y.D h2;have g3:=aj.tup Y.D h3;refine fF (λh=>?_) (λh=>⟨.mn av cs lo hi,⟨am,c1,g1,g2,g3⟩,F,ad⟩)
   refine⟨_,g1,λq1 aY aW a2=>⟨_,a2 _ _ g1,_,rfl,_,rfl,∅,λq2 bZ=>⟨_,(aA.upd0 bZ) _ _ aW,_,ah,(by show 4+1<=l_;decide),λq3 bm cq ai=>?_⟩⟩⟩
   have s1:=(a2.upd_new bZ).trans ai;exact⟨.mn av cs lo (lo - 1),⟨am,c1,cq,s1 _ _ g2,s1 _ _ g3⟩,F,ad.same s1⟩
  | un cs =>
   obtain⟨c1,h1,h2⟩:=id hW;ctx_has v h1
   exact⟨_,hW,F,Y⟩
  | sm ts lo hi =>
   obtain⟨c1,h1,h2⟩:=id hW;ctx_has v h1
   exact⟨_,hW,F,Y⟩
  | tb cs rows =>
   obtain⟨c1,t1,vs,h1,h2⟩:=id hW;ctx_has v h1
   exact⟨_,hW,F,Y⟩
  | wy cs qs es =>
   obtain⟨c1,t1,e1,vs,h1,h2⟩:=id hW;ctx_has v h1
   exact⟨_,hW,F,Y⟩
  | bh cs gap =>
   obtain⟨c1,h1,h2⟩:=id hW;ctx_has v h1
   exact⟨_,hW,F,Y⟩
 clear hW F Y;rintro σ a1 ⟨iw,W,rfl,hW,F,ad⟩
 refine jk λR hR=>?_
 have bM:=ad.ha;ctx_has v bM
 refine⟨_,da (by rw[f_,aX];rfl),d,l,pa,0,ps.map V.int,rfl,ad.D,.inl ad.hp,∅,by simp,by rw[d_];omega,λsa c8 rest aY c3 a4 ab aW bA bs=>⟨∅,λwa b6=>?_⟩⟩
 obtain⟨us,zs,rfl,bP⟩:=iX V.int xR (λ_=>rfl) a4
 have cy:us.length<=20:=by
  have:=bP.length_eq
  rw[Gh] at this;omega
 have ai:=aA.upd0 (o:=.tup [.str (b_ "same"),.str c,.ref sa,.ref iw]) b6;have bt:=(ad.but bA bs).same ai;have a5:WSX (upd aY wa (.tup [.str (b_ "same"),.str c,.ref sa,.ref iw])) wa (c,us,W):=⟨sa,iw,ah,ai _ _ aW,Lw.dX hW λa xs e=>ai _ _ (bs.tup ad.D e)⟩
 obtain⟨cn,cw⟩:=AQ F;have co:(cu W).length<=5:=w_ (xo cn cw) ()
 have a0:sR (c,us,W):=⟨⟨_,_,F⟩,co,cy,λz=>b0.1 (cw c z)⟩
 have an : ∀x∈dw (c,us,W),x∈ws:=λx hx=>by
  rcases u_.mp hx with e | z
  .rw[e];exact m_ aX
  .exact a8 x (cw x z)
 generalize c5:((c,us,W):fG)=dat at a5 a0 an;generalize upd aY wa (.tup [.str (b_ "same"),.str c,.ref sa,.ref iw])=bm at bt a5 ⊢;clear ad bs bA aW a4 bP ab c3 b6 ai bM hW;subst hR;refine jk λR hR=>?_
 ctx_has v
 intro tx dx b1 bV bT;have s1:=fT (C:=au mg (b_ "Same")) b1 bV bT;refine⟨tx,dx,wa,dat,rfl,ah,je a5 (aA.keepTI s1),a0,λaE a9 bF=>⟨rfl,?_⟩⟩
 have ax:aA bm aE:=fJ b1 s1 bF
 have aB:=bt.same ax;have st:S3X mg d l ca ra tx wa ws kvs rm dat aE:=⟨aB.D,aB.ha,aB.hr,aB.rf,a9,je a5 (aA.keepTI ax),ae,bp⟩
 have ba : ∀c∈ws,rm c≠[]/\(rm c).length<=4/\(rm c).Pairwise (· < ·):=λc hc=>by have:=aF c hc;exact⟨this.1,(),this.2.2.1⟩
 have be : ∀c∈ws,∀v∈rm c,-2000000<=v/\v<=2000000:=λc hc v hv=>by have:=cc c hc v hv;omega
 have fx:F3X ws kvs rm dat:=⟨ok.nd,(),a0,an,ba,cf,be⟩
 clear bt aB s1 ax b1 bV bT bF a9 a5;subst hR;ctx_has v
 intro le aD;have aP:=st.deal.ne aD;have g1:=aA.upd0 (o:=.dK []) aD _ _ st.fca;ctx_has v g1
 refine cL dD (λi σ H'=>∃(kv:List (Key × V)) (rl:Str->List Int) (vn:Option V),σ=[-a,-d,-ca,-pa,-ra,some (.int n),-re,-iw,-wa,-tx,-le,vn]/\H' le<*kv/\bj H' kv (ws.take i) rl/\(∀c∈ws.take i,rl c≠[]/\(rl c).length<=4/\(rl c).Pairwise (· < ·)/\∀v∈rl c,-2000000<=v/\v<=2000000)/\(∀x∈kv,fb x.2=true)/\kv.length<=i/\aQ H' d l/\But d l aE H')
  ⟨[],λ_=>[],_,rfl,ah,λc hc=>by simp at hc,λc hc=>by simp at hc,by simp,GR _,st.deal.new aD,(But.refl aE).new aD⟩ (λi σ H' bH=>by obtain⟨_,_,_,_,_,_,_,_,_,_,B⟩:=bH;exact(.of (B ca _ ae.1 ae.2 st.fca))) ?_ ?_
 .rintro i x σ aR hi hx ⟨kv,rl,vn,rfl,h11,ag,ab,hpk,bI,aq,ar⟩
  rw[d_] at hi;obtain⟨c,aG,rfl⟩ : ∃c,ws[i]? = some c/\V.str c=x:=by
   rw[f_] at hx;cases e:ws[i]? with
   | none=>rw[e] at hx;cases hx
   | some nm=>rw[e] at hx;exact⟨nm,rfl,h_ hx⟩
  have cv:ws.take (i+1)=ws.take i++[c]:=by rw[za,aG];rfl
  have bb : ∀x∈ws.take (i+1),x=c\/x∈ws.take i:=λx hx=>by
   rw[cv] at hx;rcases y8.mp hx with z | z
   .exact .inr z
   .exact .inl (g_.mp z)
  have aa:=st.but aq ar;obtain⟨ac,cj,c0⟩:=aa.rf c (m_ aG);have bU:=ba c (m_ aG);have c6:=Ie.mpr bU.1;have g2:=aa.fra;ctx_has v g2 cj
  refine⟨d,l,ac,1,(rm c).map V.int,rfl,aq,.inr c0,∅,by simp;omega,by simp;omega,λsp c4 cx a1 c9 aZ bN c2 b2 aj=>?_⟩
  obtain⟨vs,us,rfl,a7⟩:=iX V.int xR (λ_=>rfl) aZ
  have cA:vs.length<=(rm c).length:=by have:=a7.length_eq;simp at this;omega
  have b5:(rm c).Nodup:=bU.2.2.imp λh=>by omega
  ctx_has v c2
  refine⟨vs,rfl,(),λsq ms ci bw bK=>?_⟩
  refine⟨_,ah,λtp aN=>?_⟩
  have aH:aA a1 (upd (upd a1 sq (.lst (ms.map V.int))) tp (.tup (ms.map V.int))):=(aA.upd0 ci).upd_new aN
  have bi:=aj le _ aP.1 aP.2 h11;have b7:a1 tp=none:=by
   have z:sq≠tp:=by rintro rfl;rw[ah] at aN;cases aN
   rwa [ao z.symm] at aN
  have tl:tp≠le:=(az bi b7).symm
  refine⟨kv,aH _ _ bi,aU (),?_⟩
  have bW : ∀b vs,aR b>>vs->upd (upd (upd a1 sq (.lst (ms.map V.int))) tp (.tup (ms.map V.int))) le (.dK (bE kv (t_ c) (.ref tp))) b>>vs:=λb vs e=>by
   rw[ao (bo e h11 (by intro z;cases z))]
   exact aH _ _ ((But.keepTI aj aq).tup _ _ e)
  refine⟨_,ah,cV rl c ms,ag.putG bW (by rw[ao tl];exact ah) bb,λx hx=>?_,jB hpk rfl,w_ (du _ _ _) (),(b2.same aH).put aP.1 aP.2,((ar.trans aj).same aH).put aD⟩
  by_cases e:x=c
  .subst e
   unfold cV;rw[if_pos rfl];have bQ:=bw.length_eq;simp only[d_] at bN;exact⟨λz=>by rw[z] at bQ;simp at bQ;omega,(),Ca bw bK (Gr.mp (a7.nodup_iff.mpr b5)).1,λv hv=>be x (m_ aG) v (a7.mem_iff.mp (A_ _ (bw.mem_iff.mp hv)))⟩
  .unfold cV
   rw[if_neg e];exact ab x ((bb x hx).resolve_left e)
 .rintro σ aR ⟨kv,rl,vn,rfl,h11,ag,ab,hpk,bI,aq,ar⟩
  rw[d_,FV] at ag ab;have aa:=st.but aq ar;have fl:F3X ws kv rl dat:=⟨ok.nd,(),a0,an,λc hc=>⟨(ab c hc).1,(ab c hc).2.1,(ab c hc).2.2.1⟩,hpk,λc hc=>(ab c hc).2.2.2⟩
  ctx_has v
  refine mw aa fx aa.fra aa.rf λaY a2=>?_
  have bf:=aa.same a2;ctx_has v Hk q_
  refine mw bf fl (a2 _ _ h11) (ag.same (aA.keepTI a2).tup) λbm ai=>?_
  have a6:=bf.same ai;ctx_has v Hk q_
  exact mw a6 fx a6.fra a6.rf λcr cB=>k cr
theorem ft6 {f0:Addr} {f1:Addr} {L:Addr} {Y:Addr} {B:Addr} {Z:Addr}
  (F0:Fn P w K mg base "unlike_kept" 2 ["wish","filling"] (ib "unlike")) (m0:mg "unlike_kept" = some (.ref f0)) (n0:nsIn K a "unlike" = some (-f0)) (F1:Fn P w K mg base "many_kept" 2 ["wish","filling"] (ib "many")) (m1:mg "many_kept" = some (.ref f1)) (n1:nsIn K a "many" = some (-f1)) (F2:Fn P w K mg base "sum_kept" 2 ["wish","filling"] (ib "sum")) (m2:mg "sum_kept" = some (.ref L)) (n2:nsIn K a "sum" = some (-L)) (F3:Fn P w K mg base "table_kept" 2 ["wish","filling"] (ib "table")) (m3:mg "table_kept" = some (.ref Y)) (n3:nsIn K a "table" = some (-Y)) (F4:Fn P w K mg base "way_kept" 2 ["wish","filling"] (ib "way")) (m4:mg "way_kept" = some (.ref B)) (n4:nsIn K a "way" = some (-B)) (F5:Fn P w K mg base "behind_kept" 2 ["wish","filling"] (ib "behind")) (m5:mg "behind_kept" = some (.ref Z)) (n5:nsIn K a "behind" = some (-Z)) :
  ∀y∈pd,FnT P w K mg base a y 3 ["wish","filling"] (ib y):=by
 intro y F;simp only[pd,u_,Ge,or_false] at F;rcases F with rfl | rfl | rfl | rfl | rfl | rfl
 .exact mo F0 m0 n0 ∅ λ_ _ _ _ h=>h
 .exact mo F1 m1 n1 ∅ λ_ _ _ _ h=>h
 .exact mo F2 m2 n2 ∅ λ_ _ _ _ h=>h
 .exact mo F3 m3 n3 ∅ λ_ _ _ _ h=>h
 .exact mo F4 m4 n4 ∅ λ_ _ _ _ h=>h
 .exact mo F5 m5 n5 ∅ λ_ _ _ _ h=>h
theorem zI {us:List α} (h:us.length=1) : ∃u0,us=[u0]:=by
 match us,h with
 | [u0],_=>exact⟨u0,rfl⟩
theorem bw {us:List α} (h:us.length=2) : ∃u0 B,us=[u0,B]:=by
 match us,h with
 | [u0,B],_=>exact⟨u0,B,rfl⟩
theorem ly {us:List α} (h:us.length=3) : ∃u0 B F,us=[u0,B,F]:=by
 match us,h with
 | [u0,B,F],_=>exact⟨u0,B,F,rfl⟩
theorem xl {us:List α} (h:us.length=4) : ∃u0 F L B,us=[u0,F,L,B]:=by
 match us,h with
 | [u0,F,L,B],_=>exact⟨u0,F,L,B,rfl⟩
theorem Ed {us:List α} (h:us.length=5) : ∃u0 F L B Y,us=[u0,F,L,B,Y]:=by
 match us,h with
 | [u0,F,L,B,Y],_=>exact⟨u0,F,L,B,Y,rfl⟩
theorem De {l:PySem.W.OpenLaw} (X:K.In h) (G:h.Ns i_ mg) (ui:mg "law" = some (.ref fa))
  {bs:Addr}
  {Y:Addr}
  {aa:Addr}
  {ac:Addr}
  {L:Addr}
  {ae:Addr}
  {F:Addr}
  {Z:Addr}
  {f0:Addr} {xx:Value} {uo xN:Option Addr} {yi:Array (Option Value)} {vZ v2 tQ mS wt:Value}
  {f1:Addr} {wD:Value} {xg wj:Option Addr} {ww:Array (Option Value)} {xH wp uM ik tM:Value}
  {f2:Addr} {xP:Value} {uG rn:Option Addr} {rH:Array (Option Value)} {sQ wm xA nl r9:Value}
  {f3:Addr} {tJ:Value} {xh wR:Option Addr} {ug:Array (Option Value)} {rk vG uH ia wT:Value}
  {f4:Addr} {xU:Value} {sW yp:Option Addr} {yk:Array (Option Value)} {rf uS r7 kv xV:Value}
  {f5:Addr} {wO:Value} {r4 uL:Option Addr} {t8:Array (Option Value)} {y0 wK r1 iG xd:Value}
  {f6:Addr} {uQ:Value} {rb w5:Option Addr} {sF:Array (Option Value)} {xG vm vY mu ru:Value}
  {f7:Addr} {wz:Value} {sj yd:Option Addr} {rK:Array (Option Value)} {uA t1 tS oY tE:Value}
  {f8:Addr} {xR:Value} {tm wH:Option Addr} {rE:Array (Option Value)} {w6 tn vv nF uu:Value}
  {f9:Addr} {uf:Value} {s1 rd:Option Addr} {yc:Array (Option Value)} {tZ sq tG lZ qS:Value}
  {ey:Addr} {pN:Value} {ok kU:Option Addr} {gH:Array (Option Value)} {lQ hP qA gj hL:Value}
  {ek:Addr} {jr:Value} {op hy:Option Addr} {kq:Array (Option Value)} {mK lM mC eP o3:Value}
  {er:Addr} {mw:Value} {kf jg:Option Addr} {kt:Array (Option Value)} {pZ qd ja eZ p5:Value}
  {dL:Addr} {nS:Value} {hZ mR:Option Addr} {n7:Array (Option Value)} {kV jR kC eW j0:Value}
  {eq:Addr} {pF:Value} {i8 pV:Option Addr} {q4:Array (Option Value)} {gE qI hV gg qs:Value}
  {e7:Addr} {ne:Value} {iR n4:Option Addr} {im:Array (Option Value)} {m4 mh n6 gc nJ:Value}
  {g5:Addr} {ll:Value} {gN h3:Option Addr} {m5:Array (Option Value)} {p6 mt gW gk mE:Value}
  {dM:Addr} {na:Value} {mL nq:Option Addr} {q2:Array (Option Value)} {pB jq jU fA hJ:Value}
  {g8:Addr} {pI:Value} {mI ql:Option Addr} {q1:Array (Option Value)} {qN qL hr gf pj:Value}
  {gw:Addr} {qM:Value} {kh nZ:Option Addr} {mz:Array (Option Value)} {ix lk nB gb nb:Value}
  {g6:Addr} {ni:Value} {hn mo:Option Addr} {m3:Array (Option Value)} {o8 qu jL eV qC:Value}
  {gz:Addr} {lH:Value} {lp iU:Option Addr} {je:Array (Option Value)} {iw i7 qE fg he:Value}
  {g2:Addr} {ot:Value} {ku m2:Option Addr} {pd:Array (Option Value)} {mT jl nf fJ o4:Value}
  {gt:Addr} {iX:Value} {ji kY:Option Addr} {oy:Array (Option Value)} {h5 nn oH fl oR:Value}
  {gu:Addr} {nX:Value} {h9 hb:Option Addr} {oz:Array (Option Value)} {o9 iu kL eJ ma:Value}
  {g1:Addr} {hC:Value} {jY m8:Option Addr} {mj:Array (Option Value)} {lE oI qf fD mr:Value}
  {d7:Addr} {q5:Value} {mW pu:Option Addr} {jm:Array (Option Value)} {kd i3 ox fq n8:Value}
  {e3:Addr} {mF:Value} {mP oX:Option Addr} {j6:Array (Option Value)} {hB lW oN eU mZ:Value}
  {el:Addr} {gX:Value} {gM lh:Option Addr} {iN:Array (Option Value)} {hc oV nU fu iB:Value}
  {eh:Addr} {jG:Value} {oa of:Option Addr} {lm:Array (Option Value)} {iI h8 lD fC hW:Value}
  {en:Addr} {o1:Value} {pc lX:Option Addr} {gJ:Array (Option Value)} {hz pK kD fL kS:Value}
  {dD:Addr} {nr:Value} {iF q7:Option Addr} {nM:Array (Option Value)} {pM jo gG eM i4:Value}
  {dJ:Addr} {hp:Value} {nk ir:Option Addr} {oq:Array (Option Value)} {qr pr qD gl j7:Value}
  {d1:Addr} {jV:Value} {le jB:Option Addr} {qt:Array (Option Value)} {oD ls pz fb pg:Value}
  {ep:Addr} {mx:Value} {hM oi:Option Addr} {hG:Array (Option Value)} {jz mY nd eI qz:Value}
  {dW:Addr} {nc:Value} {qP kx:Option Addr} {ju:Array (Option Value)} {gS pL i2 fH os:Value}
  {ez:Addr} {lR:Value} {ip o2:Option Addr} {ki:Array (Option Value)} {ig qJ n1 fK hf:Value}
  {e4:Addr} {nO:Value} {po lU:Option Addr} {qQ:Array (Option Value)} {j1 iz ka eL hH:Value}
  {dz:Addr} {lt:Value} {lO ng:Option Addr} {hs:Array (Option Value)} {nL hR ow eT hY:Value}
  {d9:Addr} {h6:Value} {p7 mi:Option Addr} {kZ:Array (Option Value)} {lP nh qO eO iM:Value}
  {gx:Addr} {pq:Value} {hE kb:Option Addr} {hN:Array (Option Value)} {iW jy kM fF mH:Value}
  {g4:Addr} {me:Value} {nu lK:Option Addr} {lj:Array (Option Value)} {qc gY nD fn iC:Value}
  {ea:Addr} {nI:Value} {mp gQ:Option Addr} {jp:Array (Option Value)} {kP q0 kK eH hQ:Value}
  {dF:Addr} {iP:Value} {n3 ob:Option Addr} {mn:Array (Option Value)} {h7 h0 j3 e9 nx:Value}
  {d6:Addr} {kT:Value} {m7 n5:Option Addr} {gB:Array (Option Value)} {pW mm iq fS iA:Value}
  {dN:Addr} {jT:Value} {qH o7:Option Addr} {nC:Array (Option Value)} {iK pe jj gi jb:Value}
  {dC:Addr} {gF:Value} {hD pt:Option Addr} {qo:Array (Option Value)} {pD oo mV fN iv:Value}
  {d3:Addr} {lA:Value} {qK np:Option Addr} {ky:Array (Option Value)} {p3 mc pf eX qh:Value}
  {dU:Addr} {gR:Value} {ht oj:Option Addr} {qv:Array (Option Value)} {ln qx oJ gq j4:Value}
  {g7:Addr} {pv:Value} {ol kH:Option Addr} {pC:Array (Option Value)} {qn m6 i6 gn kQ:Value}
  {dO:Addr} {j8:Value} {gK lL:Option Addr} {kr:Array (Option Value)} {hU oU pY eR hK:Value}
  {dP:Addr} {kz:Value} {q8 hT:Option Addr} {jk:Array (Option Value)} {o6 m0 jH fT gT:Value}
  {ej:Addr} {jh:Value} {nw jf:Option Addr} {jv:Array (Option Value)} {oS kp p9 gr md:Value}
  {d4:Addr} {nm:Value} {oE mD:Option Addr} {gP:Array (Option Value)} {i0 px pp eQ hI:Value}
  {dA:Addr} {mG:Value} {mU i5:Option Addr} {nQ:Array (Option Value)} {q3 nz ou go lv:Value}
  {ev:Addr} {oT:Value} {hX jJ:Option Addr} {hm:Array (Option Value)} {jE p8 ii eB jF:Value}
  {g9:Addr} {q6:Value} {hj ny:Option Addr} {jZ:Array (Option Value)} {qb hO jP gp no:Value}
  {ew:Addr} {lq:Value} {nj jA:Option Addr} {qw:Array (Option Value)} {kG kO lJ fx jx:Value}
  {e0:Addr} {pn:Value} {qy gZ:Option Addr} {la:Array (Option Value)} {ov iJ jw eE q9:Value}
  {d5:Addr} {j2:Value} {n9 jW:Option Addr} {nT:Array (Option Value)} {n2 oM j9 gm hg:Value}
  {ed:Addr} {kE:Value} {mB mO:Option Addr} {iQ:Array (Option Value)} {jM oW mJ gh i9:Value}
  {ei:Addr} {il:Value} {hu hF:Option Addr} {lC:Array (Option Value)} {kc m9 pQ fI hS:Value}
  {eg:Addr} {hv:Value} {kg ij:Option Addr} {pb:Array (Option Value)} {pk nH ih gd m1:Value}
  {g3:Addr} {qp:Value} {p4 nR:Option Addr} {io:Array (Option Value)} {lr gA oL fr pi:Value}
  {gs:Addr} {iy:Value} {hk ho:Option Addr} {oA:Array (Option Value)} {py gO hA fX hw:Value}
  {g0:Addr} {gV:Value} {jX e8:Option Addr} {jc:Array (Option Value)} {fy ge fw da eS:Value}
  {ab:Addr} {bc:Array DictEntry} {bV:Nat}
  (bO:nsIn K i_ "Wish" = some (-bs))
  (b0:nsIn K i_ "Unlike" = some (-Y))
  (cm:Hx K Y Ir=true)
  (bY:Ht K Y=true)
  (cu:HP K Y=true)
  (co:y7 K (.ref Y) "__setattr__" = some (some (.builtin "object.__setattr__")))
  (bf:y7 K (.ref Y) "wish" = some none)
  (aQ:y7 K (.ref Y) "cells" = some none)
  (cr:makesIn K Y=true) (cn:v_ K (.ref Y)=true)
  (bW:nsIn K i_ "Many" = some (-aa))
  (cW:Hx K aa Ir=true)
  (dp:Ht K aa=true)
  (du:HP K aa=true)
  (dk:y7 K (.ref aa) "__setattr__" = some (some (.builtin "object.__setattr__")))
  (b7:y7 K (.ref aa) "wish" = some none)
  (b5:y7 K (.ref aa) "among" = some none)
  (b4:y7 K (.ref aa) "cells" = some none)
  (bG:y7 K (.ref aa) "low" = some none)
  (b9:y7 K (.ref aa) "high" = some none)
  (cU:makesIn K aa=true) (dl:v_ K (.ref aa)=true)
  (cy:nsIn K i_ "Sum" = some (-ac))
  (d0:Hx K ac Ir=true)
  (et:Ht K ac=true)
  (ec:HP K ac=true)
  (dY:y7 K (.ref ac) "__setattr__" = some (some (.builtin "object.__setattr__")))
  (bH:y7 K (.ref ac) "wish" = some none)
  (b8:y7 K (.ref ac) "terms" = some none)
  (bQ:y7 K (.ref ac) "low" = some none)
  (bI:y7 K (.ref ac) "high" = some none)
  (e5:makesIn K ac=true) (dV:v_ K (.ref ac)=true)
  (bE:nsIn K i_ "Table" = some (-L))
  (cR:Hx K L Ir=true)
  (cJ:Ht K L=true)
  (cL:HP K L=true)
  (cK:y7 K (.ref L) "__setattr__" = some (some (.builtin "object.__setattr__")))
  (b1:y7 K (.ref L) "wish" = some none)
  (bj:y7 K (.ref L) "cells" = some none)
  (bu:y7 K (.ref L) "rows" = some none)
  (cQ:makesIn K L=true) (cN:v_ K (.ref L)=true)
  (cA:nsIn K i_ "Way" = some (-ae))
  (d2:Hx K ae Ir=true)
  (eb:Ht K ae=true)
  (e6:HP K ae=true)
  (dS:y7 K (.ref ae) "__setattr__" = some (some (.builtin "object.__setattr__")))
  (bF:y7 K (.ref ae) "wish" = some none)
  (bB:y7 K (.ref ae) "cells" = some none)
  (bL:y7 K (.ref ae) "ends" = some none)
  (b6:y7 K (.ref ae) "leads" = some none)
  (dT:makesIn K ae=true) (dX:v_ K (.ref ae)=true)
  (b2:nsIn K i_ "Behind" = some (-F))
  (cw:Hx K F Ir=true)
  (cg:Ht K F=true)
  (cc:HP K F=true)
  (cf:y7 K (.ref F) "__setattr__" = some (some (.builtin "object.__setattr__")))
  (bg:y7 K (.ref F) "wish" = some none)
  (aR:y7 K (.ref F) "cells" = some none)
  (bx:y7 K (.ref F) "gap" = some none)
  (cv:makesIn K F=true) (ck:v_ K (.ref F)=true)
  (bN:nsIn K i_ "Same" = some (-Z))
  (cV:Hx K Z Ir=true)
  (dt:Ht K Z=true)
  (dy:HP K Z=true)
  (dq:y7 K (.ref Z) "__setattr__" = some (some (.builtin "object.__setattr__")))
  (bA:y7 K (.ref Z) "wish" = some none)
  (bD:y7 K (.ref Z) "cell" = some none)
  (bv:y7 K (.ref Z) "among" = some none)
  (bt:y7 K (.ref Z) "inner" = some none)
  (cZ:makesIn K Z=true) (dd:v_ K (.ref Z)=true)
  (a0:nsIn K i_ "_law_draw" = some (-f0))
  (l0:K.lookup f0=some ⟨xx,uo,.func (fnOf "_law_draw" "_law_draw" (aG fB) (aF fB) (aj fB) .none vZ v2 tQ xN mS wt),yi⟩)
  (c0:y_ K mS "_law_draw" = true) (k0:v_ K (.ref f0)=true)
  (a1:nsIn K i_ "_law_deal" = some (-f1))
  (l1:K.lookup f1=some ⟨wD,xg,.func (fnOf "_law_deal" "_law_deal" (aG ef) (aF ef) (aj ef) .none xH wp uM wj ik tM),ww⟩)
  (c1:y_ K ik "_law_deal" = true) (k1:v_ K (.ref f1)=true)
  (a2:nsIn K i_ "_law_names" = some (-f2))
  (l2:K.lookup f2=some ⟨xP,uG,.func (fnOf "_law_names" "_law_names" (aG dH) (aF dH) (aj dH) .none sQ wm xA rn nl r9),rH⟩)
  (c2:y_ K nl "_law_names" = true) (k2:v_ K (.ref f2)=true)
  (a3:nsIn K i_ "_law_pool" = some (-f3))
  (l3:K.lookup f3=some ⟨tJ,xh,.func (fnOf "_law_pool" "_law_pool" (aG fj) (aF fj) (aj fj) .none rk vG uH wR ia wT),ug⟩)
  (c3:y_ K ia "_law_pool" = true) (k3:v_ K (.ref f3)=true)
  (a4:nsIn K i_ "_law_rooms" = some (-f4))
  (l4:K.lookup f4=some ⟨xU,sW,.func (fnOf "_law_rooms" "_law_rooms" (aG dI) (aF dI) (aj dI) .none rf uS r7 yp kv xV),yk⟩)
  (c4:y_ K kv "_law_rooms" = true) (k4:v_ K (.ref f4)=true)
  (a5:nsIn K i_ "_law_some" = some (-f5))
  (l5:K.lookup f5=some ⟨wO,r4,.func (fnOf "_law_some" "_law_some" (aG ft) (aF ft) (aj ft) .none y0 wK r1 uL iG xd),t8⟩)
  (c5:y_ K iG "_law_some" = true) (k5:v_ K (.ref f5)=true)
  (a6:nsIn K i_ "are_unlike" = some (-f6))
  (l6:K.lookup f6=some ⟨uQ,rb,.func (fnOf "are_unlike" "are_unlike" (aG eF) (aF eF) (aj eF) .none xG vm vY w5 mu ru),sF⟩)
  (c6:y_ K mu "are_unlike" = true) (k6:v_ K (.ref f6)=true)
  (a7:nsIn K i_ "is_between" = some (-f7))
  (l7:K.lookup f7=some ⟨wz,sj,.func (fnOf "is_between" "is_between" (aG eK) (aF eK) (aj eK) .none uA t1 tS yd oY tE),rK⟩)
  (c7:y_ K oY "is_between" = true) (k7:v_ K (.ref f7)=true)
  (a8:nsIn K i_ "sum_of" = some (-f8))
  (l8:K.lookup f8=some ⟨xR,tm,.func (fnOf "sum_of" "sum_of" (aG gI) (aF gI) (aj gI) .none w6 tn vv wH nF uu),rE⟩)
  (c8:y_ K nF "sum_of" = true) (k8:v_ K (.ref f8)=true)
  (a9:nsIn K i_ "values_at" = some (-f9))
  (l9:K.lookup f9=some ⟨uf,s1,.func (fnOf "values_at" "values_at" (aG eo) (aF eo) (aj eo) .none tZ sq tG rd lZ qS),yc⟩)
  (c9:y_ K lZ "values_at" = true) (k9:v_ K (.ref f9)=true)
  (ke:nsIn K i_ "unlike_kept" = some (-ey))
  (v3:K.lookup ey=some ⟨pN,ok,.func (fnOf "unlike_kept" "unlike_kept" (aG dR) (aF dR) (aj dR) .none lQ hP qA kU gj hL),gH⟩)
  (rx:y_ K gj "unlike_kept" = true) (vw:v_ K (.ref ey)=true)
  (jt:nsIn K i_ "many_kept" = some (-ek))
  (t6:K.lookup ek=some ⟨jr,op,.func (fnOf "many_kept" "many_kept" (aG eu) (aF eu) (aj eu) .none mK lM mC hy eP o3),kq⟩)
  (sU:y_ K eP "many_kept" = true) (uJ:v_ K (.ref ek)=true)
  (gU:nsIn K i_ "sum_kept" = some (-er))
  (w9:K.lookup er=some ⟨mw,kf,.func (fnOf "sum_kept" "sum_kept" (aG fP) (aF fP) (aj fP) .none pZ qd ja jg eZ p5),kt⟩)
  (um:y_ K eZ "sum_kept" = true) (wf:v_ K (.ref er)=true)
  (p0:nsIn K i_ "table_kept" = some (-dL))
  (xW:K.lookup dL=some ⟨nS,hZ,.func (fnOf "table_kept" "table_kept" (aG eG) (aF eG) (aj eG) .none kV jR kC mR eW j0),n7⟩)
  (yf:y_ K eW "table_kept" = true) (vq:v_ K (.ref dL)=true)
  (pw:nsIn K i_ "way_kept" = some (-eq))
  (s8:K.lookup eq=some ⟨pF,i8,.func (fnOf "way_kept" "way_kept" (aG fR) (aF fR) (aj fR) .none gE qI hV pV gg qs),q4⟩)
  (yy:y_ K gg "way_kept" = true) (s3:v_ K (.ref eq)=true)
  (jn:nsIn K i_ "behind_kept" = some (-e7))
  (t5:K.lookup e7=some ⟨ne,iR,.func (fnOf "behind_kept" "behind_kept" (aG dv) (aF dv) (aj dv) .none m4 mh n6 n4 gc nJ),im⟩)
  (xM:y_ K gc "behind_kept" = true) (re:v_ K (.ref e7)=true)
  (sa:nsIn K i_ "wish_kept" = some (-g5))
  (sr:K.lookup g5=some ⟨ll,gN,.func (fnOf "wish_kept" "wish_kept" (aG fk) (aF fk) (aj fk) .none p6 mt gW h3 gk mE),m5⟩)
  (yq:y_ K gk "wish_kept" = true) (s9:v_ K (.ref g5)=true)
  (sK:nsIn K i_ "same_kept" = some (-dM))
  (xf:K.lookup dM=some ⟨na,mL,.func (fnOf "same_kept" "same_kept" (aG fz) (aF fz) (aj fz) .none pB jq jU nq fA hJ),q2⟩)
  (uX:y_ K fA "same_kept" = true) (xq:v_ K (.ref dM)=true)
  (xv:nsIn K i_ "_law_kept" = some (-g8))
  (rN:K.lookup g8=some ⟨pI,mI,.func (fnOf "_law_kept" "_law_kept" (aG bU) (aF bU) (aj bU) .none qN qL hr ql gf pj),q1⟩)
  (v0:y_ K gf "_law_kept" = true) (sY:v_ K (.ref g8)=true)
  (sO:nsIn K i_ "_law_bounds" = some (-gw))
  (xY:K.lookup gw=some ⟨qM,kh,.func (fnOf "_law_bounds" "_law_bounds" (aG dQ) (aF dQ) (aj dQ) .none ix lk nB nZ gb nb),mz⟩)
  (wZ:y_ K gb "_law_bounds" = true) (wI:v_ K (.ref gw)=true)
  (v7:nsIn K i_ "_law_sum" = some (-g6))
  (tz:K.lookup g6=some ⟨ni,hn,.func (fnOf "_law_sum" "_law_sum" (aG dZ) (aF dZ) (aj dZ) .none o8 qu jL mo eV qC),m3⟩)
  (xQ:y_ K eV "_law_sum" = true) (ry:v_ K (.ref g6)=true)
  (wd:nsIn K i_ "_law_rows" = some (-gz))
  (sH:K.lookup gz=some ⟨lH,lp,.func (fnOf "_law_rows" "_law_rows" (aG eC) (aF eC) (aj eC) .none iw i7 qE iU fg he),je⟩)
  (tK:y_ K fg "_law_rows" = true) (uD:v_ K (.ref gz)=true)
  (v4:nsIn K i_ "_law_way" = some (-g2))
  (vn:K.lookup g2=some ⟨ot,ku,.func (fnOf "_law_way" "_law_way" (aG fc) (aF fc) (aj fc) .none mT jl nf m2 fJ o4),pd⟩)
  (rv:y_ K fJ "_law_way" = true) (s5:v_ K (.ref g2)=true)
  (x9:nsIn K i_ "_law_wish" = some (-gt))
  (yl:K.lookup gt=some ⟨iX,ji,.func (fnOf "_law_wish" "_law_wish" (aG eA) (aF eA) (aj eA) .none h5 nn oH kY fl oR),oy⟩)
  (uK:y_ K fl "_law_wish" = true) (xp:v_ K (.ref gt)=true)
  (y2:nsIn K i_ "_law_fillings" = some (-gu))
  (rc:K.lookup gu=some ⟨nX,h9,.func (fnOf "_law_fillings" "_law_fillings" (aG df) (aF df) (aj df) .none o9 iu kL hb eJ ma),oz⟩)
  (tt:y_ K eJ "_law_fillings" = true) (tq:v_ K (.ref gu)=true)
  (kI:specialIn K (.ref bs) "__getattribute__" = some (some (.builtin "type.__getattribute__"))) (lI:readsIn K bs (.type "type")=true) (rr:findCls K (.ref bs) (.type "type") "__init__" = some (.val (.ref g1)))
  (s6:K.lookup g1=some ⟨hC,jY,.func (fnOf "__init__" "Wish.__init__" (aG bi) (aF bi) (aj bi) .none lE oI qf m8 fD mr),mj⟩)
  (yh:y_ K fD "Wish.__init__" = true) (nv:v_ K (.ref g1)=true)
  (r8:y7 K (.ref F) "__init__" = some (-d7)) (vy:isFn K (.ref d7)=true)
  (tD:K.lookup d7=some ⟨q5,mW,.func (fnOf "__init__" "Behind.__init__" (aG cE) (aF cE) (aj cE) .none kd i3 ox pu fq n8),jm⟩)
  (sC:y_ K fq "Behind.__init__" = true) (un:v_ K (.ref d7)=true)
  (tY:y7 K (.ref F) "may_keep" = some (-e3)) (uV:isFn K (.ref e3)=true)
  (uy:K.lookup e3=some ⟨mF,mP,.func (fnOf "may_keep" "Behind.may_keep" (aG bR) (aF bR) (aj bR) .none hB lW oN oX eU mZ),j6⟩)
  (y1:y_ K eU "Behind.may_keep" = true) (qF:v_ K (.ref e3)=true)
  (xk:y7 K (.ref F) "may_break" = some (-el)) (uB:isFn K (.ref el)=true)
  (ur:K.lookup el=some ⟨gX,gM,.func (fnOf "may_break" "Behind.may_break" (aG bJ) (aF bJ) (aj bJ) .none hc oV nU lh fu iB),iN⟩)
  (yt:y_ K fu "Behind.may_break" = true) (oK:v_ K (.ref el)=true)
  (r2:y7 K (.ref L) "__init__" = some (-eh)) (wF:isFn K (.ref eh)=true)
  (w3:K.lookup eh=some ⟨jG,oa,.func (fnOf "__init__" "Table.__init__" (aG cP) (aF cP) (aj cP) .none iI h8 lD of fC hW),lm⟩)
  (wN:y_ K fC "Table.__init__" = true) (rB:v_ K (.ref eh)=true)
  (vR:y7 K (.ref L) "has_room" = some (-en)) (xu:isFn K (.ref en)=true)
  (x5:K.lookup en=some ⟨o1,pc,.func (fnOf "has_room" "Table.has_room" (aG ci) (aF ci) (aj ci) .none hz pK kD lX fL kS),gJ⟩)
  (wU:y_ K fL "Table.has_room" = true) (on:v_ K (.ref en)=true)
  (sR:y7 K (.ref L) "rows_in" = some (-dD)) (sJ:isFn K (.ref dD)=true)
  (r5:K.lookup dD=some ⟨nr,iF,.func (fnOf "rows_in" "Table.rows_in" (aG cG) (aF cG) (aj cG) .none pM jo gG q7 eM i4),nM⟩)
  (s2:y_ K eM "Table.rows_in" = true) (pE:v_ K (.ref dD)=true)
  (rG:y7 K (.ref L) "may_keep" = some (-dJ)) (wX:isFn K (.ref dJ)=true)
  (x4:K.lookup dJ=some ⟨hp,nk,.func (fnOf "may_keep" "Table.may_keep" (aG cO) (aF cO) (aj cO) .none qr pr qD ir gl j7),oq⟩)
  (vS:y_ K gl "Table.may_keep" = true) (jS:v_ K (.ref dJ)=true)
  (vH:y7 K (.ref L) "may_break" = some (-d1)) (vD:isFn K (.ref d1)=true)
  (xb:K.lookup d1=some ⟨jV,le,.func (fnOf "may_break" "Table.may_break" (aG cC) (aF cC) (aj cC) .none oD ls pz jB fb pg),qt⟩)
  (v9:y_ K fb "Table.may_break" = true) (kk:v_ K (.ref d1)=true)
  (x6:y7 K (.ref ae) "__init__" = some (-ep)) (rp:isFn K (.ref ep)=true)
  (xI:K.lookup ep=some ⟨mx,hM,.func (fnOf "__init__" "Way.__init__" (aG dG) (aF dG) (aj dG) .none jz mY nd oi eI qz),hG⟩)
  (xX:y_ K eI "Way.__init__" = true) (xF:v_ K (.ref ep)=true)
  (sd:y7 K (.ref ae) "states_behind" = some (-dW)) (uO:isFn K (.ref dW)=true)
  (xJ:K.lookup dW=some ⟨nc,qP,.func (fnOf "states_behind" "Way.states_behind" (aG bT) (aF bT) (aj bT) .none gS pL i2 kx fH os),ju⟩)
  (sI:y_ K fH "Way.states_behind" = true) (gC:v_ K (.ref dW)=true)
  (ud:y7 K (.ref ae) "last_states" = some (-ez)) (wQ:isFn K (.ref ez)=true)
  (wS:K.lookup ez=some ⟨lR,ip,.func (fnOf "last_states" "Way.last_states" (aG cD) (aF cD) (aj cD) .none ig qJ n1 o2 fK hf),ki⟩)
  (xE:y_ K fK "Way.last_states" = true) (i1:v_ K (.ref ez)=true)
  (wk:y7 K (.ref ae) "may_keep" = some (-e4)) (r0:isFn K (.ref e4)=true)
  (xZ:K.lookup e4=some ⟨nO,po,.func (fnOf "may_keep" "Way.may_keep" (aG cY) (aF cY) (aj cY) .none j1 iz ka lU eL hH),qQ⟩)
  (w8:y_ K eL "Way.may_keep" = true) (hx:v_ K (.ref e4)=true)
  (u7:y7 K (.ref ae) "may_break" = some (-dz)) (ym:isFn K (.ref dz)=true)
  (u9:K.lookup dz=some ⟨lt,lO,.func (fnOf "may_break" "Way.may_break" (aG cH) (aF cH) (aj cH) .none nL hR ow ng eT hY),hs⟩)
  (vc:y_ K eT "Way.may_break" = true) (j5:v_ K (.ref dz)=true)
  (so:y7 K (.ref ac) "__init__" = some (-d9)) (s4:isFn K (.ref d9)=true)
  (vg:K.lookup d9=some ⟨h6,p7,.func (fnOf "__init__" "Sum.__init__" (aG dB) (aF dB) (aj dB) .none lP nh qO mi eO iM),kZ⟩)
  (vh:y_ K eO "Sum.__init__" = true) (tw:v_ K (.ref d9)=true)
  (yw:nsIn K i_ "parts_of" = some (-gx))
  (xB:K.lookup gx=some ⟨pq,hE,.func (fnOf "parts_of" "parts_of" (aG eY) (aF eY) (aj eY) .none iW jy kM kb fF mH),hN⟩)
  (xy:y_ K fF "parts_of" = true) (ri:v_ K (.ref gx)=true)
  (uW:nsIn K i_ "spans_of" = some (-g4))
  (rQ:K.lookup g4=some ⟨me,nu,.func (fnOf "spans_of" "spans_of" (aG fY) (aF fY) (aj fY) .none qc gY nD lK fn iC),lj⟩)
  (wu:y_ K fn "spans_of" = true) (xT:v_ K (.ref g4)=true)
  (rC:y7 K (.ref ac) "may_end_well" = some (-ea)) (ue:isFn K (.ref ea)=true)
  (xa:K.lookup ea=some ⟨nI,mp,.func (fnOf "may_end_well" "Sum.may_end_well" (aG cj) (aF cj) (aj cj) .none kP q0 kK gQ eH hQ),jp⟩)
  (r6:y_ K eH "Sum.may_end_well" = true) (h4:v_ K (.ref ea)=true)
  (wv:y7 K (.ref ac) "sums_with" = some (-dF)) (wG:isFn K (.ref dF)=true)
  (sx:K.lookup dF=some ⟨iP,n3,.func (fnOf "sums_with" "Sum.sums_with" (aG dm) (aF dm) (aj dm) .none h7 h0 j3 ob e9 nx),mn⟩)
  (uC:y_ K e9 "Sum.sums_with" = true) (pP:v_ K (.ref dF)=true)
  (qV:y7 K (.ref ac) "sums_kept" = some (-d6)) (sA:isFn K (.ref d6)=true)
  (vj:K.lookup d6=some ⟨kT,m7,.func (fnOf "sums_kept" "Sum.sums_kept" (aG db) (aF db) (aj db) .none pW mm iq n5 fS iA),gB⟩)
  (xt:y_ K fS "Sum.sums_kept" = true) (lf:v_ K (.ref d6)=true)
  (rs:y7 K (.ref ac) "may_keep" = some (-dN)) (vt:isFn K (.ref dN)=true)
  (uj:K.lookup dN=some ⟨jT,qH,.func (fnOf "may_keep" "Sum.may_keep" (aG dE) (aF dE) (aj dE) .none iK pe jj o7 gi jb),nC⟩)
  (wC:y_ K gi "Sum.may_keep" = true) (mQ:v_ K (.ref dN)=true)
  (tp:y7 K (.ref ac) "may_break" = some (-dC)) (x8:isFn K (.ref dC)=true)
  (vk:K.lookup dC=some ⟨gF,hD,.func (fnOf "may_break" "Sum.may_break" (aG dg) (aF dg) (aj dg) .none pD oo mV pt fN iv),qo⟩)
  (t2:y_ K fN "Sum.may_break" = true) (hd:v_ K (.ref dC)=true)
  (x7:y7 K (.ref Y) "__init__" = some (-d3)) (w1:isFn K (.ref d3)=true)
  (rq:K.lookup d3=some ⟨lA,qK,.func (fnOf "__init__" "Unlike.__init__" (aG cB) (aF cB) (aj cB) .none p3 mc pf np eX qh),ky⟩)
  (vT:y_ K eX "Unlike.__init__" = true) (ro:v_ K (.ref d3)=true)
  (uw:y7 K (.ref Y) "may_break" = some (-dU)) (wb:isFn K (.ref dU)=true)
  (vp:K.lookup dU=some ⟨gR,ht,.func (fnOf "may_break" "Unlike.may_break" (aG bZ) (aF bZ) (aj bZ) .none ln qx oJ oj gq j4),qv⟩)
  (ye:y_ K gq "Unlike.may_break" = true) (mq:v_ K (.ref dU)=true)
  (uh:nsIn K i_ "finds_value" = some (-g7))
  (ux:K.lookup g7=some ⟨pv,ol,.func (fnOf "finds_value" "finds_value" (aG cM) (aF cM) (aj cM) .none qn m6 i6 kH gn kQ),pC⟩)
  (we:y_ K gn "finds_value" = true) (sB:v_ K (.ref g7)=true)
  (tX:y7 K (.ref Y) "may_keep" = some (-dO)) (qZ:isFn K (.ref dO)=true)
  (tr:K.lookup dO=some ⟨j8,gK,.func (fnOf "may_keep" "Unlike.may_keep" (aG cz) (aF cz) (aj cz) .none hU oU pY lL eR hK),kr⟩)
  (uN:y_ K eR "Unlike.may_keep" = true) (pa:v_ K (.ref dO)=true)
  (rz:y7 K (.ref aa) "__init__" = some (-dP)) (ub:isFn K (.ref dP)=true)
  (vr:K.lookup dP=some ⟨kz,q8,.func (fnOf "__init__" "Many.__init__" (aG dc) (aF dc) (aj dc) .none o6 m0 jH hT fT gT),jk⟩)
  (uT:y_ K fT "Many.__init__" = true) (wM:v_ K (.ref dP)=true)
  (qY:y7 K (.ref aa) "fewest" = some (-ej)) (xm:isFn K (.ref ej)=true)
  (wW:K.lookup ej=some ⟨jh,nw,.func (fnOf "fewest" "Many.fewest" (aG cp) (aF cp) (aj cp) .none oS kp p9 jf gr md),jv⟩)
  (vC:y_ K gr "Many.fewest" = true) (mX:v_ K (.ref ej)=true)
  (ut:y7 K (.ref aa) "most" = some (-d4)) (qT:isFn K (.ref d4)=true)
  (vi:K.lookup d4=some ⟨nm,oE,.func (fnOf "most" "Many.most" (aG dn) (aF dn) (aj dn) .none i0 px pp mD eQ hI),gP⟩)
  (ya:y_ K eQ "Many.most" = true) (pA:v_ K (.ref d4)=true)
  (u5:y7 K (.ref aa) "may_keep" = some (-dA)) (qX:isFn K (.ref dA)=true)
  (wq:K.lookup dA=some ⟨mG,mU,.func (fnOf "may_keep" "Many.may_keep" (aG de) (aF de) (aj de) .none q3 nz ou i5 go lv),nQ⟩)
  (sy:y_ K go "Many.may_keep" = true) (pO:v_ K (.ref dA)=true)
  (rY:y7 K (.ref aa) "may_break" = some (-ev)) (yb:isFn K (.ref ev)=true)
  (sk:K.lookup ev=some ⟨oT,hX,.func (fnOf "may_break" "Many.may_break" (aG cS) (aF cS) (aj cS) .none jE p8 ii jJ eB jF),hm⟩)
  (uR:y_ K eB "Many.may_break" = true) (ic:v_ K (.ref ev)=true)
  (vA:nsIn K i_ "plain_wish_of" = some (-g9))
  (sf:K.lookup g9=some ⟨q6,hj,.func (fnOf "plain_wish_of" "plain_wish_of" (aG di) (aF di) (aj di) .none qb hO jP ny gp no),jZ⟩)
  (rl:y_ K gp "plain_wish_of" = true) (rj:v_ K (.ref g9)=true)
  (w0:y7 K (.ref Z) "__init__" = some (-ew)) (vI:isFn K (.ref ew)=true)
  (uY:K.lookup ew=some ⟨lq,nj,.func (fnOf "__init__" "Same.__init__" (aG dj) (aF dj) (aj dj) .none kG kO lJ jA fx jx),qw⟩)
  (ul:y_ K fx "Same.__init__" = true) (xK:v_ K (.ref ew)=true)
  (tO:y7 K (.ref Z) "kept" = some (-e0)) (wh:isFn K (.ref e0)=true)
  (tf:K.lookup e0=some ⟨pn,qy,.func (fnOf "kept" "Same.kept" (aG fi) (aF fi) (aj fi) .none ov iJ jw gZ eE q9),la⟩)
  (v1:y_ K eE "Same.kept" = true) (o5:v_ K (.ref e0)=true)
  (qU:y7 K (.ref Z) "may_be_among" = some (-d5)) (yx:isFn K (.ref d5)=true)
  (t0:K.lookup d5=some ⟨j2,n9,.func (fnOf "may_be_among" "Same.may_be_among" (aG bC) (aF bC) (aj bC) .none n2 oM j9 jW gm hg),nT⟩)
  (uz:y_ K gm "Same.may_be_among" = true) (jC:v_ K (.ref d5)=true)
  (wE:y7 K (.ref Z) "may_be_none_of_them" = some (-ed)) (w2:isFn K (.ref ed)=true)
  (sw:K.lookup ed=some ⟨kE,mB,.func (fnOf "may_be_none_of_them" "Same.may_be_none_of_them" (aG aW) (aF aW) (aj aW) .none jM oW mJ mO gh i9),iQ⟩)
  (yn:y_ K gh "Same.may_be_none_of_them" = true) (kB:v_ K (.ref ed)=true)
  (sb:y7 K (.ref Z) "may_keep" = some (-ei)) (rt:isFn K (.ref ei)=true)
  (w7:K.lookup ei=some ⟨il,hu,.func (fnOf "may_keep" "Same.may_keep" (aG dh) (aF dh) (aj dh) .none kc m9 pQ hF fI hS),lC⟩)
  (rg:y_ K fI "Same.may_keep" = true) (gL:v_ K (.ref ei)=true)
  (sm:y7 K (.ref Z) "may_break" = some (-eg)) (tF:isFn K (.ref eg)=true)
  (rA:K.lookup eg=some ⟨hv,kg,.func (fnOf "may_break" "Same.may_break" (aG cT) (aF cT) (aj cT) .none pk nH ih ij gd m1),pb⟩)
  (wo:y_ K gd "Same.may_break" = true) (qG:v_ K (.ref eg)=true)
  (w4:nsIn K i_ "_law_truth" = some (-g3))
  (vz:K.lookup g3=some ⟨qp,p4,.func (fnOf "_law_truth" "_law_truth" (aG eN) (aF eN) (aj eN) .none lr gA oL nR fr pi),io⟩)
  (up:y_ K fr "_law_truth" = true) (vV:v_ K (.ref g3)=true)
  (r3:nsIn K i_ "_law_right" = some (-gs))
  (sv:K.lookup gs=some ⟨iy,hk,.func (fnOf "_law_right" "_law_right" (aG eD) (aF eD) (aj eD) .none py gO hA ho fX hw),oA⟩)
  (rh:y_ K fX "_law_right" = true) (s7:v_ K (.ref gs)=true)
  (sn:nsIn K i_ "law" = some (-g0))
  (v5:K.lookup g0=some ⟨gV,jX,.func (fnOf "law" "law" (aG nA) (aF nA) (aj nA) .none fy ge fw e8 da eS),jc⟩)
  (xO:y_ K da "law" = true) (v6:v_ K (.ref g0)=true)
  (z0:nsIn K i_ "len" = some none)
  (z1:nsIn K i_ "max" = some none)
  (z2:nsIn K i_ "min" = some none)
  (z3:nsIn K i_ "sum" = some none)
  (z4:nsIn K i_ "list" = some none)
  (z5:nsIn K i_ "reversed" = some none)
  (z6:nsIn K i_ "range" = some none)
  (z7:nsIn K i_ "isinstance" = some none)
  (z8:nsIn K i_ "all" = some none)
  (z9:nsIn K i_ "any" = some none)
  (qR:nsIn K i_ "sorted" = some none)
  (t4:nsIn K i_ "dict" = some none)
  (su:nsIn K i_ "tuple" = some none)
  (xz:nsIn K i_ "bool" = some none)
  (va:nsIn K i_ "zip" = some none)
  (ti:nsIn K i_ "set" = some none)
  (wx:nsIn K i_ "int" = some none)
  (qW:nsIn K i_ "enumerate" = some none)
  (bb:nsIn K i_ "KEEPERS" = some (-ab))
  (bS:K.lookup ab=some ⟨.type "dict",none,.dict bc bV,#[]⟩)
  (bX:PySem.W.KeysLit w.params bc.toList)
  (aH:nsIn K ab "unlike" = some (-ey))
  (aT:nsIn K ab "many" = some (-ek))
  (bq:nsIn K ab "sum" = some (-er))
  (aL:nsIn K ab "table" = some (-dL))
  (bo:nsIn K ab "way" = some (-eq))
  (aI:nsIn K ab "behind" = some (-e7))
  (cF:nsIn K ab "same" = some (-dM)) :
  ∃fd:FuncData,(∀(s:Shared) (v:Value),BindsTo s fd ⟨[v],[]⟩ [("_law_script",v)])/\∀base:Heap,K.In base->base.Ns i_ mg->iH l.prog w K mg base CX0 45 fa fd ["_law_script"] (xi K):=by
 have e:=ui.symm.trans (mg_of X G sn);cases e;have cX:=fM (mg_of X G bO);subst cX;have cb:=fM (mg_of X G b0);subst cb;have dr:=fM (mg_of X G bW);subst dr;have em:=fM (mg_of X G cy);subst em;have cI:=fM (mg_of X G bE);subst cI;have d8:=fM (mg_of X G cA);subst d8;have ce:=fM (mg_of X G b2);subst ce;have dw:=fM (mg_of X G bN);subst dw;have bM:=fM (mg_of X G bb);subst bM;have T:Txt w K mg:=⟨Gs X G z0,Gs X G z1,Gs X G z2,Gs X G z3,Gs X G z4,Gs X G z5,Gs X G z6,Gs X G z7,Gs X G z8,Gs X G z9,Gs X G qR,Gs X G t4,Gs X G su,Gs X G xz,Gs X G va,Gs X G ti,Gs X G wx,Gs X G qW,mg_of X G b0,⟨cm,bY,cu,co⟩,bf,aQ,mg_of X G bW,⟨cW,dp,du,dk⟩,b7,b5,b4,bG,b9,mg_of X G cy,⟨d0,et,ec,dY⟩,bH,b8,bQ,bI,mg_of X G bE,⟨cR,cJ,cL,cK⟩,b1,bj,bu,mg_of X G cA,⟨d2,eb,e6,dS⟩,bF,bB,bL,b6,mg_of X G b2,⟨cw,cg,cc,cf⟩,bg,aR,bx,mg_of X G bN,⟨cV,dt,dy,dq⟩,bA,bD,bv,bt,mg_of X G bO,mg_of X G bb,⟨_,_,bS,bX⟩⟩
 have L0:FnL K mg "_law_draw" fB ["_law_deal_here","_law_many"]:=bK X G a0 l0 c0 k0 λ_ _ _ _ _ _ us hl=>by obtain⟨u0,u1,B⟩:=bw hl;subst B;rfl
 have L1:FnL K mg "_law_deal" ef ["_law_script","_law_start"]:=bK X G a1 l1 c1 k1 λ_ _ _ _ _ _ us hl=>by obtain⟨u0,u1,B⟩:=bw hl;subst B;rfl
 have L2:FnL K mg "_law_names" dH ["_law_deal_here","_law_many"]:=bK X G a2 l2 c2 k2 λ_ _ _ _ _ _ us hl=>by obtain⟨u0,u1,B⟩:=bw hl;subst B;rfl
 have L3:FnL K mg "_law_pool" fj ["_law_deal_here"]:=bK X G a3 l3 c3 k3 λ_ _ _ _ _ _ us hl=>by obtain⟨u0,B⟩:=zI hl;subst B;rfl
 have L4:FnL K mg "_law_rooms" dI ["_law_deal_here","_law_names_here","_law_pool_here","_law_most"]:=bK X G a4 l4 c4 k4 λ_ _ _ _ _ _ us hl=>by obtain⟨u0,u1,u2,u3,B⟩:=xl hl;subst B;rfl
 have L5:FnL K mg "_law_some" ft ["_law_deal_here","_law_things","_law_least"]:=bK X G a5 l5 c5 k5 λ_ _ _ _ _ _ us hl=>by obtain⟨u0,u1,u2,B⟩:=ly hl;subst B;rfl
 have L6:FnL K mg "are_unlike" eF ["things"]:=bK X G a6 l6 c6 k6 λ_ _ _ _ _ _ us hl=>by obtain⟨u0,B⟩:=zI hl;subst B;rfl
 have L7:FnL K mg "is_between" eK ["number","low","high"]:=bK X G a7 l7 c7 k7 λ_ _ _ _ _ _ us hl=>by obtain⟨u0,u1,u2,B⟩:=ly hl;subst B;rfl
 have L8:FnL K mg "sum_of" gI ["terms","filling"]:=bK X G a8 l8 c8 k8 λ_ _ _ _ _ _ us hl=>by obtain⟨u0,u1,B⟩:=bw hl;subst B;rfl
 have L9:FnL K mg "values_at" eo ["cells","filling"]:=bK X G a9 l9 c9 k9 λ_ _ _ _ _ _ us hl=>by obtain⟨u0,u1,B⟩:=bw hl;subst B;rfl
 have rD:FnL K mg "unlike_kept" dR ["wish","filling"]:=bK X G ke v3 rx vw λ_ _ _ _ _ _ us hl=>by obtain⟨u0,u1,B⟩:=bw hl;subst B;rfl
 have ua:FnL K mg "many_kept" eu ["wish","filling"]:=bK X G jt t6 sU uJ λ_ _ _ _ _ _ us hl=>by obtain⟨u0,u1,B⟩:=bw hl;subst B;rfl
 have wy:FnL K mg "sum_kept" fP ["wish","filling"]:=bK X G gU w9 um wf λ_ _ _ _ _ _ us hl=>by obtain⟨u0,u1,B⟩:=bw hl;subst B;rfl
 have rL:FnL K mg "table_kept" eG ["wish","filling"]:=bK X G p0 xW yf vq λ_ _ _ _ _ _ us hl=>by obtain⟨u0,u1,B⟩:=bw hl;subst B;rfl
 have t9:FnL K mg "way_kept" fR ["wish","filling"]:=bK X G pw s8 yy s3 λ_ _ _ _ _ _ us hl=>by obtain⟨u0,u1,B⟩:=bw hl;subst B;rfl
 have wV:FnL K mg "behind_kept" dv ["wish","filling"]:=bK X G jn t5 xM re λ_ _ _ _ _ _ us hl=>by obtain⟨u0,u1,B⟩:=bw hl;subst B;rfl
 have vK:FnL K mg "wish_kept" fk ["wish","filling"]:=bK X G sa sr yq s9 λ_ _ _ _ _ _ us hl=>by obtain⟨u0,u1,B⟩:=bw hl;subst B;rfl
 have s0:FnL K mg "same_kept" fz ["wish","filling"]:=bK X G sK xf uX xq λ_ _ _ _ _ _ us hl=>by obtain⟨u0,u1,B⟩:=bw hl;subst B;rfl
 have mv:FnL K mg "_law_kept" bU ["_law_wish_here","_law_filling"]:=bK X G xv rN v0 sY λ_ _ _ _ _ _ us hl=>by obtain⟨u0,u1,B⟩:=bw hl;subst B;rfl
 have t7:FnL K mg "_law_bounds" dQ ["_law_deal_here","_law_low","_law_high"]:=bK X G sO xY wZ wI λ_ _ _ _ _ _ us hl=>by obtain⟨u0,u1,u2,B⟩:=ly hl;subst B;rfl
 have t3:FnL K mg "_law_sum" dZ ["_law_deal_here","_law_some_here","_law_rooms_here"]:=bK X G v7 tz xQ ry λ_ _ _ _ _ _ us hl=>by obtain⟨u0,u1,u2,B⟩:=ly hl;subst B;rfl
 have u6:FnL K mg "_law_rows" eC ["_law_deal_here","_law_some_here","_law_pool_here"]:=bK X G wd sH tK uD λ_ _ _ _ _ _ us hl=>by obtain⟨u0,u1,u2,B⟩:=ly hl;subst B;rfl
 have wL:FnL K mg "_law_way" fc ["_law_deal_here","_law_some_here","_law_pool_here"]:=bK X G v4 vn rv s5 λ_ _ _ _ _ _ us hl=>by obtain⟨u0,u1,u2,B⟩:=ly hl;subst B;rfl
 have my:FnL K mg "_law_wish" eA ["_law_deal_here","_law_names_here","_law_rooms_here","_law_pool_here","_law_sorts"]:=bK X G x9 yl uK xp λ_ _ _ _ _ _ us hl=>by obtain⟨u0,u1,u2,u3,u4,B⟩:=Ed hl;subst B;rfl
 have uc:FnL K mg "_law_fillings" df ["_law_names_here","_law_rooms_here"]:=bK X G y2 rc tt tq λ_ _ _ _ _ _ us hl=>by obtain⟨u0,u1,B⟩:=bw hl;subst B;rfl
 have cx:bm K (fE K (au mg "Wish") "__init__") "__init__" "Wish.__init__" bi ["self","wish"]:=be ⟨kI,lI,rr,nv⟩ s6 yh nv λ_ _ _ _ _ _ us hl=>by obtain⟨u0,u1,B⟩:=bw hl;subst B;rfl
 have vQ:bm K (Mk K (au mg "Behind")) "__init__" "Behind.__init__" cE ["self","wish"]:=be ⟨cv,r8,vy,ck⟩ tD sC un λ_ _ _ _ _ _ us hl=>by obtain⟨u0,u1,B⟩:=bw hl;subst B;rfl
 have yz:bm K (aN K (au mg "Behind") "may_keep") "may_keep" "Behind.may_keep" bR ["self","rooms"]:=be ⟨tY,uV,qF⟩ uy y1 qF λ_ _ _ _ _ _ us hl=>by obtain⟨u0,u1,B⟩:=bw hl;subst B;rfl
 have yv:bm K (aN K (au mg "Behind") "may_break") "may_break" "Behind.may_break" bJ ["self","rooms"]:=be ⟨xk,uB,oK⟩ ur yt oK λ_ _ _ _ _ _ us hl=>by obtain⟨u0,u1,B⟩:=bw hl;subst B;rfl
 have yg:bm K (Mk K (au mg "Table")) "__init__" "Table.__init__" cP ["self","wish"]:=be ⟨cQ,r2,wF,cN⟩ w3 wN rB λ_ _ _ _ _ _ us hl=>by obtain⟨u0,u1,B⟩:=bw hl;subst B;rfl
 have xS:bm K (aN K (au mg "Table") "has_room") "has_room" "Table.has_room" ci ["self","row","rooms"]:=be ⟨vR,xu,on⟩ x5 wU on λ_ _ _ _ _ _ us hl=>by obtain⟨u0,u1,u2,B⟩:=ly hl;subst B;rfl
 have uE:bm K (aN K (au mg "Table") "rows_in") "rows_in" "Table.rows_in" cG ["self","rooms"]:=be ⟨sR,sJ,pE⟩ r5 s2 pE λ_ _ _ _ _ _ us hl=>by obtain⟨u0,u1,B⟩:=bw hl;subst B;rfl
 have wg:bm K (aN K (au mg "Table") "may_keep") "may_keep" "Table.may_keep" cO ["self","rooms"]:=be ⟨rG,wX,jS⟩ x4 vS jS λ_ _ _ _ _ _ us hl=>by obtain⟨u0,u1,B⟩:=bw hl;subst B;rfl
 have xL:bm K (aN K (au mg "Table") "may_break") "may_break" "Table.may_break" cC ["self","rooms"]:=be ⟨vH,vD,kk⟩ xb v9 kk λ_ _ _ _ _ _ us hl=>by obtain⟨u0,u1,B⟩:=bw hl;subst B;rfl
 have xC:bm K (Mk K (au mg "Way")) "__init__" "Way.__init__" dG ["self","wish"]:=be ⟨dT,x6,rp,dX⟩ xI xX xF λ_ _ _ _ _ _ us hl=>by obtain⟨u0,u1,B⟩:=bw hl;subst B;rfl
 have tj:bm K (aN K (au mg "Way") "states_behind") "states_behind" "Way.states_behind" bT ["self","states","room"]:=be ⟨sd,uO,gC⟩ xJ sI gC λ_ _ _ _ _ _ us hl=>by obtain⟨u0,u1,u2,B⟩:=ly hl;subst B;rfl
 have xo:bm K (aN K (au mg "Way") "last_states") "last_states" "Way.last_states" cD ["self","rooms"]:=be ⟨ud,wQ,i1⟩ wS xE i1 λ_ _ _ _ _ _ us hl=>by obtain⟨u0,u1,B⟩:=bw hl;subst B;rfl
 have xc:bm K (aN K (au mg "Way") "may_keep") "may_keep" "Way.may_keep" cY ["self","rooms"]:=be ⟨wk,r0,hx⟩ xZ w8 hx λ_ _ _ _ _ _ us hl=>by obtain⟨u0,u1,B⟩:=bw hl;subst B;rfl
 have wA:bm K (aN K (au mg "Way") "may_break") "may_break" "Way.may_break" cH ["self","rooms"]:=be ⟨u7,ym,j5⟩ u9 vc j5 λ_ _ _ _ _ _ us hl=>by obtain⟨u0,u1,B⟩:=bw hl;subst B;rfl
 have se:bm K (Mk K (au mg "Sum")) "__init__" "Sum.__init__" dB ["self","wish"]:=be ⟨e5,so,s4,dV⟩ vg vh tw λ_ _ _ _ _ _ us hl=>by obtain⟨u0,u1,B⟩:=bw hl;subst B;rfl
 have wY:FnL K mg "parts_of" eY ["term","rooms"]:=bK X G yw xB xy ri λ_ _ _ _ _ _ us hl=>by obtain⟨u0,u1,B⟩:=bw hl;subst B;rfl
 have rR:FnL K mg "spans_of" fY ["terms","rooms"]:=bK X G uW rQ wu xT λ_ _ _ _ _ _ us hl=>by obtain⟨u0,u1,B⟩:=bw hl;subst B;rfl
 have wn:bm K (aN K (au mg "Sum") "may_end_well") "may_end_well" "Sum.may_end_well" cj ["self","reached","behind"]:=be ⟨rC,ue,h4⟩ xa r6 h4 λ_ _ _ _ _ _ us hl=>by obtain⟨u0,u1,u2,B⟩:=ly hl;subst B;rfl
 have x2:bm K (aN K (au mg "Sum") "sums_with") "sums_with" "Sum.sums_with" dm ["self","reached","parts","behind"]:=be ⟨wv,wG,pP⟩ sx uC pP λ_ _ _ _ _ _ us hl=>by obtain⟨u0,u1,u2,u3,B⟩:=xl hl;subst B;rfl
 have vF:bm K (aN K (au mg "Sum") "sums_kept") "sums_kept" "Sum.sums_kept" db ["self","rooms"]:=be ⟨qV,sA,lf⟩ vj xt lf λ_ _ _ _ _ _ us hl=>by obtain⟨u0,u1,B⟩:=bw hl;subst B;rfl
 have tu:bm K (aN K (au mg "Sum") "may_keep") "may_keep" "Sum.may_keep" dE ["self","rooms"]:=be ⟨rs,vt,mQ⟩ uj wC mQ λ_ _ _ _ _ _ us hl=>by obtain⟨u0,u1,B⟩:=bw hl;subst B;rfl
 have yo:bm K (aN K (au mg "Sum") "may_break") "may_break" "Sum.may_break" dg ["self","rooms"]:=be ⟨tp,x8,hd⟩ vk t2 hd λ_ _ _ _ _ _ us hl=>by obtain⟨u0,u1,B⟩:=bw hl;subst B;rfl
 have tV:bm K (Mk K (au mg "Unlike")) "__init__" "Unlike.__init__" cB ["self","wish"]:=be ⟨cr,x7,w1,cn⟩ rq vT ro λ_ _ _ _ _ _ us hl=>by obtain⟨u0,u1,B⟩:=bw hl;subst B;rfl
 have tN:bm K (aN K (au mg "Unlike") "may_break") "may_break" "Unlike.may_break" bZ ["self","rooms"]:=be ⟨uw,wb,mq⟩ vp ye mq λ_ _ _ _ _ _ us hl=>by obtain⟨u0,u1,B⟩:=bw hl;subst B;rfl
 have vd:FnL K mg "finds_value" cM ["cell","rooms","holders","tried"]:=bK X G uh ux we sB λ_ _ _ _ _ _ us hl=>by obtain⟨u0,u1,u2,u3,B⟩:=xl hl;subst B;rfl
 have v8:bm K (aN K (au mg "Unlike") "may_keep") "may_keep" "Unlike.may_keep" cz ["self","rooms"]:=be ⟨tX,qZ,pa⟩ tr uN pa λ_ _ _ _ _ _ us hl=>by obtain⟨u0,u1,B⟩:=bw hl;subst B;rfl
 have vO:bm K (Mk K (au mg "Many")) "__init__" "Many.__init__" dc ["self","wish"]:=be ⟨cU,rz,ub,dl⟩ vr uT wM λ_ _ _ _ _ _ us hl=>by obtain⟨u0,u1,B⟩:=bw hl;subst B;rfl
 have wl:bm K (aN K (au mg "Many") "fewest") "fewest" "Many.fewest" cp ["self","rooms"]:=be ⟨qY,xm,mX⟩ wW vC mX λ_ _ _ _ _ _ us hl=>by obtain⟨u0,u1,B⟩:=bw hl;subst B;rfl
 have xn:bm K (aN K (au mg "Many") "most") "most" "Many.most" dn ["self","rooms"]:=be ⟨ut,qT,pA⟩ vi ya pA λ_ _ _ _ _ _ us hl=>by obtain⟨u0,u1,B⟩:=bw hl;subst B;rfl
 have x0:bm K (aN K (au mg "Many") "may_keep") "may_keep" "Many.may_keep" de ["self","rooms"]:=be ⟨u5,qX,pO⟩ wq sy pO λ_ _ _ _ _ _ us hl=>by obtain⟨u0,u1,B⟩:=bw hl;subst B;rfl
 have vx:bm K (aN K (au mg "Many") "may_break") "may_break" "Many.may_break" cS ["self","rooms"]:=be ⟨rY,yb,ic⟩ sk uR ic λ_ _ _ _ _ _ us hl=>by obtain⟨u0,u1,B⟩:=bw hl;subst B;rfl
 have yu:FnL K mg "plain_wish_of" di ["wish"]:=bK X G vA sf rl rj λ_ _ _ _ _ _ us hl=>by obtain⟨u0,B⟩:=zI hl;subst B;rfl
 have sz:bm K (Mk K (au mg "Same")) "__init__" "Same.__init__" dj ["self","wish"]:=be ⟨cZ,w0,vI,dd⟩ uY ul xK λ_ _ _ _ _ _ us hl=>by obtain⟨u0,u1,B⟩:=bw hl;subst B;rfl
 have vN:bm K (aN K (au mg "Same") "kept") "kept" "Same.kept" fi ["self","filling"]:=be ⟨tO,wh,o5⟩ tf v1 o5 λ_ _ _ _ _ _ us hl=>by obtain⟨u0,u1,B⟩:=bw hl;subst B;rfl
 have vX:bm K (aN K (au mg "Same") "may_be_among") "may_be_among" "Same.may_be_among" bC ["self","rooms"]:=be ⟨qU,yx,jC⟩ t0 uz jC λ_ _ _ _ _ _ us hl=>by obtain⟨u0,u1,B⟩:=bw hl;subst B;rfl
 have u8:bm K (aN K (au mg "Same") "may_be_none_of_them") "may_be_none_of_them" "Same.may_be_none_of_them" aW ["self","rooms"]:=be ⟨wE,w2,kB⟩ sw yn kB λ_ _ _ _ _ _ us hl=>by obtain⟨u0,u1,B⟩:=bw hl;subst B;rfl
 have x3:bm K (aN K (au mg "Same") "may_keep") "may_keep" "Same.may_keep" dh ["self","rooms"]:=be ⟨sb,rt,gL⟩ w7 rg gL λ_ _ _ _ _ _ us hl=>by obtain⟨u0,u1,B⟩:=bw hl;subst B;rfl
 have uP:bm K (aN K (au mg "Same") "may_break") "may_break" "Same.may_break" cT ["self","rooms"]:=be ⟨sm,tF,qG⟩ rA wo qG λ_ _ _ _ _ _ us hl=>by obtain⟨u0,u1,B⟩:=bw hl;subst B;rfl
 have xw:FnL K mg "_law_truth" eN ["_law_found","_law_due"]:=bK X G w4 vz up vV λ_ _ _ _ _ _ us hl=>by obtain⟨u0,u1,B⟩:=bw hl;subst B;rfl
 have sD:FnL K mg "_law_right" eD ["_law_thing","_law_wish_here","_law_names_here","_law_rooms_here"]:=bK X G r3 sv rh s7 λ_ _ _ _ _ _ us hl=>by obtain⟨u0,u1,u2,u3,B⟩:=xl hl;subst B;rfl
 refine⟨fnOf "law" "law" (aG nA) (aF nA) (aj nA) .none fy ge fw e8 da eS,λs v=>.of_eq rfl,λbase _ _=>?_⟩
 have Fa:Fn l.prog w K mg base "_law_draw" 1 ["_law_deal_here","_law_many"] (sh):=sM T L0
 have Fs:Fn l.prog w K mg base "_law_deal" 1 ["_law_script","_law_start"] (zo K):=sN T L1
 have Fm:Fn l.prog w K mg base "_law_names" 2 ["_law_deal_here","_law_many"] (xj):=pU T L2 Fa
 have Fu:Fn l.prog w K mg base "_law_pool" 2 ["_law_deal_here"] (sL):=sV T L3 Fa
 have Fq:Fn l.prog w K mg base "_law_rooms" 2 ["_law_deal_here","_law_names_here","_law_pool_here","_law_most"] (uq):=pX T L4 Fa
 have Fd:Fn l.prog w K mg base "_law_some" 2 ["_law_deal_here","_law_things","_law_least"] (Ap):=sG T L5 Fa
 have Fp:Fn l.prog w K mg base "are_unlike" 1 ["things"] (zh):=qi T L6
 have Fc:Fn l.prog w K mg base "is_between" 1 ["number","low","high"] (Cw):=qk T L7
 have Fy:Fn l.prog w K mg base "sum_of" 1 ["terms","filling"] (rF):=yr T L8
 have Fb:Fn l.prog w K mg base "values_at" 1 ["cells","filling"] (Al):=sE T L9
 have FA:Fn l.prog w K mg base "unlike_kept" 2 ["wish","filling"] (ib "unlike"):=pT T rD Fp Fb
 have FE:Fn l.prog w K mg base "many_kept" 2 ["wish","filling"] (ib "many"):=sS T ua Fc
 have FI:Fn l.prog w K mg base "sum_kept" 2 ["wish","filling"] (ib "sum"):=uZ T wy Fc Fy
 have FB:Fn l.prog w K mg base "table_kept" 2 ["wish","filling"] (ib "table"):=qe T rL Fb
 have FJ:Fn l.prog w K mg base "way_kept" 2 ["wish","filling"] (ib "way"):=tR T t9 Fb
 have Fz:Fn l.prog w K mg base "behind_kept" 2 ["wish","filling"] (ib "behind"):=pJ T wV Fb
 have FC:Fn l.prog w K mg base "wish_kept" 4 ["wish","filling"] (lz):=qq (ft6 FA (mg_of X G ke) aH FE (mg_of X G jt) aT FI (mg_of X G gU) bq FB (mg_of X G p0) aL FJ (mg_of X G pw) bo Fz (mg_of X G jn) aI) T vK
 have Fv:Fn l.prog w K mg base "same_kept" 5 ["wish","filling"] (ph):=rP T s0 FC
 have FD:Fn l.prog w K mg base "_law_kept" 3 ["_law_wish_here","_law_filling"] (lz):=qa T mv
 have Fr:Fn l.prog w K mg base "_law_kept" 4 ["_law_wish_here","_law_filling"] (ph):=qj T mv FD
 have Fl:Fn l.prog w K mg base "_law_bounds" 2 ["_law_deal_here","_law_low","_law_high"] (uk):=oG T t7 Fa
 have Fx:Fn l.prog w K mg base "_law_sum" 3 ["_law_deal_here","_law_some_here","_law_rooms_here"] (Am):=tT T t3 Fa Fl
 have Ft:Fn l.prog w K mg base "_law_rows" 2 ["_law_deal_here","_law_some_here","_law_pool_here"] (xD):=tL T u6 Fa
 have Fw:Fn l.prog w K mg base "_law_way" 2 ["_law_deal_here","_law_some_here","_law_pool_here"] (CB):=vf T wL Fa
 have Fo:Fn l.prog w K mg base "_law_wish" 15 ["_law_deal_here","_law_names_here","_law_rooms_here","_law_pool_here","_law_sorts"] (nW false):=(rT (n:=0) (h:=false) T my Fa Fd Fx Ft Fw (by unfold sT;rw[if_neg x_];exact zj my)).mono ∅
 have Fk:Fn l.prog w K mg base "_law_fillings" 1 ["_law_names_here","_law_rooms_here"] (xr):=lV T uc
 have ba:FnR l.prog w K mg base (fE K (au mg "Wish") "__init__") 1 ["self","wish"] (cq mg "Behind"):=lu T cx
 have aK:FnR l.prog w K mg base (Mk K (au mg "Behind")) 2 ["self","wish"] (rW mg "Behind"):=kj T vQ ba
 have ao:FnR l.prog w K mg base (aN K (au mg "Behind") "may_keep") 22 ["self","rooms"] (fQ mg):=ko T yz
 have ai:FnR l.prog w K mg base (aN K (au mg "Behind") "may_break") 22 ["self","rooms"] (fv mg):=jN T yv
 have aX:FnR l.prog w K mg base (fE K (au mg "Wish") "__init__") 1 ["self","wish"] (cq mg "Table"):=ld T cx
 have aS:FnR l.prog w K mg base (Mk K (au mg "Table")) 2 ["self","wish"] (rO mg "Table"):=kN T yg aX
 have aP:FnR l.prog w K mg base (aN K (au mg "Table") "has_room") 1 ["self","row","rooms"] (wr mg):=lb T xS
 have ay:FnR l.prog w K mg base (aN K (au mg "Table") "rows_in") 2 ["self","rooms"] (jD mg):=mN T uE aP
 have ap:FnR l.prog w K mg base (aN K (au mg "Table") "may_keep") 22 ["self","rooms"] (fU mg):=lg T wg ay
 have am:FnR l.prog w K mg base (aN K (au mg "Table") "may_break") 22 ["self","rooms"] (fm mg):=kl T xL ay
 have aY:FnR l.prog w K mg base (fE K (au mg "Wish") "__init__") 1 ["self","wish"] (cq mg "Way"):=kR T cx
 have bz:FnR l.prog w K mg base (Mk K (au mg "Way")) 2 ["self","wish"] (oF mg "Way"):=nN T xC aY
 have aC:FnR l.prog w K mg base (aN K (au mg "Way") "states_behind") 1 ["self","states","room"] (vB l.prog w mg):=iS T tj
 have an:FnR l.prog w K mg base (aN K (au mg "Way") "last_states") 2 ["self","rooms"] (og l.prog w mg):=kA T xo aC
 have aB:FnR l.prog w K mg base (aN K (au mg "Way") "may_keep") 22 ["self","rooms"] (ga mg):=nG T xc an
 have ar:FnR l.prog w K mg base (aN K (au mg "Way") "may_break") 22 ["self","rooms"] (fe mg):=mM T wA an
 have aZ:FnR l.prog w K mg base (fE K (au mg "Wish") "__init__") 1 ["self","wish"] (cq mg "Sum"):=lx T cx
 have b3:FnR l.prog w K mg base (Mk K (au mg "Sum")) 2 ["self","wish"] (tI mg):=nP T se aZ
 have Fi:Fn l.prog w K mg base "parts_of" 1 ["term","rooms"] (ve):=tU T wY
 have Fh:Fn l.prog w K mg base "spans_of" 2 ["terms","rooms"] (uU):=vo T rR Fi
 have aE:FnR l.prog w K mg base (aN K (au mg "Sum") "may_end_well") 1 ["self","reached","behind"] (wP mg):=jK T wn
 have bh:FnR l.prog w K mg base (aN K (au mg "Sum") "sums_with") 2 ["self","reached","parts","behind"] (sX mg):=lT T x2 aE
 have bp:FnR l.prog w K mg base (aN K (au mg "Sum") "sums_kept") 4 ["self","rooms"] (pG mg):=lG T vF Fh Fi bh
 have az:FnR l.prog w K mg base (aN K (au mg "Sum") "may_keep") 22 ["self","rooms"] (fW mg):=nK T tu bp
 have ax:FnR l.prog w K mg base (aN K (au mg "Sum") "may_break") 22 ["self","rooms"] (fh mg):=lS T yo Fh Fc
 have aU:FnR l.prog w K mg base (fE K (au mg "Wish") "__init__") 1 ["self","wish"] (cq mg "Unlike"):=kX T cx
 have aJ:FnR l.prog w K mg base (Mk K (au mg "Unlike")) 2 ["self","wish"] (sg mg):=kn T tV aU
 have ag:FnR l.prog w K mg base (aN K (au mg "Unlike") "may_break") 22 ["self","rooms"] (fo mg):=jO T tN
 have Fe:Fn l.prog w K mg base "finds_value" 21 ["cell","rooms","holders","tried"] (jI 20):=uv T vd 20
 have ak:FnR l.prog w K mg base (aN K (au mg "Unlike") "may_keep") 22 ["self","rooms"] (fV mg):=kF T v8 Fe
 have aM:FnR l.prog w K mg base (fE K (au mg "Wish") "__init__") 1 ["self","wish"] (cq mg "Many"):=kJ T cx
 have bn:FnR l.prog w K mg base (Mk K (au mg "Many")) 2 ["self","wish"] (oQ mg):=lN T vO aM
 have aD:FnR l.prog w K mg base (aN K (au mg "Many") "fewest") 1 ["self","rooms"] (rM mg):=oB T wl
 have bd:FnR l.prog w K mg base (aN K (au mg "Many") "most") 1 ["self","rooms"] (nY mg):=rX T xn
 have aw:FnR l.prog w K mg base (aN K (au mg "Many") "may_keep") 22 ["self","rooms"] (fZ mg):=ml T x0 aD bd
 have aq:FnR l.prog w K mg base (aN K (au mg "Many") "may_break") 22 ["self","rooms"] (ff mg):=lc T vx aD bd
 have Fj:Fn l.prog w K mg base "plain_wish_of" 6 ["wish"] (zG mg):=lF T yu aJ bn b3 aS bz aK
 have aO:FnR l.prog w K mg base (fE K (au mg "Wish") "__init__") 1 ["self","wish"] (cq mg "Same"):=lw T cx
 have bk:FnR l.prog w K mg base (Mk K (au mg "Same")) 8 ["self","wish"] (si mg "Same"):=lY T sz aO Fj
 have bP:FnR l.prog w K mg base (aN K (au mg "Same") "kept") 6 ["self","filling"] (pH mg):=tH T vN Fv
 have af:FnR l.prog w K mg base (aN K (au mg "Same") "may_be_among") 1 ["self","rooms"] (rJ mg):=iY T vX
 have ad:FnR l.prog w K mg base (aN K (au mg "Same") "may_be_none_of_them") 1 ["self","rooms"] (rS mg):=gD T u8
 have br:FnR l.prog w K mg base (aN K (au mg "Same") "may_keep") 23 ["self","rooms"] (km mg):=lB T x3 af ad ak aw az ap aB ao ag aq ax am ar ai
 have aV:FnR l.prog w K mg base (aN K (au mg "Same") "may_break") 23 ["self","rooms"] (jd mg):=li T uP af ad ak aw az ap aB ao ag aq ax am ar ai
 have Fg:Fn l.prog w K mg base "_law_truth" 1 ["_law_found","_law_due"] (sP):=qm T xw
 have Ff:Fn l.prog w K mg base "_law_right" 30 ["_law_thing","_law_wish_here","_law_names_here","_law_rooms_here"] (pR mg):=qg T sD Fk Fr Fg bP br aV
 exact DD T (oC v5 xO v6) Fs Fa Fm Fu Fq Fd Fo bk Ff
theorem EI {l:PySem.W.OpenLaw} {d:DefRec} {K:Params->j_} (L:l.most=some 63) (B:d.params.defaults=[])
  (hY : ∀(w:World) (h:Heap),YP w h->(K w.params).In h)
  (F : ∀(w:World) (mg:Str->Option Value) (fa:Addr) (h:Heap),(K w.params).In h->h.Ns i_ mg->mg d.name=some (.ref fa) ->
   ∃fd:FuncData,(∀(s:Shared) (u:Value),BindsTo s fd ⟨[u],[]⟩ [("_law_script",u)])/\∀base:Heap,(K w.params).In base->base.Ns i_ mg->iH l.prog w (K w.params) mg base CX0 45 fa fd ["_law_script"] (xi (K w.params))) :
  PySem.W.WalkO q loose XP YP l.row.toRowW d [] (λf vs=>PySem.call f vs) :=
 L2.Ce (n:=63) (k:=45) (x := "_law_script") (CX:=λ_=>CX0) (sp:=λw=>xi (K w.params)) L ∅ B ⟨rfl,∅,∅⟩ hY F (λ_ _ a ns hl _ Y=>⟨a,ns,rfl,Y,hl,λ_=>rfl⟩) λ_ _ _ _ _ z=>z
end Lw
variable {W:Lw.Wi} {dat:Lw.fG}
open PySem PySem.W PyProof.Rows
local macro_rules | `(tactic| o_head $H) => do
  let hw:=Lean.mkIdent `hw
  let hc:=Lean.mkIdent `hc
  `(tactic| (refine holds_open (q:=Lw.iM) (hY:=Hook.of $H) (hYk:=Hook.keeps $H) (YP:=Hook.says $H) (XP:=XL Lw.iM List.nil) (Xt:=Lw.hX)
                Lw.hl (λs e=>xl_of s (Bool.and_eq_true_iff.mp e).1) XL.keeps (by rfl) (by rfl) (by rfl)
                (λs e=>recFacts_of (Bool.and_eq_true_iff.mp e).2) (by rfl) (by assumption) (by decide+kernel)
                ⟨rfl,rfl,rfl,rfl,rfl,by decide+kernel⟩ ?$hw ?$hc))
set_option maxHeartbeats 0 in
theorem PySem.Challenge.cw_seekhall_k19_just_where_a_wish_is_kept_holds : PySem.Challenge.rw_seekhall_k19_just_where_a_wish_is_kept.Holds := by
  w_on;refine PySem.W.holds_law Lw.wsd (λsaid=>?_);o_head (kHook Lw.Cr.heap_1 Lw.hAs Lw.hAe);(case hw=>w_witness2)
  k_fill
  refine Lw.EI (l:=PySem.Challenge.rw_seekhall_k19_just_where_a_wish_is_kept) rfl rfl (λw h Y=>PySem.W.kIn_of Y) ?F
  case F =>
    intro w mg fa h KX G hmg
    refine' Lw.De KX G hmg ?aC_Wish ?aC_Unlike ?pg_Unlike ?hd_Unlike ?po_Unlike ?sa_Unlike ?nf_Unlike_wish ?nf_Unlike_cells ?mk_Unlike ?kc_Unlike ?aC_Many ?pg_Many ?hd_Many ?po_Many ?sa_Many ?nf_Many_wish ?nf_Many_among ?nf_Many_cells ?nf_Many_low ?nf_Many_high ?mk_Many ?kc_Many ?aC_Sum ?pg_Sum ?hd_Sum ?po_Sum ?sa_Sum ?nf_Sum_wish ?nf_Sum_terms ?nf_Sum_low ?nf_Sum_high ?mk_Sum ?kc_Sum ?aC_Table ?pg_Table ?hd_Table ?po_Table ?sa_Table ?nf_Table_wish ?nf_Table_cells ?nf_Table_rows ?mk_Table ?kc_Table ?aC_Way ?pg_Way ?hd_Way ?po_Way ?sa_Way ?nf_Way_wish ?nf_Way_cells ?nf_Way_ends ?nf_Way_leads ?mk_Way ?kc_Way ?aC_Behind ?pg_Behind ?hd_Behind ?po_Behind ?sa_Behind ?nf_Behind_wish ?nf_Behind_cells ?nf_Behind_gap ?mk_Behind ?kc_Behind ?aC_Same ?pg_Same ?hd_Same ?po_Same ?sa_Same ?nf_Same_wish ?nf_Same_cell ?nf_Same_among ?nf_Same_inner ?mk_Same ?kc_Same ?a0 ?l0 ?c0 ?k0 ?a1 ?l1 ?c1 ?k1 ?a2 ?l2 ?c2 ?k2 ?a3 ?l3 ?c3 ?k3 ?a4 ?l4 ?c4 ?k4 ?a5 ?l5 ?c5 ?k5 ?a6 ?l6 ?c6 ?k6 ?a7 ?l7 ?c7 ?k7 ?a8 ?l8 ?c8 ?k8 ?a9 ?l9 ?c9 ?k9 ?a10 ?l10 ?c10 ?k10 ?a11 ?l11 ?c11 ?k11 ?a12 ?l12 ?c12 ?k12 ?a13 ?l13 ?c13 ?k13 ?a14 ?l14 ?c14 ?k14 ?a15 ?l15 ?c15 ?k15 ?a16 ?l16 ?c16 ?k16 ?a17 ?l17 ?c17 ?k17 ?a18 ?l18 ?c18 ?k18 ?a19 ?l19 ?c19 ?k19 ?a20 ?l20 ?c20 ?k20 ?a21 ?l21 ?c21 ?k21 ?a22 ?l22 ?c22 ?k22 ?a23 ?l23 ?c23 ?k23 ?a24 ?l24 ?c24 ?k24 ?sp25 ?rd25 ?a25 ?l25 ?c25 ?k25 ?a26 ?i26 ?l26 ?c26 ?k26 ?a27 ?i27 ?l27 ?c27 ?k27 ?a28 ?i28 ?l28 ?c28 ?k28 ?a29 ?i29 ?l29 ?c29 ?k29 ?a30 ?i30 ?l30 ?c30 ?k30 ?a31 ?i31 ?l31 ?c31 ?k31 ?a32 ?i32 ?l32 ?c32 ?k32 ?a33 ?i33 ?l33 ?c33 ?k33 ?a34 ?i34 ?l34 ?c34 ?k34 ?a35 ?i35 ?l35 ?c35 ?k35 ?a36 ?i36 ?l36 ?c36 ?k36 ?a37 ?i37 ?l37 ?c37 ?k37 ?a38 ?i38 ?l38 ?c38 ?k38 ?a39 ?i39 ?l39 ?c39 ?k39 ?a40 ?l40 ?c40 ?k40 ?a41 ?l41 ?c41 ?k41 ?a42 ?i42 ?l42 ?c42 ?k42 ?a43 ?i43 ?l43 ?c43 ?k43 ?a44 ?i44 ?l44 ?c44 ?k44 ?a45 ?i45 ?l45 ?c45 ?k45 ?a46 ?i46 ?l46 ?c46 ?k46 ?a47 ?i47 ?l47 ?c47 ?k47 ?a48 ?i48 ?l48 ?c48 ?k48 ?a49 ?l49 ?c49 ?k49 ?a50 ?i50 ?l50 ?c50 ?k50 ?a51 ?i51 ?l51 ?c51 ?k51 ?a52 ?i52 ?l52 ?c52 ?k52 ?a53 ?i53 ?l53 ?c53 ?k53 ?a54 ?i54 ?l54 ?c54 ?k54 ?a55 ?i55 ?l55 ?c55 ?k55 ?a56 ?l56 ?c56 ?k56 ?a57 ?i57 ?l57 ?c57 ?k57 ?a58 ?i58 ?l58 ?c58 ?k58 ?a59 ?i59 ?l59 ?c59 ?k59 ?a60 ?i60 ?l60 ?c60 ?k60 ?a61 ?i61 ?l61 ?c61 ?k61 ?a62 ?i62 ?l62 ?c62 ?k62 ?a63 ?l63 ?c63 ?k63 ?a64 ?l64 ?c64 ?k64 ?a65 ?l65 ?c65 ?k65 ?z0 ?z1 ?z2 ?z3 ?z4 ?z5 ?z6 ?z7 ?z8 ?z9 ?z10 ?z11 ?z12 ?z13 ?z14 ?z15 ?z16 ?z17 ?aC_KEEPERS ?tl_KEEPERS ?tk_KEEPERS ?tx_KEEPERS_unlike ?tx_KEEPERS_many ?tx_KEEPERS_sum ?tx_KEEPERS_table ?tx_KEEPERS_way ?tx_KEEPERS_behind ?tx_KEEPERS_same
    (case aC_Wish=>k_is)
    (case aC_Unlike=>k_is)
    (case pg_Unlike=>k_is)
    (case hd_Unlike=>k_is)
    (case po_Unlike=>k_is)
    (case sa_Unlike=>k_is)
    (case nf_Unlike_wish=>k_is)
    (case nf_Unlike_cells=>k_is)
    (case mk_Unlike=>k_is)
    (case kc_Unlike=>k_is)
    (case aC_Many=>k_is)
    (case pg_Many=>k_is)
    (case hd_Many=>k_is)
    (case po_Many=>k_is)
    (case sa_Many=>k_is)
    (case nf_Many_wish=>k_is)
    (case nf_Many_among=>k_is)
    (case nf_Many_cells=>k_is)
    (case nf_Many_low=>k_is)
    (case nf_Many_high=>k_is)
    (case mk_Many=>k_is)
    (case kc_Many=>k_is)
    (case aC_Sum=>k_is)
    (case pg_Sum=>k_is)
    (case hd_Sum=>k_is)
    (case po_Sum=>k_is)
    (case sa_Sum=>k_is)
    (case nf_Sum_wish=>k_is)
    (case nf_Sum_terms=>k_is)
    (case nf_Sum_low=>k_is)
    (case nf_Sum_high=>k_is)
    (case mk_Sum=>k_is)
    (case kc_Sum=>k_is)
    (case aC_Table=>k_is)
    (case pg_Table=>k_is)
    (case hd_Table=>k_is)
    (case po_Table=>k_is)
    (case sa_Table=>k_is)
    (case nf_Table_wish=>k_is)
    (case nf_Table_cells=>k_is)
    (case nf_Table_rows=>k_is)
    (case mk_Table=>k_is)
    (case kc_Table=>k_is)
    (case aC_Way=>k_is)
    (case pg_Way=>k_is)
    (case hd_Way=>k_is)
    (case po_Way=>k_is)
    (case sa_Way=>k_is)
    (case nf_Way_wish=>k_is)
    (case nf_Way_cells=>k_is)
    (case nf_Way_ends=>k_is)
    (case nf_Way_leads=>k_is)
    (case mk_Way=>k_is)
    (case kc_Way=>k_is)
    (case aC_Behind=>k_is)
    (case pg_Behind=>k_is)
    (case hd_Behind=>k_is)
    (case po_Behind=>k_is)
    (case sa_Behind=>k_is)
    (case nf_Behind_wish=>k_is)
    (case nf_Behind_cells=>k_is)
    (case nf_Behind_gap=>k_is)
    (case mk_Behind=>k_is)
    (case kc_Behind=>k_is)
    (case aC_Same=>k_is)
    (case pg_Same=>k_is)
    (case hd_Same=>k_is)
    (case po_Same=>k_is)
    (case sa_Same=>k_is)
    (case nf_Same_wish=>k_is)
    (case nf_Same_cell=>k_is)
    (case nf_Same_among=>k_is)
    (case nf_Same_inner=>k_is)
    (case mk_Same=>k_is)
    (case kc_Same=>k_is)
    (case a0=>k_is)
    (case l0=>k_is)
    (case c0=>k_is)
    (case k0=>k_is)
    (case a1=>k_is)
    (case l1=>k_is)
    (case c1=>k_is)
    (case k1=>k_is)
    (case a2=>k_is)
    (case l2=>k_is)
    (case c2=>k_is)
    (case k2=>k_is)
    (case a3=>k_is)
    (case l3=>k_is)
    (case c3=>k_is)
    (case k3=>k_is)
    (case a4=>k_is)
    (case l4=>k_is)
    (case c4=>k_is)
    (case k4=>k_is)
    (case a5=>k_is)
    (case l5=>k_is)
    (case c5=>k_is)
    (case k5=>k_is)
    (case a6=>k_is)
    (case l6=>k_is)
    (case c6=>k_is)
    (case k6=>k_is)
    (case a7=>k_is)
    (case l7=>k_is)
    (case c7=>k_is)
    (case k7=>k_is)
    (case a8=>k_is)
    (case l8=>k_is)
    (case c8=>k_is)
    (case k8=>k_is)
    (case a9=>k_is)
    (case l9=>k_is)
    (case c9=>k_is)
    (case k9=>k_is)
    (case a10=>k_is)
    (case l10=>k_is)
    (case c10=>k_is)
    (case k10=>k_is)
    (case a11=>k_is)
    (case l11=>k_is)
    (case c11=>k_is)
    (case k11=>k_is)
    (case a12=>k_is)
    (case l12=>k_is)
    (case c12=>k_is)
    (case k12=>k_is)
    (case a13=>k_is)
    (case l13=>k_is)
    (case c13=>k_is)
    (case k13=>k_is)
    (case a14=>k_is)
    (case l14=>k_is)
    (case c14=>k_is)
    (case k14=>k_is)
    (case a15=>k_is)
    (case l15=>k_is)
    (case c15=>k_is)
    (case k15=>k_is)
    (case a16=>k_is)
    (case l16=>k_is)
    (case c16=>k_is)
    (case k16=>k_is)
    (case a17=>k_is)
    (case l17=>k_is)
    (case c17=>k_is)
    (case k17=>k_is)
    (case a18=>k_is)
    (case l18=>k_is)
    (case c18=>k_is)
    (case k18=>k_is)
    (case a19=>k_is)
    (case l19=>k_is)
    (case c19=>k_is)
    (case k19=>k_is)
    (case a20=>k_is)
    (case l20=>k_is)
    (case c20=>k_is)
    (case k20=>k_is)
    (case a21=>k_is)
    (case l21=>k_is)
    (case c21=>k_is)
    (case k21=>k_is)
    (case a22=>k_is)
    (case l22=>k_is)
    (case c22=>k_is)
    (case k22=>k_is)
    (case a23=>k_is)
    (case l23=>k_is)
    (case c23=>k_is)
    (case k23=>k_is)
    (case a24=>k_is)
    (case l24=>k_is)
    (case c24=>k_is)
    (case k24=>k_is)
    (case sp25=>k_is)
    (case rd25=>k_is)
    (case a25=>k_is)
    (case l25=>k_is)
    (case c25=>k_is)
    (case k25=>k_is)
    (case a26=>k_is)
    (case i26=>k_is)
    (case l26=>k_is)
    (case c26=>k_is)
    (case k26=>k_is)
    (case a27=>k_is)
    (case i27=>k_is)
    (case l27=>k_is)
    (case c27=>k_is)
    (case k27=>k_is)
    (case a28=>k_is)
    (case i28=>k_is)
    (case l28=>k_is)
    (case c28=>k_is)
    (case k28=>k_is)
    (case a29=>k_is)
    (case i29=>k_is)
    (case l29=>k_is)
    (case c29=>k_is)
    (case k29=>k_is)
    (case a30=>k_is)
    (case i30=>k_is)
    (case l30=>k_is)
    (case c30=>k_is)
    (case k30=>k_is)
    (case a31=>k_is)
    (case i31=>k_is)
    (case l31=>k_is)
    (case c31=>k_is)
    (case k31=>k_is)
    (case a32=>k_is)
    (case i32=>k_is)
    (case l32=>k_is)
    (case c32=>k_is)
    (case k32=>k_is)
    (case a33=>k_is)
    (case i33=>k_is)
    (case l33=>k_is)
    (case c33=>k_is)
    (case k33=>k_is)
    (case a34=>k_is)
    (case i34=>k_is)
    (case l34=>k_is)
    (case c34=>k_is)
    (case k34=>k_is)
    (case a35=>k_is)
    (case i35=>k_is)
    (case l35=>k_is)
    (case c35=>k_is)
    (case k35=>k_is)
    (case a36=>k_is)
    (case i36=>k_is)
    (case l36=>k_is)
    (case c36=>k_is)
    (case k36=>k_is)
    (case a37=>k_is)
    (case i37=>k_is)
    (case l37=>k_is)
    (case c37=>k_is)
    (case k37=>k_is)
    (case a38=>k_is)
    (case i38=>k_is)
    (case l38=>k_is)
    (case c38=>k_is)
    (case k38=>k_is)
    (case a39=>k_is)
    (case i39=>k_is)
    (case l39=>k_is)
    (case c39=>k_is)
    (case k39=>k_is)
    (case a40=>k_is)
    (case l40=>k_is)
    (case c40=>k_is)
    (case k40=>k_is)
    (case a41=>k_is)
    (case l41=>k_is)
    (case c41=>k_is)
    (case k41=>k_is)
    (case a42=>k_is)
    (case i42=>k_is)
    (case l42=>k_is)
    (case c42=>k_is)
    (case k42=>k_is)
    (case a43=>k_is)
    (case i43=>k_is)
    (case l43=>k_is)
    (case c43=>k_is)
    (case k43=>k_is)
    (case a44=>k_is)
    (case i44=>k_is)
    (case l44=>k_is)
    (case c44=>k_is)
    (case k44=>k_is)
    (case a45=>k_is)
    (case i45=>k_is)
    (case l45=>k_is)
    (case c45=>k_is)
    (case k45=>k_is)
    (case a46=>k_is)
    (case i46=>k_is)
    (case l46=>k_is)
    (case c46=>k_is)
    (case k46=>k_is)
    (case a47=>k_is)
    (case i47=>k_is)
    (case l47=>k_is)
    (case c47=>k_is)
    (case k47=>k_is)
    (case a48=>k_is)
    (case i48=>k_is)
    (case l48=>k_is)
    (case c48=>k_is)
    (case k48=>k_is)
    (case a49=>k_is)
    (case l49=>k_is)
    (case c49=>k_is)
    (case k49=>k_is)
    (case a50=>k_is)
    (case i50=>k_is)
    (case l50=>k_is)
    (case c50=>k_is)
    (case k50=>k_is)
    (case a51=>k_is)
    (case i51=>k_is)
    (case l51=>k_is)
    (case c51=>k_is)
    (case k51=>k_is)
    (case a52=>k_is)
    (case i52=>k_is)
    (case l52=>k_is)
    (case c52=>k_is)
    (case k52=>k_is)
    (case a53=>k_is)
    (case i53=>k_is)
    (case l53=>k_is)
    (case c53=>k_is)
    (case k53=>k_is)
    (case a54=>k_is)
    (case i54=>k_is)
    (case l54=>k_is)
    (case c54=>k_is)
    (case k54=>k_is)
    (case a55=>k_is)
    (case i55=>k_is)
    (case l55=>k_is)
    (case c55=>k_is)
    (case k55=>k_is)
    (case a56=>k_is)
    (case l56=>k_is)
    (case c56=>k_is)
    (case k56=>k_is)
    (case a57=>k_is)
    (case i57=>k_is)
    (case l57=>k_is)
    (case c57=>k_is)
    (case k57=>k_is)
    (case a58=>k_is)
    (case i58=>k_is)
    (case l58=>k_is)
    (case c58=>k_is)
    (case k58=>k_is)
    (case a59=>k_is)
    (case i59=>k_is)
    (case l59=>k_is)
    (case c59=>k_is)
    (case k59=>k_is)
    (case a60=>k_is)
    (case i60=>k_is)
    (case l60=>k_is)
    (case c60=>k_is)
    (case k60=>k_is)
    (case a61=>k_is)
    (case i61=>k_is)
    (case l61=>k_is)
    (case c61=>k_is)
    (case k61=>k_is)
    (case a62=>k_is)
    (case i62=>k_is)
    (case l62=>k_is)
    (case c62=>k_is)
    (case k62=>k_is)
    (case a63=>k_is)
    (case l63=>k_is)
    (case c63=>k_is)
    (case k63=>k_is)
    (case a64=>k_is)
    (case l64=>k_is)
    (case c64=>k_is)
    (case k64=>k_is)
    (case a65=>k_is)
    (case l65=>k_is)
    (case c65=>k_is)
    (case k65=>k_is)
    (case z0=>k_is)
    (case z1=>k_is)
    (case z2=>k_is)
    (case z3=>k_is)
    (case z4=>k_is)
    (case z5=>k_is)
    (case z6=>k_is)
    (case z7=>k_is)
    (case z8=>k_is)
    (case z9=>k_is)
    (case z10=>k_is)
    (case z11=>k_is)
    (case z12=>k_is)
    (case z13=>k_is)
    (case z14=>k_is)
    (case z15=>k_is)
    (case z16=>k_is)
    (case z17=>k_is)
    (case aC_KEEPERS=>k_is)
    (case tl_KEEPERS=>k_is)
    (case tk_KEEPERS=>k_keys)
    (case tx_KEEPERS_unlike=>k_is)
    (case tx_KEEPERS_many=>k_is)
    (case tx_KEEPERS_sum=>k_is)
    (case tx_KEEPERS_table=>k_is)
    (case tx_KEEPERS_way=>k_is)
    (case tx_KEEPERS_behind=>k_is)
    (case tx_KEEPERS_same=>k_is)
