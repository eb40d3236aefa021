import PyProof.Rows.All
import KE.KIntText
import KE.KIsAll
import KE.KItem
import KE.KRevIter
import OpenK.KLine
import Wide.Once
import Wide.Tac
import Open.Line
import Wide.Line
import KE.KPathFold
import PyProof.Rows.RegCtxHas
import PyProof.Walk
import KE.KEqDict
import KE.KDictOf
import KE.KSortTup
import Lean
import PySem.Challenge.RW_seekhall_k23_what_follows
set_option Elab.async false
set_option linter.all false
set_option compiler.extract_closed false
set_option maxRecDepth 100000
set_option maxHeartbeats 4000000
namespace Ob
variable {C p q r s t u v w x y z k l m : Prop} {A B D E F G H I J : Sort _}
theorem e1 {P : A → Prop} (h : ∃ a, P a) (f : ∀ a, P a → C) : C := h.elim f
theorem e2 {P : A → B → Prop} (h : ∃ a b, P a b) (f : ∀ a b, P a b → C) : C := h.elim fun a h => e1 h (f a)
theorem e3 {P : A → B → D → Prop} (h : ∃ a b d, P a b d) (f : ∀ a b d, P a b d → C) : C := h.elim fun a h => e2 h (f a)
theorem e4 {P : A → B → D → E → Prop} (h : ∃ a b d e, P a b d e) (f : ∀ a b d e, P a b d e → C) : C := h.elim fun a h => e3 h (f a)
theorem e5 {P : A → B → D → E → F → Prop} (h : ∃ a b d e f, P a b d e f) (f : ∀ a b d e f, P a b d e f → C) : C := h.elim fun a h => e4 h (f a)
theorem e6 {P : A → B → D → E → F → G → Prop} (h : ∃ a b d e f g, P a b d e f g) (f : ∀ a b d e f g, P a b d e f g → C) : C := h.elim fun a h => e5 h (f a)
theorem e7 {P : A → B → D → E → F → G → H → Prop} (h : ∃ a b d e f g h, P a b d e f g h) (f : ∀ a b d e f g h, P a b d e f g h → C) : C := h.elim fun a h => e6 h (f a)
theorem e8 {P : A → B → D → E → F → G → H → I → Prop} (h : ∃ a b d e f g h i, P a b d e f g h i) (f : ∀ a b d e f g h i, P a b d e f g h i → C) : C := h.elim fun a h => e7 h (f a)
theorem e9 {P : A → B → D → E → F → G → H → I → J → Prop} (h : ∃ a b d e f g h i j, P a b d e f g h i j) (f : ∀ a b d e f g h i j, P a b d e f g h i j → C) : C := h.elim fun a h => e8 h (f a)
theorem i2 {P : A → B → Prop} (a : A) (b : B) (o : P a b) : ∃ a b, P a b := ⟨a, b, o⟩
theorem i3 {P : A → B → D → Prop} (a : A) (b : B) (d : D) (o : P a b d) : ∃ a b d, P a b d := ⟨a, b, d, o⟩
theorem i4 {P : A → B → D → E → Prop} (a : A) (b : B) (d : D) (e : E) (o : P a b d e) : ∃ a b d e, P a b d e := ⟨a, b, d, e, o⟩
theorem i5 {P : A → B → D → E → F → Prop} (a : A) (b : B) (d : D) (e : E) (f : F) (o : P a b d e f) : ∃ a b d e f, P a b d e f := ⟨a, b, d, e, f, o⟩
theorem i6 {P : A → B → D → E → F → G → Prop} (a : A) (b : B) (d : D) (e : E) (f : F) (g : G) (o : P a b d e f g) : ∃ a b d e f g, P a b d e f g := ⟨a, b, d, e, f, g, o⟩
theorem i7 {P : A → B → D → E → F → G → H → Prop} (a : A) (b : B) (d : D) (e : E) (f : F) (g : G) (h : H) (o : P a b d e f g h) : ∃ a b d e f g h, P a b d e f g h := ⟨a, b, d, e, f, g, h, o⟩
theorem i8 {P : A → B → D → E → F → G → H → I → Prop} (a : A) (b : B) (d : D) (e : E) (f : F) (g : G) (h : H) (i : I) (o : P a b d e f g h i) : ∃ a b d e f g h i, P a b d e f g h i := ⟨a, b, d, e, f, g, h, i, o⟩
theorem i9 {P : A → B → D → E → F → G → H → I → J → Prop} (a : A) (b : B) (d : D) (e : E) (f : F) (g : G) (h : H) (i : I) (j : J) (o : P a b d e f g h i j) : ∃ a b d e f g h i j, P a b d e f g h i j := ⟨a, b, d, e, f, g, h, i, j, o⟩
theorem c2 (h : p ∧ q) (f : p → q → C) : C := f h.1 h.2
theorem c3 (h : p ∧ q ∧ r) (f : p → q → r → C) : C := c2 h.2 (f h.1)
theorem c4 (h : p ∧ q ∧ r ∧ s) (f : p → q → r → s → C) : C := c3 h.2 (f h.1)
theorem c5 (h : p ∧ q ∧ r ∧ s ∧ t) (f : p → q → r → s → t → C) : C := c4 h.2 (f h.1)
theorem c6 (h : p ∧ q ∧ r ∧ s ∧ t ∧ u) (f : p → q → r → s → t → u → C) : C := c5 h.2 (f h.1)
theorem c7 (h : p ∧ q ∧ r ∧ s ∧ t ∧ u ∧ v) (f : p → q → r → s → t → u → v → C) : C := c6 h.2 (f h.1)
theorem c8 (h : p ∧ q ∧ r ∧ s ∧ t ∧ u ∧ v ∧ w) (f : p → q → r → s → t → u → v → w → C) : C := c7 h.2 (f h.1)
theorem c9 (h : p ∧ q ∧ r ∧ s ∧ t ∧ u ∧ v ∧ w ∧ x) (f : p → q → r → s → t → u → v → w → x → C) : C := c8 h.2 (f h.1)
theorem c10 (h : p ∧ q ∧ r ∧ s ∧ t ∧ u ∧ v ∧ w ∧ x ∧ y) (f : p → q → r → s → t → u → v → w → x → y → C) : C := c9 h.2 (f h.1)
theorem c11 (h : p ∧ q ∧ r ∧ s ∧ t ∧ u ∧ v ∧ w ∧ x ∧ y ∧ z) (f : p → q → r → s → t → u → v → w → x → y → z → C) : C := c10 h.2 (f h.1)
theorem c12 (h : p ∧ q ∧ r ∧ s ∧ t ∧ u ∧ v ∧ w ∧ x ∧ y ∧ z ∧ k) (f : p → q → r → s → t → u → v → w → x → y → z → k → C) : C := c11 h.2 (f h.1)
theorem c13 (h : p ∧ q ∧ r ∧ s ∧ t ∧ u ∧ v ∧ w ∧ x ∧ y ∧ z ∧ k ∧ l) (f : p → q → r → s → t → u → v → w → x → y → z → k → l → C) : C := c12 h.2 (f h.1)
theorem c14 (h : p ∧ q ∧ r ∧ s ∧ t ∧ u ∧ v ∧ w ∧ x ∧ y ∧ z ∧ k ∧ l ∧ m) (f : p → q → r → s → t → u → v → w → x → y → z → k → l → m → C) : C := c13 h.2 (f h.1)
end Ob
open Lean Lean.Parser.Tactic in
local macro_rules
 | `(tactic| obtain $p:rcasesPatMed := $e:term) => do
  let pl : TSyntax ``rcasesPatLo := ⟨mkNode ``rcasesPatLo #[p, mkNullNode]⟩
  let plain ← `(tactic| rcases $e:term with $pl)
  let q := p.raw[0][0]
  let ps := q[1].getSepArgs
  let n := ps.size
  if p.raw[0].getNumArgs != 1 || q.getKind != ``rcasesPat.tuple || n < 2 || n > 20 then return plain
  let mut nm : Array Ident := #[]
  let mut fs : Array (TSyntax `tactic) := #[]
  let cl (b : Term) : MacroM Term := if e.raw.isIdent then `(clear% $(⟨e.raw⟩); $b) else pure b
  for x in ps do
    let v := x[0][0][0]
    if x[1].getNumArgs == 0 && x[0][0].getNumArgs == 1 && v.getKind == ``rcasesPat.one && v[0].getId != `rfl then nm := nm.push ⟨v[0]⟩
    else
      let y := mkIdent (.mkSimple s!"hX{nm.size}")
      nm := nm.push y
      fs := fs.push (← `(tactic| all_goals rcases $y:ident with $(⟨x⟩)))
  let mut alts : Array (TSyntax `tactic) := #[]
  for d in [0:n] do
    let m := n - 1 - d
    let k := n - m
    if m ≤ 9 && k ≤ 14 then
      let f := mkIdent (.mkStr `Ob s!"e{m}")
      let g := mkIdent (.mkStr `Ob s!"c{k}")
      let xs := nm.extract 0 m
      let ys := nm.extract m n
      let b ← cl (← if m == 0 then `(fun $ys* => ?_) else if k == 1 then `(fun $xs* $(ys[0]!) => ?_) else `(fun $xs* hW => $g hW (clear% hW; fun $ys* => ?_)))
      alts := alts.push (← if m == 0 then `(tactic| refine $g $e $b) else `(tactic| refine $f $e $b))
  `(tactic| first | (refine Classical.byContradiction fun hN => ?_; (first $[| $alts:tactic]*); ($[$fs:tactic];*); all_goals (refine hN ?_; clear hN)) | $plain:tactic)
 | `(tactic| rintro $[$rs:rintroPat]*) => do
  let mut ts : Array (TSyntax `tactic) := #[]
  for r in rs do
    let v := r.raw[0]
    if v.getKind == ``rcasesPat.one && v[0].getId != `rfl then ts := ts.push (← `(tactic| intro $(⟨v[0]⟩):ident))
    else if v.getKind == ``rcasesPat.tuple then
      let p : TSyntax ``rcasesPatMed := ⟨mkNode ``rcasesPatMed #[mkNullNode #[v]]⟩
      ts := ts.push (← `(tactic| (intro hY; obtain $p := hY)))
    else Macro.throwUnsupported
  `(tactic| ($[$ts:tactic];*))
 | `(tactic| refine $t:term) => do
  let xs : Array Term := t.raw[1].getSepArgs.map (⟨·⟩)
  let n := xs.size
  if t.raw.getKind != `Lean.Parser.Term.anonymousCtor || n < 3 then Macro.throwUnsupported
  let mut alts : Array (TSyntax `tactic) := #[]
  for d in [1:n] do
    let m := n - d
    if 2 ≤ m && m ≤ 9 then
      let r := xs.extract m n
      let r : Term ← if r.size == 1 then pure r[0]! else `(⟨$r,*⟩)
      let f := mkIdent (.mkStr `Ob s!"i{m}")
      alts := alts.push (← `(tactic| refine $f $(xs.extract 0 m)* $r))
  `(tactic| first $[| $alts:tactic]* | refine ($t))
local macro_rules | `(tactic| omega) => `(tactic| first | with_reducible assumption | decide +kernel | lia | omega +splitDisjunctions)
open Array renaming getElem?_eq_getElem->G6,getElem?_eq_none->Hy,length_toList->y4
open Bool renaming and_eq_false_iff->HV,and_eq_true->k9,eq_iff_iff->o8,false_eq_true->gt,false_ne_true->i_
open Classical renaming byContradiction->nH
open False renaming elim->zc
open ForInStep renaming yield->Ht
open Int renaming eq_ofNat_of_zero_le->o6,toNat_natCast->HF
open List renaming all_eq_true->w4,any_cons->HX,any_eq_true->sn,concat_eq_append->G_,eq_nil_or_concat->HY,filter_cons->u6,filter_map->HZ,find?_cons->Hm,forIn_cons->Hn,getElem?_append_left->r_,getElem?_append_right->u_,getElem?_eq_getElem->k4,getElem?_eq_none_iff->D_,getElem?_eq_some_iff->g_,getElem?_map->e9,getElem?_reverse->HQ,getElem?_set_ne->Ia,getElem?_toArray->HP,getElem_mem->He,getElem_of_mem->t_,length_append->u9,length_cons->w_,length_drop->Hu,length_filter_le->Ha,length_map->c_,length_pos_iff->B_,length_pos_of_mem->G2,length_take->G7,lookup->Ij,lookup_cons->u7,lookup_nil->H0,map_append->v_,map_congr_left->m4,map_cons->i8,map_map->lb,mem_append->i9,mem_append_left->ki,mem_append_right->n9,mem_cons->i4,mem_cons_of_mem->j6,mem_cons_self->k6,mem_filter->x4,mem_map->hB,mem_of_getElem?->fy,mem_of_mem_take->GU,mem_range->HW,mem_singleton->e7,nil->Hv,nodup_append->t7,nodup_cons->md,not_mem_nil->m8,pairwise_map->E_,size_toArray->j9,take_add_one->j_,take_length->l_,take_of_length_le->pb,take_sublist->HH
open List.Pairwise renaming imp_of_mem->GJ
open Nat renaming le_add_right->GR,le_of_eq->GX,le_of_lt->GY,le_of_succ_le->Ih,le_refl->i6,le_trans->gr,lt_irrefl->o7,lt_of_le_of_lt->o9,lt_of_lt_of_le->g7,lt_succ_of_lt->GK,lt_succ_self->GS,ne_of_gt->o_,ne_of_lt->k7,zero_le->x6
open Ne renaming symm->tj
open Option renaming isSome_iff_exists->G3,map_some->H_
open Option.some renaming inj->fx
open PyProof.Rows renaming callWith_type1->n6,seqObj->y6,slot_tuple_getitem->u8,step_dedup->If
open PySem renaming NameKind->y3,OsState->HK,PyData->Is,Spec->F_,Str->Hl,Value->GO,ZipApart->Ig,assignEach->Ib,attributeBase->Ii,backTo->y9,behindInMarks->GZ,binaryOp->Ic,bootBuiltins->y2,builtinLookup_eq_fast->uj,cellsFrom->m_,codeAny->HM,compareOp->p_,importedModules->Im,intItems->HD,mainGlobals->la,mem_of_lookup->Hg,pyNext->Hr,rawInt->x5,sizeLine->g9,sizeLine_eq->GQ,sliceBounds->Ik,starEach->j8,swapsWith->Ir,sysModules->Gt,treeTable->Ip,tupleKind->G9,tupleKind_room_in1->GT,typeLookup->Ie,typeLookup_type->y8,wpAny_Call_Name_kw->x0,wpAny_attempt->GM,wpAny_bind->a_,wpAny_callSpecial?_slot->m3,wpAny_call_entry->m7,wpAny_field->k_,wpAny_getItem_str_slice->Hi,wpAny_holding->t4,wpAny_isInstance->Hd,wpAny_mono->x8,wpAny_newObj_type->w5,wpAny_of_eq->HA,wpAny_passesOwn->GV,wpAny_pure->ei,wpAny_pyIter_list->HG,wpAny_pyIter_tuple->x3,wpAny_seqItems->w9,wpAny_setField_rec->s_,wpAny_specialOf->x_,wpAny_truthy_bool->y7,wpAny_updateSeq->Io
open PySem.Builtin.List renaming listExtendWith->u5,listItems->Hx,listSameRef->Hc
open PySem.Builtin.Slice renaming slicePlaces->G5
open PySem.Builtin.SmallTypes renaming nextOf->j7,ownedTupleIsFree->mu
open PySem.Builtin.Str renaming occurrences->Hj
open PySem.Builtin.Tuple renaming tupleExact->Hb
open PySem.Calls renaming callWith_builtin->Hz,spliced_cons->Hs,spliced_nil->HE
open PySem.F renaming args_zip_next_1->G4,entry_zip_next->Hf,plain_extend_loop->Hh,slot_NoneType_hash->G1,slot_dict_get->HN,slot_list_append->m5,slot_tuple_iterator_next->G0,slot_zip_next->t5,type_list_append->m6
open PySem.Heap renaming ExtBut->Il,IsTuple->Iv,SameBut->HL,get?_push_of_some->d_,get?_push_size->f_,get?_update_other->y_,get?_update_self->C_,lt_size->e8,size_push->m9,size_update->GN
open PySem.NameKind renaming cell->w6,free->q_
open PySem.Obj renaming mapSeq->n_
open PySem.PyData renaming canLay0->HS,canLayAll0->pc,depth->Iu,depthAll->GW,eqv->A_,eqvAll->Hk,int->z_,strOk->HU
open PySem.Str renaming ofString->b_
open PySem.Txt renaming slice->GL,slice_le->HR
open PySem.Value renaming bool->Hq,none->p9,ref->h_,type->GP
open PySem.W renaming Frag->e_,boot_heap->Iq,emptyDict->Ho,keepIn->HI,kia_one->HJ,mg_none_of->t9
open Sum renaming inl->i7,inr->ge
open Sum.inl renaming inj->G8
open Sum.inr renaming inj->Hw
open True renaming intro->nl
variable {A:PySem.Around} {C I O S T a b ca d dx f fa ha it l p r wa z:PySem.Addr} {CS N cs cs' loose ps ws:List Hl} {E Q Qf xe:GO->PySem.Shared->Prop} {K:e_} {M:PySem.Model} {P prog:PySem.Program} {R:PySem.Result->PySem.Shared->Prop} {U av ms ns pool tl:List Int} {XP:(Hl->Option GO)->PySem.Heap->Prop} {YP:PySem.World->PySem.Heap->Prop} {apos cpos p2 pos pos':PySem.Pos} {as:List (PySem.Addr × Int × Int × Int)} {base h h':PySem.Heap} {body rest:List PySem.Stmt} {c name qual x:Hl} {cd cdv ct doc f0 f1 oc pm u vl vu:GO} {ch fp rr:List PySem.Addr} {cl closure:List (Hl × PySem.Addr)} {cmp:Nat->Nat->(Bool->PySem.Shared->Prop)->PySem.Shared->Prop} {d':PySem.Drawn} {ds its us:List GO} {e e1 elt iter oe tg value:PySem.Expr} {env:PySem.Env} {es ifs values:List PySem.Expr} {fd:PySem.FuncData} {func od:Option PySem.Addr} {g:Hl->Int} {g':Array PySem.GenState} {gap lo m v v':Int} {hi:Option Int} {i j k n n0 nt t' tk:Nat} {items ys:Array GO} {js:List Nat} {ks:List (Option Int)} {kw:List (Hl × GO)} {mA mb mg:Hl->Option GO} {o0:PySem.Obj} {osl sl:Array (Option GO)} {outer:List PySem.Env} {params:PySem.Arguments} {pins pins':List (PySem.Addr × PySem.Obj)} {pl:PySem.Sem Bool} {q:Bool} {rm:Hl->List Int} {rows:List (List Int)} {s s' s₁:PySem.Shared} {sc scope:PySem.Scope} {st:PySem.Stmt} {ts:List (Int × Hl)} {use:Option (GO->PySem.Sem Unit)} {w:PySem.World} {α β κ:Type}
open List (all_append any_map append_assoc append_nil cons_append drop_zero foldl_append forIn_nil idxOf?_cons length_nil map_drop map_id map_nil map_take mem_flatMap of_mem_zip range zipWith)
open PySem.W (boot_o_0 boot_o_1 boot_o_10 boot_o_2 boot_o_4 boot_o_5 boot_o_6 boot_o_7 boot_o_8 boot_o_9 callWith_K codeIn findIn fnOf handedIn hasDictIn instObj isFn kat_cons kat_go kat_no kat_one kat_yes kitOne kitx_dict kitx_list lookIn makesIn methodCall_KW methodObj mg_of nsIn plainGet plainGet_of plainOver specialIn takerIn)
open Nat (le_succ lt_trans min_eq_left not_lt sub_self sub_zero)
open Option (getD_none isNone_some isSome_map isSome_some)
open Array (forIn_toList)
local macro_rules | `(()) => `(by omega)
local macro_rules | `(∅) => `(by decide)
local macro_rules | `(-$x:ident) => `(some (.ref $x))
local macro_rules | `($a >> $b) => `($a = some ($(Lean.mkIdent `L2.HO.tup) $b))
local macro_rules | `($a *> $b) => `($a = some ($(Lean.mkIdent `L2.HO.lst) $b))
local macro_rules | `($a <* $b) => `($a = some ($(Lean.mkIdent `L2.HO.dK) $b))
namespace Lw
open PySem PySem.W PySem.Calls PyProof.Rows
def top (i:Nat):Stmt:=PySem.Challenge.pw_seekhall_k23_what_follows.main.body.getD i (.Pass ⟨0,0,0,0⟩)
noncomputable def iO:Program:={ PySem.Challenge.pw_seekhall_k23_what_follows with main:={ PySem.Challenge.pw_seekhall_k23_what_follows.main with body:=[0,2,4,6,8,10,12,13,14,16,18,19,21,22,24,25,27,28,29,31,32,33,34,35,36,37,38,39,40,41,42,43,44,45,46,47,48].map top } }
section
local macro_rules | `(tactic| o_head $H) => `(tactic| (have z := $H; assumption))
set_option maxHeartbeats 0 in
theorem CT (h:PySem.Challenge.rw_seekhall_k23_what_follows.row.Holds):PySem.Challenge.rw_seekhall_k23_what_follows.row.Holds:=by
 k_head
end
def hAs:List Addr:=[2,3,15,17,18,20,21,22,24,25,27,28,36,38,39,41,42,43,45,46,48,49,50,52,53,55,56,57,59,60,62,63,64,65,66,67,68,71,78,80,81,83,84,85,87,88,90,91,92,95,96,97,100,101,102,103,104,107,114,116,117,119,120,121,123,124,126,127,128,131,132,133,136,137,138,140,141,143,144,145,147,148,150,151,152,153,154,157,164,166,167,169,170,171,173,174,176,177,178,180,181,183,184,185,187,188,190,191,192,195,196,197,200,201,202,203,204,207,210,211,212,214,215,217,218,219,226,228,229,231,232,233,235,236,238,239,240,242,243,245,246,247,249,250,252,253,254,256,257,259,260,261,263,264,266,267,268,270,271,273,274,275,276,277,280,287,289,290,292,293,294,296,297,299,300,301,304,305,306,309,310,311,313,314,316,317,318,320,321,323,324,325,326,327,330,332,333,335,336,337,344,346,347,349,350,351,353,354,356,357,358,360,361,363,364,365,367,368,370,371,372,373,374,377,379,380,382,383,384,391,393,394,396,397,398,400,401,403,404,405,408,409,410,413,414,415,417,418,420,421,422,424,425,427,428,429,430,431,434,436,437,439,440,441,443,444,446,447,448,451,452,453,455,456,458,459,460,462,463,465,466,467,470,471,472,474,475,477,478,479,482,483,484,486,487,489,490,491,494,495,496,498,499,501,502,503,505,506,508,509,510,513,514,515,518,519,520,523,524,525,528,529,530,533,534,535,537,538,540,541,542,544,545,547,548,549,551,552,554,555,556,559,560,561,563,564,566,567,568,571,572]
theorem hAe : ∀P,hAs=(CT.heap_1 P).map (·.1):=λ_=>by kernel_rfl
noncomputable abbrev hK:Hook:=kHook CT.heap_1 hAs hAe
noncomputable def hX (s:Shared):Bool:=xlAt iO Hv s && recOk (RowW.records PySem.Challenge.rw_seekhall_k23_what_follows.row.toRowW) s
theorem ER {A B C D G:Type} {x y:A × B × C × D} {u v:G} (h1:x.1=y.1) (h2:(x.2.1,x.2.2.1)=(y.2.1,y.2.2.1)) (L:x.2.2.2=y.2.2.2) (F:u=v):(x,u)=(y,v):=by
 obtain⟨a,b,c,d⟩:=x;obtain⟨Y,b',Z,d'⟩:=y;cases h1;cases h2;cases L;cases F;rfl
def aY (i j:Nat):Stmt:=match top i with | .ClassDef _ _ _ b _ _ _ _ _ _ _=>b.getD j (.Pass ⟨0,0,0,0⟩) | s=>s
def aJ (a:String) (n:Nat):Value:=.str (b_ a) n
def CP (ty:Value) (x:String) (s:Stmt) (g:Addr) (B c:Value):Obj:=match s with
 | .FunctionDef n a b _ _ _ sc _ _ _=>⟨ty,none,.func ⟨n,b_ x,a,.stmts b,sc,g,[],.none,.none,.none,B,none,c,.none,0⟩,#[]⟩
 | _=>default
def cF (x:String) (s:Stmt):Obj:=CP .none x s 0 .none .none
def cG (x:String) (s:Stmt) (B:Value) (c:Addr):Obj:=CP (.type "function") x s 3 B (.ref c)
def sS (l:List Value):Obj:=⟨.type "tuple",none,.seq l.toArray 0,#[]⟩
def da (t:Value) (l:List Value) (a:Array (Option Value)):Obj:=⟨t,none,.fields l.toArray,a⟩
def dZ (i:Nat):Obj:=match top i with
 | .FunctionDef n a b _ _ _ sc _ _ _=>⟨.none,none,.func ⟨n,n,a,.stmts b,sc,0,[],.none,.none,.none,.none,none,.none,.none,0⟩,#[]⟩
 | _=>default
def eG (i:Nat) (B:Value) (c:Addr):Obj:=match top i with
 | .FunctionDef n a b _ _ _ sc _ _ _=>⟨.type "function",none,.func ⟨n,n,a,.stmts b,sc,3,[],.none,.none,.none,B,none,.ref c,.none,0⟩,#[]⟩
 | _=>default
def bE (P:Params) (k:String) (n:Nat) (v:Value):DictEntry:=⟨PyData.keyHash P (b_ k),aJ k n,v⟩
def aF (P:Params) (k:String) (n:Nat) (a:Addr):DictEntry:=bE P k n (.ref a)
def bi:Obj:=da .none [] #[]
def aK:Obj:=sS []
def qB (n:Nat):Value:=.int n 0
def EF (l:List (Nat × Nat)):Obj:=da .none (l.flatMap λx=>[qB x.1,qB 0,.ref x.2]) #[]
def C6 (x q:String) (t l n f a:Nat) (b:Bool) (r:List Value) (u:Nat):Obj:=da (.type "code") ([aJ x t,aJ q (t+1),aJ "/claim/cut.py" (t+2),qB l,qB n,qB 0,qB 0,qB f,.ref a,.bool b,qB 181,.ref (a+1),.none]++r++[qB u,qB l,aJ "/claim/cut.py" (u+1)]) #[]
def dw (x q:String) (t l n a u:Nat):Obj:=C6 x q t l n 3 a true [.ref (a+2),.ref (a+3),.ref (a+4)] u
def gy (x q:String) (t l n a:Nat):Obj:=C6 x q t l n 3 a true [.none,.none,.ref (a+2)] (t+3)
def qH (x:String) (t l a:Nat):Obj:=C6 x x t l 0 0 a false [.none,.none,.none] (t+3)
def iY (x:String) (t l n a u:Nat):Obj:=dw x x t l n a u
def FS:Nat->List String->List Value
 | _,[]=>[]
 | n,x :: r=>aJ x n :: FS (n+1) r
def bL (n:Nat) (l:List String):Obj:=sS (FS n l)
def CH:Bool->List Obj->List Obj
 | _,[]=>[]
 | true,x :: r=>x :: CH false r
 | false,_ :: r=>CH true r
def Bf:Nat->List Obj->BT
 | 0,_=>.nil
 | _+1,[]=>.nil
 | n+1,x :: r=>.node x (Bf n (CH true r)) (Bf n (CH false r))
def iQ (t:Value) (l:List DictEntry) (n:Nat) (a:Array (Option Value)):Obj:=⟨t,none,.dict l.toArray n,a⟩
noncomputable def CD (P:Params):BT:=Bf 5 [(boot_o_0 P),(boot_o_1 P),(boot_o_2 P),(PySem.W.boot_o_3 P),(boot_o_4 P),(boot_o_5 P),(boot_o_6 P),(boot_o_7 P),(boot_o_8 P),(boot_o_9 P),(boot_o_10 P),aK,bi,(qH "<module>" 182 1 11),⟨(.type "frame"),none,.plain,#[some (.ref 13),some (.ref 3),some (.ref 3),none,some (aJ "__main__" 164),none,some (.ref 0)]⟩]
noncomputable def FL (P:Params):List Obj:=[(boot_o_0 P),(boot_o_1 P),(boot_o_2 P)]
noncomputable def EB (P:Params):List Obj:=[(boot_o_4 P),(boot_o_5 P),(boot_o_6 P),(boot_o_7 P),(boot_o_8 P),(boot_o_9 P),(boot_o_10 P),aK]
noncomputable def EG (P:Params):List Obj:=[(qH "<module>" 182 1 11),⟨(.type "frame"),none,.plain,#[some (.ref 13),some (.ref 3),some (.ref 3),none,some (aJ "__main__" 164),none,some (.ref 0)]⟩,aK,bi,(bL 190 ["k"]),aK,(dZ 0),(iY "_wall" 187 1 1 15 191),(eG 0 (aJ "__main__" 164) 20),aK,bi,(bL 199 ["number","low","high"]),aK,(dZ 2),(iY "is_between" 196 5 3 22 202),(eG 2 (aJ "seekhall.keeping" 194) 27),aK,(da (.type "builtin_function_or_method") [(.builtin "type.__prepare__"),(.type "type")] #[]),(iQ (.type "dict") [bE P "__module__" 214 (aJ "seekhall.wishes" 205),bE P "__qualname__" 216 (aJ "Wish" 215),bE P "__firstlineno__" 218 (.int 8 217),aF P "__init__" 226 42,aF P "kept" 234 49,aF P "may_keep" 242 56,aF P "may_break" 250 63,aF P "__static_attributes__" 252 64] 8 #[]),aK,(da .none [(.int 10 0),(.int 4 0),(.ref 41),(.int 13 0),(.int 4 0),(.ref 48),(.int 16 0),(.int 4 0),(.ref 55),(.int 19 0),(.int 4 0),(.ref 62)] #[]),(qH "Wish" 209 8 32),⟨(.type "frame"),none,.plain,#[some (.ref 34),some (.ref 3),some (.ref 31),none,some (aJ "seekhall.wishes" 205),none,some (.ref 0)]⟩,aK,bi,(bL 222 ["self","wish"]),aK,(cF "Wish.__init__" (aY 4 0)),(dw "__init__" "Wish.__init__" 219 10 2 36 224),(cG "Wish.__init__" (aY 4 0) (aJ "seekhall.wishes" 205) 41),aK,bi,(bL 230 ["self","filling"]),aK,(cF "Wish.kept" (aY 4 1)),(dw "kept" "Wish.kept" 227 13 2 43 232),(cG "Wish.kept" (aY 4 1) (aJ "seekhall.wishes" 205) 48),aK,bi,(bL 238 ["self","rooms"]),aK,(cF "Wish.may_keep" (aY 4 2)),(dw "may_keep" "Wish.may_keep" 235 16 2 50 240),(cG "Wish.may_keep" (aY 4 2) (aJ "seekhall.wishes" 205) 55),aK,bi,(bL 246 ["self","rooms"]),aK,(cF "Wish.may_break" (aY 4 3)),(dw "may_break" "Wish.may_break" 243 19 2 57 248),(cG "Wish.may_break" (aY 4 3) (aJ "seekhall.wishes" 205) 62),(bL 251 ["wish"]),(iQ (.type "dict") [bE P "__module__" 214 (aJ "seekhall.wishes" 205),bE P "__firstlineno__" 218 (.int 8 217),aF P "__init__" 226 42,aF P "kept" 234 49,aF P "may_keep" 242 56,aF P "may_break" 250 63,aF P "__static_attributes__" 252 64,aF P "__dict__" 254 67,aF P "__weakref__" 256 68,bE P "__doc__" 257 .none] 4 #[])]
noncomputable def EC (P:Params):List Obj:=[(da (.type "getset_descriptor") [(aJ "__dict__" 253),(.ref 66),(.builtin "function.__dict__"),(.builtin "function.__dict__#set")] #[]),(da (.type "getset_descriptor") [(aJ "__weakref__" 255),(.ref 66),(.builtin "ExceptionGroup.__weakref__"),.none] #[]),(da (.type "super") [(.ref 66),(.ref 66),(.ref 66)] #[]),(da (.type "builtin_function_or_method") [(.builtin "object.__init_subclass__"),(.ref 66)] #[]),(sS [(.ref 66)]),(da (.type "builtin_function_or_method") [(.builtin "type.__prepare__"),(.type "type")] #[]),(iQ (.type "dict") [bE P "__module__" 269 (aJ "seekhall.behinds" 260),bE P "__qualname__" 271 (aJ "Behind" 270),bE P "__firstlineno__" 273 (.int 22 272),aF P "__init__" 281 84,aF P "kept" 289 91,aF P "may_keep" 295 96,aF P "may_break" 301 101,aF P "__static_attributes__" 304 102] 8 #[]),aK,(da .none [(.int 24 0),(.int 4 0),(.ref 83),(.int 29 0),(.int 4 0),(.ref 90),(.int 32 0),(.int 4 0),(.ref 95),(.int 41 0),(.int 4 0),(.ref 100)] #[]),(qH "Behind" 264 22 74),⟨(.type "frame"),none,.plain,#[some (.ref 76),some (.ref 3),some (.ref 73),none,some (aJ "seekhall.behinds" 260),none,some (.ref 0)]⟩,aK,bi,(bL 277 ["self","wish"]),aK,(cF "Behind.__init__" (aY 6 0)),(dw "__init__" "Behind.__init__" 274 24 2 78 279),(cG "Behind.__init__" (aY 6 0) (aJ "seekhall.behinds" 260) 83),aK,bi,(bL 285 ["self","filling"]),aK,(cF "Behind.kept" (aY 6 1)),(dw "kept" "Behind.kept" 282 29 2 85 287),(cG "Behind.kept" (aY 6 1) (aJ "seekhall.behinds" 260) 90),aK,bi,(cF "Behind.may_keep" (aY 6 2)),(gy "may_keep" "Behind.may_keep" 290 32 2 92),(cG "Behind.may_keep" (aY 6 2) (aJ "seekhall.behinds" 260) 95),aK,bi,(cF "Behind.may_break" (aY 6 3)),(gy "may_break" "Behind.may_break" 296 41 2 97),(cG "Behind.may_break" (aY 6 3) (aJ "seekhall.behinds" 260) 100),(bL 302 ["cells","gap"]),(iQ (.type "dict") [bE P "__module__" 269 (aJ "seekhall.behinds" 260),bE P "__firstlineno__" 273 (.int 22 272),aF P "__init__" 281 84,aF P "kept" 289 91,aF P "may_keep" 295 96,aF P "may_break" 301 101,aF P "__static_attributes__" 304 102,bE P "__doc__" 305 .none] 2 #[]),⟨(.type "type"),none,.cls ⟨b_ "Behind",[(.ref 66)],[(.ref 104),(.ref 66),(.type "object")],103,b_ "Behind",.true,[],[],.false,none,.false⟩,#[some (.ref 71),none,some (aJ "Behind" 262),some (aJ "Behind" 270),some (.builtin "object.__new__"),some (.bool .true)]⟩,(da (.type "super") [(.ref 104),(.ref 104),(.ref 104)] #[]),(da (.type "builtin_function_or_method") [(.builtin "object.__init_subclass__"),(.ref 104)] #[]),(sS [(.ref 66)]),(da (.type "builtin_function_or_method") [(.builtin "type.__prepare__"),(.type "type")] #[]),(iQ (.type "dict") [bE P "__module__" 317 (aJ "seekhall.manies" 308),bE P "__qualname__" 319 (aJ "Many" 318),bE P "__firstlineno__" 321 (.int 45 320),aF P "__init__" 329 120,aF P "kept" 337 127,aF P "fewest" 343 132,aF P "most" 349 137,aF P "may_keep" 357 144,aF P "may_break" 365 151,aF P "__static_attributes__" 370 152] 10 #[]),aK,(da .none [(.int 47 0),(.int 4 0),(.ref 119),(.int 54 0),(.int 4 0),(.ref 126),(.int 57 0),(.int 4 0),(.ref 131),(.int 60 0),(.int 4 0),(.ref 136),(.int 63 0),(.int 4 0),(.ref 143),(.int 66 0),(.int 4 0),(.ref 150)] #[]),(qH "Many" 312 45 110),⟨(.type "frame"),none,.plain,#[some (.ref 112),some (.ref 3),some (.ref 109),none,some (aJ "seekhall.manies" 308),none,some (.ref 0)]⟩,aK,bi,(bL 325 ["self","wish"]),aK,(cF "Many.__init__" (aY 8 0)),(dw "__init__" "Many.__init__" 322 47 2 114 327),(cG "Many.__init__" (aY 8 0) (aJ "seekhall.manies" 308) 119),aK,bi,(bL 333 ["self","filling"]),aK,(cF "Many.kept" (aY 8 1)),(dw "kept" "Many.kept" 330 54 2 121 335),(cG "Many.kept" (aY 8 1) (aJ "seekhall.manies" 308) 126),aK,bi,(cF "Many.fewest" (aY 8 2)),(gy "fewest" "Many.fewest" 338 57 2 128),(cG "Many.fewest" (aY 8 2) (aJ "seekhall.manies" 308) 131),aK,bi,(cF "Many.most" (aY 8 3)),(gy "most" "Many.most" 344 60 2 133),(cG "Many.most" (aY 8 3) (aJ "seekhall.manies" 308) 136),aK,bi,(bL 353 ["self","rooms"]),aK,(cF "Many.may_keep" (aY 8 4)),(dw "may_keep" "Many.may_keep" 350 63 2 138 355),(cG "Many.may_keep" (aY 8 4) (aJ "seekhall.manies" 308) 143),aK,bi,(bL 361 ["self","rooms"]),aK,(cF "Many.may_break" (aY 8 5)),(dw "may_break" "Many.may_break" 358 66 2 145 363),(cG "Many.may_break" (aY 8 5) (aJ "seekhall.manies" 308) 150),(bL 366 ["among","cells","high","low"]),(iQ (.type "dict") [bE P "__module__" 317 (aJ "seekhall.manies" 308),bE P "__firstlineno__" 321 (.int 45 320),aF P "__init__" 329 120,aF P "kept" 337 127,aF P "fewest" 343 132,aF P "most" 349 137,aF P "may_keep" 357 144,aF P "may_break" 365 151,aF P "__static_attributes__" 370 152,bE P "__doc__" 371 .none] 2 #[]),⟨(.type "type"),none,.cls ⟨b_ "Many",[(.ref 66)],[(.ref 154),(.ref 66),(.type "object")],153,b_ "Many",.true,[],[],.false,none,.false⟩,#[some (.ref 107),none,some (aJ "Many" 310),some (aJ "Many" 318),some (.builtin "object.__new__"),some (.bool .true)]⟩,(da (.type "super") [(.ref 154),(.ref 154),(.ref 154)] #[]),(da (.type "builtin_function_or_method") [(.builtin "object.__init_subclass__"),(.ref 154)] #[]),(sS [(.ref 66)]),(da (.type "builtin_function_or_method") [(.builtin "type.__prepare__"),(.type "type")] #[]),(iQ (.type "dict") [bE P "__module__" 383 (aJ "seekhall.steps" 374),bE P "__qualname__" 385 (aJ "Way" 384),bE P "__firstlineno__" 387 (.int 69 386),aF P "__init__" 396 170,aF P "kept" 404 177,aF P "states_behind" 416 184,aF P "last_states" 426 191,aF P "may_keep" 432 196,aF P "may_break" 438 201,aF P "__static_attributes__" 442 202] 10 #[]),aK,(da .none [(.int 71 0),(.int 4 0),(.ref 169),(.int 79 0),(.int 4 0),(.ref 176),(.int 82 0),(.int 4 0),(.ref 183),(.int 89 0),(.int 4 0),(.ref 190),(.int 95 0),(.int 4 0),(.ref 195),(.int 98 0),(.int 4 0),(.ref 200)] #[]),(qH "Way" 378 69 160),⟨(.type "frame"),none,.plain,#[some (.ref 162),some (.ref 3),some (.ref 159),none,some (aJ "seekhall.steps" 374),none,some (.ref 0)]⟩,aK,bi,(bL 391 ["self","wish","step"]),aK,(cF "Way.__init__" (aY 10 0)),(dw "__init__" "Way.__init__" 388 71 2 164 394),(cG "Way.__init__" (aY 10 0) (aJ "seekhall.steps" 374) 169),aK,bi,(bL 400 ["self","filling"]),aK,(cF "Way.kept" (aY 10 1)),(dw "kept" "Way.kept" 397 79 2 171 402),(cG "Way.kept" (aY 10 1) (aJ "seekhall.steps" 374) 176),aK,bi,(bL 408 ["self","states","room","behind","state","value"]),aK,(cF "Way.states_behind" (aY 10 2)),(dw "states_behind" "Way.states_behind" 405 82 3 178 414),(cG "Way.states_behind" (aY 10 2) (aJ "seekhall.steps" 374) 183),aK,bi,(bL 420 ["self","rooms","states","cell"]),aK,(cF "Way.last_states" (aY 10 3)),(dw "last_states" "Way.last_states" 417 89 2 185 424),(cG "Way.last_states" (aY 10 3) (aJ "seekhall.steps" 374) 190),aK,bi,(cF "Way.may_keep" (aY 10 4)),(gy "may_keep" "Way.may_keep" 427 95 2 192),(cG "Way.may_keep" (aY 10 4) (aJ "seekhall.steps" 374) 195),aK,bi,(cF "Way.may_break" (aY 10 5)),(gy "may_break" "Way.may_break" 433 98 2 197),(cG "Way.may_break" (aY 10 5) (aJ "seekhall.steps" 374) 200),(bL 439 ["cells","ends","leads"]),(iQ (.type "dict") [bE P "__module__" 383 (aJ "seekhall.steps" 374),bE P "__firstlineno__" 387 (.int 69 386),aF P "__init__" 396 170,aF P "kept" 404 177,aF P "states_behind" 416 184,aF P "last_states" 426 191,aF P "may_keep" 432 196,aF P "may_break" 438 201,aF P "__static_attributes__" 442 202,bE P "__doc__" 443 .none] 2 #[]),⟨(.type "type"),none,.cls ⟨b_ "Way",[(.ref 66)],[(.ref 204),(.ref 66),(.type "object")],203,b_ "Way",.true,[],[],.false,none,.false⟩,#[some (.ref 157),none,some (aJ "Way" 376),some (aJ "Way" 384),some (.builtin "object.__new__"),some (.bool .true)]⟩,(da (.type "super") [(.ref 204),(.ref 204),(.ref 204)] #[]),(da (.type "builtin_function_or_method") [(.builtin "object.__init_subclass__"),(.ref 204)] #[]),aK,bi,(dZ 12),(gy "parts_of" "parts_of" 448 101 2 207),(eG 12 (aJ "seekhall.sums" 446) 210),aK,bi,(bL 457 ["terms","rooms","spans","term","parts"]),aK,(dZ 13),(iY "spans_of" 454 103 2 212 462),(eG 13 (aJ "seekhall.sums" 446) 217),(sS [(.ref 66)]),(da (.type "builtin_function_or_method") [(.builtin "type.__prepare__"),(.type "type")] #[]),(iQ (.type "dict") [bE P "__module__" 472 (aJ "seekhall.sums" 446),bE P "__qualname__" 474 (aJ "Sum" 473),bE P "__firstlineno__" 476 (.int 109 475),aF P "__init__" 484 232,aF P "kept" 492 239,aF P "may_end_well" 503 246,aF P "sums_with" 516 253,aF P "sums_kept" 528 260,aF P "may_keep" 536 267,aF P "may_break" 545 274,aF P "__static_attributes__" 549 275] 11 #[]),aK,(da .none [(.int 111 0),(.int 4 0),(.ref 231),(.int 117 0),(.int 4 0),(.ref 238),(.int 120 0),(.int 4 0),(.ref 245),(.int 125 0),(.int 4 0),(.ref 252),(.int 133 0),(.int 4 0),(.ref 259),(.int 140 0),(.int 4 0),(.ref 266),(.int 143 0),(.int 4 0),(.ref 273)] #[]),(qH "Sum" 467 109 222),⟨(.type "frame"),none,.plain,#[some (.ref 224),some (.ref 3),some (.ref 221),none,some (aJ "seekhall.sums" 446),none,some (.ref 0)]⟩,aK,bi,(bL 480 ["self","wish"]),aK,(cF "Sum.__init__" (aY 14 0)),(dw "__init__" "Sum.__init__" 477 111 2 226 482),(cG "Sum.__init__" (aY 14 0) (aJ "seekhall.sums" 446) 231),aK,bi,(bL 488 ["self","filling"]),aK,(cF "Sum.kept" (aY 14 1)),(dw "kept" "Sum.kept" 485 117 2 233 490),(cG "Sum.kept" (aY 14 1) (aJ "seekhall.sums" 446) 238),aK,bi,(bL 496 ["self","reached","behind","may_rise_to_low","may_fall_to_high"]),aK,(cF "Sum.may_end_well" (aY 14 2)),(dw "may_end_well" "Sum.may_end_well" 493 120 3 240 501),(cG "Sum.may_end_well" (aY 14 2) (aJ "seekhall.sums" 446) 245),aK,bi,(bL 507 ["self","reached","parts","behind","further","part","earlier"]),aK,(cF "Sum.sums_with" (aY 14 3)),(dw "sums_with" "Sum.sums_with" 504 125 4 247 514),(cG "Sum.sums_with" (aY 14 3) (aJ "seekhall.sums" 446) 252),aK,bi,(bL 520 ["self","rooms","spans","reached","number","term"]),aK,(cF "Sum.sums_kept" (aY 14 4)),(dw "sums_kept" "Sum.sums_kept" 517 133 2 254 526),(cG "Sum.sums_kept" (aY 14 4) (aJ "seekhall.sums" 446) 259),aK,bi,(bL 532 ["self","rooms"]),aK,(cF "Sum.may_keep" (aY 14 5)),(dw "may_keep" "Sum.may_keep" 529 140 2 261 534),(cG "Sum.may_keep" (aY 14 5) (aJ "seekhall.sums" 446) 266),aK,bi,(bL 540 ["self","rooms","span"]),aK,(cF "Sum.may_break" (aY 14 6)),(dw "may_break" "Sum.may_break" 537 143 2 268 543),(cG "Sum.may_break" (aY 14 6) (aJ "seekhall.sums" 446) 273),(bL 546 ["high","low","terms"]),(iQ (.type "dict") [bE P "__module__" 472 (aJ "seekhall.sums" 446),bE P "__firstlineno__" 476 (.int 109 475),aF P "__init__" 484 232,aF P "kept" 492 239,aF P "may_end_well" 503 246,aF P "sums_with" 516 253,aF P "sums_kept" 528 260,aF P "may_keep" 536 267,aF P "may_break" 545 274,aF P "__static_attributes__" 549 275,bE P "__doc__" 550 .none] 2 #[]),⟨(.type "type"),none,.cls ⟨b_ "Sum",[(.ref 66)],[(.ref 277),(.ref 66),(.type "object")],276,b_ "Sum",.true,[],[],.false,none,.false⟩,#[some (.ref 219),none,some (aJ "Sum" 465),some (aJ "Sum" 473),some (.builtin "object.__new__"),some (.bool .true)]⟩,(da (.type "super") [(.ref 277),(.ref 277),(.ref 277)] #[]),(da (.type "builtin_function_or_method") [(.builtin "object.__init_subclass__"),(.ref 277)] #[])]
noncomputable def Gn (P:Params):List Obj:=[(sS [(.ref 66)]),(da (.type "builtin_function_or_method") [(.builtin "type.__prepare__"),(.type "type")] #[]),(iQ (.type "dict") [bE P "__module__" 562 (aJ "seekhall.tables" 553),bE P "__qualname__" 564 (aJ "Table" 563),bE P "__firstlineno__" 566 (.int 147 565),aF P "__init__" 574 293,aF P "kept" 582 300,aF P "has_room" 588 305,aF P "rows_in" 594 310,aF P "may_keep" 602 317,aF P "may_break" 612 324,aF P "__static_attributes__" 615 325] 10 #[]),aK,(da .none [(.int 149 0),(.int 4 0),(.ref 292),(.int 154 0),(.int 4 0),(.ref 299),(.int 157 0),(.int 4 0),(.ref 304),(.int 160 0),(.int 4 0),(.ref 309),(.int 163 0),(.int 4 0),(.ref 316),(.int 166 0),(.int 4 0),(.ref 323)] #[]),(qH "Table" 557 147 283),⟨(.type "frame"),none,.plain,#[some (.ref 285),some (.ref 3),some (.ref 282),none,some (aJ "seekhall.tables" 553),none,some (.ref 0)]⟩,aK,bi,(bL 570 ["self","wish"]),aK,(cF "Table.__init__" (aY 16 0)),(dw "__init__" "Table.__init__" 567 149 2 287 572),(cG "Table.__init__" (aY 16 0) (aJ "seekhall.tables" 553) 292),aK,bi,(bL 578 ["self","filling"]),aK,(cF "Table.kept" (aY 16 1)),(dw "kept" "Table.kept" 575 154 2 294 580),(cG "Table.kept" (aY 16 1) (aJ "seekhall.tables" 553) 299),aK,bi,(cF "Table.has_room" (aY 16 2)),(gy "has_room" "Table.has_room" 583 157 3 301),(cG "Table.has_room" (aY 16 2) (aJ "seekhall.tables" 553) 304),aK,bi,(cF "Table.rows_in" (aY 16 3)),(gy "rows_in" "Table.rows_in" 589 160 2 306),(cG "Table.rows_in" (aY 16 3) (aJ "seekhall.tables" 553) 309),aK,bi,(bL 598 ["self","rooms"]),aK,(cF "Table.may_keep" (aY 16 4)),(dw "may_keep" "Table.may_keep" 595 163 2 311 600),(cG "Table.may_keep" (aY 16 4) (aJ "seekhall.tables" 553) 316),aK,bi,(bL 606 ["self","rooms","fillings","cell"]),aK,(cF "Table.may_break" (aY 16 5)),(dw "may_break" "Table.may_break" 603 166 2 318 610),(cG "Table.may_break" (aY 16 5) (aJ "seekhall.tables" 553) 323),(bL 613 ["cells","rows"]),(iQ (.type "dict") [bE P "__module__" 562 (aJ "seekhall.tables" 553),bE P "__firstlineno__" 566 (.int 147 565),aF P "__init__" 574 293,aF P "kept" 582 300,aF P "has_room" 588 305,aF P "rows_in" 594 310,aF P "may_keep" 602 317,aF P "may_break" 612 324,aF P "__static_attributes__" 615 325,bE P "__doc__" 616 .none] 2 #[]),⟨(.type "type"),none,.cls ⟨b_ "Table",[(.ref 66)],[(.ref 327),(.ref 66),(.type "object")],326,b_ "Table",.true,[],[],.false,none,.false⟩,#[some (.ref 280),none,some (aJ "Table" 555),some (aJ "Table" 563),some (.builtin "object.__new__"),some (.bool .true)]⟩,(da (.type "super") [(.ref 327),(.ref 327),(.ref 327)] #[]),(da (.type "builtin_function_or_method") [(.builtin "object.__init_subclass__"),(.ref 327)] #[]),aK,bi,(bL 624 ["cell","rooms","holders","tried","value"]),aK,(dZ 18),(iY "finds_value" 621 172 4 330 629),(eG 18 (aJ "seekhall.unlikes" 619) 335),(sS [(.ref 66)]),(da (.type "builtin_function_or_method") [(.builtin "type.__prepare__"),(.type "type")] #[]),(iQ (.type "dict") [bE P "__module__" 639 (aJ "seekhall.unlikes" 619),bE P "__qualname__" 641 (aJ "Unlike" 640),bE P "__firstlineno__" 643 (.int 180 642),aF P "__init__" 651 350,aF P "kept" 659 357,aF P "may_keep" 669 364,aF P "may_break" 680 371,aF P "__static_attributes__" 682 372] 8 #[]),aK,(da .none [(.int 182 0),(.int 4 0),(.ref 349),(.int 186 0),(.int 4 0),(.ref 356),(.int 189 0),(.int 4 0),(.ref 363),(.int 196 0),(.int 4 0),(.ref 370)] #[]),(qH "Unlike" 634 180 340),⟨(.type "frame"),none,.plain,#[some (.ref 342),some (.ref 3),some (.ref 339),none,some (aJ "seekhall.unlikes" 619),none,some (.ref 0)]⟩,aK,bi,(bL 647 ["self","wish"]),aK,(cF "Unlike.__init__" (aY 19 0)),(dw "__init__" "Unlike.__init__" 644 182 2 344 649),(cG "Unlike.__init__" (aY 19 0) (aJ "seekhall.unlikes" 619) 349),aK,bi,(bL 655 ["self","filling"]),aK,(cF "Unlike.kept" (aY 19 1)),(dw "kept" "Unlike.kept" 652 186 2 351 657),(cG "Unlike.kept" (aY 19 1) (aJ "seekhall.unlikes" 619) 356),aK,bi,(bL 663 ["self","rooms","holders","cell"]),aK,(cF "Unlike.may_keep" (aY 19 2)),(dw "may_keep" "Unlike.may_keep" 660 189 2 358 667),(cG "Unlike.may_keep" (aY 19 2) (aJ "seekhall.unlikes" 619) 363),aK,bi,(bL 673 ["self","rooms","seen","cell","value"]),aK,(cF "Unlike.may_break" (aY 19 3)),(dw "may_break" "Unlike.may_break" 670 196 2 365 678),(cG "Unlike.may_break" (aY 19 3) (aJ "seekhall.unlikes" 619) 370),(bL 681 ["cells"]),(iQ (.type "dict") [bE P "__module__" 639 (aJ "seekhall.unlikes" 619),bE P "__firstlineno__" 643 (.int 180 642),aF P "__init__" 651 350,aF P "kept" 659 357,aF P "may_keep" 669 364,aF P "may_break" 680 371,aF P "__static_attributes__" 682 372,bE P "__doc__" 683 .none] 2 #[]),⟨(.type "type"),none,.cls ⟨b_ "Unlike",[(.ref 66)],[(.ref 374),(.ref 66),(.type "object")],373,b_ "Unlike",.true,[],[],.false,none,.false⟩,#[some (.ref 337),none,some (aJ "Unlike" 632),some (aJ "Unlike" 640),some (.builtin "object.__new__"),some (.bool .true)]⟩,(da (.type "super") [(.ref 374),(.ref 374),(.ref 374)] #[]),(da (.type "builtin_function_or_method") [(.builtin "object.__init_subclass__"),(.ref 374)] #[]),aK,bi,(bL 691 ["wish"]),aK,(dZ 21),(iY "plain_wish_of" 688 205 1 377 692),(eG 21 (aJ "seekhall.sames" 686) 382),(sS [(.ref 66)]),(da (.type "builtin_function_or_method") [(.builtin "type.__prepare__"),(.type "type")] #[]),(iQ (.type "dict") [bE P "__module__" 702 (aJ "seekhall.sames" 686),bE P "__qualname__" 704 (aJ "Same" 703),bE P "__firstlineno__" 706 (.int 217 705),aF P "__init__" 714 397,aF P "kept" 722 404,aF P "may_be_among" 728 409,aF P "may_be_none_of_them" 734 414,aF P "may_keep" 742 421,aF P "may_break" 750 428,aF P "__static_attributes__" 754 429] 10 #[]),aK,(da .none [(.int 219 0),(.int 4 0),(.ref 396),(.int 225 0),(.int 4 0),(.ref 403),(.int 228 0),(.int 4 0),(.ref 408),(.int 231 0),(.int 4 0),(.ref 413),(.int 234 0),(.int 4 0),(.ref 420),(.int 237 0),(.int 4 0),(.ref 427)] #[]),(qH "Same" 697 217 387),⟨(.type "frame"),none,.plain,#[some (.ref 389),some (.ref 3),some (.ref 386),none,some (aJ "seekhall.sames" 686),none,some (.ref 0)]⟩,aK,bi,(bL 710 ["self","wish"]),aK,(cF "Same.__init__" (aY 22 0)),(dw "__init__" "Same.__init__" 707 219 2 391 712),(cG "Same.__init__" (aY 22 0) (aJ "seekhall.sames" 686) 396),aK,bi,(bL 718 ["self","filling"]),aK,(cF "Same.kept" (aY 22 1)),(dw "kept" "Same.kept" 715 225 2 398 720),(cG "Same.kept" (aY 22 1) (aJ "seekhall.sames" 686) 403),aK,bi,(cF "Same.may_be_among" (aY 22 2)),(gy "may_be_among" "Same.may_be_among" 723 228 2 405),(cG "Same.may_be_among" (aY 22 2) (aJ "seekhall.sames" 686) 408),aK,bi,(cF "Same.may_be_none_of_them" (aY 22 3)),(gy "may_be_none_of_them" "Same.may_be_none_of_them" 729 231 2 410),(cG "Same.may_be_none_of_them" (aY 22 3) (aJ "seekhall.sames" 686) 413),aK,bi,(bL 738 ["self","rooms"]),aK,(cF "Same.may_keep" (aY 22 4)),(dw "may_keep" "Same.may_keep" 735 234 2 415 740),(cG "Same.may_keep" (aY 22 4) (aJ "seekhall.sames" 686) 420),aK,bi,(bL 746 ["self","rooms"]),aK,(cF "Same.may_break" (aY 22 5)),(dw "may_break" "Same.may_break" 743 237 2 422 748),(cG "Same.may_break" (aY 22 5) (aJ "seekhall.sames" 686) 427),(bL 751 ["among","cell","inner"]),(iQ (.type "dict") [bE P "__module__" 702 (aJ "seekhall.sames" 686),bE P "__firstlineno__" 706 (.int 217 705),aF P "__init__" 714 397,aF P "kept" 722 404,aF P "may_be_among" 728 409,aF P "may_be_none_of_them" 734 414,aF P "may_keep" 742 421,aF P "may_break" 750 428,aF P "__static_attributes__" 754 429,bE P "__doc__" 755 .none] 2 #[]),⟨(.type "type"),none,.cls ⟨b_ "Same",[(.ref 66)],[(.ref 431),(.ref 66),(.type "object")],430,b_ "Same",.true,[],[],.false,none,.false⟩,#[some (.ref 384),none,some (aJ "Same" 695),some (aJ "Same" 703),some (.builtin "object.__new__"),some (.bool .true)]⟩,(da (.type "super") [(.ref 431),(.ref 431),(.ref 431)] #[]),(da (.type "builtin_function_or_method") [(.builtin "object.__init_subclass__"),(.ref 431)] #[]),aK,bi,(bL 763 ["wish"]),aK,(dZ 24),(iY "wish_of" 760 240 1 434 764),(eG 24 (aJ "seekhall.sorts" 758) 439),aK,bi,(bL 770 ["wish","rooms"]),aK,(dZ 25),(iY "may_be_kept" 767 244 2 441 772),(eG 25 (aJ "seekhall.sorts" 758) 446),aK,bi,(dZ 27),(gy "room_against" "room_against" 777 247 2 448),(eG 27 (aJ "seekhall.clauses" 775) 451),aK,bi,(bL 786 ["rooms","clause","narrowed","literal","cell"]),aK,(dZ 28),(iY "narrowed_by" 783 251 2 453 791),(eG 28 (aJ "seekhall.clauses" 775) 458),aK,bi,(bL 797 ["wish","clause","rooms","narrowed"]),aK,(dZ 29),(iY "follows_from" 794 259 3 460 801),(eG 29 (aJ "seekhall.clauses" 775) 465),aK,bi,(dZ 31),(gy "_law_deal" "_law_deal" 806 263 2 467),(eG 31 (aJ "law_seekhall_k23_what_follows" 804) 470),aK,bi,(bL 815 ["_law_deal_here","_law_many","_law_number","_law_one","_law_other"]),aK,(dZ 32),(iY "_law_draw" 812 269 2 472 820),(eG 32 (aJ "law_seekhall_k23_what_follows" 804) 477),aK,bi,(dZ 33),(gy "_law_names" "_law_names" 823 280 2 479),(eG 33 (aJ "law_seekhall_k23_what_follows" 804) 482),aK,bi,(bL 832 ["_law_deal_here","_law_value","_law_pool_here","_law_k"]),aK,(dZ 34),(iY "_law_pool" 829 292 1 484 836),(eG 34 (aJ "law_seekhall_k23_what_follows" 804) 489),aK,bi,(dZ 35),(gy "_law_rooms" "_law_rooms" 839 301 4 491),(eG 35 (aJ "law_seekhall_k23_what_follows" 804) 494),aK,bi,(bL 848 ["_law_deal_here","_law_things","_law_least","_law_left","_law_found","_law_k"]),aK,(dZ 36),(iY "_law_some" 845 309 3 496 854),(eG 36 (aJ "law_seekhall_k23_what_follows" 804) 501),aK,bi,(bL 860 ["_law_deal_here","_law_low","_law_high","_law_one","_law_other"]),aK,(dZ 37),(iY "_law_bounds" 857 315 3 503 865),(eG 37 (aJ "law_seekhall_k23_what_follows" 804) 508),aK,bi,(dZ 38),(gy "_law_sum" "_law_sum" 868 319 3 510),(eG 38 (aJ "law_seekhall_k23_what_follows" 804) 513),aK,bi,(dZ 39),(gy "_law_rows" "_law_rows" 874 330 3 515),(eG 39 (aJ "law_seekhall_k23_what_follows" 804) 518),aK,bi,(dZ 40),(gy "_law_way" "_law_way" 880 337 3 520),(eG 40 (aJ "law_seekhall_k23_what_follows" 804) 523),aK,bi,(dZ 41),(gy "_law_wish" "_law_wish" 886 346 5 525),(eG 41 (aJ "law_seekhall_k23_what_follows" 804) 528),aK,bi,(dZ 42),(gy "_law_kept" "_law_kept" 892 367 2 530),(eG 42 (aJ "law_seekhall_k23_what_follows" 804) 533),aK,bi,(bL 901 ["_law_names_here","_law_rooms_here","_law_fillings_here","_law_name","_law_more","_law_filling","_law_value","_law_other"]),aK,(dZ 43),(iY "_law_fillings" 898 389 2 535 909),(eG 43 (aJ "law_seekhall_k23_what_follows" 804) 540),aK,bi,(bL 915 ["_law_deal_here","_law_names_here","_law_pool_here","_law_most","_law_found","_law_k","_law_literal"]),aK,(dZ 44),(iY "_law_clause" 912 400 4 542 922),(eG 44 (aJ "law_seekhall_k23_what_follows" 804) 547),aK,bi,(bL 928 ["_law_clause_here","_law_filling","_law_cell","_law_word","_law_value"]),aK,(dZ 45),(iY "_law_true" 925 407 2 549 933),(eG 45 (aJ "law_seekhall_k23_what_follows" 804) 554),aK,bi,(dZ 46),(gy "_law_shut" "_law_shut" 936 412 4 556),(eG 46 (aJ "law_seekhall_k23_what_follows" 804) 559),aK,bi,(bL 945 ["_law_wish_here","_law_clause_here","_law_names_here","_law_rooms_here","_law_filling"]),aK,(dZ 47),(iY "_law_follows" 942 425 4 561 950),(eG 47 (aJ "law_seekhall_k23_what_follows" 804) 566),aK,bi,(dZ 48),(gy "law" "law" 953 430 1 568),(eG 48 (aJ "law_seekhall_k23_what_follows" 804) 571)]
noncomputable def Ge (P:Params):List Obj:=FL P++(iQ (.type "dict") [bE P "__name__" 165 (aJ "seekhall.tables" 553),bE P "__doc__" 166 .none,bE P "__package__" 167 .none,bE P "__loader__" 168 (.builtin "__main__.__loader__#opaque"),bE P "__spec__" 169 .none,aF P "__annotations__" 170 6,aF P "__builtins__" 171 4,bE P "__file__" 173 (aJ "/claim/cut.py" 172),bE P "__cached__" 174 .none,aF P "_wall" 193 21,aF P "is_between" 204 28,aF P "Wish" 259 66,aF P "Behind" 307 104,aF P "Many" 373 154,aF P "Way" 445 204,aF P "parts_of" 453 211,aF P "spans_of" 464 218,aF P "Sum" 552 277] 18 #[]) ::(EB P++(EF [(1,20),(5,27),(8,34),(22,76),(45,112),(69,162),(101,210),(103,217),(109,224)]) ::(EG P++⟨(.type "type"),none,.cls ⟨b_ "Wish",[(.type "object")],[(.ref 66),(.type "object")],65,b_ "Wish",.true,[],[(.ref 104),(.ref 154),(.ref 204),(.ref 277)],.false,none,.false⟩,#[none,none,some (aJ "Wish" 207),some (aJ "Wish" 215),some (.builtin "object.__new__"),some (.bool .true)]⟩ :: EC P))
noncomputable def EM (P:Params):List Obj:=FL P++(iQ (.type "dict") [bE P "__name__" 165 (aJ "law_seekhall_k23_what_follows" 804),bE P "__doc__" 166 .none,bE P "__package__" 167 .none,bE P "__loader__" 168 (.builtin "__main__.__loader__#opaque"),bE P "__spec__" 169 .none,aF P "__annotations__" 170 6,aF P "__builtins__" 171 4,bE P "__file__" 173 (aJ "/claim/cut.py" 172),bE P "__cached__" 174 .none,aF P "_wall" 193 21,aF P "is_between" 204 28,aF P "Wish" 259 66,aF P "Behind" 307 104,aF P "Many" 373 154,aF P "Way" 445 204,aF P "parts_of" 453 211,aF P "spans_of" 464 218,aF P "Sum" 552 277,aF P "Table" 618 327,aF P "finds_value" 631 336,aF P "Unlike" 685 374,aF P "plain_wish_of" 694 383,aF P "Same" 757 431,aF P "wish_of" 766 440,aF P "may_be_kept" 774 447,aF P "room_against" 782 452,aF P "narrowed_by" 793 459,aF P "follows_from" 803 466,aF P "_law_deal" 811 471,aF P "_law_draw" 822 478,aF P "_law_names" 828 483,aF P "_law_pool" 838 490,aF P "_law_rooms" 844 495,aF P "_law_some" 856 502,aF P "_law_bounds" 867 509,aF P "_law_sum" 873 514,aF P "_law_rows" 879 519,aF P "_law_way" 885 524,aF P "_law_wish" 891 529,aF P "_law_kept" 897 534,aF P "_law_fillings" 911 541,aF P "_law_clause" 924 548,aF P "_law_true" 935 555,aF P "_law_shut" 941 560,aF P "_law_follows" 952 567,aF P "law" 958 572] 46 #[]) ::(EB P++(EF [(1,20),(5,27),(8,34),(22,76),(45,112),(69,162),(101,210),(103,217),(109,224),(147,285),(172,335),(180,342),(205,382),(217,389),(240,439),(244,446),(247,451),(251,458),(259,465),(263,470),(269,477),(280,482),(292,489),(301,494),(309,501),(315,508),(319,513),(330,518),(337,523),(346,528),(367,533),(389,540),(400,547),(407,554),(412,559),(425,566),(430,571)]) ::(EG P++⟨(.type "type"),none,.cls ⟨b_ "Wish",[(.type "object")],[(.ref 66),(.type "object")],65,b_ "Wish",.true,[],[(.ref 104),(.ref 154),(.ref 204),(.ref 277),(.ref 327),(.ref 374),(.ref 431)],.false,none,.false⟩,#[none,none,some (aJ "Wish" 207),some (aJ "Wish" 215),some (.builtin "object.__new__"),some (.bool .true)]⟩ ::(EC P++Gn P)))
noncomputable def EI (P:Params):BT:=Bf 12 (Ge P)
noncomputable def FG (P:Params):BT:=Bf 12 (EM P)
def ud:Env:={ scope:=PySem.Challenge.pw_seekhall_k23_what_follows.main.scope,locals:=mainNs,globals:=mainNs,cells:=[],code:=.ref 13,frame:=some 14 }
def xJ:List Stmt:=behindTheImports PySem.Challenge.pw_seekhall_k23_what_follows
abbrev qF:Code:=.body xJ ud
def AU:Life:=⟨[],[],[],0,[],[],false,#[],[],0,false,false,false,0,[2000,10,10],false,0,true,[],[],0,false⟩
abbrev zzB:List Frame:=[topFrame ⟨0,0,0,0⟩]
noncomputable abbrev zzS (T:Params->BT) (n k:Nat) (w:World) (B:HK):SharedT:=⟨T w.params,n,AU,#[],⟨0,0,0,0⟩,k,B⟩
theorem FR (w:World) (B:HK):topGo Ip PySem.Challenge.pw_seekhall_k23_what_follows w 11 (some (.ref 6)) 12 ⟨Iq w.params,#[],boot_drawn,boot_toks,B⟩ (topStub PySem.Challenge.pw_seekhall_k23_what_follows)=some ((zzS CD 15 187 w B).abs,⟨denote Ip qF,qF,⟨0,0,0,0⟩,zzB⟩):=by kernel_rfl
theorem FI (w:World) (B:HK):segRun Ip PySem.Challenge.pw_seekhall_k23_what_follows w 11 (some (.ref 6)) 1 1 (zzS CD 15 187 w B).abs (blockOf xJ ud qF ⟨0,0,0,0⟩ zzB)=some (.next,(zzS CD 15 187 w B).abs,qF,⟨0,0,0,0⟩):=by kernel_rfl
theorem Gb (w:World) (B:HK):segRunT Ip PySem.Challenge.pw_seekhall_k23_what_follows w 11 (some (.ref 6)) 1 2093 (zzS CD 15 187 w B) (piecesOf (xJ.take 16) ud qF ⟨0,0,0,0⟩ zzB)=some (.next,zzS EI 280 555 w B,qF,⟨146,0,146,8⟩):=by kernel_rfl
theorem Go (w:World) (B:HK):segRunT Ip PySem.Challenge.pw_seekhall_k23_what_follows w 11 (some (.ref 6)) 1 1932 (zzS EI 280 555 w B) (piecesOf (xJ.drop 16) ud qF ⟨146,0,146,8⟩ zzB)=some (.next,zzS FG 573 959 w B,qF,⟨430,0,448,15⟩):=by kernel_rfl
noncomputable def nO (P:Params):Heap:=⟨⟨EM P⟩,AU⟩
theorem Ev (w:World) (B:HK):topRun Ip PySem.Challenge.pw_seekhall_k23_what_follows w 11 (some (.ref 6)) 2 (zzS FG 573 959 w B).abs ⟨doneF .next,qF,⟨430,0,448,15⟩,zzB⟩=some ⟨nO w.params,#[],⟨0,0,0,0⟩,959,B⟩:=by kernel_rfl
theorem EY (w:World) (B:HK):topRun Ip PySem.Challenge.pw_seekhall_k23_what_follows w 11 (some (.ref 6)) (12+(1+(2093+(1932+2)))) ⟨Iq w.params,#[],boot_drawn,boot_toks,B⟩ (topStub PySem.Challenge.pw_seekhall_k23_what_follows)=some ⟨nO w.params,#[],⟨0,0,0,0⟩,959,B⟩ :=
 go_top (FR w B) (piece_block (FI w B) (show topRun Ip PySem.Challenge.pw_seekhall_k23_what_follows w 11 (some (.ref 6)) _ _ (restOf (xJ.take 16++(xJ.drop 16++[])) ud qF ⟨0,0,0,0⟩ zzB)=_ from
  piece_app (segRun_of (Gb w B)) (piece_app (segRun_of (Go w B)) (Ev w B))))
theorem E7 (w:World) (B:HK):(staticsOk (Im PySem.Challenge.pw_seekhall_k23_what_follows.main.body) (Iq w.params) (nO w.params) && namesBound PySem.Challenge.pw_seekhall_k23_what_follows (nO w.params) && gensDone ⟨nO w.params,#[],⟨0,0,0,0⟩,959,B⟩ && laidKept (Iq w.params) (nO w.params))=true:=by kernel_rfl
theorem FQ (w:World) (B:HK):(openSeen iO Hv (Im PySem.Challenge.pw_seekhall_k23_what_follows.main.body) hX true ⟨nO w.params,#[],⟨0,0,0,0⟩,959,B⟩).1=(openGood iO Hv).1:=by kernel_rfl
theorem FP (w:World) (B:HK):((openSeen iO Hv (Im PySem.Challenge.pw_seekhall_k23_what_follows.main.body) hX true ⟨nO w.params,#[],⟨0,0,0,0⟩,959,B⟩).2.1,(openSeen iO Hv (Im PySem.Challenge.pw_seekhall_k23_what_follows.main.body) hX true ⟨nO w.params,#[],⟨0,0,0,0⟩,959,B⟩).2.2.1)=((openGood iO Hv).2.1,(openGood iO Hv).2.2.1):=by kernel_rfl
theorem EL (w:World) (B:HK):(openSeen iO Hv (Im PySem.Challenge.pw_seekhall_k23_what_follows.main.body) hX true ⟨nO w.params,#[],⟨0,0,0,0⟩,959,B⟩).2.2.2=(openGood iO Hv).2.2.2:=by kernel_rfl
theorem ED (w:World) (B:HK):Hook.obs hK ⟨nO w.params,#[],⟨0,0,0,0⟩,959,B⟩=Hook.val hK w:=by kernel_rfl
theorem Gw:opening PySem.Challenge.pw_seekhall_k23_what_follows=plainProg PySem.Challenge.pw_seekhall_k23_what_follows.main.scope.names:=by kernel_rfl
theorem GF (s:Shared):fenceModules? PySem.Challenge.pw_seekhall_k23_what_follows s=some s:=by kernel_rfl
theorem GA (w:World):((Iq w.params).isNs la && (#[]:Array GenState).size == 0,(Iq w.params).objs.size,(Iq w.params).nsMap la "__annotations__")=(true,11,some (.ref 6)):=by kernel_rfl
theorem hl:LeftO PySem.Challenge.pw_seekhall_k23_what_follows iO Hv hX (Hook.obs hK) (Hook.val hK) 9800 :=
 LeftO.of_pieces (H₀:=Iq) (H₁:=nO) (boot_open Gw rfl GF) GA EY (by decide+kernel) (λw=>funext λos=>looks_pair (E7 w os) (ER (FQ w os) (FP w os) (EL w os) (ED w os)))
theorem wsd:PySem.W.OpenLaw.wellSaid PySem.Challenge.rw_seekhall_k23_what_follows=true:=by kernel_rfl
end Lw
namespace L2
open PySem PySem.Spec PyProof.Rows
abbrev Key:=Sum Int Str
def qZ:Key->Value->Bool
 | .inl k,v=>Value.isInt k v
 | .inr x,v=>Value.isStrOf x v
def GD (w:World):Key->Int
 | .inl k=>hashInt k
 | .inr x=>hashStr w x
theorem bM : ∀{k:Key} {v:Value},qZ k v=true->(∃i t,k=i7 i/\v=Value.int i t)\/(∃x t,k=ge x/\v=Value.str x t)
 | .inl i,v,h=>by
  obtain⟨t,e⟩:=Value.isInt_shape (k:=i) (v:=v) h;exact .inl ⟨i,t,rfl,e⟩
 | .inr x,v,h=>by
  obtain⟨t,e⟩:=Value.isStrOf_shape (x:=x) (v:=v) h;exact .inr ⟨x,t,rfl,e⟩
theorem yd (i:Int) (t:Tok):qZ (.inl i) (.int i t)=true:=by simp[qZ,Value.isInt]
theorem yt (x:Str) (t:Tok):qZ (.inr x) (.str x t)=true:=by simp[qZ,Value.isStrOf]
theorem Di (a b:Int):decide ((i7 a:Key)=i7 b)=(a == b):=by
 by_cases e:a=b
 .subst e;simp
 .have h : ¬ (i7 a:Key)=i7 b:=λq=>e (G8 q)
  rw[decide_eq_false h];exact(beq_eq_false_iff_ne.mpr e).symm
theorem Dp (a b:Str):decide ((ge a:Key)=ge b)=decide (a=b):=by
 by_cases e:a=b
 .subst e;simp
 .have h : ¬ (ge a:Key)=ge b:=λq=>e (Hw q)
  rw[decide_eq_false h,decide_eq_false e]
theorem Dl (a:Int) (b:Str):decide ((i7 a:Key)=ge b)=false:=decide_eq_false (λq=>nomatch q)
theorem C4 (a:Str) (b:Int):decide ((ge a:Key)=i7 b)=false:=decide_eq_false (λq=>nomatch q)
def bp (prog:Program) (w:World):PySem.KeyKind prog w Key where
 is:=qZ
 hash:=GD w
 inj := λv a b ha F=>by
  rcases bM ha with⟨i,t,rfl,rfl⟩ | ⟨x,t,rfl,rfl⟩
  .rcases bM F with⟨j,u,rfl,e⟩ | ⟨y,u,rfl,e⟩
   .injection e with e1 _;rw[e1]
   .exact nomatch e
  .rcases bM F with⟨j,u,rfl,e⟩ | ⟨y,u,rfl,e⟩
   .exact nomatch e
   .injection e with e1 _;rw[e1]
 byValue:=λk v h=>by
  rcases bM h with⟨i,t,rfl,rfl⟩ | ⟨x,t,rfl,rfl⟩ <;> rfl
 pyHash:=λB h=>by
  rcases bM B with⟨i,t,rfl,rfl⟩ | ⟨x,t,rfl,rfl⟩
  .exact wpAny_pyHash_int h
  .exact wpAny_pyHash_str h
 eqBool:=λhu B h=>by
  rcases bM hu with⟨i,t,rfl,rfl⟩ | ⟨x,t,rfl,rfl⟩
  .rcases bM B with⟨j,u,rfl,rfl⟩ | ⟨y,u,rfl,rfl⟩
   .rw[Di] at h;exact wpAny_eqBool_int h
   .rw[Dl] at h;exact SeqAt.EqAt.int_str i t y u _ _ _ _ h
  .rcases bM B with⟨j,u,rfl,rfl⟩ | ⟨y,u,rfl,rfl⟩
   .rw[C4] at h;exact SeqAt.EqAt.str_int x t j u _ _ _ _ h
   .rw[Dp] at h;exact wpAny_eqBool_str h
 «strs» := λk x t v h=>by
  rcases bM h with⟨i,u,rfl,e⟩ | ⟨y,u,rfl,e⟩
  .exact nomatch e
  .injection e with e1 _
   subst e1
   cases v <;> rfl
theorem vc (prog:Program) (w:World) (i:Int) (t:Tok):(bp prog w).is (.inl i) (.int i t)=true:=yd i t
theorem uO (prog:Program) (w:World) (x:Str) (t:Tok):(bp prog w).is (.inr x) (.str x t)=true:=yt x t
inductive V where
 | non | bl (b:Bool) | int (i:Int) | str (x:Str) | byt (b:Array UInt8) | flt (b:UInt64) | ref (a:Addr) | ty (n:String)
 deriving DecidableEq
def bg:V->Value->Prop
 | .non,u=>u=p9
 | .bl b,u=>u=Hq b
 | .int i,u=>∃t,u=Value.int i t
 | .str x,u=>∃t,u=Value.str x t
 | .byt b,u=>∃t,u=Value.bytes b t
 | .flt b,u=>∃t,u=Value.float b t
 | .ref a,u=>u=h_ a
 | .ty n,u=>u=GP n
abbrev be:List V->List Value->Prop:=Paired bg
theorem be.length {xs:List V} {us:List Value} (r:be xs us):xs.length=us.length:=Paired.length r
theorem be.get : ∀{xs:List V} {us:List Value} {i:Nat} {x:V},be xs us->xs[i]? = some x->∃u,us[i]? = some u/\bg x u
 | _,_,_,_,.nil,e=>by simp at e
 | _,_,0,_,.cons r _,e=>by simp at e;subst e;exact⟨_,rfl,r⟩
 | _,_,i+1,x,.cons _ t,e=>by
  obtain⟨u,h1,h2⟩:=be.get (i:=i) (x:=x) t (by simpa using e)
  exact⟨u,by simpa using h1,h2⟩
theorem be.append : ∀{xs ys:List V} {us ws:List Value},be xs us->be ys ws->be (xs++ys) (us++ws)
 | _,_,_,_,.nil,s=>s
 | _,_,_,_,.cons r t,s=>.cons r (be.append t s)
theorem be.take : ∀{xs:List V} {us:List Value} (n:Nat),be xs us->be (xs.take n) (us.take n)
 | _,_,0,_=>.nil
 | _,_,_+1,.nil=>.nil
 | _,_,n+1,.cons r t=>.cons r (be.take n t)
theorem be.drop : ∀{xs:List V} {us:List Value} (n:Nat),be xs us->be (xs.drop n) (us.drop n)
 | _,_,0,r=>r
 | _,_,_+1,.nil=>.nil
 | _,_,n+1,.cons _ t=>be.drop n t
def il:Option V->Option Value->Prop
 | some v,some u=>bg v u
 | none,none=>True
 | _,_=>False
def KV {κ:Type}:List (κ × V)->List (κ × Value)->Prop:=Paired λ(p:κ × V) (q:κ × Value)=>p.1=q.1/\bg p.2 q.2
def kV:Key->V
 | .inl i=>.int i
 | .inr x=>.str x
inductive HO where
 | lst (xs:List V)
 | tup (xs:List V)
 | dK (kvs:List (Key × V)) | dT (kvs:List (List Key × V))
 | set (S:Int->Bool) (n:Nat)
 | ins (C dx:Addr) (fs:List (Str × V))
 | own (x:Addr)
 | xd (fs:List (Str × V))
 | met (f x:Addr)
 | rng (lo hi:Int)
 | frz (o:Obj) (u:HO)
 | tbl (ps:Array Value)
 | tab (q:Str)
 | ext (φ:Heap->Prop)
abbrev Hp:=Addr->Option HO
def upd (H:Hp) (a:Addr) (o:HO):Hp:=λb=>if b=a then some o else H b
theorem ae {H:Hp} {o:HO}:upd H a o a=some o:=by unfold upd;rw[if_pos rfl]
theorem ah {H:Hp} {o:HO} (h:b≠a):upd H a o b=H b:=by unfold upd;rw[if_neg h]
theorem lH {H:Hp} {o u:HO}:upd (upd H a o) a u=upd H a u:=by
 funext b;unfold upd;split <;> rfl
theorem aX {H:Hp} {o u:HO} (h:H a=some o) (h':H b=some u) (d:o≠u):a≠b:=by
 intro e;subst e;rw[h] at h';exact d (fx h')
theorem au {H:Hp} {o:HO} (h:H a=some o) (h':H b=none):a≠b:=by
 intro e;subst e;rw[h] at h';cases h'
section
variable (P:Program) (w:World)
def FF (o:Obj) (q:Str):Prop:=∃vs t,o.data = .fields vs/\vs[1]? = some (.str q t)
def bF (H:Hp) (h:Heap) (a:Addr):HO->Prop
 | .lst xs=>xs.length<=g9/\∃(its:List Value) (n:Nat),be xs its/\h.get? a=some { cls:=.type "list",data:=.seq its.toArray n }
 | .tup xs=>xs.length<=g9/\∃its:List Value,be xs its/\IsTup h a its.toArray
 | .dK kvs=>kvs.length<=g9/\(a == Gt)=false/\∃vs,KV kvs vs/\h.DictOf (bp P w) a vs
 | .dT kvs=>kvs.length<=g9/\(a == Gt)=false/\∃xs:List (List Key × Addr × Value),
   Paired (λ(p:List Key × V) (q:List Key × Addr × Value)=>p.1=q.1/\H q.2.1>>(p.1.map kV)/\bg p.2 q.2.2) kvs xs /\
   ∃o es L,h.get? a=some o/\o.ExactDict/\o.data = .dict es L/\es.toList=xs.map (entryOfKey (G9 (bp P w)))/\(xs.map (·.1)).Nodup
 | .set S n=>h.SetOf (intKind P w) a S n
 | .ins C dx fs=>H dx=some (.own a)/\fs.length<=1000/\dx≠a/\h.get? a=some (instObj C dx) /\
   ∃mA,h.Ns1 dx mA/\(∀f,il (fs.lookup f) (mA f))/\PySem.Within mA (fs.map (·.1))
 | .own _=>∃o,h.get? a=some o
 | .xd fs=>∃mA,h.Ns1 a mA/\∀f,il (fs.lookup f) (mA f)
 | .rng lo hi=>∃t u v,h.get? a=some { cls:=.type "range",data:=.fields #[.int lo t,.int hi u,.int 1 v] }
 | .frz o u=>h.get? a=some o/\bF H h a u
 | .tbl ps=>h.get? a=some { cls:=.none,data:=.fields ps }
 | .tab q=>∃ps:Array Value,h.get? a=some { cls:=.none,data:=.fields ps }/\TriplesOk ps.toList/\∀pos F,codeAmong pos ps.toList=some F->∃c oc,F=h_ c/\c≠a/\H c=some (.frz oc (.own a))/\FF oc q
 | .met f x=>h.get? a=some (methodObj (.ref f) (.ref x))
 | .ext B=>B h/\(∃o,h.get? a=some o)/\∀h1 h2:Heap,B h1->(∀o,h1.get? a=some o->h2.get? a=some o)->B h2
def HOk (H:Hp) (h:Heap):Prop:=∀a o,H a=some o->bF P w H h a o
end
section
variable {H H':Hp} {o:HO}
theorem bF.lt (x:bF P w H h a o):a < h.objs.size:=by
 cases o with
 | lst xs=>obtain⟨_,_,_,_,e⟩:=x;exact e8 e
 | tup xs=>obtain⟨_,_,_,p⟩:=x;exact p.lt
 | dK kvs=>obtain⟨_,_,_,_,o,_,_,e,_⟩:=x;exact e8 e
 | dT kvs=>obtain⟨_,_,_,_,o,_,_,e,_⟩:=x;exact e8 e
 | set S n=>obtain⟨o,_,_,_,e,_⟩:=x;exact e8 e
 | ins C dx fs=>obtain⟨_,_,_,e,_⟩:=x;exact e8 e
 | own y=>obtain⟨_,e⟩:=x;exact e8 e
 | xd fs=>obtain⟨_,⟨_,_,_,e,_⟩,_⟩:=x;exact e8 e
 | rng lo hi=>obtain⟨_,_,_,e⟩:=x;exact e8 e
 | frz ob u=>obtain⟨e,_⟩:=x;exact e8 e
 | tbl ps=>exact e8 (show h.get? a=some _ from x)
 | tab q=>obtain⟨_,e,_⟩:=x;exact e8 e
 | met f y=>exact e8 (show h.get? a=some _ from x)
 | ext B=>obtain⟨_,⟨_,e⟩,_⟩:=x;exact e8 e
theorem Paired.mapP {α β:Type} {F G:α->β->Prop} : ∀{L:List α} {B:List β},Paired F L B->(∀a b,F a b->G a b)->Paired G L B
 | _,_,.nil,_=>.nil
 | _,_,.cons r t,f=>.cons (f _ _ r) (Paired.mapP t f)
theorem bF.stay (x:bF P w H h a o) (k : ∀b u,(b=a\/H b=some (.own a))->h.get? b=some u->h'.get? b=some u)
  (Z : ∀b,H b=some (.own a)->H' b=some (.own a)) (ht : ∀b xs,H b>>xs->H' b>>xs) (hz : ∀b o y,H b=some (.frz o (.own y))->H' b=some (.frz o (.own y)):=by exact λ_ _ _ q=>q):bF P w H' h' a o:=by
 induction o with
 | lst xs=>obtain⟨z,its,n,r,e⟩:=x;exact⟨z,its,n,r,k _ _ (.inl rfl) e⟩
 | tup xs=>obtain⟨z,its,r,ob,e,c⟩:=x;exact⟨z,its,r,ob,k _ _ (.inl rfl) e,c⟩
 | dK kvs=>obtain⟨z,y,vs,r,ob,es,B,e,c⟩:=x;exact⟨z,y,vs,r,ob,es,B,k _ _ (.inl rfl) e,c⟩
 | dT kvs =>
  obtain⟨z,y,xs,r,ob,es,B,e,c⟩:=x;exact⟨z,y,xs,Paired.mapP r λp q z=>⟨z.1,ht _ _ z.2.1,z.2.2⟩,ob,es,B,k _ _ (.inl rfl) e,c⟩
 | set S n=>obtain⟨ob,es,B,t,e,c⟩:=x;exact⟨ob,es,B,t,k _ _ (.inl rfl) e,c⟩
 | ins C dx fs =>
  obtain⟨d,z,ne,e,mA,⟨od,es,B,e2,c⟩,r⟩:=x;exact⟨Z _ d,z,ne,k _ _ (.inl rfl) e,mA,⟨od,es,B,k _ _ (.inr d) e2,c⟩,r⟩
 | own y=>obtain⟨ob,e⟩:=x;exact⟨ob,k _ _ (.inl rfl) e⟩
 | xd fs=>obtain⟨mA,⟨od,es,B,e,c⟩,r⟩:=x;exact⟨mA,⟨od,es,B,k _ _ (.inl rfl) e,c⟩,r⟩
 | rng lo hi=>obtain⟨t,u,v,e⟩:=x;exact⟨t,u,v,k _ _ (.inl rfl) e⟩
 | frz ob u ih=>obtain⟨e,q⟩:=x;exact⟨k _ _ (.inl rfl) e,ih q⟩
 | tbl ps =>
  have e:h.get? a=some { cls:=.none,data:=.fields ps }:=x
  show h'.get? a=some { cls:=.none,data:=.fields ps }
  exact k a _ (.inl rfl) e
 | tab q =>
  obtain⟨ps,e,t,hc⟩:=x;refine⟨ps,k _ _ (.inl rfl) e,t,λpos L z=>?_⟩
  obtain⟨c,oc,ec,ne,Y,F⟩:=hc pos L z;exact⟨c,oc,ec,ne,hz _ _ _ Y,F⟩
 | met f y =>
  have e:h.get? a=some (methodObj (.ref f) (.ref y)):=x
  show h'.get? a=some (methodObj (.ref f) (.ref y))
  exact k a _ (.inl rfl) e
 | ext φ=>obtain⟨p,⟨o,e⟩,st⟩:=x;exact⟨st _ _ p λo q=>k _ _ (.inl rfl) q,⟨o,k _ _ (.inl rfl) e⟩,st⟩
theorem HOk.lt (x:HOk P w H h) (e:H a=some o):a < h.objs.size:=(x a o e).lt
theorem HOk.fresh (x:HOk P w H h) (e:h.objs.size<=a):H a=none:=by
 cases q:H a with
 | none=>rfl
 | some u=>exact absurd (g7 (x.lt q) e) (o7 _)
theorem HOk.kept (x:HOk P w H h) (k : ∀b u,h.get? b=some u->h'.get? b=some u):HOk P w H h':=λa o e =>
 (x a o e).stay (λb u _ q=>k b u q) (λ_ q=>q) λ_ _ q=>q
theorem HOk.laid (x:HOk P w H h) (k : ∀b u,h.get? b=some u->h'.get? b=some u) (hp:h.objs.size<=a) (new:bF P w (upd H a o) h' a o):HOk P w (upd H a o) h':=λb u e=>by
 have hn:=x.fresh hp
 by_cases B:b=a
 .subst B;rw[ae] at e;cases e;exact new
 .rw[ah B] at e
  exact(x b u e).stay (λc v _ q=>k c v q) (λc q=>by rw[ah (au q hn)];exact q) (λc xs q=>by rw[ah (au q hn)];exact q) λc _ _ q=>by rw[ah (au q hn)];exact q
end
def Rd (H:Hp) (a:Addr) (u:HO):Prop:=H a=some u\/∃o,H a=some (.frz o u)
theorem Rd.ok {H:Hp} {u:HO} (r:Rd H a u) (x:HOk P w H h):bF P w H h a u:=by
 rcases r with r | ⟨o,r⟩
 .exact x a u r
 .obtain⟨_,q⟩:=x a _ r
  exact q
def Mut:Option HO->Prop
 | some (.lst _)=>True
 | some (.dK _)=>True
 | some (.dT _)=>True
 | some (.set _ _)=>True
 | some (.ins _ _ _)=>True
 | some (.ext _)=>True
 | some (.tab _)=>True
 | _=>False
section
variable {H:Hp} {x e:Addr} {o':HO}
theorem HOk.write (ok:HOk P w H h) (L:Mut (H x)) (he:e=x\/H e=some (.own x)) (k : ∀b u,b≠e->h.get? b=some u->h'.get? b=some u) (aa : ∃u,h'.get? e=some u)
  (new:bF P w (upd H x o') h' x o'):HOk P w (upd H x o') h':=λb u q=>by
 have F : ∀c y,H c=some (.own y)->c≠x:=λc y r z=>by subst z;rw[r] at L;exact L
 have Y : ∀c xs,H c>>xs->c≠x:=λc xs r z=>by subst z;rw[r] at L;exact L
 by_cases Z:b=x
 .subst Z;rw[ae] at q;cases q;exact new
 .rw[ah Z] at q
  by_cases B:b=e
  .have q':H b=some (.own x):=by
    rcases he with z | z
    .exact absurd (B.trans z) Z
    .rw[B];exact z
   rw[q] at q';cases q';obtain⟨v,hv⟩:=aa;exact⟨v,by rw[B];exact hv⟩
  .refine(ok b u q).stay (λc v hc r=>k c v ?_ r) (λc r=>by rw[ah (F c b r)];exact r) (λc xs r=>by rw[ah (Y c xs r)];exact r) λc _ _ r=>by rw[ah (λz=>by subst z;rw[r] at L;exact L)];exact r
   rcases hc with rfl | hc
   .exact B
   .rintro rfl
    rcases he with z | z
    .exact F c b hc z
    .rw[hc] at z;cases z;exact Z rfl
end
structure Un (fs ex:List Addr) (H H':Hp) (h h':Heap):Prop where
 keep : ∀b o,h.get? b=some o->H b=none->b∉fs->b∉ex->h'.get? b=some o
 slot : ∀b o,h.get? b=some o->H b=none->b∈fs->b∉ex->∃sl,h'.get? b=some { o with slots:=sl }
 free : ∀b o,h.get? b=some o->H b=none->b∉ex->H' b=none
 there : ∀b o,h.get? b=some o->b∉ex->∃o',h'.get? b=some o'
 tups : ∀b xs,H b>>xs->H' b>>xs
 frzs : ∀b o u,H b=some (.frz o u)->H' b=some (.frz o u)
 tbls : ∀b ps,H b=some (.tbl ps)->∃more,H' b=some (.tbl (ps++more))
section
variable {fs fs' ex ex':List Addr} {H H1 H2:Hp} {h1 h2:Heap} {x e:Addr} {o:HO}
theorem Un.any (u:Un fs ex H H1 h h1) {b:Addr} {ob:Obj} (q:h.get? b=some ob) (n:H b=none) (F:b∉ex) : ∃sl,h1.get? b=some { ob with slots:=sl }:=by
 by_cases B:b∈fs
 .exact u.slot b ob q n B F
 .exact⟨ob.slots,u.keep b ob q n B F⟩
theorem Un.kept (k : ∀b u,h.get? b=some u->h'.get? b=some u):Un fs ex H H h h' :=
 ⟨λb ob q _ _ _=>k b ob q,λb ob q _ _ _=>⟨ob.slots,k b ob q⟩,λ_ _ _ n _=>n,λb ob q _=>⟨ob,k b ob q⟩,λ_ _ q=>q,λ_ _ _ q=>q,λ_ ps q=>⟨#[],by rw[q];simp⟩⟩
theorem Un.refl:Un fs ex H H h h:=Un.kept λ_ _ q=>q
theorem Un.laid (k : ∀b u,h.get? b=some u->h'.get? b=some u) (hp:h.objs.size<=a) (hn:H a=none):Un fs ex H (upd H a o) h h' where
 keep:=λb u q _ _ _=>k b u q
 slot:=λb u q _ _ _=>⟨u.slots,k b u q⟩
 free:=λb u q n _=>by rw[ah (k7 (g7 (e8 q) hp))];exact n
 there:=λb u q _=>⟨u,k b u q⟩
 tups:=λb xs q=>by rw[ah (au q hn)];exact q
 frzs:=λb u xs q=>by rw[ah (au q hn)];exact q
 tbls:=λb ps q=>⟨#[],by rw[ah (au q hn),q];simp⟩
theorem Un.write (F:Mut (H x)) (he:e=x\/H e=some (.own x)) (k : ∀b u,b≠e->h.get? b=some u->h'.get? b=some u) (Y : ∃u,h'.get? e=some u):Un fs ex H (upd H x o) h h':=by
 have hx : ∀b,H b=none->b≠x:=λb n z=>by subst z;rw[n] at F;exact F
 have Z : ∀b,H b=none->b≠e:=λb n z=>by
  subst z;rcases he with r | r
  .exact hx b n r
  .rw[n] at r;cases r
 have L : ∀b u,H b=some u->¬ Mut (some u)->b≠x:=λb u q nm z=>by subst z;rw[q] at F;exact nm F
 refine⟨λb u q n _ _=>k b u (Z b n) q,λb u q n _ _=>⟨u.slots,k b u (Z b n) q⟩,λb u q n _=>by rw[ah (hx b n)];exact n,λb u q _=>?_,
  λb xs q=>by rw[ah (L b _ q λz=>z)];exact q,λb u xs q=>by rw[ah (L b _ q λz=>z)];exact q,λb ps q=>⟨#[],by rw[ah (L b _ q λz=>z),q];simp⟩⟩
 by_cases B:b=e
 .subst B;exact Y
 .exact⟨u,k b u B q⟩
end
def trk (h:Heap) (H:Hp):List Addr:=(range h.objs.size).filter λa=>(H a).isSome
def rV (h:Heap) (H:Hp):Heap:=PySem.W.hideAll h (trk h H)
theorem xO (h:Heap) (H:Hp):(rV h H).objs.size=h.objs.size:=PySem.W.hideAll_size _ _
theorem zo {H:Hp} {o:Obj} (e:h.get? b=some o) (n:H b=none):(rV h H).get? b=some o :=
 PySem.W.hideAll_get _ e λB=>by
  have q:(H b).isSome=true:=(x4.mp B).2
  rw[n] at q;simp at q
theorem BE {H:Hp} {o:Obj} (e:(rV h H).get? b=some o):h.get? b=some o/\H b=none:=by
 have B:h.get? b=some o:=PySem.W.of_hideAll (trk h H) e
 refine⟨B,?_⟩
 cases q:H b with
 | none=>rfl
 | some x =>
  have F:b∈trk h H:=x4.mpr ⟨HW.mpr (e8 B),by simp[q]⟩
  have z:(rV h H).get? b=none:=PySem.W.hideAll_none (trk h H) F
  rw[z] at e;cases e
structure Mod (K:e_) (mg:Str->Option Value) (base:Heap):Prop where
 kin:K.In base
 glob:base.Ns la mg
 blt : ∃mb,base.Ns builtinsNs mb/\∀x:Str,x ≠ "__name__" -> mb x=y2 x
 nolimit:base.NoLimit
structure Cx where
 prog:Program
 w:World
 K:e_
 mg:Str->Option Value
 base:Heap
 A:Around
 N:List Str
 s₀:Shared
 H₀:Hp
 env:Env
 outer:List Env
 stack:List Env
 ex:List Addr
 fn:Str->Bool
 calm:Bool
 pn:List (Addr × Obj)
 xe:Value->Shared->Prop
def frs (l:List Env):List Addr:=l.filterMap (·.frame)
abbrev Cx.fs (X:Cx):List Addr:=frs X.outer
def Vis (sc:Scope) (x:Str):Prop:=sc.names.lookup x=some .local\/sc.names.lookup x=some .cell\/sc.names.lookup x=some .free
def Loc (sc:Scope) (x:Str):Prop:=sc.names.lookup x=some .local\/sc.names.lookup x=some .cell
def Gz (env:Env) (h:Heap) (m:Str->Option Value) (x:Str) (u:Value):Prop :=
 (env.kindOf x=some .local/\m x=some u)\/((env.kindOf x=some .cell\/env.kindOf x=some .free)/\∃c,env.cells.lookup x=some c/\h.IsCell c (some u))
structure Cx.Ok (X:Cx):Prop where
 mod:Mod X.K X.mg X.base
 kind:X.env.scope.kind = .function
 glob:X.env.globals=la
 blt:X.env.builtins=builtinsNs
 above:X.s₀.heap.objs.size<=X.env.locals
 inj : ∀x y c,X.env.cells.lookup x=some c->X.env.cells.lookup y=some c->x=y
 has : ∀x,(X.env.kindOf x=some .cell\/X.env.kindOf x=some .free)->∃c,X.env.cells.lookup x=some c
 cab : ∀x c,X.fn x=true->X.env.cells.lookup x=some c->X.s₀.heap.objs.size<=c
 hd:X.calm=true->X.A.handled=none
 frames:X.A.frames=some X.stack
 stk:X.stack=X.outer\/(X.stack=X.env :: X.outer/\X.env.frame=some X.env.locals)
 exf : ∀b∈X.ex,b≠X.env.locals/\∀x c,X.env.cells.lookup x=some c->c≠b
 bs : ∀b o,X.base.get? b=some o->X.s₀.heap.get? b=some o/\X.H₀ b=none
 bsz:X.base.objs.size<=X.s₀.heap.objs.size
 noex : ∀b o,X.base.get? b=some o->b∉X.ex
 exfs : ∀b∈X.ex,b∉X.fs
 funs:X.s₀.heap.FunFrames X.base X.outer
 frf : ∀b∈X.fs,X.H₀ b=none
structure Inv (X:Cx) (pins:List (Addr × Obj)) (σ:List (Option V)) (H:Hp) (s:Shared):Prop where
 ok:X.Ok
 os:s.os=X.s₀.os
 bare:AllBare s.gens
 base:Un X.fs X.ex X.H₀ H X.s₀.heap s.heap
 loc : ∃m,s.heap.Ns X.env.locals m/\∀(i:Nat) (x:Str) (v:V),X.N[i]? = some x->σ[i]? = some (some v)->Vis X.env.scope x->∃u,bg v u/\Gz X.env s.heap m x u
 cell : ∀x c,X.env.cells.lookup x=some c->∃v,s.heap.IsCell c v
 free:H X.env.locals=none
 freeC : ∀x c,X.env.cells.lookup x=some c->H c=none
 pin : ∀p∈X.pn++pins,s.heap.get? p.1=some p.2/\H p.1=none/\p.1≠X.env.locals/\p.1∉X.fs/\∀v,p.2.data≠.cell v
 hok:HOk X.prog X.w H s.heap
 len:σ.length=X.N.length
section
variable {X:Cx} {σ:List (Option V)} {H H':Hp}
theorem Cx.Ok.nofr (ok:X.Ok) {b:Addr} {o:Obj} (e:X.base.get? b=some o):b∉X.fs:=λB=>by
 have:=(ok.funs.mem B).1
 rw[e] at this;cases this
theorem Inv.bs (I:Inv X pins σ H s) : ∀b o,X.base.get? b=some o->s.heap.get? b=some o/\H b=none:=λb o e =>
 ⟨I.base.keep b o (I.ok.bs b o e).1 (I.ok.bs b o e).2 (I.ok.nofr e) (I.ok.noex b o e),I.base.free b o (I.ok.bs b o e).1 (I.ok.bs b o e).2 (I.ok.noex b o e)⟩
theorem Inv.bk (I:Inv X pins σ H s) : ∀b o,X.base.get? b=some o->s.heap.get? b=some o:=λb o e=>(I.bs b o e).1
theorem Inv.mod (I:Inv X pins σ H s):Mod X.K X.mg X.base:=I.ok.mod
theorem Inv.kIn (I:Inv X pins σ H s):X.K.In s.heap:=I.ok.mod.kin.keeps I.bk
theorem Inv.lt (I:Inv X pins σ H s):X.env.locals < s.heap.objs.size:=let ⟨_,hn,_⟩:=I.loc;hn.lt
theorem Inv.sz (I:Inv X pins σ H s):X.s₀.heap.objs.size<=s.heap.objs.size:=gr I.ok.above (GY I.lt)
theorem Inv.nofs (I:Inv X pins σ H s) {a:Addr} (h:s.heap.objs.size<=a):a∉X.fs:=λB=>by
 obtain⟨_,o,F,_⟩:=I.ok.funs.mem B;exact absurd (g7 (e8 F) (gr I.sz h)) (o7 _)
theorem Inv.cne (I:Inv X pins σ H s) : ∀x c,X.env.cells.lookup x=some c->c≠X.env.locals:=λx c e z=>by
 obtain⟨v,o,Y,L⟩:=I.cell x c e;obtain⟨m,⟨o',es,Z,F,B,_⟩,_⟩:=I.loc;rw[z,F] at Y;cases Y;rw[B] at L;cases L
theorem Inv.funs (I:Inv X pins σ H s):s.heap.FunFrames X.base X.outer:=by
 have all : ∀(l:List Env),(∀b∈frs l,b∈X.fs)->X.s₀.heap.FunFrames X.base l->s.heap.FunFrames X.base l:=by
  intro l
  induction l with
  | nil=>intro _ _;trivial
  | cons env r ih =>
   intro Z hl;obtain⟨hk,⟨L,o,F,hn,ho,hd⟩,hr⟩:=hl;have B:L∈X.fs:=Z L (by unfold frs;rw[List.filterMap_cons,F];exact k6)
   obtain⟨sl,e⟩:=I.base.slot L o ho (I.ok.frf L B) B λz=>I.ok.exfs L z B
   exact⟨hk,⟨L,_,F,hn,e,hd⟩,ih (λb Y=>Z b (by unfold frs;rw[List.filterMap_cons,F];exact j6 _ Y)) hr⟩
 exact all X.outer (λ_ Y=>Y) I.ok.funs
theorem Inv.stack (I:Inv X pins σ H s):s.heap.FunFrames X.base X.stack:=by
 rcases I.ok.stk with e | ⟨e,hf⟩
 .rw[e];exact I.funs
 .rw[e]
  obtain⟨m,hn,_⟩:=I.loc;refine .cons (by rw[I.ok.kind];decide) hf hn ?_ I.funs
  exact Heap.get?_none_of_le (gr I.ok.bsz I.ok.above)
theorem Inv.stkSub (I:Inv X pins σ H s) : ∀b∈frs X.stack,b∈X.env.locals :: X.fs:=λb B=>by
 rcases I.ok.stk with e | ⟨e,hf⟩
 .rw[e] at B;exact j6 _ B
 .rw[e] at B
  unfold frs at B;rw[List.filterMap_cons,hf] at B;exact B
theorem Inv.stkFree (I:Inv X pins σ H s) : ∀b∈frs X.stack,H b=none:=λb B=>by
 rcases i4.mp (I.stkSub b B) with e | B
 .rw[e];exact I.free
 .obtain⟨_,o,ho,_⟩:=I.ok.funs.mem B
  exact I.base.free b o ho (I.ok.frf b B) λz=>I.ok.exfs b z B
theorem Inv.step (I:Inv X pins σ H s)
  (F : ∀b∈ch,(b∈X.ex\/X.s₀.heap.objs.size<=b)/\b≠X.env.locals/\(∀x c,X.env.cells.lookup x=some c->c≠b)/\∀p∈X.pn++pins,p.1≠b)
  (keep : ∀b o,b≠X.env.locals->b∉X.fs->b∉ch->s.heap.get? b=some o->H b=none->h'.get? b=some o)
  (slot : ∀b o,b≠X.env.locals->b∈X.fs->b∉ch->s.heap.get? b=some o->H b=none->∃sl,h'.get? b=some { o with slots:=sl }) (free : ∀b o,b∉ch->s.heap.get? b=some o->H b=none->H' b=none)
  (there : ∀b o,b∉ch->s.heap.get? b=some o->∃o',h'.get? b=some o')
  (tups : ∀b xs,H b>>xs->H' b>>xs) (frzs : ∀b o u,H b=some (.frz o u)->H' b=some (.frz o u)) (tbls : ∀b ps,H b=some (.tbl ps)->∃ab,H' b=some (.tbl (ps++ab)))
  (ns : ∀m,s.heap.Ns X.env.locals m->h'.Ns X.env.locals m) (ac:HOk X.prog X.w H' h') (hg:AllBare g') :
  Inv X pins σ H' { s with heap:=h',gens:=g',drawn:=d',toks:=t' }:=by
 have aa : ∀b o,X.s₀.heap.get? b=some o->b≠X.env.locals:=λb o e=>k7 (g7 (e8 e) I.ok.above)
 have Z : ∀b o,X.s₀.heap.get? b=some o->b∉X.ex->b∉ch:=λb o e B hb=>by
  rcases (F b hb).1 with z | z
  .exact B z
  .exact absurd (g7 (e8 e) z) (o7 _)
 have Y : ∀x c,X.env.cells.lookup x=some c->∀v,s.heap.IsCell c v->h'.IsCell c v:=λx c e v ⟨o,ho,hd⟩=>by
  have L:c∉ch:=λz=>(F c z).2.2.1 x c e rfl
  by_cases hc:c∈X.fs
  .obtain⟨sl,q⟩:=slot c o (I.cne x c e) hc L ho (I.freeC x c e)
   exact⟨_,q,hd⟩
  .exact⟨o,keep c o (I.cne x c e) hc L ho (I.freeC x c e),hd⟩
 refine⟨I.ok,I.os,hg,⟨λb o e n hb B=>?_,λb o e n hb B=>?_,λb o e n B=>?_,λb o e B=>?_,λb xs e=>tups b xs (I.base.tups b xs e),λb o xs e=>frzs b o xs (I.base.frzs b o xs e),λb ps e=>?_⟩,?_,λx c e=>?_,?_,λx c e=>?_,λp hp=>?_,ac,I.len⟩
 .exact keep b o (aa b o e) hb (Z b o e B) (I.base.keep b o e n hb B) (I.base.free b o e n B)
 .obtain⟨sl,e1⟩:=I.base.slot b o e n hb B
  obtain⟨ad,e2⟩:=slot b _ (aa b o e) hb (Z b o e B) e1 (I.base.free b o e n B);exact⟨ad,e2⟩
 .obtain⟨o',e1⟩:=I.base.there b o e B
  exact free b o' (Z b o e B) e1 (I.base.free b o e n B)
 .obtain⟨o',e1⟩:=I.base.there b o e B
  exact there b o' (Z b o e B) e1
 .obtain⟨m1,e1⟩:=I.base.tbls b ps e
  obtain⟨m2,e2⟩:=tbls b _ e1;exact⟨m1++m2,by rw[e2,Array.append_assoc]⟩
 .obtain⟨m,hn,hl⟩:=I.loc
  refine⟨m,ns m hn,λi x v e1 e2 e3=>?_⟩
  obtain⟨u,r,l⟩:=hl i x v e1 e2 e3;refine⟨u,r,?_⟩
  rcases l with l | ⟨k,c,e,z⟩
  .exact .inl l
  .exact .inr ⟨k,c,e,Y x c e _ z⟩
 .obtain⟨v,z⟩:=I.cell x c e
  exact⟨v,Y x c e v z⟩
 .obtain⟨m,⟨o,_,_,ho,_⟩,_⟩:=I.loc
  exact free _ o (λz=>(F _ z).2.1 rfl) ho I.free
 .obtain⟨v,o,ho,hd⟩:=I.cell x c e
  exact free c o (λz=>(F c z).2.2.1 x c e rfl) ho (I.freeC x c e)
 .obtain⟨e,n,ne,nf,d⟩:=I.pin p hp
  have L:p.1∉ch:=λz=>(F p.1 z).2.2.2 p hp rfl
  exact⟨keep p.1 p.2 ne nf L e n,free p.1 p.2 L e n,ne,nf,d⟩
theorem Inv.un (I:Inv X pins σ H s) (u:Un X.fs [] H H' s.heap h') (F:HOk X.prog X.w H' h'):Inv X pins σ H' { s with heap:=h',toks:=t' }:=by
 obtain⟨m,⟨o,es,ep,ho,r⟩,_⟩:=id I.loc;obtain⟨sl,hL⟩:=u.any ho I.free (by simp)
 exact I.step (g':=s.gens) (d':=s.drawn) (ch:=[]) (λ_ z=>nomatch z) (λb o _ Y _ e n=>u.keep b o e n Y (by simp)) (λb o _ Y _ e n=>u.slot b o e n Y (by simp)) (λb o _ e n=>u.free b o e n (by simp)) (λb o _ e=>u.there b o e (by simp)) u.tups u.frzs u.tbls (λm' hm=>by
  obtain⟨o',L,Z,B,r'⟩:=hm;rw[ho] at B;cases B;exact⟨_,L,Z,hL,r'⟩) F I.bare
theorem Inv.call (I:Inv X pins σ H s) (u:Un (frs X.stack) ch H H' s.heap h') (Y:HOk X.prog X.w H' h') (hg:AllBare g')
  (F : ∀b∈ch,(b∈X.ex\/X.s₀.heap.objs.size<=b)/\b≠X.env.locals/\(∀x c,X.env.cells.lookup x=some c->c≠b)/\∀p∈X.pn++pins,p.1≠b) :
  Inv X pins σ H' { s with heap:=h',gens:=g',drawn:=d',toks:=t' }:=by
 obtain⟨m,⟨o,es,ep,ho,r⟩,_⟩:=id I.loc;obtain⟨sl,hL⟩:=u.any ho I.free λz=>(F _ z).2.1 rfl
 exact I.step (ch:=ch) F (λb o hL hb B e n=>u.keep b o e n (λz=>(i4.mp (I.stkSub b z)).elim hL hb) B) (λb o _ _ B e n=>u.any e n B) (λb o B e n=>u.free b o e n B) (λb o B e=>u.there b o e B) u.tups u.frzs u.tbls (λm' hm=>by
  obtain⟨o',Z,aa,L,r'⟩:=hm;rw[ho] at L;cases L;exact⟨_,Z,aa,hL,r'⟩) Y hg
theorem Inv.turned (I:Inv X pins σ H s) (k : ∀b o,b≠it->s.heap.get? b=some o->h'.get? b=some o) (hn:H it=none) (L:it≠X.env.locals)
  (h1:it∈X.ex\/X.s₀.heap.objs.size<=it) (h2 : ∀x c,X.env.cells.lookup x=some c->c≠it) (h3 : ∀p∈X.pn++pins,p.1≠it):Inv X pins σ H { s with heap:=h',toks:=t' }:=by
 have F : ∀b u,H b=some u->b≠it:=λb u e z=>by rw[z,hn] at e;cases e
 refine I.step (g':=s.gens) (d':=s.drawn) (ch:=[it]) (λb Z=>?_) (λb o _ _ B e _=>k b o (λz=>B (by simp[z])) e) (λb o _ _ B e _=>⟨o.slots,k b o (λz=>B (by simp[z])) e⟩) (λ_ _ _ _ n=>n)
  (λb o B e=>⟨o,k b o (λz=>B (by simp[z])) e⟩) (λ_ _ e=>e) (λ_ _ _ e=>e) (λb ps e=>⟨#[],by rw[e];simp⟩) (λm Y=>?_) (λb u e=>?_) I.bare
 .have e:b=it:=by simpa using Z
  subst e;exact⟨h1,L,h2,h3⟩
 .obtain⟨o,es,ep,ho,r⟩:=Y
  exact⟨o,es,ep,k _ o (tj L) ho,r⟩
 .refine(I.hok b u e).stay (λc v B q=>k c v ?_ q) (λ_ q=>q) λ_ _ q=>q
  rcases B with z | z
  .rw[z];exact F b u e
  .exact F c _ z
theorem Inv.tok (I:Inv X pins σ H s) (t:Nat):Inv X pins σ H { s with toks:=t }:=I.un (h':=s.heap) (t':=t) Un.refl I.hok
theorem Inv.kept {t':Nat} (I:Inv X pins σ H s) (k : ∀b u,s.heap.get? b=some u->h'.get? b=some u):Inv X pins σ H { s with heap:=h',toks:=t' }:=I.un (Un.kept k) (I.hok.kept k)
theorem Inv.laid {a:Addr} {o:HO} {t':Nat} (I:Inv X pins σ H s) (k : ∀b u,s.heap.get? b=some u->h'.get? b=some u) (hp:s.heap.objs.size<=a) (new:bF X.prog X.w (upd H a o) h' a o) :
  Inv X pins σ (upd H a o) { s with heap:=h',toks:=t' }:=I.un (Un.laid k hp (I.hok.fresh hp)) (I.hok.laid k hp new)
theorem Inv.write {x e:Addr} {o:HO} {t':Nat} (I:Inv X pins σ H s) (L:Mut (H x)) (F:e=x\/H e=some (.own x)) (k : ∀b u,b≠e->s.heap.get? b=some u->h'.get? b=some u) (B : ∃u,h'.get? e=some u)
  (new:bF X.prog X.w (upd H x o) h' x o):Inv X pins σ (upd H x o) { s with heap:=h',toks:=t' }:=I.un (Un.write L F k B) (I.hok.write L F k B new)
theorem Inv.weak {σ':List (Option V)} (I:Inv X pins σ H s) (hl:σ'.length=σ.length) (w : ∀(i:Nat) v,σ'[i]? = some (some v)->σ[i]? = some (some v)):Inv X pins σ' H s :=
 ⟨I.ok,I.os,I.bare,I.base,let ⟨m,hn,hl'⟩:=I.loc;⟨m,hn,λi x v e1 e2 B=>hl' i x v e1 (w i v e2) B⟩,I.cell,I.free,I.freeC,I.pin,I.hok,hl.trans I.len⟩
theorem Inv.pins_of (I:Inv X pins σ H s) (h : ∀p∈pins',s.heap.get? p.1=some p.2/\H p.1=none/\p.1≠X.env.locals/\p.1∉X.fs/\∀v,p.2.data≠.cell v):Inv X pins' σ H s :=
 ⟨I.ok,I.os,I.bare,I.base,I.loc,I.cell,I.free,I.freeC,λp hp=>(i9.mp hp).elim (λz=>I.pin p (ki _ z)) (h p),I.hok,I.len⟩
theorem uH (B:N.Nodup) {i j:Nat} {x:Str} (a:N[i]? = some x) (b:N[j]? = some x):i=j:=by
 obtain⟨h1,e1⟩:=g_.mp a;obtain⟨h2,e2⟩:=g_.mp b;exact(List.getElem_inj B).mp (e1.trans e2.symm)
theorem qM {v:V} {Q:Unit->Shared->Prop} (I:Inv X pins σ H s) (hN:X.N.Nodup) (hi:X.N[i]? = some x) (Y:Loc X.env.scope x) (r:bg v u)
  (h : ∀s',Inv X pins (σ.set i (some v)) H s'->(∃a,HL a s.heap s'.heap/\(a=X.env.locals\/X.env.cells.lookup x=some a))->Q Unit.unit s') (hf:X.fn x=true\/X.env.scope.names.lookup x=some .local:=by first | exact .inl rfl | exact .inr rfl | assumption):wpAny M A (storeName X.env x u) Q E s:=by
 obtain⟨m,hn,hl⟩:=id I.loc;have ac:(X.env.scope.kind == .class || (X.env.scope.kind == .module && X.env.locals != X.env.globals))=false:=by rw[I.ok.kind];rfl
 have aa:i < σ.length:=by rw[I.len];exact(g_.mp hi).1
 have cne:=I.cne;have F : ∀{a:Addr} {h':Heap},(∃o,s.heap.get? a=some o/\H a=none)->HL a s.heap h'->HOk X.prog X.w H h':=λ{a h'} ha B b ob e=>by
  obtain⟨_,_,Z⟩:=ha;refine(I.hok b ob e).stay (λc w' L q=>(B.2 c ?_).trans q) (λ_ q=>q) λ_ _ q=>q
  rintro rfl
  rcases L with rfl | L
  .rw[Z] at e;cases e
  .rw[Z] at L;cases L
 rcases Y with hk | hk
 .refine wpAny_storeName_local hk hn (λh' ah B=>?_) ac
  obtain⟨oL,_,_,ag,_⟩:=id hn;refine h _ ⟨I.ok,I.os,I.bare,⟨λb o e n hb Y=>?_,λb o e n hb Y=>?_,I.base.free,λb o e Y=>?_,I.base.tups,I.base.frzs,I.base.tbls⟩,⟨_,ah,λj y v' e1 e2 e3=>?_⟩,λy c e=>?_,I.free,I.freeC,λp hp=>?_,F ⟨oL,ag,I.free⟩ B,by simpa using I.len⟩ ⟨_,B,.inl rfl⟩
  .exact(B.2 b (k7 (g7 (e8 e) I.ok.above))).trans (I.base.keep b o e n hb Y)
  .obtain⟨sl,e1⟩:=I.base.slot b o e n hb Y
   exact⟨sl,(B.2 b (k7 (g7 (e8 e) I.ok.above))).trans e1⟩
  .obtain⟨o',e1⟩:=I.base.there b o e Y
   exact⟨o',(B.2 b (k7 (g7 (e8 e) I.ok.above))).trans e1⟩
  .by_cases hj:j=i
   .subst hj
    rw[hi] at e1;cases e1;rw[List.getElem?_set_self aa] at e2;cases e2;exact⟨u,r,.inl ⟨hk,by simp⟩⟩
   .rw[Ia (tj hj)] at e2
    obtain⟨u',r',q⟩:=hl j y v' e1 e2 e3;refine⟨u',r',?_⟩
    rcases q with⟨k,e⟩ | ⟨k,c,e,z⟩
    .refine .inl ⟨k,?_⟩
     have:y≠x:=λe=>hj (uH hN e1 (e ▸ hi))
     simp[this,e]
    .exact .inr ⟨k,c,e,z.sameBut B (cne y c e)⟩
  .obtain⟨w',z⟩:=I.cell y c e
   exact⟨w',z.sameBut B (cne y c e)⟩
  .obtain⟨e,n,ne,nf,d⟩:=I.pin p hp
   exact⟨(B.2 p.1 ne).trans e,n,ne,nf,d⟩
 .have hfn:X.fn x=true:=by
   rcases hf with z | z
   .exact z
   .rw[z] at hk;cases hk
  obtain⟨c,L⟩:=I.ok.has x (.inl hk);obtain⟨w',z⟩:=I.cell x c L;refine wpAny_storeName_cell I.ok.kind hk L z (λh' ad B=>?_)
  obtain⟨oc,ab,af⟩:=id z;refine h { s with heap:=h' } ⟨I.ok,I.os,I.bare,⟨λb o e n hb Y=>?_,λb o e n hb Y=>?_,I.base.free,λb o e Y=>?_,I.base.tups,I.base.frzs,I.base.tbls⟩,⟨m,hn.sameBut B (tj (cne x c L)),λj y v' e1 e2 e3=>?_⟩,λy c' e=>?_,I.free,I.freeC,λp hp=>?_,F ⟨oc,ab,I.freeC x c L⟩ B,by simpa using I.len⟩ ⟨c,B,.inr L⟩
  .exact(B.2 b (k7 (g7 (e8 e) (I.ok.cab x c hfn L)))).trans (I.base.keep b o e n hb Y)
  .obtain⟨sl,e1⟩:=I.base.slot b o e n hb Y
   exact⟨sl,(B.2 b (k7 (g7 (e8 e) (I.ok.cab x c hfn L)))).trans e1⟩
  .obtain⟨o',e1⟩:=I.base.there b o e Y
   exact⟨o',(B.2 b (k7 (g7 (e8 e) (I.ok.cab x c hfn L)))).trans e1⟩
  .by_cases hj:j=i
   .subst hj
    rw[hi] at e1;cases e1;rw[List.getElem?_set_self aa] at e2;cases e2;exact⟨u,r,.inr ⟨.inl hk,c,L,ad⟩⟩
   .rw[Ia (tj hj)] at e2
    obtain⟨u',r',q⟩:=hl j y v' e1 e2 e3;refine⟨u',r',?_⟩
    rcases q with q | ⟨k,c',e,z'⟩
    .exact .inl q
    .refine .inr ⟨k,c',e,z'.sameBut B ?_⟩
     rintro rfl
     exact hj (uH hN e1 (I.ok.inj _ _ _ e L ▸ hi))
  .by_cases hcc:c'=c
   .subst hcc;exact⟨_,ad⟩
   .obtain⟨w2,z2⟩:=I.cell y c' e
    exact⟨w2,z2.sameBut B hcc⟩
  .obtain⟨e,n,ne,nf,d⟩:=I.pin p hp
   refine⟨(B.2 p.1 ?_).trans e,n,ne,nf,d⟩
   intro q;rw[q,ab] at e;have q':oc=p.2:=fx e
   exact d w' (by rw[<- q'];exact af)
theorem px {v:V} {Q:Unit->Shared->Prop} (I:Inv X pins σ H s) (F:X.N.Nodup) (hi:X.N[i]? = some x) (L:Loc X.env.scope x) (r:bg v u)
  (h : ∀s',Inv X pins (σ.set i (some v)) H s'->Q Unit.unit s') (B:X.fn x=true\/X.env.scope.names.lookup x=some .local:=by first | exact .inl rfl | exact .inr rfl | assumption):wpAny M A (storeName X.env x u) Q E s :=
 qM I F hi L r (λs' Y _=>h s' Y) B
theorem Inv.call' (I:Inv X pins σ H s) (L:s'.os=s.os) (u:Un (frs X.stack) ch H H' s.heap s'.heap) (F:HOk X.prog X.w H' s'.heap) (Y:AllBare s'.gens)
  (B : ∀b∈ch,(b∈X.ex\/X.s₀.heap.objs.size<=b)/\b≠X.env.locals/\(∀x c,X.env.cells.lookup x=some c->c≠b)/\∀p∈X.pn++pins,p.1≠b):Inv X pins σ H' s':=by
 obtain⟨h',g',d',t',o'⟩:=s';have e:o'=s.os:=L
 subst e;exact I.call (g':=g') (t':=t') (d':=d') u F Y B
end
abbrev XK:=Value->Option Addr->Hp->Prop
abbrev St:=List (Option V)
abbrev VK:=V->Hp->Prop
abbrev TE:=St->Hp->VK->Prop
abbrev TT:=St->Hp->(Bool->Hp->Prop)->Prop
abbrev TA:=St->Hp->(List V->Hp->Prop)->Prop
structure og where
 nx:St->Hp->Prop
 rt:VK
 bk:St->Hp->Prop:=λ_ _=>False
 ct:St->Hp->Prop:=λ_ _=>False
abbrev TS:=og->St->Hp->Prop
def EP (X:Cx) (pins:List (Addr × Obj)) (σ:St) (Q:VK) (u:Value) (s':Shared):Prop:=∃v H',Inv X pins σ H' s'/\bg v u/\Q v H'
def TP (X:Cx) (pins:List (Addr × Obj)) (σ:St) (Q:Bool->Hp->Prop) (b:Bool) (s':Shared):Prop:=∃H',Inv X pins σ H' s'/\Q b H'
def AP (X:Cx) (pins:List (Addr × Obj)) (σ:St) (Q:List V->Hp->Prop) (us:List Value) (s':Shared):Prop:=∃vs H',Inv X pins σ H' s'/\be vs us/\Q vs H'
def SP (X:Cx) (pins:List (Addr × Obj)) (D:og) (f:Flow) (s':Shared):Prop :=
 match f with
 | .next=>∃ σ' H',Inv X pins σ' H' s'/\D.nx σ' H'
 | .brk=>∃ σ' H',Inv X pins σ' H' s'/\D.bk σ' H'
 | .cont=>∃ σ' H',Inv X pins σ' H' s'/\D.ct σ' H'
 | .ret u=>∃v σ' H',Inv X pins σ' H' s'/\bg v u/\D.rt v H'
namespace Irr
set_option allowUnsafeReducibility true in
@[scoped irreducible] def _root_.L2.PE (X:Cx) (e:Expr) (t:TE):Prop :=
 ∀(pins:List (Addr × Obj)) (s:Shared) (σ:St) (H:Hp) (Q:VK),Inv X pins σ H s->t σ H Q->wpAny (model X.prog X.w) X.A (eval e X.env) (EP X pins σ Q) X.xe s
end Irr
namespace Irr
set_option allowUnsafeReducibility true in
@[scoped irreducible] def _root_.L2.PT (X:Cx) (e:Expr) (t:TT):Prop :=
 ∀(pins:List (Addr × Obj)) (s:Shared) (σ:St) (H:Hp) (Q:Bool->Hp->Prop),Inv X pins σ H s->t σ H Q->wpAny (model X.prog X.w) X.A (isTrue e X.env (eval e X.env)) (TP X pins σ Q) X.xe s
end Irr
namespace Irr
set_option allowUnsafeReducibility true in
@[scoped irreducible] def _root_.L2.PW (X:Cx) (e:Expr) (t:TT):Prop :=
 ∀(B:Sem Value) (pins:List (Addr × Obj)) (s:Shared) (σ:St) (H:Hp) (Q:Bool->Hp->Prop),Inv X pins σ H s->t σ H Q->wpAny (model X.prog X.w) X.A (isTrue e X.env B) (TP X pins σ Q) X.xe s
end Irr
theorem PW.pt {X:Cx} {t:TT} (h:PW X e t):PT X e t:=h _
namespace Irr
set_option allowUnsafeReducibility true in
@[scoped irreducible] def _root_.L2.PA (X:Cx) (es:List Expr) (t:TA):Prop :=
 ∀(pos:Pos) (pins:List (Addr × Obj)) (s:Shared) (σ:St) (H:Hp) (Q:List V->Hp->Prop),Inv X pins σ H s->t σ H Q->wpAny (model X.prog X.w) X.A (spliced (y9 pos (j8 es X.env))) (AP X pins σ Q) X.xe s
end Irr
namespace Irr
set_option allowUnsafeReducibility true in
@[scoped irreducible] def _root_.L2.PS (X:Cx) (st:Stmt) (t:TS):Prop :=
 ∀(pins:List (Addr × Obj)) (s:Shared) (σ:St) (H:Hp) (D:og),Inv X pins σ H s->t D σ H->wpAny (model X.prog X.w) X.A (exec st X.env) (SP X pins D) X.xe s
end Irr
namespace Irr
set_option allowUnsafeReducibility true in
@[scoped irreducible] def _root_.L2.PSs (X:Cx) (st:List Stmt) (t:TS):Prop :=
 ∀(pins:List (Addr × Obj)) (s:Shared) (σ:St) (H:Hp) (D:og),Inv X pins σ H s->t D σ H->wpAny (model X.prog X.w) X.A (execs st X.env) (SP X pins D) X.xe s
end Irr
theorem thn {t:Sem α} {Q B:α->Shared->Prop} (h:wpAny M A t Q E s) (F : ∀a s,Q a s->B a s):wpAny M A t B E s:=x8 h F λ_ _ x=>x
section
variable {X:Cx}
def Ce (i:Nat):TE:=λσ H Q=>∃v,σ[i]? = some (some v)/\Q v H
def tC (v:V):TE:=λ_ H Q=>Q v H
theorem Ek (hN:X.N[i]? = some x) (Z:Vis X.env.scope x) (L:(x ==("__debug__" : Str))=false:=by decide) (Y:(x ==("__classdict__" : Str))=false:=by decide):PE X (.Name x pos) (Ce i):=by
 intro pins s σ H Q I h;obtain⟨v,e,h⟩:=h;obtain⟨m,hn,hl⟩:=I.loc;obtain⟨u,r,l⟩:=hl i x v hN e Z;have F:EP X pins σ Q u s:=⟨v,H,I,r,h⟩
 rcases l with⟨B,hm⟩ | ⟨B,c,hc,hcell⟩
 .exact wpAny_Name (wpAny_loadName_local I.ok.kind B hn hm F) L
 .rcases B with B | B
  .exact wpAny_Name (wpAny_loadName_cell I.ok.kind B hc hcell F) L
  .exact wpAny_Name (wpAny_loadName_free I.ok.kind B hc hcell F Y) L
theorem aj {i j pos}:PE X (.Constant (.int i) j pos) (tC (.int i)):=λ_ _ _ H _ I h=>wpAny_Constant_int ⟨.int i,H,I.tok _,⟨_,rfl⟩,h⟩
theorem de {b j pos}:PE X (.Constant (.bool b) j pos) (tC (.bl b)):=λ_ _ _ H _ I h=>Constant_bool ⟨.bl b,H,I,rfl,h⟩
theorem wI {j pos}:PE X (.Constant .none j pos) (tC .non):=λ_ _ _ H _ I h=>Constant_none ⟨.non,H,I,rfl,h⟩
theorem aH {x j pos}:PE X (.Constant (.str x) j pos) (tC (.str x)):=λ_ _ _ H _ I h=>Calls.Constant_str ⟨.str x,H,I.tok _,⟨_,rfl⟩,h⟩
def Gl (X:Cx) (x:Str):Prop:=X.env.kindOf x=some .globalImplicit
theorem ox {σ:St} {H:Hp} (I:Inv X pins σ H s) (F:Gl X x) (B:X.mg x=some u) (h:Q u s)
  (L:(x ==("__debug__" : Str))=false:=by decide):wpAny (model X.prog X.w) X.A (eval (.Name x pos) X.env) Q E s :=
 Calls.Name_function_global I.ok.kind F (Calls.loadGlobal_global (by rw[I.ok.glob];exact I.mod.glob.keeps I.bk) B h) L
theorem fZ {σ:St} {H:Hp} (I:Inv X pins σ H s) (L:Gl X x) (F:X.mg x=none) (B:y2 x=some u) (h:Q u s)
  (hn:x ≠ "__name__" := by decide) (Y:(x ==("__debug__" : Str))=false:=by decide):wpAny (model X.prog X.w) X.A (eval (.Name x pos) X.env) Q E s:=by
 obtain⟨mb,h1,h2⟩:=I.mod.blt;exact Calls.Name_function_global I.ok.kind L (Calls.loadGlobal_builtin (by rw[I.ok.glob];exact I.mod.glob.keeps I.bk) F (by rw[I.ok.blt];exact h1.keeps I.bk) ((h2 x hn).trans B) h) Y
theorem Br {v:V} (F:Gl X x) (B:X.mg x=some u) (r:bg v u) (L:(x ==("__debug__" : Str))=false:=by decide):PE X (.Name x pos) (tC v) :=
 λ_ _ _ H _ I h=>ox I F B ⟨v,H,I,r,h⟩ L
theorem Cl {v:V} (L:Gl X x) (F:X.mg x=none) (B:y2 x=some u) (r:bg v u) (hn:x ≠ "__name__" := by decide) (Y:(x ==("__debug__" : Str))=false:=by decide):PE X (.Name x pos) (tC v) :=
 λ_ _ _ H _ I h=>fZ I L F B ⟨v,H,I,r,h⟩ hn Y
variable {a b:Expr} {ta tb:TE}
def PC (X:Cx) (F:CmpOp) (a b:Expr) (t:TE):Prop :=
 ∀ (pins:List (Addr × Obj)) (s:Shared) (σ:St) (H:Hp) (Q:VK),Inv X pins σ H s->t σ H Q ->
  wpAny (model X.prog X.w) X.A (eval a X.env) (λv s₁=>wpAny (model X.prog X.w) X.A (eval b X.env) (λu B=>wpAny (model X.prog X.w) X.A (p_ F v u) (EP X pins σ Q) X.xe B) X.xe s₁) X.xe s
theorem ve (b:Expr) {B:CmpOp} (h:B≠.In) (h2:B≠.NotIn):GZ B b=false:=by
 have e1:(B == CmpOp.In)=false:=by cases B <;> first | rfl | exact absurd rfl h
 have e2:(B == CmpOp.NotIn)=false:=by cases B <;> first | rfl | exact absurd rfl h2
 cases b <;> simp[GZ,e1,e2]
def wg (ta:TE):TE:=λσ H Q=>ta σ H λx H1=>Q (.bl (decide (x = .non))) H1
theorem bg.none_iff {x:V} {v:Value} (r:bg x v):(v == p9)=decide (x = .non):=by
 cases x with
 | non=>cases r;rfl
 | bl _=>cases r;rfl
 | int _=>obtain⟨t,rfl⟩:=r;rfl
 | str _=>obtain⟨t,rfl⟩:=r;rfl
 | byt _=>obtain⟨t,rfl⟩:=r;rfl
 | flt _=>obtain⟨t,rfl⟩:=r;rfl
 | ref _=>cases r;rfl
 | ty _=>cases r;rfl
theorem kI {j pos'} (ha:PE X a ta):PC X .Is a (.Constant .none j pos') (wg ta):=by
 intro pins s σ H Q I h;refine thn (ha pins s σ H _ I h) λv Z B=>?_
 obtain⟨x,H1,F,L,Y⟩:=B;exact Constant_none (is_none_gen ⟨.bl _,H1,F,by rw[L.none_iff];rfl,Y⟩)
def tB (t:TE):TT:=λσ H Q=>t σ H λx H1=>∃c,x = .bl c/\Q c H1
theorem kJ {B:CmpOp} {t:TE} (h:PC X B a b t) (h1:GZ B b=false:=by first | exact ve _ ∅ ∅ | rfl):PE X (.Compare a [B] [b] pos) t:=λpins s σ H Q I F=>wpAny_Compare1 (h pins s σ H Q I F) h1
theorem qj {F:CmpOp} {t:TE} (h:PC X F a b t) (h1:GZ F b=false:=by first | exact ve _ ∅ ∅ | rfl):PT X (.Compare a [F] [b] pos) (tB t):=by
 intro pins s σ H Q I L;refine wpAny_isTrue_Compare1 (thn (h pins s σ H _ I L) λv s1 h1=>thn h1 λu s2 h2=>thn h2 λc s3 B=>?_) h1
 obtain⟨x,H1,I1,Y,Z⟩:=B;obtain⟨d,rfl,q⟩:=Z;cases Y;exact y7 ⟨H1,I1,q⟩
theorem gi {t:TE} (h:PE X e t) (he : ∀B,isTrue e X.env B=(do let v <- B;standAt e.pos;holding [v] (truthy v)):=by intro _;rfl):PT X e (tB t):=by
 intro pins s σ H Q I L;refine isTrue_plain (thn (h pins s σ H _ I L) λv s1 F=>?_) (he _)
 obtain⟨x,H1,I1,Y,Z⟩:=F;obtain⟨d,rfl,q⟩:=Z;cases Y;exact y7 ⟨H1,I1,q⟩
variable {tA tB':TT} {rest:List Expr}
def DT (t u:TT):TT:=λσ H Q=>t σ H λc H1=>if c=true then u σ H1 Q else Q false H1
def tOr (t u:TT):TT:=λσ H Q=>t σ H λc H1=>if c=true then Q true H1 else u σ H1 Q
def DV (t:TT):TT:=λσ H Q=>t σ H λc H1=>Q (!c) H1
theorem si (ha:PT X a tA):PW X (.BoolOp .And [a] pos) tA:=by
 intro F pins s σ H Q I h;refine isTrue_and (thn (ha pins s σ H Q I h) λc B e=>?_)
 cases c with
 | true=>exact isTrue_and_nil e
 | false=>exact e
theorem sU (ha:PT X a tA):PW X (.BoolOp .Or [a] pos) tA:=by
 intro F pins s σ H Q I h;refine isTrue_or (thn (ha pins s σ H Q I h) λc B e=>?_)
 cases c with
 | false=>exact isTrue_or_nil e
 | true=>exact e
theorem rQ (ha:PT X a tA) (Z:PW X (.BoolOp .And (b :: rest) pos) tB'):PW X (.BoolOp .And (a :: b :: rest) pos) (DT tA tB'):=by
 intro wh pins s σ H Q I h;refine isTrue_and (thn (ha pins s σ H _ I h) λc Y B=>?_)
 obtain⟨H1,F,L⟩:=B;cases c with
 | true=>exact Z wh pins Y σ H1 Q F L
 | false=>exact⟨H1,F,L⟩
theorem ux (ha:PT X a tA) (Z:PW X (.BoolOp .Or (b :: rest) pos) tB'):PW X (.BoolOp .Or (a :: b :: rest) pos) (tOr tA tB'):=by
 intro wh pins s σ H Q I h;refine isTrue_or (thn (ha pins s σ H _ I h) λc Y B=>?_)
 obtain⟨H1,L,F⟩:=B;cases c with
 | true=>exact⟨H1,L,F⟩
 | false=>exact Z wh pins Y σ H1 Q L F
theorem sF (ha:PT X a tA):PT X (.UnaryOp .Not a pos) (DV tA):=by
 intro pins s σ H Q I h;exact isTrue_not (ha pins s σ H (λc H1=>Q (!c) H1) I h)
def AZ (ta tb:TE):TE:=λσ H Q=>ta σ H λx H1=>∃c,x = .bl c/\if c=true then tb σ H1 Q else Q (.bl false) H1
def En (ta tb:TE):TE:=λσ H Q=>ta σ H λx H1=>∃c,x = .bl c/\if c=true then Q (.bl true) H1 else tb σ H1 Q
def zG (ta:TE):TE:=λσ H Q=>ta σ H λx H1=>∃c,x = .bl c/\Q (.bl (!c)) H1
theorem dS {op} {t:TE} (h:PE X a t):PE X (.BoolOp op [a] pos) t:=λpins s σ H Q I B=>BoolOp_one (h pins s σ H Q I B)
theorem pv (ha:PE X a ta) (hb:PE X (.BoolOp .And (b :: rest) pos) tb):PE X (.BoolOp .And (a :: b :: rest) pos) (AZ ta tb):=by
 intro pins s σ H Q I h;refine BoolOp_and (thn (ha pins s σ H _ I h) λv Y B=>?_)
 obtain⟨x,H1,L,Z,F⟩:=B;obtain⟨c,rfl,F⟩:=F;cases Z;refine y7 ?_
 cases c with
 | true=>exact hb pins Y σ H1 Q L F
 | false=>exact⟨.bl false,H1,L,rfl,F⟩
theorem jT (ha:PE X a ta) (hb:PE X (.BoolOp .Or (b :: rest) pos) tb):PE X (.BoolOp .Or (a :: b :: rest) pos) (En ta tb):=by
 intro pins s σ H Q I h;refine BoolOp_or (thn (ha pins s σ H _ I h) λv Y B=>?_)
 obtain⟨x,H1,L,Z,F⟩:=B;obtain⟨c,rfl,F⟩:=F;cases Z;refine y7 ?_
 cases c with
 | false=>exact hb pins Y σ H1 Q L F
 | true=>exact⟨.bl true,H1,L,rfl,F⟩
theorem wC (ha:PE X a ta):PE X (.UnaryOp .Not a pos) (zG ta):=by
 intro pins s σ H Q I h;refine UnaryOp_ (thn (ha pins s σ H _ I h) λv Z B=>?_)
 obtain⟨x,H1,L,Y,F⟩:=B;obtain⟨c,rfl,F⟩:=F;cases Y;exact not_of (y7 ⟨.bl (!c),H1,L,rfl,F⟩)
end
def SqL (K:e_) (H:Hp) (a:Addr) (xs:List V):Prop :=
 Rd H a (.lst xs) \/
  ∃(o:Obj) (its:Array Value) (n:Nat),K.lookup a=some o/\o.cls = .type "list" /\ o.dict=none/\o.data = .seq its n/\its.size<=g9/\be xs its.toList
def SqT (K:e_) (H:Hp) (a:Addr) (xs:List V):Prop :=
 Rd H a (.tup xs) \/
  ∃(o:Obj) (its:Array Value) (n:Nat),K.lookup a=some o/\o.cls = .type "tuple" /\ o.data = .seq its n/\its.size<=g9/\be xs its.toList
def Gr:Value->Option V
 | .none=>some .non
 | .bool b=>some (.bl b)
 | .int i _=>some (.int i)
 | .str x _=>some (.str x)
 | .bytes b _=>some (.byt b)
 | .float b _=>some (.flt b)
 | .ref a=>some (.ref a)
 | .type n=>some (.ty n)
 | _=>none
theorem bg.abs {x:V} (r:bg x u):Gr u=some x:=by
 cases x with
 | non=>cases r;rfl
 | bl _=>cases r;rfl
 | int _=>obtain⟨t,rfl⟩:=r;rfl
 | str _=>obtain⟨t,rfl⟩:=r;rfl
 | byt _=>obtain⟨t,rfl⟩:=r;rfl
 | flt _=>obtain⟨t,rfl⟩:=r;rfl
 | ref _=>cases r;rfl
 | ty _=>cases r;rfl
theorem bg.inj {x y:V} {u:Value} (r:bg x u) (q:bg y u):x=y:=fx (r.abs.symm.trans q.abs)
theorem be.inj : ∀{xs ys:List V} {us:List Value},be xs us->be ys us->xs=ys
 | _,_,_,.nil,.nil=>rfl
 | _,_,_,.cons r t,.cons r' t'=>by rw[r.inj r',be.inj t t']
section
variable {X:Cx} {σ:St} {H:Hp} {xs ys:List V}
theorem SqL.of (h:H a*>xs):SqL K H a xs:=.inl (.inl h)
theorem SqT.of (h:H a>>xs):SqT K H a xs:=.inl (.inl h)
theorem Inv.list (I:Inv X pins σ H s) (h:SqL X.K H a xs) : ∃its:List Value,be xs its/\PlainL s.heap a its.toArray/\xs.length<=g9:=by
 rcases h with h | ⟨o,its,n,hk,hc,hd,hs,hz,r⟩
 .obtain⟨z,its,n,r,e⟩:=h.ok I.hok
  exact⟨its,r,⟨_,n,e,rfl,rfl,rfl⟩,z⟩
 .refine⟨its.toList,r,⟨o,n,I.kIn a o hk,hc,hd,by simpa using hs⟩,?_⟩
  have e:=r.length;simp only[y4] at e;omega
theorem Inv.tuple (I:Inv X pins σ H s) (h:SqT X.K H a xs) : ∃its:List Value,be xs its/\IsTup s.heap a its.toArray/\xs.length<=g9:=by
 rcases h with h | ⟨o,its,n,hk,hc,hs,hz,r⟩
 .obtain⟨z,its,r,p⟩:=h.ok I.hok
  exact⟨its,r,p,z⟩
 .refine⟨its.toList,r,⟨o,I.kIn a o hk,hc,n,by simpa using hs⟩,?_⟩
  have e:=r.length;simp only[y4] at e;omega
theorem Inv.list_inj (I:Inv X pins σ H s) (h:SqL X.K H a xs) (h':SqL X.K H a ys):xs=ys:=by
 obtain⟨its,r,⟨o,n,e,_,_,d⟩,_⟩:=I.list h;obtain⟨its',r',⟨o',F,B,_,_,d'⟩,_⟩:=I.list h';rw[e] at B;cases B;rw[d] at d'
 injection d' with d1 _
 have:its=its':=by simpa using congrArg Array.toList d1
 subst this;exact r.inj r'
theorem Inv.tuple_inj (I:Inv X pins σ H s) (h:SqT X.K H a xs) (h':SqT X.K H a ys):xs=ys:=by
 obtain⟨its,r,⟨o,e,_,n,d⟩,_⟩:=I.tuple h;obtain⟨its',r',⟨o',B,_,F,d'⟩,_⟩:=I.tuple h';rw[e] at B;cases B;rw[d] at d'
 injection d' with d1 _
 have:its=its':=by simpa using congrArg Array.toList d1
 subst this;exact r.inj r'
end
abbrev Cx.wish (X:Cx) (E:Value->Shared->Prop):Cx:={ X with xe:=E }
abbrev Cx.nox (X:Cx):Cx:=X.wish λ_ _=>False
theorem Cx.Ok.wish {X:Cx} (ok:X.Ok) (E:Value->Shared->Prop):(X.wish E).Ok :=
 ⟨ok.mod,ok.kind,ok.glob,ok.blt,ok.above,ok.inj,ok.has,ok.cab,ok.hd,ok.frames,ok.stk,ok.exf,ok.bs,ok.bsz,ok.noex,ok.exfs,ok.funs,ok.frf⟩
theorem Cx.Ok.unwish {X:Cx} (ok:(X.wish E).Ok):X.Ok :=
 ⟨ok.mod,ok.kind,ok.glob,ok.blt,ok.above,ok.inj,ok.has,ok.cab,ok.hd,ok.frames,ok.stk,ok.exf,ok.bs,ok.bsz,ok.noex,ok.exfs,ok.funs,ok.frf⟩
section
variable {X:Cx} {σ:St} {H:Hp}
theorem Inv.wish (I:Inv X pins σ H s) (E:Value->Shared->Prop):Inv (X.wish E) pins σ H s:=⟨I.ok.wish E,I.os,I.bare,I.base,I.loc,I.cell,I.free,I.freeC,I.pin,I.hok,I.len⟩
theorem Inv.unwish (I:Inv (X.wish E) pins σ H s):Inv X pins σ H s:=⟨I.ok.unwish,I.os,I.bare,I.base,I.loc,I.cell,I.free,I.freeC,I.pin,I.hok,I.len⟩
theorem SP.unwish {D:og} {f:Flow} {s':Shared} (h:SP (X.wish E) pins D f s'):SP X pins D f s':=by
 cases f with
 | next=>obtain⟨σ',H',I,q⟩:=h;exact⟨σ',H',I.unwish,q⟩
 | brk=>obtain⟨σ',H',I,q⟩:=h;exact⟨σ',H',I.unwish,q⟩
 | cont=>obtain⟨σ',H',I,q⟩:=h;exact⟨σ',H',I.unwish,q⟩
 | ret u=>obtain⟨v,σ',H',I,r,q⟩:=h;exact⟨v,σ',H',I.unwish,r,q⟩
theorem PSs.nox {st:List Stmt} {t:TS} (h:PSs X.nox st t):PSs X st t:=λpins s σ H D I B =>
 x8 (h pins s σ H D (I.wish _) B) (λ_ _ q=>q.unwish) λ_ _ z=>zc z
end
section
variable {X:Cx} {t u:TS} {te:TE}
def AM:TS:=λD σ H=>D.nx σ H
def mQ (t u:TS):TS:=λD σ H=>t { D with nx:=u D } σ H
theorem aO:PSs X [] AM:=λ_ _ σ H _ I h=>wpAny_execs_nil ⟨σ,H,I,h⟩
theorem af (h1:PS X st t) (h2:PSs X rest u):PSs X (st :: rest) (mQ t u):=by
 intro pins s σ H D I h;refine wpAny_execs_cons (thn (h1 pins s σ H { D with nx:=u D } I h) λf B q=>?_)
 cases f with
 | next =>
  obtain⟨σ',H',F,q⟩:=q;exact h2 pins B σ' H' D F q
 | ret v=>exact q
 | brk=>exact q
 | cont=>exact q
theorem ak (h1:PS X st t):PSs X [st] t:=by
 intro pins s σ H D I h;refine wpAny_execs_cons (thn (h1 pins s σ H D I h) λf B q=>?_)
 cases f with
 | next=>exact wpAny_execs_nil q
 | ret v=>exact q
 | brk=>exact q
 | cont=>exact q
theorem Inv.quiet {σ:St} {H:Hp} (I:Inv X pins σ H s):interactive X.env=false:=by simp[interactive,I.ok.kind]
def AE (te:TE):TS:=λD σ H=>te σ H λ_ H1=>D.nx σ H1
theorem cz (F:PE X e te) (Y:Ir e none pos.line X.env=pure false:=by rfl):PS X (.Expr e pos) (AE te):=by
 intro pins s σ H D I h;exact wpAny_Expr_any (thn (F pins s σ H _ I h) λv s1 B=>by obtain⟨x,H1,L,r1,Z⟩:=B;exact(⟨σ,H1,L,Z⟩)) I.quiet Y
def Dk (te:TE):TS:=λD σ H=>te σ H D.rt
theorem aB (F:PE X e te):PS X (.Return (some e) pos) (Dk te):=by
 intro pins s σ H D I h;exact wpAny_Return_some (thn (F pins s σ H _ I h) λv s1 B=>by obtain⟨x,H1,L,Y,Z⟩:=B;exact(⟨x,σ,H1,L,Y,Z⟩))
def Eb (c:TT) (t u:TS):TS:=λD σ H=>c σ H λb H1=>if b=true then t D σ H1 else u D σ H1
theorem bv {c:Expr} {a b:List Stmt} {tc:TT} (hc:PT X c tc) (ha:PSs X a t) (Z:PSs X b u):PS X (.If c a b pos) (Eb tc t u):=by
 intro pins s σ H D I h;refine wpAny_If (thn (hc pins s σ H _ I h) λd F B=>?_)
 obtain⟨H1,Y,L⟩:=B;cases d with
 | true=>exact ha pins F σ H1 D Y L
 | false=>exact Z pins F σ H1 D Y L
def wP:TS:=λ_ _ _=>False
theorem dF:PS X st wP:=λ_ _ _ _ _ _ h=>h.elim
end
abbrev TG:=V->St->Hp->(St->Hp->Prop)->Prop
abbrev TGs:=List V->St->Hp->(St->Hp->Prop)->Prop
def PG (X:Cx) (B:Expr) (t:TG):Prop :=
 ∀ (pins:List (Addr × Obj)) (s:Shared) (σ:St) (H:Hp) (v:V) (u:Value) (Q:St->Hp->Prop),Inv X pins σ H s->bg v u->t v σ H Q ->
  wpAny (model X.prog X.w) X.A (assign B X.env u) (λ_ s'=>∃ σ' H',Inv X pins σ' H' s'/\Q σ' H') X.xe s
def PGs (X:Cx) (ts:List Expr) (t:TGs):Prop :=
 ∀ (pins:List (Addr × Obj)) (s:Shared) (σ:St) (H:Hp) (vs:List V) (us:List Value) (Q:St->Hp->Prop),Inv X pins σ H s->be vs us->t vs σ H Q ->
  wpAny (model X.prog X.w) X.A (assignInOrder ((Ib ts X.env).map (·.2)) us) (λ_ s'=>∃ σ' H',Inv X pins σ' H' s'/\Q σ' H') X.xe s
abbrev TIp:=V->V->Hp->VK->Prop
def PIp (X:Cx) (B:Operator) (t:TIp):Prop :=
 ∀ (pins:List (Addr × Obj)) (s:Shared) (σ:St) (H:Hp) (x y:V) (v u:Value) (Q:VK),Inv X pins σ H s->bg x v->bg y u->t x y H Q ->
  wpAny (model X.prog X.w) X.A (inplaceOp B v u) (EP X pins σ Q) X.xe s
section
variable {X:Cx}
def fI (i:Nat):TG:=λv σ H Q=>Q (σ.set i (some v)) H
theorem aA (i:Nat) {x:Str} (F:X.N.Nodup:=by first | assumption | exact of_decide_eq_true (by kernel_rfl)) (hi:X.N[i]? = some x:=by exact rfl) (L:Loc X.env.scope x:=by first | exact Or.inl rfl | exact Or.inr rfl) (B:X.fn x=true\/X.env.scope.names.lookup x=some .local:=by first | exact .inl rfl | exact .inr rfl | assumption):PG X (.Name x pos) (fI i):=by
 intro pins s σ H v u Q I r h;exact wpAny_assign_Name (px I F hi L r (λs' Y=>⟨_,H,Y,h⟩) B)
def zS:TGs:=λvs σ H Q=>vs=[]/\Q σ H
def pE (t:TG) (u:TGs):TGs:=λvs σ H Q=>∃v r,vs=v :: r/\t v σ H λσ' H'=>u r σ' H' Q
theorem jD:PGs X [] zS:=by
 intro pins s σ H vs us Q I r h;obtain⟨e,h⟩:=h;subst e;cases r;exact assignInOrder_nil ⟨σ,H,I,h⟩
theorem cL {t:TG} {u:TGs} (h1:PG X e t) (h2:PGs X es u)
  (Y:(Ib (e :: es) X.env).map (·.2)=assign e X.env ::(Ib es X.env).map (·.2):=by rfl):PGs X (e :: es) (pE t u):=by
 intro pins s σ H vs us Q I r h;obtain⟨v,vr,e1,h⟩:=h;subst e1;cases r with
 | cons r rr =>
  rw[Y];refine assignInOrder_cons (thn (h1 pins s σ H _ _ _ I r h) λ_ L B=>?_)
  obtain⟨F,H1,I1,Z⟩:=B;exact h2 pins L F H1 _ _ Q I1 rr Z
def GE (K:e_) (n:Nat) (t:TGs):TG:=λv σ H Q=>∃a xs,v = .ref a/\SqT K H a xs/\xs.length=n/\t xs σ H Q
theorem Do {t:TGs} (hc:X.calm=true) (h:PGs X es t)
  (hn:(Ib es X.env).length=n:=by rfl) (B:(Ib es X.env).findIdx? (·.1)=none:=by rfl):PG X (.Tuple es k pos) (GE X.K n t):=by
 intro pins s σ H v u Q I r F;obtain⟨a,xs,e1,Y,hl,F⟩:=F;subst e1;cases r;obtain⟨its,L,ht,hz⟩:=I.tuple Y;refine assign_Tuple_tuple (I.ok.hd hc) ht (by simp[hn,<- hl,L.length]) B λh' Z=>?_
 have I1:Inv X pins σ H { s with heap:=h' }:=I.kept (t':=s.toks) λb o e=>Z b o (k7 (e8 e)) e
 exact h pins _ σ H xs _ Q I1 (by simpa using L) F
def xG (te:TE) (g:TG):TS:=λD σ H=>te σ H λx H1=>g x σ H1 D.nx
theorem Ep {te:TE} {g:TG} (he:PE X e te) (F:PG X tg g) (hs:swapsWithSole [tg] e pos.line X.env=pure false:=by rfl) (Z:swappedStores [tg] e X.env=pure none:=by rfl)
  (h1:(Ib [tg] X.env).map (·.2)=[assign tg X.env]:=by rfl):PS X (.Assign [tg] e pos) (xG te g):=by
 intro pins s σ H D I h;refine wpAny_Assign_stores (thn (he pins s σ H _ I h) λv L B=>?_) hs Z
 obtain⟨x,H1,I1,Y,q1⟩:=B;rw[h1];exact thn (F pins L σ H1 x v _ I1 Y q1) λ_ s2 q=>q
theorem aD (i:Nat) {x:Str} {e:Expr} {te:TE} {pos':Pos} (he:PE X e te) (hN:X.N.Nodup:=by assumption) (hi:X.N[i]? = some x:=by exact rfl) (F:Loc X.env.scope x:=by first | exact Or.inl rfl | exact Or.inr rfl) (Z:Ir e (some (.Name x pos')) pos.line X.env=pure false:=by rfl) (hf:X.fn x=true\/X.env.scope.names.lookup x=some .local:=by first | exact .inl rfl | exact .inr rfl | assumption) :
  PS X (.Assign [.Name x pos'] e pos) (xG te (fI i)):=by
 intro pins s σ H D I h;refine wpAny_Assign_Name (thn (he pins s σ H _ I h) λv s1 B=>?_) Z
 obtain⟨y,H1,I1,Y,q1⟩:=B;exact px I1 hN hi F Y (λs2 L=>⟨_,H1,L,q1⟩) hf
def Eg (i:Nat) (te:TE) (B:TIp):TS:=λD σ H=>∃x,σ[i]? = some (some x)/\te σ H λy H1=>B x y H1 λz H2=>D.nx (σ.set i (some z)) H2
theorem DX (i:Nat) {x:Str} {e:Expr} {te:TE} {op:Operator} {ti:TIp} {pos':Pos} (he:PE X e te) (ho:PIp X op ti) (hN:X.N.Nodup:=by assumption) (hi:X.N[i]? = some x:=by exact rfl) (hx:Loc X.env.scope x:=by first | exact Or.inl rfl | exact Or.inr rfl) (hf:X.fn x=true\/X.env.scope.names.lookup x=some .local:=by first | exact .inl rfl | exact .inr rfl | assumption) :
  PS X (.AugAssign (.Name x pos') op e pos) (Eg i te ti):=by
 intro pins s σ H D I h;obtain⟨v,e1,h⟩:=h;obtain⟨m,hn,hl⟩:=I.loc;have aa:Vis X.env.scope x:=by rcases hx with k | k;exact .inl k;exact .inr (.inl k)
 obtain⟨u,r,l⟩:=hl i x v hi e1 aa;refine wpAny_AugAssign_Name ?_
 have go:wpAny (model X.prog X.w) X.A (eval e X.env) (λw Y=>wpAny (model X.prog X.w) X.A (inplaceOp op u w) (λr Z=>wpAny (model X.prog X.w) X.A (storeName X.env x r) (λ_=>SP X pins D .next) X.xe Z) X.xe Y) X.xe s:=by
  refine thn (he pins s σ H _ I h) λw s1 F=>?_
  obtain⟨y,H1,I1,r1,q1⟩:=F;refine thn (ho pins s1 σ H1 v y u w _ I1 r r1 q1) λz s2 B=>?_
  obtain⟨zv,H2,I2,r2,q2⟩:=B;exact px I2 hN hi hx r2 (λs3 I3=>⟨_,H2,I3,q2⟩) hf
 rcases l with⟨L,hm⟩ | ⟨L,c,hc,hcell⟩
 .exact wpAny_loadName_local I.ok.kind L hn hm go
 .rcases L with L | L
  .exact wpAny_loadName_cell I.ok.kind L hc hcell go
  .rcases hx with k | k
   .have:X.env.scope.names.lookup x=some .free:=L
    rw[k] at this;cases this
   .have:X.env.scope.names.lookup x=some .free:=L
    rw[k] at this;cases this
end
section
variable {X:Cx}
def wE (c:TT) (tb:TS):TS:=λD σ H=>∃W:Nat->St->Hp->Prop,(∃m,W m σ H)/\∀m σ H,W m σ H ->
 c σ H λb H1=>if b=true then ∃N:St->Hp->Prop,(∀ σ' H',N σ' H'->∃B,B < m/\W B σ' H')/\tb { D with nx:=N,ct:=N,bk:=D.nx } σ H1 else D.nx σ H1
theorem uD {c:Expr} {tc:TT} {tb:TS} (hp:PassesOwn (model X.prog X.w) X.A X.env X.xe) (hc:PT X c tc) (hb:PSs X body tb):PS X (.While c body [] pos) (wE tc tb):=by
 intro pins s σ H D I h;obtain⟨W,⟨m0,w0⟩,Y⟩:=h;refine wpAny_While (codeAny_whileLoop (λn s'=>∃ σ' H',Inv X pins σ' H' s'/\W n σ' H') ?_ m0 ⟨σ,H,I,w0⟩)
 rintro n s1 ⟨F,H1,I1,w1⟩
 refine GV hp (thn (hc pins s1 F H1 _ I1 (Y n F H1 w1)) λb s2 L=>?_)
 obtain⟨H2,I2,q2⟩:=L;cases b with
 | true =>
  obtain⟨N,hN,q2⟩:=q2;rw[if_pos rfl];refine GV hp (thn (hb pins s2 F H2 _ I2 q2) λf s3 q3=>?_)
  cases f with
  | next =>
   obtain⟨B,Z,I3,n3⟩:=q3;obtain⟨m',hm,w3⟩:=hN B Z n3;exact⟨m',hm,B,Z,I3,w3⟩
  | cont =>
   obtain⟨B,Z,I3,n3⟩:=q3;obtain⟨m',hm,w3⟩:=hN B Z n3;exact⟨m',hm,B,Z,I3,w3⟩
  | brk=>exact q3
  | ret v=>exact q3
 | false =>
  rw[if_neg i_];exact wpAny_execs_nil ⟨F,H2,I2,q2⟩
end
structure It where
 go:Nat->Hp->Prop
 yld:Nat->Hp->V->Hp->Prop
 stop:Nat->Hp->Prop
def oM (X:Cx) (pins:List (Addr × Obj)) (H:Hp) (b:Addr):Prop :=
 H b=none/\b≠X.env.locals/\b∉X.fs/\(b∈X.ex\/X.s₀.heap.objs.size<=b)/\(∀x c,X.env.cells.lookup x=some c->c≠b)/\∀p∈X.pn++pins,p.1≠b
theorem Inv.fpOk {X:Cx} {σ:St} {H H':Hp} (I:Inv X pins σ H s) (B:s.heap.objs.size<=b) (hn:H' b=none):oM X pins H' b:=by
 refine⟨hn,o_ (g7 I.lt B),I.nofs B,.inr (gr I.sz B),λx c e z=>?_,λp hp z=>?_⟩
 .obtain⟨v,q⟩:=I.cell x c e
  exact absurd (g7 q.lt (by rw[z];exact B)) (o7 _)
 .exact absurd (g7 (e8 (I.pin p hp).1) (by rw[z];exact B)) (o7 _)
structure rR (P:Program) (w:World) (K:e_) (tg:Expr) (J:It) (fp:List Addr) (it:Addr) (tn:Nat->Heap->Prop):Prop where
 mem:it∈fp
 obj : ∀i h,tn i h->∀b∈fp,∃o,h.get? b=some o/\∀v,o.data≠.cell v
 keep : ∀i h h',tn i h->(∀b∈fp,∀o,h.get? b=some o->h'.get? b=some o)->tn i h'
 item : ∀(X:Cx),X.prog=P->X.w=w->X.K=K->X.calm=true->∀(i:Nat) (pins:List (Addr × Obj)) (s:Shared) (σ:St) (H:Hp) (E:Value->Shared->Prop),Inv X pins σ H s->(∀b∈fp,oM X pins H b)->tn i s.heap->J.go i H ->
  wpAny (model P w) X.A (Hr (.ref it)) (λr s1=>∃u,r=some u /\
   wpAny (model P w) X.A (letOwnedTupleGo tg (.ref it) u) (λ_ s2=>∃x H',Inv X pins σ H' s2/\bg x u/\J.yld i H x H'/\tn (i+1) s2.heap/\∀b∈fp,H' b=none) E s1) E s
 done : ∀(X:Cx),X.prog=P->X.w=w->X.K=K->X.calm=true->∀(i:Nat) (pins:List (Addr × Obj)) (s:Shared) (σ:St) (H:Hp) (E:Value->Shared->Prop),Inv X pins σ H s->(∀b∈fp,oM X pins H b)->tn i s.heap->J.stop i H ->
  wpAny (model P w) X.A (Hr (.ref it)) (λr s1=>r=none/\Inv X pins σ H s1) E s
 self : ∀(A:Around) (i:Nat) (s:Shared) (Q:Value->Shared->Prop) (E:Value->Shared->Prop),tn i s.heap->Q (.ref it) s->wpAny (model P w) A (pyIter (.ref it)) Q E s
abbrev TI:=St->Hp->(It->Hp->Prop)->Prop
def PIE (X:Cx) (pins:List (Addr × Obj)) (σ:St) (tg:Expr) (R:It->Hp->Prop) (B:Value) (F:Shared):Prop :=
 ∃(it:Addr) (fp:List Addr) (L:Nat->Heap->Prop) (J:It) (H':Hp),B = .ref it/\Inv X pins σ H' F/\rR X.prog X.w X.K tg J fp it L/\L 0 F.heap/\(∀b∈fp,oM X pins H' b)/\R J H'
def PI (X:Cx) (tg iter:Expr) (wi:TI):Prop :=
 ∀ (pins:List (Addr × Obj)) (s:Shared) (σ:St) (H:Hp) (R:It->Hp->Prop),Inv X pins σ H s->wi σ H R ->
  wpAny (model X.prog X.w) X.A (eval iter X.env) (λv B=>wpAny (model X.prog X.w) X.A (pyIter v) (PIE X pins σ tg R) X.xe B) X.xe s
theorem qP {o:Obj} {n:String} {vs:Array Value} {Q:Unit->Shared->Prop} (L:s.heap.get? it=some o) (Y:o.cls = .type n) (F:o.data = .fields vs)
    (hn:["enumerate","zip","dict_itemiterator","dict_reverseitemiterator","odict_iterator","itertools.zip_longest","itertools.pairwise"].contains n=false) (B:Q Unit.unit s):wpAny M A (letOwnedTupleGo tg (.ref it) u) Q E s:=by
  unfold letOwnedTupleGo;cases tg <;> first
    | exact ei B
    | (cases u <;> first
        | exact ei B
        | (refine a_ (wpAny_load L ?_)
           rw[Y,F]
           show wpAny M A (if (["enumerate","zip","dict_itemiterator","dict_reverseitemiterator","odict_iterator","itertools.zip_longest","itertools.pairwise"].contains n && vs[0]? == some (x5 _))=true then _ else _) Q E s
           rw[if_neg (by intro h;rw[hn,Bool.false_and] at h;cases h)]
           exact ei B))
def Itl (K:e_) (a:Addr):It :=
 ⟨λi H=>∃xs x,SqL K H a xs/\xs[i]? = some x,λi H x H'=>H'=H/\∀xs,SqL K H a xs->xs[i]? = some x,λi H=>∃xs,SqL K H a xs/\xs.length<=i⟩
def Itt (K:e_) (a:Addr):It :=
 ⟨λi H=>∃xs x,SqT K H a xs/\xs[i]? = some x,λi H x H'=>H'=H/\∀xs,SqT K H a xs->xs[i]? = some x,λi H=>∃xs,SqT K H a xs/\xs.length<=i⟩
def Itr (lo:Int) (n:Nat):It:=⟨λi _=>i < n,λi H x H'=>H'=H/\x = .int (lo+i),λi _=>n<=i⟩
theorem yE (a it:Addr):rR P w K tg (Itl K a) [it] it (λi h=>h.IsListIter it a i) where
 mem:=by simp
 obj:=λi h st b B=>by
  have e:b=it:=by simpa using B
  subst e;obtain⟨o,e,c,d⟩:=st;exact⟨o,e,λv z=>by rw[d] at z;cases z⟩
 keep:=λi h h' st k=>st.at λo e=>k it (by simp) o e
 item:=by
  intro X hP hw hK hc i pins s σ H E I Y st hg;subst hP hw hK;obtain⟨xs,x,L,hx⟩:=hg;obtain⟨its,rv,p,hz⟩:=I.list L;obtain⟨u,hu,ru⟩:=rv.get hx;obtain⟨f0,f1,f2,f3,Z,f5⟩:=Y it (by simp)
  refine wpAny_pyNext_list_item st p.isList (x:=u) (by simpa using hu) λh' F sb=>?_
  have I1:Inv X pins σ H { s with heap:=h' }:=I.turned (t':=s.toks) (λb o B e=>(sb.2 b B).trans e) f0 f1 f3 Z f5
  obtain⟨o,e,c,d⟩:=id F;exact⟨u,rfl,qP (s:={ s with heap:=h' }) e c d ∅ ⟨x,H,I1,ru,⟨rfl,λys hy=>by rw[I.list_inj hy L];exact hx⟩,F,λb B=>(Y b B).1⟩⟩
 done:=by
  intro X hP hw hK hc i pins s σ H E I Y st hg;subst hP hw hK;obtain⟨xs,L,hx⟩:=hg;obtain⟨its,rv,p,hz⟩:=I.list L;obtain⟨f0,f1,f2,f3,Z,f5⟩:=Y it (by simp)
  have hl:=rv.length;exact wpAny_pyNext_list_end (I.ok.hd hc) st p.isList (by simp;omega) λh' eb=>⟨rfl,I.turned (t':=s.toks) (λb o B e=>eb b o B e) f0 f1 f3 Z f5⟩
 self:=λ_ _ _ _ _ st h=>wpAny_pyIter_listiter st h
theorem vh (a it:Addr):rR P w K tg (Itt K a) [it] it (λi h=>h.IsTupleIter it a i) where
 mem:=by simp
 obj:=λi h st b B=>by
  have e:b=it:=by simpa using B
  subst e;obtain⟨o,e,c,d⟩:=st;exact⟨o,e,λv z=>by rw[d] at z;cases z⟩
 keep:=λi h h' st k=>st.at λo e=>k it (by simp) o e
 item:=by
  intro X hP hw hK hc i pins s σ H E I Y st hg;subst hP hw hK;obtain⟨xs,x,L,hx⟩:=hg;obtain⟨its,rv,p,hz⟩:=I.tuple L;obtain⟨u,hu,ru⟩:=rv.get hx;obtain⟨f0,f1,f2,f3,Z,f5⟩:=Y it (by simp)
  refine wpAny_pyNext_tuple_item st (show s.heap.IsTuple a its.toArray from p) (x:=u) (by simpa using hu) λh' F sb=>?_
  have I1:Inv X pins σ H { s with heap:=h' }:=I.turned (t':=s.toks) (λb o B e=>(sb.2 b B).trans e) f0 f1 f3 Z f5
  obtain⟨o,e,c,d⟩:=id F;exact⟨u,rfl,qP (s:={ s with heap:=h' }) e c d ∅ ⟨x,H,I1,ru,⟨rfl,λys hy=>by rw[I.tuple_inj hy L];exact hx⟩,F,λb B=>(Y b B).1⟩⟩
 done:=by
  intro X hP hw hK hc i pins s σ H E I Y st hg;subst hP hw hK;obtain⟨xs,L,hx⟩:=hg;obtain⟨its,rv,p,hz⟩:=I.tuple L;obtain⟨f0,f1,f2,f3,Z,f5⟩:=Y it (by simp)
  have hl:=rv.length;exact wpAny_pyNext_tuple_end (I.ok.hd hc) st (show s.heap.IsTuple a its.toArray from p) (by simp;omega) λh' eb=>⟨rfl,I.turned (t':=s.toks) (λb o B e=>eb b o B e) f0 f1 f3 Z f5⟩
 self:=λ_ _ _ _ _ st h=>wpAny_pyIter_tupleiter st h
theorem vq (it:Addr) (lo:Int) (n:Nat):rR P w K tg (Itr lo n) [it] it (λi h=>IsRangeIter h it (lo+(i:Nat) * 1) ((n:Int) - (i:Nat)) 1) where
 mem:=by simp
 obj := λi h st b B=>by
  have e:b=it:=by simpa using B
  subst e;exact⟨_,st,λv z=>by
   have z':Data.fields _=Data.cell v:=z
   cases z'⟩
 keep:=λi h h' st k=>k it (by simp) _ st
 item:=by
  intro X hP hw hK hc i pins s σ H E I L st Z;subst hP hw hK;obtain⟨f0,f1,f2,f3,Y,f5⟩:=L it (by simp)
  have W:=Walks.range (prog:=X.prog) (w:=X.w) (I.ok.hd hc) it lo 1 n;refine W.item i s _ _ Z st λv h' tk hv F kk=>?_
  obtain⟨t,rfl⟩:=hv;have I1:Inv X pins σ H { s with heap:=h',toks:=tk }:=I.turned (λb o B e=>kk b o (by simpa using B) e) f0 f1 f3 Y f5
  refine⟨_,rfl,qP (s:={ s with heap:=h',toks:=tk }) (n := "range_iterator") F rfl rfl ∅ ⟨.int (lo+i),H,I1,⟨t,?_⟩,⟨rfl,rfl⟩,F,λb B=>(L b B).1⟩⟩
  rw[Int.mul_one]
 done:=by
  intro X hP hw hK hc i pins s σ H E I L st Z;subst hP hw hK;obtain⟨f0,f1,f2,f3,Y,f5⟩:=L it (by simp)
  exact wpAny_pyNext_range_end (I.ok.hd hc) st (by have:n<=i:=Z;omega) λh' eb=>⟨rfl,I.turned (t':=s.toks) (λb o B e=>eb b o B e) f0 f1 f3 Y f5⟩
 self:=λ_ _ _ _ _ st h=>wpAny_pyIter_rangeiter st h
section
variable {X:Cx}
theorem A2 {σ:St} {H:Hp} {R:It->Hp->Prop} {hi:Int} {t u v:Tok} (I:Inv X pins σ H s) (h1 : -(2 ^ 62)<=lo) (h2:lo < 2 ^ 62) (Y : -(2 ^ 62)<=hi) (F:hi < 2 ^ 62)
  (q:R (Itr lo (hi - lo).toNat) H):wpAny (model X.prog X.w) X.A (pyIter (.ref s.heap.objs.size)) (PIE X pins σ tg R) E { s with heap:=s.heap.push { cls:=.type "range",data:=.fields #[.int lo t,.int hi u,.int 1 v] },toks:=tk }:=by
 refine wpAny_pyIter_range (IsRange.new ..) (small_one h1 h2 Y F) ?_
 have B:Inv X pins σ H { s with heap:=s.heap.push { cls:=.type "range",data:=.fields #[.int lo t,.int hi u,.int 1 v] },toks:=tk }:=I.kept λb o e=>d_ _ e
 refine⟨(s.heap.push { cls:=.type "range",data:=.fields #[.int lo t,.int hi u,.int 1 v] }).objs.size,[(s.heap.push { cls:=.type "range",data:=.fields #[.int lo t,.int hi u,.int 1 v] }).objs.size],_,_,H,rfl,
  B.kept (t':=tk) λb o e=>d_ _ e,vq _ lo (hi - lo).toNat,?_,λb L=>?_,q⟩
 .have e1:lo+((0:Nat):Int) * 1=lo:=by simp
  have e2:(((hi - lo).toNat:Nat):Int) - ((0:Nat):Int)=Builtin.Range.rangeSize lo hi 1:=by rw[rangeSize_one];split <;> omega
  show IsRangeIter _ _ (lo+((0:Nat):Int) * 1) ((((hi - lo).toNat:Nat):Int) - ((0:Nat):Int)) 1
  rw[e1,e2];exact f_ _ rfl
 .have e:b=(s.heap.push { cls:=.type "range",data:=.fields #[.int lo t,.int hi u,.int 1 v] }).objs.size:=by simpa using L
  subst e;exact B.fpOk (i6 _) (B.hok.fresh (i6 _))
def ze (ta:TA):TI:=λσ H R=>ta σ H λvs H1=>∃j:Int,vs=[.int j]/\-(2 ^ 62)<=j/\j < 2 ^ 62/\R (Itr 0 j.toNat) H1
theorem cZ {a:Expr} {ta:TA} {p:Pos} (Y:Gl X "range") (L:X.mg "range" = none) (ha:PA X [a] ta) (hs:j8 [a] X.env=[(false,eval a X.env)]:=by rfl):PI X tg (.Call (.Name "range" p) [a] [] pos) (ze ta):=by
 intro pins s σ H R I h;refine Call_ (fZ I Y L boot_range (n6 (thn (ha pos pins s σ H _ I h) λus s1 B=>?_) hs rfl))
 obtain⟨vs,H1,I1,Z,F⟩:=B;obtain⟨j,e,F,q2,q⟩:=F;subst e;cases Z with
 | cons r rr =>
  cases rr;obtain⟨t,rfl⟩:=r;exact call_range_1 (A2 I1 () () F q2 (by simpa using q))
def Et (wi:TI) (g:TG) (tb:TS):TS:=λD σ H=>wi σ H λJ H1=>∃W:Nat->Nat->St->Hp->Prop,(∃m,W 0 m σ H1)/\∀i m σ H,W i m σ H ->
 (J.stop i H/\D.nx σ H)\/(J.go i H/\∃N:St->Hp->Prop,(∀ σ' H',N σ' H'->∃F,F < m/\W (i+1) F σ' H')/\∀x H',J.yld i H x H'->g x σ H' λB H2=>tb { D with nx:=N,ct:=N,bk:=D.nx } B H2)
def qa (fp:List Addr) (h:Heap):List (Addr × Obj):=fp.filterMap λb=>(h.get? b).map λo=>(b,o)
theorem jV {o:Obj} (B:b∈fp) (e:h.get? b=some o):(b,o)∈qa fp h:=List.mem_filterMap.mpr ⟨b,B,by rw[e];rfl⟩
theorem xH {p:Addr × Obj} (hp:p∈qa fp h):p.1∈fp/\h.get? p.1=some p.2:=by
 obtain⟨b,B,e⟩:=List.mem_filterMap.mp hp;cases q:h.get? b with
 | none=>rw[q] at e;cases e
 | some o =>
  rw[q] at e;have F:(b,o)=p:=fx e
  subst F;exact⟨B,q⟩
theorem Inv.pinned {σ:St} {H:Hp} (I:Inv X pins σ H s) (Z : ∀b∈fp,oM X pins H b) (Y : ∀b∈fp,∃o,s.heap.get? b=some o/\∀v,o.data≠.cell v):Inv X (pins++qa fp s.heap) σ H s :=
 I.pins_of λp hp=>(i9.mp hp).elim (λz=>I.pin p (n9 _ z)) λz=>by
  obtain⟨B,e⟩:=xH z;obtain⟨f0,f1,L,_⟩:=Z p.1 B;obtain⟨o,F,d⟩:=Y p.1 B;rw[e] at F;cases F;exact⟨e,f0,f1,L,d⟩
theorem Inv.unpinned {pl:List (Addr × Obj)} {σ:St} {H:Hp} (I:Inv X (pins++pl) σ H s):Inv X pins σ H s:=I.pins_of λp hp=>I.pin p (n9 _ (ki _ hp))
theorem bq {wi:TI} {g:TG} {tb:TS} (hi:PI X tg iter wi) (hg:PG X tg g) (F:PSs X body tb) (hp:PassesOwn (model X.prog X.w) X.A X.env X.xe:=by exact PassesOwn.never) (hc:X.calm=true:=by exact rfl)
  (hs : ∀x,foldedSetIterable iter X.env x=pure x:=by intro _;rfl):PS X (.For tg iter body [] pos) (Et wi g tb):=by
 intro pins s σ H D I h;refine wpAny_For (thn (hi pins s σ H _ I h) λv s1 h1=>thn h1 λar s2 h2=>?_) hs
 obtain⟨it,fp,tn,J,H2,e,I2,T,ap,f2,W,⟨m0,w0⟩,ai⟩:=h2;subst e;have aa : ∀{H':Hp},(∀b∈fp,H' b=none)->∀b∈fp,oM X pins H' b:=λhn b F=>⟨hn b F,(f2 b F).2⟩
 refine codeAny_forLoop_any (λn s'=>∃i σ' H',Inv X pins σ' H' s'/\tn i s'.heap/\(∀b∈fp,H' b=none)/\W i n σ' H') ?_ m0 ⟨0,σ,H2,I2,ap,λb F=>(f2 b F).1,w0⟩
 rintro n s3 ⟨i,L,H3,I3,am,aj,w3⟩
 rcases ai i n L H3 w3 with⟨ak,qn⟩ | ⟨go,N,hN,step⟩
 .refine GV hp (thn (T.done X rfl rfl rfl hc i pins s3 L H3 X.xe I3 (aa aj) am ak) λr s4 ag=>?_)
  obtain⟨hr,I4⟩:=ag;subst hr;exact wpAny_execs_nil ⟨L,H3,I4,qn⟩
 .refine GV hp (thn (T.item X rfl rfl rfl hc i pins s3 L H3 X.xe I3 (aa aj) am go) λr s4 ac=>?_)
  obtain⟨u,hr,h4⟩:=ac;subst hr;refine GV hp (thn h4 λ_ s5 ad=>?_)
  obtain⟨x,H5,I5,r5,y5,ah,aq⟩:=ad;have ao:=I5.pinned (aa aq) (T.obj _ _ ah);refine GV hp (thn (hg _ s5 L H5 x u _ ao r5 (step x H5 y5)) λ_ s6 af=>?_)
  obtain⟨an,H6,I6,q6⟩:=af;refine GV hp (thn (F _ s6 an H6 _ I6 q6) λf s7 q7=>?_)
  have ab : ∀{B:St} {Z:Hp},Inv X (pins++qa fp s5.heap) B Z s7->N B Z->∃m,m < n/\∃i σ' H',Inv X pins σ' H' s7/\tn i s7.heap/\(∀b∈fp,H' b=none)/\W i m σ' H':=λ{B Z} Y n7=>by
   obtain⟨m',hm,w7⟩:=hN B Z n7;refine⟨m',hm,i+1,B,Z,Y.unpinned,T.keep _ _ _ ah λb F o e=>(Y.pin (b,o) (n9 _ (n9 _ (jV F e)))).1,λb F=>?_,w7⟩
   obtain⟨o,e,d⟩:=T.obj _ _ ah b F;exact(Y.pin (b,o) (n9 _ (n9 _ (jV F e)))).2.1
  cases f with
  | next=>obtain⟨B,Z,Y,n7⟩:=q7;exact ab Y n7
  | cont=>obtain⟨B,Z,Y,n7⟩:=q7;exact ab Y n7
  | brk=>obtain⟨B,Z,Y,q7⟩:=q7;exact⟨B,Z,Y.unpinned,q7⟩
  | ret v=>obtain⟨x7,B,Z,Y,r7,q7⟩:=q7;exact⟨x7,B,Z,Y.unpinned,r7,q7⟩
end
abbrev R2:=V->V->Hp->VK->Prop
def OpR (X:Cx) (f:Value->Value->Sem Value) (r:R2):Prop :=
 ∀ (pins:List (Addr × Obj)) (s:Shared) (σ:St) (H:Hp) (x y:V) (v u:Value) (Q:VK),Inv X pins σ H s->bg x v->bg y u->r x y H Q ->
  wpAny (model X.prog X.w) X.A (f v u) (EP X pins σ Q) X.xe s
def UnR (X:Cx) (f:Value->Sem Value) (r:V->Hp->VK->Prop):Prop :=
 ∀ (pins:List (Addr × Obj)) (s:Shared) (σ:St) (H:Hp) (x:V) (v:Value) (Q:VK),Inv X pins σ H s->bg x v->r x H Q ->
  wpAny (model X.prog X.w) X.A (f v) (EP X pins σ Q) X.xe s
def bY (X:Cx) (f:Value) (r:List V->Hp->VK->Prop):Prop :=
 ∀ (pins:List (Addr × Obj)) (s:Shared) (σ:St) (H:Hp) (xs:List V) (us:List Value) (Q:VK),Inv X pins σ H s->be xs us->r xs H Q ->
  wpAny (model X.prog X.w) X.A (call f us) (EP X pins σ Q) X.xe s
def tOp (r:R2) (ta tb:TE):TE:=λσ H Q=>ta σ H λx H1=>tb σ H1 λy H2=>r x y H2 Q
def tUn (r:V->Hp->VK->Prop) (ta:TE):TE:=λσ H Q=>ta σ H λx H1=>r x H1 Q
def rI (C:Int->Int->Prop) (g:Int->Int->V):R2:=λx y H Q=>∃i j,x = .int i/\y = .int j/\C i j/\Q (g i j) H
def rI0 (g:Int->Int->V):R2:=λx y H Q=>∃i j,x = .int i/\y = .int j/\Q (g i j) H
def rU (g:Int->V):V->Hp->VK->Prop:=λx H Q=>∃i,x = .int i/\Q (g i) H
section
variable {X:Cx} {a b c:Expr} {ta tb tc:TE}
theorem DH (ha:PE X a ta) (hb:PE X b tb) {pins:List (Addr × Obj)} {s:Shared} {σ:St} {H:Hp} {R:V->V->Hp->Prop} (I:Inv X pins σ H s)
  (h:ta σ H λx H1=>tb σ H1 λy H2=>R x y H2) {Q:Value->Shared->Prop} {f:Value->Value->Sem Value}
  (hf : ∀v u Y x y H2,Inv X pins σ H2 Y->bg x v->bg y u->R x y H2->wpAny (model X.prog X.w) X.A (f v u) Q X.xe Y) :
  wpAny (model X.prog X.w) X.A (eval a X.env) (λv s₁=>wpAny (model X.prog X.w) X.A (eval b X.env) (λu L=>wpAny (model X.prog X.w) X.A (f v u) Q X.xe L) X.xe s₁) X.xe s:=by
 refine thn (ha pins s σ H _ I h) λv s1 F=>?_
 obtain⟨x,H1,I1,r1,q1⟩:=F;refine thn (hb pins s1 σ H1 _ I1 q1) λu Y B=>?_
 obtain⟨y,H2,Z,r2,q2⟩:=B;exact hf v u Y x y H2 Z r1 r2 q2
theorem aT {B:Operator} {r:R2} (ho:OpR X (Ic B) r) (ha:PE X a ta) (hb:PE X b tb):PE X (.BinOp a B b pos) (tOp r ta tb):=by
 intro pins s σ H Q I h;exact wpAny_BinOp (DH ha hb I h λv u F x y H2 Z L Y q=>ho pins F σ H2 x y v u Q Z L Y q)
theorem no {F:UnaryOp} {r:V->Hp->VK->Prop} (Z:UnR X (unaryOp F) r) (ha:PE X a ta):PE X (.UnaryOp F a pos) (tUn r ta):=by
 intro pins s σ H Q I h;exact UnaryOp_ (thn (ha pins s σ H _ I h) λv L B=>by obtain⟨x,H1,I1,Y,q1⟩:=B;exact(Z pins L σ H1 x v Q I1 Y q1))
theorem opI {f:Value->Value->Sem Value} {C:Int->Int->Prop} {g:Int->Int->Int}
  (B : ∀(i j:Int) (t u:Tok) (s:Shared) (Q:Value->Shared->Prop) (E:Value->Shared->Prop),C i j->Q (.int (g i j) s.toks) { s with toks:=s.toks+1 }->wpAny (model X.prog X.w) X.A (f (.int i t) (.int j u)) Q E s) :
  OpR X f (rI C λi j=>.int (g i j)):=by
 intro pins s σ H x y v u Q I F L h;obtain⟨i,j,rfl,rfl,Y,q⟩:=h;obtain⟨t,rfl⟩:=F;obtain⟨t',rfl⟩:=L;exact B i j t t' s _ _ Y ⟨.int (g i j),H,I.tok _,⟨_,rfl⟩,q⟩
theorem ES {f:Value->Value->Sem Value} {g:Int->Int->Int}
  (B : ∀(i j:Int) (t u:Tok) (s:Shared) (Q:Value->Shared->Prop) (E:Value->Shared->Prop),Q (.int (g i j) s.toks) { s with toks:=s.toks+1 }->wpAny (model X.prog X.w) X.A (f (.int i t) (.int j u)) Q E s) :
  OpR X f (rI0 λi j=>.int (g i j)):=by
 intro pins s σ H x y v u Q I F L h;obtain⟨i,j,rfl,rfl,q⟩:=h;obtain⟨t,rfl⟩:=F;obtain⟨t',rfl⟩:=L;exact B i j t t' s _ _ ⟨.int (g i j),H,I.tok _,⟨_,rfl⟩,q⟩
theorem BV {f:Value->Value->Sem Value} {g:Int->Int->Bool}
  (B : ∀(i j:Int) (t u:Tok) (s:Shared) (Q:Value->Shared->Prop) (E:Value->Shared->Prop),Q (.bool (g i j)) s->wpAny (model X.prog X.w) X.A (f (.int i t) (.int j u)) Q E s) :
  OpR X f (rI0 λi j=>.bl (g i j)):=by
 intro pins s σ H x y v u Q I F L h;obtain⟨i,j,rfl,rfl,q⟩:=h;obtain⟨t,rfl⟩:=F;obtain⟨t',rfl⟩:=L;exact B i j t t' s _ _ ⟨.bl (g i j),H,I,rfl,q⟩
def xM (i j:Int):Prop:=(-(2 ^ 64) < i/\i < 2 ^ 64)\/(-(2 ^ 64) < j/\j < 2 ^ 64)
theorem xM.ok {i j:Int} (h:xM i j):IntMulOk i j:=by
 rcases h with⟨h1,h2⟩ | ⟨h1,h2⟩
 .exact .of_left (intBits_le_64 h1 h2)
 .exact .of_right (intBits_le_64 h1 h2)
theorem bj:OpR X (Ic .Add) (rI0 λi j=>.int (i+j)):=ES λ_ _ _ _ _ _ _ q=>add_int q
theorem jc:OpR X (Ic .Sub) (rI0 λi j=>.int (i - j)):=ES λ_ _ _ _ _ _ _ q=>sub_int q
theorem gU:OpR X (Ic .Mult) (rI xM λi j=>.int (i * j)):=opI λ_ _ _ _ _ _ _ B q=>mul_int q B.ok
theorem iH:OpR X (Ic .Mod) (rI (λ_ j=>0 < j) λi j=>.int (i % j)):=opI λi j _ _ _ _ _ B q=>by
 have h1:(0:Int) < j:=B
 exact mod_int' () (by rw[Int.fmod_eq_emod_of_nonneg i ()];exact q)
theorem unI {f:Value->Sem Value} {g:Int->Int}
  (B : ∀(i:Int) (t:Tok) (s:Shared) (Q:Value->Shared->Prop) (E:Value->Shared->Prop),Q (.int (g i) s.toks) { s with toks:=s.toks+1 }->wpAny (model X.prog X.w) X.A (f (.int i t)) Q E s) :
  UnR X f (rU λi=>.int (g i)):=by
 intro pins s σ H x v Q I F h;obtain⟨i,rfl,q⟩:=h;obtain⟨t,rfl⟩:=F;exact B i t s _ _ ⟨.int (g i),H,I.tok _,⟨_,rfl⟩,q⟩
theorem jv:UnR X (unaryOp .USub) (rU λi=>.int (Neg.neg i)):=unI λ_ _ _ _ _ q=>neg_int q
end
def uA:V->V->Bool
 | .non,.non=>true | .non,.int _=>true | .int _,.non=>true | .non,.bl _=>true | .bl _,.non=>true | .non,.str _=>true | .str _,.non=>true
 | .int _,.int _=>true | .bl _,.bl _=>true | .str _,.str _=>true | .byt _,.byt _=>true
 | .int _,.str _=>true | .str _,.int _=>true | .bl _,.str _=>true | .str _,.bl _=>true
 | _,_=>false
def rEq:R2:=λx y H Q=>uA x y=true/\Q (.bl (decide (x=y))) H
def rNe:R2:=λx y H Q=>uA x y=true/\Q (.bl (!decide (x=y))) H
theorem wW {i j:Int}:decide (V.int i=V.int j)=(i == j):=by
 rw[o8];simp
theorem AB {i j:Bool}:decide (V.bl i=V.bl j)=(i == j):=by
 rw[o8];simp
theorem wZ {i j:Str}:decide (V.str i=V.str j)=(i == j):=by
 rw[o8];simp
theorem xE {i j:Array UInt8}:decide (V.byt i=V.byt j)=(i.toList == j.toList):=by
 rw[o8];cases i;cases j;simp
section
variable {X:Cx} {a b c:Expr} {ta tb tc:TE}
theorem bG {σ:St} {H:Hp} {Q:VK} {k B:Bool} (I:Inv X pins σ H s) (q:Q (.bl k) H) (e:k=B):EP X pins σ Q (.bool B) s:=by
 subst e;exact⟨.bl k,H,I,rfl,q⟩
theorem bR:OpR X (p_ .Eq) rEq:=by
 intro pins s σ H x y v u Q I L B h;obtain⟨F,q⟩:=h;cases x with
 | non =>
  cases L;cases y with
  | non=>cases B;exact PySem.EqNone.eq_none_none (bG I q (by simp))
  | bl j=>cases B;exact PySem.EqNone.eq_none_bool (bG I q (by simp))
  | int j=>obtain⟨t',rfl⟩:=B;exact PySem.EqNone.eq_none_int (bG I q (by simp))
  | str j=>obtain⟨t',rfl⟩:=B;exact PySem.EqNone.eq_none_str (bG I q (by simp))
  | _=>exact absurd (show false=true from F) i_
 | bl i =>
  cases L;cases y with
  | non=>cases B;exact PySem.EqNone.eq_bool_none (bG I q (by simp))
  | bl j=>cases B;exact eq_bool (bG I q AB)
  | str j=>obtain⟨t',rfl⟩:=B;exact PySem.EqMixed.eq_bool_str (bG I q (by simp))
  | _=>exact absurd (show false=true from F) i_
 | int i =>
  obtain⟨t,rfl⟩:=L;cases y with
  | non=>cases B;exact PySem.EqNone.eq_int_none (bG I q (by simp))
  | int j=>obtain⟨t',rfl⟩:=B;exact eq_int (bG I q wW)
  | str j=>obtain⟨t',rfl⟩:=B;exact PySem.EqMixed.eq_int_str (bG I q (by simp))
  | _=>exact absurd (show false=true from F) i_
 | str i =>
  obtain⟨t,rfl⟩:=L;cases y with
  | non=>cases B;exact PySem.EqNone.eq_str_none (bG I q (by simp))
  | bl j=>cases B;exact PySem.EqMixed.eq_str_bool (bG I q (by simp))
  | int j=>obtain⟨t',rfl⟩:=B;exact PySem.EqMixed.eq_str_int (bG I q (by simp))
  | str j=>obtain⟨t',rfl⟩:=B;exact eq_str (bG I q wZ)
  | _=>exact absurd (show false=true from F) i_
 | byt i =>
  obtain⟨t,rfl⟩:=L;cases y with
  | byt j=>obtain⟨t',rfl⟩:=B;exact PySem.W.eq_bytes (bG I q xE)
  | _=>exact absurd (show false=true from F) i_
 | _=>cases y <;> exact absurd (show false=true from F) i_
theorem AS:OpR X (p_ .NotEq) rNe:=by
 intro pins s σ H x y v u Q I L B h;obtain⟨F,q⟩:=h;cases x with
 | non =>
  cases L;cases y with
  | non=>cases B;exact PySem.EqNone.ne_none_none (bG I q (by simp))
  | bl j=>cases B;exact PySem.EqNone.ne_none_bool (bG I q (by simp))
  | int j=>obtain⟨t',rfl⟩:=B;exact PySem.EqNone.ne_none_int (bG I q (by simp))
  | str j=>obtain⟨t',rfl⟩:=B;exact PySem.EqNone.ne_none_str (bG I q (by simp))
  | _=>exact absurd (show false=true from F) i_
 | bl i =>
  cases L;cases y with
  | non=>cases B;exact PySem.EqNone.ne_bool_none (bG I q (by simp))
  | bl j=>cases B;exact ne_bool (bG I q (congrArg not AB))
  | str j=>obtain⟨t',rfl⟩:=B;exact PySem.EqMixed.ne_bool_str (bG I q (by simp))
  | _=>exact absurd (show false=true from F) i_
 | int i =>
  obtain⟨t,rfl⟩:=L;cases y with
  | non=>cases B;exact PySem.EqNone.ne_int_none (bG I q (by simp))
  | int j=>obtain⟨t',rfl⟩:=B;exact ne_int (bG I q (congrArg not wW))
  | str j=>obtain⟨t',rfl⟩:=B;exact PySem.EqMixed.ne_int_str (bG I q (by simp))
  | _=>exact absurd (show false=true from F) i_
 | str i =>
  obtain⟨t,rfl⟩:=L;cases y with
  | non=>cases B;exact PySem.EqNone.ne_str_none (bG I q (by simp))
  | bl j=>cases B;exact PySem.EqMixed.ne_str_bool (bG I q (by simp))
  | int j=>obtain⟨t',rfl⟩:=B;exact PySem.EqMixed.ne_str_int (bG I q (by simp))
  | str j=>obtain⟨t',rfl⟩:=B;exact ne_str (bG I q (congrArg not wZ))
  | _=>exact absurd (show false=true from F) i_
 | byt i =>
  obtain⟨t,rfl⟩:=L;cases y with
  | byt j=>obtain⟨t',rfl⟩:=B;exact PySem.W.ne_bytes (bG I q (congrArg not xE))
  | _=>exact absurd (show false=true from F) i_
 | _=>cases y <;> exact absurd (show false=true from F) i_
theorem wY:OpR X (p_ .Lt) (rI0 λi j=>.bl (decide (i < j))):=BV λ_ _ _ _ _ _ _ q=>lt_int q
theorem jP:OpR X (p_ .LtE) (rI0 λi j=>.bl (decide (i<=j))):=BV λ_ _ _ _ _ _ _ q=>le_int q
theorem nJ:OpR X (p_ .Gt) (rI0 λi j=>.bl (decide (j < i))):=BV λ_ _ _ _ _ _ _ q=>gt_int q
theorem FV:OpR X (p_ .GtE) (rI0 λi j=>.bl (decide (j<=i))):=BV λ_ _ _ _ _ _ _ q=>ge_int q
theorem nomark (b:Expr) {B:CmpOp} (h:B≠.In:=by decide) (h2:B≠.NotIn:=by decide):GZ B b=false:=by
 have e1:(B == CmpOp.In)=false:=by cases B <;> first | rfl | exact absurd rfl h
 have e2:(B == CmpOp.NotIn)=false:=by cases B <;> first | rfl | exact absurd rfl h2
 cases b <;> simp[GZ,e1,e2]
theorem bf {B:CmpOp} {r:R2} (ho:OpR X (p_ B) r) (ha:PE X a ta) (hb:PE X b tb) (Y:GZ B b=false:=by first | exact nomark _ | with_unfolding_all rfl):PE X (.Compare a [B] [b] pos) (tOp r ta tb):=by
 intro pins s σ H Q I h;exact wpAny_Compare1 (DH ha hb I h λv u F x y H2 I2 L Z q=>ho pins F σ H2 x y v u Q I2 L Z q) Y
def rB (t:TE):TT:=λσ H Q=>t σ H λx H'=>∃k,x = .bl k/\Q k H'
theorem aL {B:CmpOp} {r:R2} (Z:OpR X (p_ B) r) (ha:PE X a ta) (hb:PE X b tb) (L:GZ B b=false:=by first | exact nomark _ | with_unfolding_all rfl):PT X (.Compare a [B] [b] pos) (rB (tOp r ta tb)):=by
 intro pins s σ H Q I h;refine wpAny_isTrue_Compare1 (thn (ha pins s σ H _ I h) λv Y ⟨x,H1,I1,r1,q1⟩=>thn (hb pins Y σ H1 _ I1 q1) λu F ⟨y,H2,I2,r2,q2⟩ =>
  thn (Z pins F σ H2 x y v u _ I2 r1 r2 q2) λc s3 ⟨z,H3,I3,r3,k,e,q3⟩=>?_) L
 subst e;cases r3;exact y7 ⟨H3,I3,q3⟩
def vi (r r':R2) (ta tb tc:TE):TE:=λσ H Q=>ta σ H λx H1=>tb σ H1 λy H2=>r x y H2 λz B=>∃k,z = .bl k /\
 (if k=true then tc σ B λL F=>r' y L F Q else Q (.bl false) B)
theorem zL {L B:CmpOp} {r r':R2} (ho:OpR X (p_ L) r) (Y:OpR X (p_ B) r') (ha:PE X a ta) (hb:PE X b tb) (hc:PE X c tc)
  (hm:lastMarks [L,B] [b,c]=false:=by with_unfolding_all rfl):PE X (.Compare a [L,B] [b,c] pos) (vi r r' ta tb tc):=by
 intro pins s σ H Q I h;refine Compare_chain (thn (ha pins s σ H _ I h) λv s1 ⟨x,H1,I1,r1,q1⟩=>chain_link (thn (hb pins s1 σ H1 _ I1 q1) λu s2 ⟨y,H2,I2,r2,q2⟩ =>
  thn (ho pins s2 σ H2 x y v u _ I2 r1 r2 q2) λd Z ⟨z,H3,I3,r3,k,e,q3⟩=>?_)) hm
 subst e;cases r3;refine y7 ?_
 cases k with
 | false=>exact ite_ff ⟨.bl false,H3,I3,rfl,q3⟩
 | true=>exact ite_tt (chain_last (thn (hc pins Z σ H3 _ I3 q3) λw' s4 F=>by obtain⟨z',H4,I4,r4,q4⟩:=F;exact(Y pins s4 σ H4 y z' u w' Q I4 r2 r4 q4)))
theorem mE:(g9:Nat) < 2 ^ 63:=by rw[GQ];decide
theorem wL:OpR X (Ic .Add) (λx y H Q=>∃i j,x = .str i/\y = .str j/\i.length+j.length<=g9/\Q (.str (i++j)) H):=by
 intro pins s σ H x y v u Q I B F h;obtain⟨i,j,rfl,rfl,L,q⟩:=h;obtain⟨t,rfl⟩:=B;obtain⟨t',rfl⟩:=F;exact add_str (λt' tk=>⟨.str (i++j),H,I.tok _,⟨_,rfl⟩,q⟩) L
theorem dA {x:V} (r:be [x] us) : ∃u,us=[u]/\bg x u:=by
 cases r with
 | cons F B=>cases B;exact⟨_,rfl,F⟩
theorem tL {x y:V} (r:be [x,y] us) : ∃u B,us=[u,B]/\bg x u/\bg y B:=by
 cases r with
 | cons L F =>
  cases F with
  | cons Y Z=>cases Z;exact⟨_,_,rfl,L,Y⟩
theorem rG (F:X.calm=true):bY X (.builtin "max") (λxs H Q=>∃i j,xs=[.int i,.int j]/\Q (.int (if j > i then j else i)) H):=by
 intro pins s σ H xs us Q I r h;obtain⟨i,j,rfl,q⟩:=h;obtain⟨u,L,rfl,⟨t,rfl⟩,⟨t',rfl⟩⟩:=tL r;refine max_two_ints (I.ok.hd F) λh' tk k=>⟨_,H,I.kept k,?_,q⟩
 by_cases B:j > i
 .rw[if_pos B,if_pos B];exact⟨_,rfl⟩
 .rw[if_neg B,if_neg B];exact⟨_,rfl⟩
theorem qU (F:X.calm=true):bY X (.builtin "min") (λxs H Q=>∃i j,xs=[.int i,.int j]/\Q (.int (if j < i then j else i)) H):=by
 intro pins s σ H xs us Q I r h;obtain⟨i,j,rfl,q⟩:=h;obtain⟨u,L,rfl,⟨t,rfl⟩,⟨t',rfl⟩⟩:=tL r;refine min_two_ints (I.ok.hd F) λh' tk k=>⟨_,H,I.kept k,?_,q⟩
 by_cases B:j < i
 .rw[if_pos B,if_pos B];exact⟨_,rfl⟩
 .rw[if_neg B,if_neg B];exact⟨_,rfl⟩
theorem yf:bY X (.type "int") (λxs H Q=>(∃i,xs=[.int i]/\Q (.int i) H)\/∃k,xs=[.bl k]/\Q (.int (if k then 1 else 0)) H):=by
 intro pins s σ H xs us Q I r h;rcases h with⟨i,rfl,q⟩ | ⟨k,rfl,q⟩
 .obtain⟨u,rfl,t,rfl⟩:=dA r
  exact call_int_int ⟨.int i,H,I,⟨_,rfl⟩,q⟩
 .obtain⟨u,rfl,r1⟩:=dA r
  cases r1;exact call_int_bool ⟨.int (if k then 1 else 0),H,I.tok _,⟨_,rfl⟩,q⟩
end
structure wu (h:Heap) (x dx C:Addr) (mA:Str->Option Value):Prop where
 obj:h.get? x=some (instObj C dx)
 ns:h.Ns1 dx mA
 ne:dx≠x
theorem xN (n:h.Ns1 dx mA) : ∃od,h.get? dx=some od/\∀name,lookIn name od=some (mA name):=by
 obtain⟨o,es,ep,Y,L,Z,_,F⟩:=n;refine⟨o,Y,λname=>?_⟩
 have e:=F name;unfold nsFind findBy at e;rw[<- Array.find?_toList] at e;unfold lookIn;rw[L];dsimp only
 split
 .rename_i y q
  rw[q] at e;exact congrArg some e
 .rename_i q
  rw[q] at e;have a:es.toList.any (·.refKey)=false:=by
   rw[List.any_eq_false];intro y hy;obtain⟨z,t,B⟩:=Z y (Array.mem_toList_iff.mp hy);simp[DictEntry.refKey,B]
  have a' : ¬ es.toList.any (·.refKey)=true:=by rw[a];exact i_
  rw[if_neg a'];exact congrArg some e
theorem wu.look {x:Addr} (I:wu h x dx C mA) : ∃od,PySem.W.InstAt h x (instObj C dx) C (some od)/\∀name,lookIn name od=some (mA name) :=
 let ⟨od,ho,hl⟩:=xN I.ns
 ⟨od,⟨I.obj,rfl,rfl,ho⟩,hl⟩
section
variable {x:Addr} {v:Value}
theorem Bo {B:Bool} (X:K.In s.heap) (I:wu s.heap x dx C mA) (Z:plainGet K C name=true) (Y:hasDictIn K C=true)
  (ha:findIn K (.ref C) name=some none) (L:mA name=some v) (F:handedIn v=true) (h:Q v { s with toks:=s.toks+1 }) :
  wpAny (model prog w) A (getAttr (.ref x) name B) Q E s:=by
 obtain⟨od,J,hl⟩:=I.look;exact PySem.W.get_value X J (plainGet_of Z).1 (PySem.W.findObj_own Y ha rfl (by rw[hl,L])) F h
theorem Aw {Q:Value × List Value->Shared->Prop} (X:K.In s.heap) (I:wu s.heap x dx C mA) (B:plainGet K C name=true)
  (L:findIn K (.ref C) name=some (-f)) (Y:isFn K (.ref f)=true) (F:mA name=none) (h:Q (.ref f,[.ref x]) s) :
  wpAny (model prog w) A (getMethod (.ref x) name pl) Q E s:=by
 obtain⟨od,J,hl⟩:=I.look;exact PySem.W.method_fn X J (plainGet_of B).1 (plainGet_of B).2 L (beq_iff_eq.mp Y) (by show(lookIn name od).map (·.isSome)=some false;rw[hl,F];rfl) h
theorem Cv {ns:List Str} {Q:Unit->Shared->Prop} (X:K.In s.heap) (I:wu s.heap x dx C mA)
  (hs:findIn K (.ref C) "__setattr__" = some (some (.builtin "object.__setattr__"))) (hp:plainOver K C=true) (ht:takerIn K C name=some none) (hh:hasDictIn K C=true)
  (hw:PySem.Within mA ns) (hsz:ns.length<=g9)
  (h : ∀h',wu h' x dx C (λy=>if y=name then some v else mA y)->HL dx s.heap h'->Q Unit.unit { s with heap:=h',toks:=s.toks+2 }) :
  wpAny (model prog w) A (setAttr (.ref x) name v) Q E s:=by
 obtain⟨od,J,hl⟩:=I.look;refine PySem.W.set_plain X J hs (PySem.W.osa_open (s:={ s with toks:=s.toks+1 }) (r:=none) X J hp ht λb=>?_)
 obtain⟨cd,hc,L⟩:=PySem.W.any_some hh;have hx:s.heap.get? x=some ⟨.ref C,some dx,.plain,#[]⟩:=I.obj
 refine a_ (ei (a_ (a_ (wpAny_loadPart hx (a_ (PySem.W.Looks.here (s:={ s with toks:=s.toks+1 }) (PySem.W.looks_clsIn X hc) ?_))))))
 rw[L];refine ei (a:=some dx) (a_ (ei (a_ ?_)))
 refine wpAny_nsSet1 (s:={ s with toks:=s.toks+1 }) I.ns λh' B F=>?_
 obtain⟨oD,ab,ac,Z,Y,aa⟩:=B.count (PySem.Within.cons name v hw);refine a_ (wpAny_lookBehind Z (by rw[Y];exact pastItsLine_dict (gr aa (by rw[w_];omega))) ?_)
 exact ei (h _ ⟨(F.2 _ (tj I.ne)).trans I.obj,B,I.ne⟩ F)
theorem zd {vs:List Value} (X:K.In s.heap) (L:makesIn K C=true)
  (hi:findIn K (.ref C) "__init__" = some (-f)) (F:PySem.W.typeIn K (.ref f)=some (.type "function"))
  (h:HM (model prog w) (A.under (.builtin "type.__call__" ⟨.ref C :: vs,kw⟩)) (.call (.ref f) ⟨.ref (s.heap.objs.size+1) :: vs,kw⟩) (PySem.W.InitBack (s.heap.objs.size+1) R)
   { s with heap:=(s.heap.push Ho).push (instObj C s.heap.objs.size) }) :
  HM (model prog w) A (.call (.ref C) ⟨vs,kw⟩) R s:=by
 obtain⟨Y,g,d,t,Z⟩:=s;exact PySem.W.make_core (PySem.W.makes_of X L) (PySem.W.looks_findIn X hi) (λB=>PySem.W.bind_fn X B F) (.inl rfl) h
end
def ck (f:Str) (v:V):List (Str × V)->List (Str × V)
 | []=>[(f,v)]
 | (g,x) :: r=>if g=f then(g,v) :: r else(g,x) :: ck f v r
theorem bT (f g:Str) (v:V) : ∀fs:List (Str × V),(ck f v fs).lookup g=if g=f then some v else fs.lookup g
 | []=>by
  show Ij g [(f,v)]=_
  by_cases h:g=f
  .have hb:(g == f)=true:=beq_iff_eq.mpr h
   simp only[Ij,hb,if_pos h]
  .have hb:(g == f)=false:=beq_eq_false_iff_ne.mpr h
   simp only[Ij,hb,if_neg h]
 | (k, x) :: r=>by
  have F:=bT f g v r;rw[show ck f v ((k,x) :: r)=(if k=f then(k,v) :: r else(k,x) :: ck f v r) from rfl]
  by_cases B:k=f
  .rw[if_pos B]
   by_cases h:g=k
   .have hb:(g == k)=true:=beq_iff_eq.mpr h
    simp only[Ij,hb,if_pos (h.trans B)]
   .have hb:(g == k)=false:=beq_eq_false_iff_ne.mpr h
    simp only[Ij,hb,if_neg (λe:g=f=>h (e.trans B.symm))]
  .rw[if_neg B]
   by_cases h:g=k
   .have hb:(g == k)=true:=beq_iff_eq.mpr h
    simp only[Ij,hb,if_neg (λe:g=f=>B (h.symm.trans e))]
   .have hb:(g == k)=false:=beq_eq_false_iff_ne.mpr h
    simp only[Ij,hb];exact F
theorem mF (f:Str) (v:V) : ∀fs:List (Str × V),f∈(ck f v fs).map (·.1)/\∀g,g∈fs.map (·.1)->g∈(ck f v fs).map (·.1)
 | []=>⟨by simp[ck],λg h=>by simp at h⟩
 | (k, x) :: r=>by
  obtain⟨F,L⟩:=mF f v r;rw[show ck f v ((k,x) :: r)=(if k=f then(k,v) :: r else(k,x) :: ck f v r) from rfl]
  by_cases B:k=f
  .rw[if_pos B]
   subst B;exact⟨by simp,λg h=>by simpa using h⟩
  .rw[if_neg B]
   refine⟨?_,λg h=>?_⟩
   .rw[i8]
    exact j6 _ F
   .rw[i8] at h ⊢
    rcases i4.mp h with e | e
    .exact i4.mpr (.inl e)
    .exact j6 _ (L g e)
theorem nC (f:Str) (v:V) : ∀fs:List (Str × V),(ck f v fs).length<=fs.length+1
 | []=>by simp[ck]
 | (k,x) :: r=>by
  have F:=nC f v r;rw[show ck f v ((k,x) :: r)=(if k=f then(k,v) :: r else(k,x) :: ck f v r) from rfl]
  by_cases B:k=f
  .rw[if_pos B,w_,w_];omega
  .rw[if_neg B,w_,w_];omega
theorem il.some_of {v:V} {o:Option Value} (r:il (some v) o) : ∃u,o=some u/\bg v u:=by
 cases o with
 | none=>exact(show False from r).elim
 | some u=>exact⟨u,rfl,r⟩
theorem il.none_of {o:Option Value} (r:il none o):o=none:=by
 cases o with
 | none=>rfl
 | some u=>exact(show False from r).elim
theorem yo {v:V} (r:bg v u):handedIn u=true:=by
 cases v with
 | non=>cases (show u=p9 from r);rfl
 | bl b=>cases (show u=Hq b from r);rfl
 | int i=>obtain⟨t,e⟩:=(show ∃t,u=Value.int i t from r);cases e;rfl
 | str x=>obtain⟨t,e⟩:=(show ∃t,u=Value.str x t from r);cases e;rfl
 | byt b=>obtain⟨t,e⟩:=(show ∃t,u=Value.bytes b t from r);cases e;rfl
 | flt b=>obtain⟨t,e⟩:=(show ∃t,u=Value.float b t from r);cases e;rfl
 | ref a=>cases (show u=h_ a from r);rfl
 | ty n=>cases (show u=GP n from r);rfl
section
variable {H H':Hp} {fs fs':List (Str × V)}
theorem oG (B:HOk P w H h) (e:H a=some (.ins C dx fs)) : ∃mA,wu h a dx C mA/\(∀f,il (fs.lookup f) (mA f))/\PySem.Within mA (fs.map (·.1))/\fs.length<=1000/\H dx=some (.own a):=by
 obtain⟨d,z,ne,ob,mA,n,r,q⟩:=(show bF P w H h a (.ins C dx fs) from B a _ e)
 exact⟨mA,⟨ob,n,ne⟩,r,q,z,d⟩
end
structure Cls (K:e_) (C:Addr):Prop where
 pg:plainGet K C Str.empty=true
 hd:hasDictIn K C=true
 po:plainOver K C=true
 sa:findIn K (.ref C) "__setattr__" = some (some (.builtin "object.__setattr__"))
theorem Cls.get (c:Cls K C) (f:Str):plainGet K C f=true:=c.pg
def aP (K:e_) (C:Addr) (f:Str):Prop:=findIn K (.ref C) f=some none
theorem aP.taker {f:Str} (n:aP K C f):takerIn K C f=some none:=by
 unfold takerIn;rw[show findIn K (.ref C) f=some none from n]
 rfl
structure aR (K:e_) (C:Addr) (m:Str) (f:Addr):Prop where
 at_:findIn K (.ref C) m=some (-f)
 fn:isFn K (.ref f)=true
 kp:HI K (.ref f)=true
section
variable {X:Cx} {σ:St} {H:Hp} {fs:List (Str × V)} {f:Str} {v:V}
theorem wc {b:Bool} (I:Inv X pins σ H s) (e:H a=some (.ins C dx fs)) (c:Cls X.K C) (n:aP X.K C f) (l:fs.lookup f=some v)
  (h : ∀u s',Inv X pins σ H s'->bg v u->Q u s'):wpAny (model X.prog X.w) A (getAttr (.ref a) f b) Q E s:=by
 obtain⟨mA,O,r,_,_,_⟩:=oG I.hok e;obtain⟨u,hu,B⟩:=il.some_of (v:=v) (o:=mA f) (by rw[<- l];exact r f)
 exact Bo I.kIn O (c.get f) c.hd n hu (yo B) (h u _ (I.tok _) B)
theorem oX {m:Str} {g:Addr} {Q:Value × List Value->Shared->Prop} (I:Inv X pins σ H s) (e:H a=some (.ins C dx fs)) (c:Cls X.K C) (k:aR X.K C m g) (l:fs.lookup m=none)
  (h:Q (.ref g,[.ref a]) s):wpAny (model X.prog X.w) A (getMethod (.ref a) m pl) Q E s:=by
 obtain⟨mA,O,r,_,_,_⟩:=oG I.hok e;have hn:mA m=none:=il.none_of (by rw[<- l];exact r m)
 exact Aw I.kIn O (c.get m) k.at_ k.fn hn h
theorem wq {y:V} {Q:Unit->Shared->Prop} (I:Inv X pins σ H s) (e:H a=some (.ins C dx fs)) (c:Cls X.K C) (n:aP X.K C f) (hl:fs.length < 1000) (L:bg y u)
  (h : ∀s',Inv X pins σ (upd H a (.ins C dx (ck f y fs))) s'->Q Unit.unit s'):wpAny (model X.prog X.w) A (setAttr (.ref a) f u) Q E s:=by
 obtain⟨mA,O,r,wi,_,F⟩:=oG I.hok e;have hz:(fs.map (·.1)).length<=g9:=by rw[c_,GQ];omega
 refine Cv I.kIn O c.sa c.po n.taker c.hd wi hz λh' B Z=>h _ ?_
 have hd : ∃o,h'.get? dx=some o:=let ⟨o,_,_,e',_⟩:=B.ns;⟨o,e'⟩
 refine I.write (x:=a) (e:=dx) (by rw[e];exact nl) (.inr F) (λb q hb z=>(Z.2 b hb).trans z) hd ?_
 refine⟨by rw[ah O.ne];exact F,?_,O.ne,B.obj,_,B.ns,λg=>?_,λg Y=>?_⟩
 .have:=nC f y fs;omega
 .show il ((ck f y fs).lookup g) (if g=f then some u else mA g)
  rw[bT]
  by_cases q:g=f
  .rw[if_pos q,if_pos q];exact L
  .rw[if_neg q,if_neg q];exact r g
 .by_cases q:g=f
  .rw[q];exact(mF f y fs).1
  .refine(mF f y fs).2 g (wi g λz=>Y ?_)
   show(if g=f then some u else mA g)=none
   rw[if_neg q];exact z
theorem Inv.made (I:Inv X pins σ H s):Inv X pins σ (upd (upd H s.heap.objs.size (.own (s.heap.objs.size+1))) (s.heap.objs.size+1) (.ins C s.heap.objs.size []))
  { s with heap:=(s.heap.push Ho).push (instObj C s.heap.objs.size) }:=by
 have e1:(s.heap.push Ho).get? s.heap.objs.size=some Ho:=f_ s.heap rfl
 have e2:((s.heap.push Ho).push (instObj C s.heap.objs.size)).get? (s.heap.objs.size+1)=some (instObj C s.heap.objs.size):=by
  have:=f_ (s.heap.push Ho) (o:=instObj C s.heap.objs.size) rfl
  rwa [m9] at this
 have L:(s.heap.push Ho).Ns s.heap.objs.size (λ_=>none):=⟨Ho,#[],_,e1,rfl,(λe B=>absurd B (by simp)),λ_=>rfl⟩
 have F:=I.laid (a:=s.heap.objs.size) (o:=.own (s.heap.objs.size+1)) (h':=s.heap.push Ho) (t':=s.toks) (λb u q=>d_ _ q) (i6 _) ⟨_,e1⟩
 refine F.laid (a:=s.heap.objs.size+1) (o:=.ins C s.heap.objs.size []) (t':=s.toks) (λb u q=>d_ _ q) (GX (m9 _ _)) ?_
 have ne:s.heap.objs.size≠s.heap.objs.size+1:=k7 (GS _)
 refine⟨by rw[ah ne,ae],x6 _,ne,e2,λ_=>none,(Heap.Ns1.of_empty L).at λo q=>d_ _ q,λ_=>nl,λy Y=>absurd rfl Y⟩
theorem Ch {f:Str} (B:Ii e f env (eval e env)=eval e env)
  (h:wpAny (model prog w) A (eval e env) (λo s₁=>wpAny (model prog w) A (getAttr o f true) Q E s₁) E s):wpAny (model prog w) A (eval (.Attribute e f pos) env) Q E s :=
 Attribute_any_ h (by rw[arm_eval_Attribute,B])
end
section
variable {X:Cx} {σ:St} {H:Hp} {c:Value} {b:Bool}
inductive mr (K:e_) (H:Hp):V->Value->Prop where
 | non:mr K H .non (.type "NoneType")
 | bl (x:Bool):mr K H (.bl x) (.type "bool")
 | int (i:Int):mr K H (.int i) (.type "int")
 | str (x:Str):mr K H (.str x) (.type "str")
 | flt (x:UInt64):mr K H (.flt x) (.type "float")
 | lst {a:Addr} {xs:List V} (e:H a*>xs):mr K H (.ref a) (.type "list")
 | frz {a:Addr} {o:Obj} {xs:List V} (e:H a=some (.frz o (.lst xs))):mr K H (.ref a) (.type "list")
 | tup {a:Addr} {xs:List V} (e:H a>>xs):mr K H (.ref a) (.type "tuple")
 | dK {a:Addr} {kvs:List (Key × V)} (e:H a<*kvs):mr K H (.ref a) (.type "dict")
 | dT {a:Addr} {kvs:List (List Key × V)} (e:H a=some (.dT kvs)):mr K H (.ref a) (.type "dict")
 | ins {a C dx:Addr} {fs:List (Str × V)} (e:H a=some (.ins C dx fs)) (cl:Cls K C) (ha:findIn K (.ref C) "__class__" = some (some (.builtin "object.__class__")))
   (hn:specialIn K (.builtin "object.__class__") "__get__" = some (some (.builtin "getset_descriptor.__get__"))) (htk:PySem.W.takesIn K (.builtin "object.__class__")=some true)
   (hm:PySem.W.mroIn K C (.type "object")=some true):mr K H (.ref a) (.ref C)
theorem ym {x:V} {t:Value} (I:Inv X pins σ H s) (B:bg x u) (ty:mr X.K H x t) (e:kitOne X.K t c=some b) (h : ∀tk,Q (.bool b) { s with toks:=tk }) :
  wpAny (model X.prog X.w) A (call (.builtin "isinstance") [u,c]) Q E s:=by
 cases ty with
 | non=>cases (show u=p9 from B);exact HJ PySem.W.kitx_none I.kIn nl e (λz=>nomatch z) h
 | bl y=>cases (show u=Hq y from B);exact HJ PySem.W.kitx_bool I.kIn nl e (λz=>nomatch z) h
 | int i=>obtain⟨t,q⟩:=(show ∃t,u=Value.int i t from B);cases q;exact HJ PySem.W.kitx_int I.kIn nl e (λz=>nomatch z) h
 | str y=>obtain⟨t,q⟩:=(show ∃t,u=Value.str y t from B);cases q;exact HJ PySem.W.kitx_str I.kIn nl e (λz=>nomatch z) h
 | flt y=>obtain⟨t,q⟩:=(show ∃t,u=Value.float y t from B);cases q;exact HJ PySem.W.kitx_float I.kIn nl e (λz=>nomatch z) h
 | @lst a xs ea =>
  cases (show u=h_ a from B)
  obtain⟨_,_,n,_,h1⟩:=(show bF X.prog X.w H s.heap a (.lst xs) from I.hok a _ ea)
  exact HJ kitx_list I.kIn ⟨_,h1,rfl⟩ e (λz=>nomatch z) h
 | @frz a ob xs ea =>
  cases (show u=h_ a from B)
  obtain⟨_,_,_,n,_,h1⟩:=(show bF X.prog X.w H s.heap a (.frz ob (.lst xs)) from I.hok a _ ea)
  exact HJ kitx_list I.kIn ⟨_,h1,rfl⟩ e (λz=>nomatch z) h
 | @tup a xs ea =>
  cases (show u=h_ a from B)
  obtain⟨_,_,_,p⟩:=(show bF X.prog X.w H s.heap a (.tup xs) from I.hok a _ ea)
  obtain⟨o,h1,h2,_⟩:=p;exact HJ PySem.W.kitx_tuple I.kIn ⟨o,h1,h2⟩ e (λz=>nomatch z) h
 | @dK a kvs ea =>
  cases (show u=h_ a from B)
  obtain⟨_,_,vs,_,p⟩:=(show bF X.prog X.w H s.heap a (.dK kvs) from I.hok a _ ea)
  obtain⟨o,es,F,h1,h2,_⟩:=p;exact HJ kitx_dict I.kIn ⟨o,h1,h2.1⟩ e (λz=>nomatch z) h
 | @dT a kvs ea =>
  cases (show u=h_ a from B)
  obtain⟨_,_,xs,_,o,es,F,h1,h2,_⟩:=(show bF X.prog X.w H s.heap a (.dT kvs) from I.hok a _ ea)
  exact HJ kitx_dict I.kIn ⟨o,h1,h2.1⟩ e (λz=>nomatch z) h
 | @ins a C dx fs ea cl ha hn htk hm =>
  cases (show u=h_ a from B)
  obtain⟨mA,O,_⟩:=oG I.hok ea;obtain⟨od,J,_⟩:=O.look;exact HJ (PySem.W.kitx_own (cl.get _) cl.hd ha hn htk hm) I.kIn J e (λz=>nomatch z) h
end
structure cU (k:Nat) (A:Around):Prop where
 hd:A.handled=none
 dp:A.depth+3 * k+5 < recursionLimit
 un:A.units+16 * k+200 < cLine
theorem cU.mono (r:cU k A) (h:j<=k):cU j A:=⟨r.hd,by have:=r.dp;omega,by have:=r.un;omega⟩
theorem cU.deeper {k:Nat} {A:Around} (r:cU (k+1) A) (env:Env):cU k (A.deeper env) :=
 ⟨r.hd,by have:=r.dp;show A.depth+1+3 * k+5 < _;omega,by have:=r.un;show A.units+3+16 * k+200 < _;omega⟩
theorem vE:(A.under (.builtin "type.__call__" ⟨.ref C :: us,kw⟩)).depth=A.depth+1:=by
 first | rfl | simp[Around.under,Code.weight,Code.isCreation,Code.isGuard,Code.isCaller,Code.frames,Code.isFrame,guardIds]
theorem vK:(A.under (.builtin "type.__call__" ⟨.ref C :: us,kw⟩)).units=A.units+1:=by
 first | rfl | simp[Around.under,Code.cUnits,Code.frames,Code.isFrame]
theorem cU.make (r:cU (k+1) A) (C:Addr) (us:List Value) (kw:List (Str × Value)):cU k (A.under (.builtin "type.__call__" ⟨.ref C :: us,kw⟩)) :=
 ⟨r.hd,by have:=r.dp;rw[vE];omega,by have:=r.un;rw[vK];omega⟩
theorem cU.depth {k:Nat} {A:Around} (r:cU k A):A.depth < recursionLimit:=by have:=r.dp;omega
theorem cU.units {k:Nat} {A:Around} (r:cU k A):A.units+64 < cLine:=by have:=r.un;omega
def vX:TA:=λ_ H Q=>Q [] H
def jR (ta:TE) (B:TA):TA:=λσ H Q=>ta σ H λx H1=>B σ H1 λxs H2=>Q (x :: xs) H2
section
variable {X:Cx} {te:TE} {t:TA}
theorem ai:PA X [] vX:=λ_ _ _ _ H Q I h=>HE ⟨[],H,I,.nil,h⟩
theorem ac (ha:PE X e te) (hr:PA X es t) (hs:j8 (e :: es) X.env=(false,eval e X.env) :: j8 es X.env:=by rfl):PA X (e :: es) (jR te t):=by
 intro pos pins s σ H Q I h;rw[hs]
 show wpAny _ _ (spliced ((false,eval e X.env) :: y9 pos (j8 es X.env))) _ _ s
 refine Hs (thn (ha pins s σ H _ I h) λu Y B=>?_)
 obtain⟨x,H1,I1,r1,q1⟩:=B;exact thn (hr pos pins Y σ H1 _ I1 q1) λus s2 F=>by obtain⟨xs,H2,L,Z,q2⟩:=F;exact(⟨x :: xs,H2,L,.cons r1 Z,q2⟩)
def CG (t:TA):TE:=λσ H Q=>t σ H λxs H1=>xs.length<=g9/\∀p,H1 p=none->Q (.ref p) (upd H1 p (.tup xs))
def Bj (t:TA):TE:=λσ H Q=>t σ H λxs H1=>xs.length<=g9/\∀p,H1 p=none->Q (.ref p) (upd H1 p (.lst xs))
theorem bW {x1} (h:PA X es t):PE X (.Tuple es x1 pos) (CG t):=by
 intro pins s σ H Q I L;refine wpAny_Tuple_spliced (thn (h pos pins s σ H _ I L) λus B ⟨xs,H1,I1,r,z,q⟩=>⟨by rw[<- r.length];exact z,?_⟩)
 have F:H1 B.heap.objs.size=none:=I1.hok.fresh (i6 _)
 refine⟨.ref B.heap.objs.size,upd H1 B.heap.objs.size (.tup xs),I1.laid (t':=B.toks) (λb u e=>d_ _ e) (i6 _) ?_,rfl,q _ F⟩
 exact⟨z,us,r,⟨_,f_ _ rfl,rfl,_,rfl⟩⟩
theorem cg (h:PA X es t):PE X (.List es pos) (Bj t):=by
 intro pins s σ H Q I L;refine wpAny_List_spliced (thn (h pos pins s σ H _ I L) λus B ⟨xs,H1,I1,r,z,q⟩=>⟨by rw[<- r.length];exact z,?_⟩)
 have F:H1 B.heap.objs.size=none:=I1.hok.fresh (i6 _)
 refine⟨.ref B.heap.objs.size,upd H1 B.heap.objs.size (.lst xs),I1.laid (t':=B.toks) (λb u e=>d_ _ e) (i6 _) ?_,rfl,q _ F⟩
 exact⟨z,us,0,r,f_ _ rfl⟩
end
abbrev Sp:=List V->Hp->VK->XK->Prop
abbrev CXT:=List Env->Hp->Shared->XK->Value->Shared->Prop
structure vH (P:Program) (w:World) (K:e_) (mg:Str->Option Value) (base:Heap) (A:Around) (outer:List Env) (s:Shared) (H:Hp):Prop where
 frames:A.frames=some outer
 mod:Mod K mg base
 bs : ∀b o,base.get? b=some o->s.heap.get? b=some o/\H b=none
 bsz:base.objs.size<=s.heap.objs.size
 funs:s.heap.FunFrames base outer
 frf : ∀b∈frs outer,H b=none
 hok:HOk P w H s.heap
 bare:AllBare s.gens
def CE (outer:List Env) (P:Program) (w:World) (H:Hp) (s:Shared) (Q:VK) (u:Value) (s':Shared):Prop :=
 ∃v H',s'.os=s.os/\AllBare s'.gens/\Un (frs outer) [] H H' s.heap s'.heap/\HOk P w H' s'.heap/\bg v u/\Q v H'
def CR (CX:CXT) (outer:List Env) (P:Program) (w:World) (H:Hp) (s:Shared) (Q:VK) (E:XK) (r:Result) (s':Shared):Prop :=
 match r with
 | .ok (.ret u)=>CE outer P w H s Q u s'
 | .ok _=>False
 | .error e=>CX outer H s E e s'
structure ku (P:Program) (w:World) (K:e_) (mg:Str->Option Value) (base:Heap) (CX:CXT) (k:Nat) (f:Addr) (fd:FuncData) (ps:List Str) (sp:Sp):Prop where
 len : ∀vs H Q E,sp vs H Q E->vs.length=ps.length
 run : ∀(A:Around) (outer:List Env) (s:Shared) (H:Hp) (args:Args) (us:List Value) (vs:List V) (Q:VK) (E:XK),cU k A->vH P w K mg base A outer s H->BindsTo s fd args (ps.zip us)->be vs us->sp vs H Q E ->
  HM (model P w) A (.call (.ref f) args) (CR CX outer P w H s Q E) s
theorem ku.mono {P:Program} {w:World} {K:e_} {mg:Str->Option Value} {base:Heap} {CX:CXT} {j k:Nat} {f:Addr} {fd:FuncData} {ps:List Str} {sp:Sp} (F:ku P w K mg base CX j f fd ps sp) (h:j<=k) :
  ku P w K mg base CX k f fd ps sp:=⟨F.len,λA outer s H args us vs Q E B=>F.run A outer s H args us vs Q E (B.mono h)⟩
theorem vH.make {H:Hp} (e:vH P w K mg base A outer s H) (C:Addr) (us:List Value) (kw:List (Str × Value)) :
  vH P w K mg base (A.under (.builtin "type.__call__" ⟨.ref C :: us,kw⟩)) outer s H:=⟨by first | exact e.frames | (simpa [Around.under,Code.envs,Code.isFrame,pushEnvs] using e.frames),e.mod,e.bs,e.bsz,e.funs,e.frf,e.hok,e.bare⟩
section
variable {X:Cx} {σ:St} {H:Hp}
theorem Inv.env0 (I:Inv X pins σ H s):vH X.prog X.w X.K X.mg X.base X.A X.stack s H :=
 ⟨I.ok.frames,I.ok.mod,I.bs,gr I.ok.bsz I.sz,I.stack,I.stkFree,I.hok,I.bare⟩
theorem Inv.after {Q:VK} (I:Inv X pins σ H s) (h:CE X.stack X.prog X.w H s Q u s'):EP X pins σ Q u s':=by
 obtain⟨v,H',os,B,un,L,r,q⟩:=h;obtain⟨Y,g,d,t,F⟩:=s';obtain rfl:F=s.os:=os
 exact⟨v,H',I.call (h':=Y) (g':=g) (d':=d) (t':=t) (ch:=[]) un L B (λb z=>absurd z (by simp)),r,q⟩
end
def qN (sp:Sp) (dvs:List V) (E:XK) (t:TA):TE:=λσ H Q=>t σ H λvs H1=>sp (vs++dvs) H1 Q E
def jO (K:e_) (fd:FuncData) (ps:List Str) (ds:List Value):Prop :=
 ∀(s:Shared) (us:List Value),K.In s.heap->(us++ds).length=ps.length->BindsTo s fd ⟨us,[]⟩ (ps.zip (us++ds))
theorem jO.all (h : ∀us:List Value,us.length=ps.length->bindArgs fd ⟨us,[]⟩=pure (ps.zip us)):jO K fd ps []:=λs us _ hl=>by
 rw[append_nil] at hl ⊢;exact .of_eq (h us hl)
def tx (CX:CXT) (X:Cx) (E:XK):Prop:=∀(pins:List (Addr × Obj)) (σ:St) (H:Hp) (s:Shared) (e:Value) (s':Shared),Inv X pins σ H s->CX X.stack H s E e s'->X.xe e s'
section
variable {X:Cx} {CX:CXT} {sp:Sp} {dvs:List V} {E:XK} {m:Str} {p:Pos} {o:Expr} {ta:TE} {t:TA}
theorem lW {σ:St} {H:Hp} {Q:VK} {vs:List V} (F:ku X.prog X.w X.K X.mg X.base CX k f fd ps sp) (hr:cU k X.A) (hb:jO X.K fd ps ds) (Z:be dvs ds) (Y:tx CX X E)
  (I:Inv X pins σ H s) (r:be vs us) (h:sp (vs++dvs) H Q E):wpAny (model X.prog X.w) X.A (call (.ref f) us) (EP X pins σ Q) X.xe s:=by
 have L:be (vs++dvs) (us++ds):=r.append Z
 have hl:(us++ds).length=ps.length:=by rw[<- L.length];exact F.len _ _ _ _ h
 refine wpAny_call (codeAny_mono (F.run X.A X.stack s H ⟨us,[]⟩ (us++ds) (vs++dvs) Q E hr I.env0 (hb s us I.kIn hl) L h) λr s' B=>?_)
 cases r with
 | error e=>exact Y pins σ H s e s' I B
 | ok fl =>
  cases fl with
  | ret u=>exact I.after B
  | next=>exact zc B
  | brk=>exact zc B
  | cont=>exact zc B
theorem BX (F:ku X.prog X.w X.K X.mg X.base CX k f fd ps sp) (hr:cU k X.A) (hg:Gl X x) (Z:X.mg x=-f) (hk:HI X.K (.ref f)=true) (hb:jO X.K fd ps ds) (hd:be dvs ds) (Y:tx CX X E)
  (ha:PA X (e :: es) t) (B:(x ==("__debug__" : Str))=false:=by decide) (he:j8 (e :: es) X.env=(false,eval e X.env) :: j8 es X.env:=by rfl) (L:(y9 pos (j8 es X.env)).any (·.1)=false:=by rfl) :
  PE X (.Call (.Name x p) (e :: es) [] pos) (qN sp dvs E t):=by
 intro pins s σ H Q I h;refine x0 (ox I hg Z ?_ B)
 refine callWith_K (h₀:=X.base) I.ok.mod.kin hk (thn (ha pos pins s σ H _ I h) λus s1 ⟨vs,H1,I1,r,q⟩=>⟨I1.kIn,?_⟩) he L
 exact lW F hr hb hd Y I1 r q
structure Mk (K:e_) (C f:Addr):Prop where
 makes:makesIn K C=true
 init:findIn K (.ref C) "__init__" = some (-f)
 fn:isFn K (.ref f)=true
 kp:HI K (.ref C)=true
theorem A1 {σ:St} {H:Hp} {Q:VK} {vs:List V} (M:Mk X.K C f) (F:ku X.prog X.w X.K X.mg X.base CX k f fd ps sp) (hr:cU (k+1) X.A) (hb:jO X.K fd ps ds) (hd:be dvs ds)
  (hx:tx CX X E) (I:Inv X pins σ H s) (r:be vs us)
  (h : ∀x dx,H x=none->H dx=none->dx≠x->sp (.ref x ::(vs++dvs)) (upd (upd H dx (.own x)) x (.ins C dx [])) (λv H2=>v = .non/\Q (.ref x) H2) E) :
  wpAny (model X.prog X.w) X.A (call (.ref C) us) (EP X pins σ Q) X.xe s:=by
 have Y:=h (s.heap.objs.size+1) s.heap.objs.size (I.hok.fresh (le_succ _)) (I.hok.fresh (i6 _)) (k7 (GS _));have L:=Inv.made (C:=C) I;have Z:be (V.ref (s.heap.objs.size+1) ::(vs++dvs)) (h_ (s.heap.objs.size+1) ::(us++ds)):=.cons rfl (r.append hd)
 have hl:(h_ (s.heap.objs.size+1) :: us++ds).length=ps.length:=by
  have e:=Z.length;rw[F.len _ _ _ _ Y] at e;exact e.symm
 refine wpAny_call (zd (f:=f) I.kIn M.makes M.init (beq_iff_eq.mp M.fn) (codeAny_mono (F.run _ X.stack _ _ ⟨h_ (s.heap.objs.size+1) :: us,[]⟩ (h_ (s.heap.objs.size+1) ::(us++ds)) _ _ E (hr.make C us [])
  (L.env0.make C us []) (hb _ (h_ (s.heap.objs.size+1) :: us) L.kIn hl) Z Y) λr s' B=>?_))
 cases r with
 | error e=>exact hx pins σ _ _ e s' L B
 | ok fl =>
  cases fl with
  | ret u =>
   obtain⟨v,H',I3,rv,ev,q3⟩:=L.after B;subst ev;exact⟨rv,⟨V.ref (s.heap.objs.size+1),H',I3,rfl,q3⟩⟩
  | next=>exact zc B
  | brk=>exact zc B
  | cont=>exact zc B
end
structure aC (N P:List Str) (sc:Scope):Prop where
 kind:sc.kind = .function
 co:sc.isCoroutine=false
 gen:sc.isGenerator=false
 nd:N.Nodup
 pre:N.take P.length=P
 par : ∀x∈P,sc.names.lookup x=some .local\/sc.names.lookup x=some .cell
 nofree : ∀y∈sc.names,y.2≠.free
theorem ri {B:Str->Option y3} {x:Str} : ∀{binds:List (Str × Value)} {m:Str->Option Value},(∀v,(x,v)∉binds)->bindL B binds m x=m x
 | [],_,_=>rfl
 | (n,v) :: r,m,h=>by
  unfold bindL;rw[ri λw F=>h w (j6 _ F)]
  split
  .have:x≠n:=by rintro rfl;exact h v k6
   simp[this]
  .rfl
theorem rF {B:Str->Option y3} {x:Str} : ∀{binds:List (Str × Value)} {m:Str->Option Value},(∀v,(x,v)∉binds)->bindC B binds m x=m x
 | [],_,_=>rfl
 | (n,v) :: r,m,h=>by
  unfold bindC;rw[rF λw F=>h w (j6 _ F)]
  split
  .rfl
  .have:x≠n:=by rintro rfl;exact h v k6
   simp[this]
theorem qV {B:Str->Option y3} {x:Str} {v:Value} : ∀{P:List Str} {vs:List Value} {i:Nat} {m:Str->Option Value},P.Nodup->P[i]? = some x->vs[i]? = some v->B x=some .local ->
  bindL B (P.zip vs) m x=some v
 | [],_,_,_,_,h,_,_=>by simp at h
 | _ :: _,[],_,_,_,_,h,_=>by simp at h
 | p :: P,w :: vs,0,m,nd,h1,h2,hk=>by
  simp at h1 h2;subst h1;subst h2
  show bindL B ((p,w) :: P.zip vs) m p=_
  unfold bindL;rw[ri λv F=>(md.mp nd).1 (of_mem_zip F).1,if_pos hk]
  simp
 | p :: P,w :: vs,i+1,m,nd,h1,h2,hk=>by
  show bindL B ((p,w) :: P.zip vs) m x=_
  unfold bindL;exact qV (i:=i) (md.mp nd).2 (by simpa using h1) (by simpa using h2) hk
theorem rK {B:Str->Option y3} {x:Str} {v:Value} : ∀{P:List Str} {vs:List Value} {i:Nat} {m:Str->Option Value},P.Nodup->P[i]? = some x->vs[i]? = some v->B x≠some .local ->
  bindC B (P.zip vs) m x=some v
 | [],_,_,_,_,h,_,_=>by simp at h
 | _ :: _,[],_,_,_,_,h,_=>by simp at h
 | p :: P,w :: vs,0,m,nd,h1,h2,hk=>by
  simp at h1 h2;subst h1;subst h2
  show bindC B ((p,w) :: P.zip vs) m p=_
  unfold bindC;rw[rF λv F=>(md.mp nd).1 (of_mem_zip F).1,if_neg hk]
  simp
 | p :: P,w :: vs,i+1,m,nd,h1,h2,hk=>by
  show bindC B ((p,w) :: P.zip vs) m x=_
  unfold bindC;exact rK (i:=i) (md.mp nd).2 (by simpa using h1) (by simpa using h2) hk
def iM (N:List Str) (vs:List V):St:=vs.map some++List.replicate (N.length - vs.length) none
def sJ (CX:CXT) (P:Program) (w:World) (K:e_) (mg:Str->Option Value) (base:Heap) (N:List Str) (qual:Str) (scope:Scope) (f:Addr) (cd:Value) (A:Around) (outer:List Env) (s:Shared) (H:Hp) (E:XK):Cx where
 prog:=P
 w:=w
 K:=K
 mg:=mg
 base:=base
 A:=A.deeper (envOfC qual scope s.heap.objs.size f cd)
 N:=N
 s₀:=s
 H₀:=H
 env:=envOfC qual scope s.heap.objs.size f cd
 outer:=outer
 stack:=envOfC qual scope s.heap.objs.size f cd :: outer
 ex:=[]
 calm:=true
 fn:=λ_=>true
 pn:=[]
 xe:=λe s'=>wpAny (model P w) (A.deeper (envOfC qual scope s.heap.objs.size f cd)) (leaving (envOfC qual scope s.heap.objs.size f cd) e) (λ_ B=>CX outer H s E e B) (λF B=>CX outer H s E F B) s'
theorem vg (h:sc.names.lookup x=some .cell) : ∃c,(m_ n sc.names []).lookup x=some c:=by
 have q:=PySem.W.cellsFrom_some sc.names n [] (.inl h);exact G3.mp q
theorem xT {CX:CXT} {Z:Shared} {H:Hp} {E:XK} {vs:List V}
  (S:aC N ps scope) (hd:A.handled=none) (B:vH P w K mg base A outer s H) (hl:vs.length=ps.length) (r:be vs us)
  (x:InCallC s s.heap.objs.size (bindL (envOfC qual scope s.heap.objs.size f cd).kindOf (ps.zip us) λ_=>none) (m_ (s.heap.objs.size+1) scope.names []) (bindC (envOfC qual scope s.heap.objs.size f cd).kindOf (ps.zip us) λ_=>none) Z) :
  Inv (sJ CX P w K mg base N qual scope f cd A outer s H E) [] (iM N vs) H Z:=by
 have aa:ps.length<=N.length:=by have:=congrArg List.length S.pre;rw[G7] at this;omega
 obtain⟨h1,tk,rfl,hk⟩:=x.done;have F : ∀b:Addr,b∉(sJ CX P w K mg base N qual scope f cd A outer s H E).ex:=λb z=>absurd (show b∈([]:List Addr) from z) (by simp)
 refine⟨⟨B.mod,S.kind,rfl,rfl,i6 _,λy z c h1 h2=>?_,λy L=>?_,λy c _ h=>?_,λ_=>hd,Around.frames_deeper B.frames,.inr ⟨rfl,rfl⟩,λb z=>absurd z (F b),B.bs,B.bsz,λb _ _=>F b,λb z=>absurd z (F b),B.funs,B.frf⟩,
  rfl,B.bare,Un.kept hk,⟨_,x.toInCall.ns,λi y v h1 h2 h3=>?_⟩,λy c h=>⟨_,x.cell y c h⟩,B.hok.fresh (i6 _),λy c h=>?_,λp hp=>absurd (show p∈([]:List (Addr × Obj)) from hp) (by simp),B.hok.kept hk,?_⟩
 .exact name_of_addr x.apart (Hg h1) (Hg h2)
 .have L:scope.names.lookup y=some .cell\/scope.names.lookup y=some .free:=L
  rcases L with L | L
  .exact vg L
  .exact absurd rfl (S.nofree _ (Hg L))
 .exact GY (x.above y c (Hg h))
 .have hi:i < vs.length:=by
   unfold iM at h2
   by_cases hi:i < vs.length
   .exact hi
   .rw[u_ (by simpa using hi)] at h2
    rw[List.getElem?_replicate] at h2
    split at h2 <;> cases h2
  have ha:vs[i]? = some v:=by
   unfold iM at h2;rw[r_ (by simpa using hi),e9] at h2
   cases e:vs[i]? with
   | none=>rw[e] at h2;cases h2
   | some a=>rw[e] at h2;cases h2;rfl
  obtain⟨u,hu,rv⟩:=r.get ha;have hp:ps[i]? = some y:=by
   rw[<- S.pre,List.getElem?_take_of_lt ()];exact h1
  have Y:ps.Nodup:=by rw[<- S.pre];exact S.nd.sublist (HH _ _)
  refine⟨u,rv,?_⟩
  rcases S.par y (fy hp) with k | k
  .exact .inl ⟨k,qV Y hp hu k⟩
  .obtain⟨c,e⟩:=vg (n:=s.heap.objs.size+1) k
   refine .inr ⟨.inl k,c,e,?_⟩
   have q:=x.cell y c e;rw[rK Y hp hu (by show scope.names.lookup y≠_;rw[k];decide)] at q
   exact q
 .exact B.hok.fresh (GY (x.above y c (Hg h)))
 .unfold iM
  show _=N.length
  rw[u9,c_,List.length_replicate];omega
theorem FX {CX:CXT} {dV kV:Value} {an:Option Addr}
   {sp:Sp} (lk:K.lookup f=some ⟨oc,od,.func (fnOf name qual params body scope dV kV doc pm an cdv ct),osl⟩) (ad:codeIn K cdv qual=true) (S:aC N ps scope)
  (aa : ∀vs H Q E,sp vs H Q E->vs.length=ps.length)
  (B : ∀(A:Around) (outer:List Env) (s:Shared) (H:Hp) (vs:List V) (Q:VK) (E:XK),cU k (A.deeper (envOfC qual scope s.heap.objs.size f cdv))->sp vs H Q E ->
   ∃t,PSs (sJ CX P w K mg base N qual scope f cdv A outer s H E) body t/\t { nx:=λ_ H'=>Q .non H',rt:=Q } (iM N vs) H) :
  ku P w K mg base CX (k+1) f (fnOf name qual params body scope dV kV doc pm an cdv ct) ps sp:=by
 refine⟨aa,λA outer s H args us vs Q E hr Z hb r Y=>?_⟩
 have hl:=aa _ _ _ _ Y;have KX:K.In s.heap:=Z.mod.kin.keeps λb o e=>(Z.bs b o e).1
 have ac:s.heap.NoLimit:=Z.mod.nolimit.keeps λb o e=>(Z.bs b o e).1
 have F : ∀y∈ps.zip us,scope.names.lookup y.1=some .local\/(scope.names.lookup y.1=some .cell/\((m_ (s.heap.objs.size+1) scope.names []).lookup y.1).isSome=true):=λ⟨n,v⟩ hy=>by
  rcases S.par n (of_mem_zip hy).1 with q | q
  .exact .inl q
  .exact .inr ⟨q,PySem.W.cellsFrom_some _ _ _ (.inl q)⟩
 refine codeAny_call_function hr.depth (KX _ _ lk) rfl S.co S.gen rfl (PySem.W.codeRec_of KX ad) (hb _ _ _ _ ?_)
 refine wpAny_newFunctionEnv_cells S.kind F λenv he s1 x=>?_
 subst he;refine⟨ac.keeps x.toInCall.keep,codeAny_func ?_⟩
 obtain⟨t,ht,hq⟩:=B A outer s H vs Q E (hr.deeper _) Y;have I:Inv (sJ CX P w K mg base N qual scope f cdv A outer s H E) [] (iM N vs) H s1:=xT S hr.hd Z hl r x
 refine x8 (ht [] s1 (iM N vs) H _ I hq) (λfl s' L=>?_) λe s' L=>L
 have ab : ∀{σ':St} {H':Hp} {v:V} {u:Value},Inv (sJ CX P w K mg base N qual scope f cdv A outer s H E) [] σ' H' s'->bg v u->Q v H'->CE outer P w H s Q u s' :=
  λ{σ' H' v u} J rv q=>⟨v,H',J.os,J.bare,J.base,J.hok,rv,q⟩
 cases fl with
 | ret u =>
  obtain⟨v,σ',H',J,rv,q⟩:=L;exact ab J rv q
 | next =>
  obtain⟨σ',H',J,q⟩:=L;exact ab (v:=V.non) (u:=p9) J rfl q
 | brk =>
  obtain⟨_,_,_,q⟩:=L;exact zc q
 | cont =>
  obtain⟨_,_,_,q⟩:=L;exact zc q
section
variable {X:Cx} {p:Pos} {t:TA} {id T:String} {r:List V->Hp->VK->Prop}
def tCB (r:List V->Hp->VK->Prop) (t:TA):TE:=λσ H Q=>t σ H λvs H1=>r vs H1 Q
theorem aE (hc:bY X (.builtin id) r) (Z:X.mg x=none) (ha:PA X (e :: es) t) (hg:Gl X x:=by exact rfl) (Y:y2 x=some (.builtin id):=by decide+kernel) (hn:x ≠ "__name__" := by decide) (B:(x ==("__debug__" : Str))=false:=by decide)
  (he:j8 (e :: es) X.env=(false,eval e X.env) :: j8 es X.env:=by rfl) (F:(y9 pos (j8 es X.env)).any (·.1)=false:=by rfl):PE X (.Call (.Name x p) (e :: es) [] pos) (tCB r t):=by
 intro pins s σ H Q I h;refine x0 (fZ I hg Z Y ?_ hn B)
 exact PyProof.Rows.callWith_builtin1 (thn (ha pos pins s σ H _ I h) λus s1 L=>by obtain⟨vs,H1,I1,r1,q1⟩:=L;exact(hc pins s1 σ H1 vs us Q I1 r1 q1)) he F
theorem bu (hc:bY X (.type T) r) (Z:X.mg x=none) (ha:PA X (e :: es) t) (hg:Gl X x:=by exact rfl) (Y:y2 x=some (.type T):=by decide+kernel) (hn:x ≠ "__name__" := by decide) (B:(x ==("__debug__" : Str))=false:=by decide)
  (he:j8 (e :: es) X.env=(false,eval e X.env) :: j8 es X.env:=by rfl) (F:(y9 pos (j8 es X.env)).any (·.1)=false:=by rfl):PE X (.Call (.Name x p) (e :: es) [] pos) (tCB r t):=by
 intro pins s σ H Q I h;refine x0 (fZ I hg Z Y ?_ hn B)
 exact n6 (thn (ha pos pins s σ H _ I h) λus s1 L=>by obtain⟨vs,H1,I1,r1,q1⟩:=L;exact(hc pins s1 σ H1 vs us Q I1 r1 q1)) he F
end
end L2
variable {CX:L2.CXT} {Cs:List (PySem.Addr × L2.Sp)} {D:L2.og} {H H' H1 H2:L2.Hp} {J:L2.It} {X:L2.Cx} {dvs vs xs zs:List L2.V} {fs':List (Hl × L2.V)} {kvs:List (L2.Key × L2.V)} {o o' u0:L2.HO} {r':L2.V->Option Int->Option Int->L2.Hp->L2.VK->Prop} {sp:L2.Sp} {ta tb td te to tv ty:L2.TE} {tc:L2.TT} {trs:List (L2.TE × L2.TE)} {vb:List (L2.Key × GO)} {wi:L2.TI} {y:L2.V} {σ σ0:L2.St} {σ':List (Option L2.V)}
namespace HT
open PySem PyProof.Rows
def sIx (n d:Nat):Option Int->Nat
 | none=>d
 | some v=>if v < 0 then(v+(n:Int)).toNat else min v.toNat n
theorem sIx_none (n d:Nat):sIx n d none=d:=rfl
theorem sIx_nat (n d k:Nat):sIx n d (some (k:Int))=min k n:=by
 show(if (k:Int) < 0 then((k:Int)+(n:Int)).toNat else min (k:Int).toNat n)=min k n
 rw[if_neg (),HF]
theorem sIx_le (n d:Nat) (F:d<=n) (o:Option Int):sIx n d o<=n:=by
 cases o with
 | none=>exact F
 | some v =>
  show(if v < 0 then(v+(n:Int)).toNat else min v.toNat n)<=n
  by_cases B:v < 0
  .rw[if_pos B];omega
  .rw[if_neg B];exact Nat.min_le_right _ _
theorem xi (v:Int) (n d:Nat):(if v < 0 then max (v+(n:Int)) 0 else min v (n:Int))=((sIx n d (some v):Nat):Int):=by
 show(if v < 0 then max (v+(n:Int)) 0 else min v (n:Int))=(((if v < 0 then(v+(n:Int)).toNat else min v.toNat n):Nat):Int)
 by_cases B:v < 0
 .simp only[if_pos B];omega
 .simp only[if_neg B];omega
theorem vZ (lo hi:Option Int) (n:Nat):Builtin.Slice.sliceAdjust lo hi 1 (n:Int)=(((sIx n 0 lo:Nat):Int),((sIx n n hi:Nat):Int)):=by
 have h1 : ¬ ((1:Int) < 0):=()
 unfold Builtin.Slice.sliceAdjust;simp only[h1,if_false];refine Prod.ext ?_ ?_
 .cases lo with
  | none=>rfl
  | some v=>exact xi v n 0
 .cases hi with
  | none=>rfl
  | some v=>exact xi v n n
theorem wm (i j:Nat):G5 (i:Int) (j:Int) 1=j - i:=by
 unfold G5;have h1:(1:Int) > 0:=()
 simp only[h1,if_true,Int.ediv_one]
 split <;> omega
theorem pO {v:Value} {o:Option Int} {Q:Option Int->Shared->Prop} (p:IsPart v o) (h:Q o s):wpAny (model prog w) A (Builtin.Slice.slicePartIndex v) Q E s:=by
 cases p with
 | none=>exact slicePart_none h
 | int i t=>exact slicePart_int h
theorem hU {sl:Addr} {lo:Option Int} {Q:Int × Int × Nat->Shared->Prop} (Y:s.heap.IsSliceOf sl vl vu .none) (pl:IsPart vl lo) (L:IsPart vu hi)
  (h:Q (((sIx n 0 lo:Nat):Int),1,sIx n n hi - sIx n 0 lo) s):wpAny (model prog w) A (Builtin.Slice.sliceApplied (.ref sl) (pure (n:Int))) Q E s:=by
 obtain⟨os,F,Z,B⟩:=id Y;unfold Builtin.Slice.sliceApplied Builtin.Slice.sliceFields;refine a_ (a_ (k_ F B (x:=vl) rfl (a_ (k_ F B (x:=vu) rfl (a_ (k_ F B (x:=.none) rfl (ei ?_)))))))
 refine a_ (slicePart_none ?_)
 show wpAny _ _ (if ((1:Int) == 0)=true then _ else _) _ _ s
 rw[if_neg ∅]
 refine a_ (pO pl (a_ (pO L (a_ (ei ?_)))))
 show wpAny _ _ (match Builtin.Slice.sliceAdjust lo hi 1 (n:Int) with | (lo,hi)=>pure (lo,(1:Int),G5 lo hi 1)) _ _ s
 rw[vZ lo hi n]
 show wpAny _ _ (pure (((sIx n 0 lo:Nat):Int),(1:Int),G5 ((sIx n 0 lo:Nat):Int) ((sIx n n hi:Nat):Int) 1)) _ _ s
 rw[wm];exact ei h
theorem AX (xs:Array Value) (i k:Nat):((range k).filterMap λ(m:Nat)=>xs[((i:Int)+(m:Int) * 1).toNat]?).toArray=((xs.toList.drop i).take k).toArray:=by
 have e:(λ(m:Nat)=>xs[((i:Int)+(m:Int) * 1).toNat]?)=λm=>xs[i+m]? := by
  funext m
  have:((i:Int)+(m:Int) * 1).toNat=i+m:=()
  rw[this]
 rw[e];have:=pick_run xs i k
 rw[List.filterMap_map] at this;have e2:((λx=>xs[x]?) ∘ λx=>i+x)=λm=>xs[i+m]? := rfl
 rw[e2] at this;rw[this]
theorem getItem_tuple_cut {t sl:Addr} {lo:Option Int} (F:IsTup s.heap t items) (hs:s.heap.IsSliceOf sl vl vu .none) (pl:IsPart vl lo) (pu:IsPart vu hi)
  (hw : ¬ (sIx items.size 0 lo=0/\sIx items.size items.size hi=items.size))
  (h:Q (.ref s.heap.objs.size) { s with heap:=s.heap.push { cls:=.type "tuple",data:=.seq ((items.toList.drop (sIx items.size 0 lo)).take (sIx items.size items.size hi - sIx items.size 0 lo)).toArray } })
  (hsz:items.size<=g9):wpAny (model prog w) A (getItem (.ref t) (.ref sl)) Q E s:=by
 have B:sizeOk (.seq ((items.toList.drop (sIx items.size 0 lo)).take (sIx items.size items.size hi - sIx items.size 0 lo)).toArray):=by
  show((items.toList.drop (sIx items.size 0 lo)).take (sIx items.size items.size hi - sIx items.size 0 lo)).toArray.size<=g9
  rw[j9,G7,Hu,y4];omega
 have hj:sIx items.size items.size hi<=items.size:=sIx_le _ _ (i6 _) hi
 obtain⟨os,L,Z,ab⟩:=id hs;have Y:s.TypeIs (.ref sl) "slice" :=⟨os,L,Z⟩
 unfold getItem
 try with_reducible refine t4 ?_
 first | refine a_ (ei ?_) | skip
 refine a_ (wpAny_sequenceKey F.typeIs ∅ ?_)
 refine a_ (m3 (name:=b_ "__getitem__") F.typeIs u8
  (m7 u8 F.typeIs entry_tuple_getitem ?_ (args_tuple_getitem _ _)))
 show wpAny _ _ (Builtin.Tuple.tupleItemsOf (.ref t) >>= _) _ _ s
 refine a_ (tupleItemsOf_ F ?_)
 refine a_ (wpAny_typeOf Y ?_)
 rw[if_pos ∅]
 refine a_ (hU hs pl pu ?_)
 have aa : ¬ ((((sIx items.size 0 lo:Nat):Int) == 0 && (1:Int) == 1 && (sIx items.size items.size hi - sIx items.size 0 lo) == items.size)=true):=by
  intro q;rw[k9,k9] at q;have q1:((sIx items.size 0 lo:Nat):Int)=0:=eq_of_beq q.1.1
  have q2:sIx items.size items.size hi - sIx items.size 0 lo=items.size:=eq_of_beq q.2
  exact hw ⟨(),()⟩
 show wpAny _ _ (if (((sIx items.size 0 lo:Nat):Int) == 0 && (1:Int) == 1 && (sIx items.size items.size hi - sIx items.size 0 lo) == items.size)=true then _ else _) _ _ s
 rw[if_neg aa,AX]
 first
  | exact a_ (m:=Hb _) (w5 (ei ⟨_,rfl,ei h⟩) B)
  | exact a_ (m:=Hb _) (w5 (a_ (ei (ei ⟨_,rfl,ei h⟩))) B)
  | exact a_ (a_ (m:=Hb _) (w5 (ei (ei ⟨_,rfl,ei h⟩)) B))
  | exact a_ (a_ (m:=Hb _) (w5 (ei ⟨_,rfl,ei h⟩) B))
end HT
namespace L2
open PySem PySem.Spec PyProof.Rows
abbrev TO:=St->Hp->(Option Int->Hp->Prop)->Prop
def PO (X:Cx) (e:Option Expr) (t:TO):Prop :=
 ∀ (pins:List (Addr × Obj)) (s:Shared) (σ:St) (H:Hp) (Q:Option Int->Hp->Prop),Inv X pins σ H s->t σ H Q ->
  wpAny (model X.prog X.w) X.A (evalPart e X.env) (λu s'=>∃o H',Inv X pins σ H' s'/\IsPart u o/\Q o H') X.xe s
def lI:TO:=λ_ H Q=>Q none H
def uM (t:TE):TO:=λσ H Q=>t σ H λx H1=>∃i,x = .int i/\Q (some i) H1
theorem gb : ∀{us:List Value},be (ns.map V.int) us->IntsAre us ns:=by
 induction ns with
 | nil=>intro us r;rw[map_nil] at r;cases r;exact .nil
 | cons n ns L =>
  intro us r;rw[i8] at r;cases r with
  | cons F B =>
   obtain⟨t,e⟩:=F;subst e;exact .cons n t (L B)
section
variable {lo hi:Option Expr} {tl th:TO}
theorem dN:PO X none lI:=by
 intro pins s σ H Q I h;rw[evalPart_none];exact ei ⟨none,H,I,.none,h⟩
theorem db (h:PE X e te):PO X (some e) (uM te):=by
 intro pins s σ H Q I F;rw[evalPart_some];refine thn (h pins s σ H _ I F) λu s1 B=>?_
 obtain⟨x,H1,Z,L,Y⟩:=B;obtain⟨i,rfl,q⟩:=Y;obtain⟨t,rfl⟩:=L;exact⟨some i,H1,Z,.int i t,q⟩
def SlR (X:Cx) (r:V->Option Int->Option Int->Hp->VK->Prop):Prop :=
 ∀ (pins:List (Addr × Obj)) (s:Shared) (σ:St) (H:Hp) (x:V) (v vl vu:Value) (lo hi:Option Int) (sl:Addr) (Q:VK),Inv X pins σ H s->bg x v->s.heap.IsSliceOf sl vl vu .none->IsPart vl lo->IsPart vu hi->r x lo hi H Q ->
  ∃T id,Ie (.type T) "__getitem__" = pure (some (.builtin id))/\s.TypeIs v T/\wpAny (model X.prog X.w) X.A (getItem v (.ref sl)) (EP X pins σ Q) X.xe s
def tSl (r:V->Option Int->Option Int->Hp->VK->Prop) (te:TE) (tl th:TO):TE:=λσ H Q=>te σ H λx H1=>tl σ H1 λl H2=>th σ H2 λu B=>r x l u B Q
theorem cP {r:V->Option Int->Option Int->Hp->VK->Prop} (hr:SlR X r) (he:PE X e te) (hl:PO X lo tl) (hu:PO X hi th):PE X (.Subscript e (.Slice lo hi none p2) pos) (tSl r te tl th):=by
 intro pins s σ H Q I h;refine Subscript_ (thn (he pins s σ H _ I h) λv s1 L=>?_)
 obtain⟨x,H1,I1,r1,q1⟩:=L;refine wpAny_Slice (thn (hl pins s1 σ H1 _ I1 q1) λvl Z ⟨l,H2,I2,pl,q2⟩=>thn (hu pins Z σ H2 _ I2 q2) λvu B F=>?_)
 obtain⟨u,Y,I3,pu,q3⟩:=F;rw[evalPart_none];refine ei ?_
 have I4:Inv X pins σ Y { B with heap:=B.heap.push { cls:=.type "slice",data:=.fields #[vl,vu,.none] } }:=I3.kept (t':=B.toks) λb ob q=>d_ _ q
 obtain⟨T,id,hT,ht,hg⟩:=hr pins { B with heap:=B.heap.push { cls:=.type "slice",data:=.fields #[vl,vu,.none] } } σ Y x v vl vu l u B.heap.objs.size Q I4 r1 (Heap.IsSliceOf.new ..) pl pu q3
 show wpAny (model X.prog X.w) X.A (subscriptTail e (.Slice lo hi none p2) v (.ref B.heap.objs.size)) (EP X pins σ Q) X.xe { B with heap:=B.heap.push { cls:=.type "slice",data:=.fields #[vl,vu,.none] } }
 exact tail_any (ops:=[.ref B.heap.objs.size,v]) ht hT hg (by with_unfolding_all rfl)
def fG (xs:List V) (lo hi:Option Int):List V:=(xs.drop (HT.sIx xs.length 0 lo)).take (HT.sIx xs.length xs.length hi - HT.sIx xs.length 0 lo)
theorem mZ (xs:List V) (lo hi:Option Int):(fG xs lo hi).length<=xs.length:=by
 unfold fG;rw[G7,Hu];omega
def Gp (K:e_):V->Option Int->Option Int->Hp->VK->Prop:=λx lo hi H Q=>∃a xs,x = .ref a/\SqT K H a xs /\
 ¬ (HT.sIx xs.length 0 lo=0/\HT.sIx xs.length xs.length hi=xs.length)/\∀p,H p=none->Q (.ref p) (upd H p (.tup (fG xs lo hi)))
theorem C7:SlR X (Gp X.K):=by
 intro pins s σ H x v vl vu lo hi sl Q I Z hs pl pu h;obtain⟨a,xs,rfl,Y,hw,q⟩:=h;cases Z;obtain⟨its,r,L,F⟩:=I.tuple Y;have B:its.toArray.size=xs.length:=by rw[j9];exact r.length.symm
 refine⟨"tuple",_,u8.lookup,L.typeIs,?_⟩
 refine HT.getItem_tuple_cut L hs pl pu (by rw[B];exact hw) ?_ (by rw[B];exact F)
 rw[B];refine⟨.ref s.heap.objs.size,_,I.laid (t':=s.toks) (o:=.tup (fG xs lo hi)) (λb ob q=>d_ _ q) (i6 _) ?_,rfl,q _ (I.hok.fresh (i6 _))⟩
 exact⟨gr (mZ xs lo hi) F,_,(r.drop (HT.sIx xs.length 0 lo)).take (HT.sIx xs.length xs.length hi - HT.sIx xs.length 0 lo),IsTup.new _ _⟩
end
def ixN (n:Nat) (i:Int):Option Nat:=if 0<=i then(if i < n then some i.toNat else none) else if -(n:Int)<=i then some (i+n).toNat else none
def atI {α:Type} (xs:List α) (i:Int):Option α:=(ixN xs.length i).bind λj=>xs[j]?
theorem CF {i:Int} (h:ixN n i=some j):seqIndex? i n=some j/\j < n/\-(n:Int)<=i/\i < n:=by
 unfold ixN at h
 by_cases B:0<=i
 .rw[if_pos B] at h
  by_cases h1:i < n
  .rw[if_pos h1] at h
   have e:i.toNat=j:=fx h
   exact⟨by rw[seqIndex_of B h1,e],(),(),h1⟩
  .rw[if_neg h1] at h;cases h
 .rw[if_neg B] at h
  by_cases h1 : -(n:Int)<=i
  .rw[if_pos h1] at h
   have e:(i+n).toNat=j:=fx h
   exact⟨by rw[seqIndex_neg () h1,e],(),h1,()⟩
  .rw[if_neg h1] at h;cases h
theorem sT {xs:List α} {i:Int} {v:α} (h:atI xs i=some v) : ∃j,seqIndex? i xs.length=some j/\xs[j]? = some v/\j < xs.length/\-(xs.length:Int)<=i/\i < xs.length:=by
 unfold atI at h;cases e:ixN xs.length i with
 | none=>rw[e] at h;cases h
 | some j =>
  rw[e] at h;obtain⟨h1,h2,F,B⟩:=CF e;exact⟨j,h1,h,h2,F,B⟩
theorem bA {xs:List α} {v:α} (h:xs[j]? = some v):atI xs (j:Int)=some v:=by
 have B:j < xs.length:=(g_.mp h).1
 have e:ixN xs.length (j:Int)=some j:=by
  unfold ixN;rw[if_pos (),if_pos ()];simp
 unfold atI;rw[e];exact h
theorem pz (xs:List α) (v:α):atI (xs++[v]) (-1)=some v:=by
 have hl:(xs++[v]).length=xs.length+1:=by simp
 have e:ixN (xs++[v]).length (-1)=some xs.length:=by
  unfold ixN;rw[hl,if_neg ∅,if_pos ()]
  congr 1
  omega
 unfold atI;rw[e]
 show(xs++[v])[xs.length]? = some v
 simp
def Cz (b:Expr):Prop:=∀o i,subscripted b false o i=operate [o,i] (getItem o i)
def IxR (X:Cx) (r:R2):Prop :=
 ∀ (value B:Expr) (pins:List (Addr × Obj)) (s:Shared) (σ:St) (H:Hp) (x y:V) (v u:Value) (Q:VK),Inv X pins σ H s->bg x v->bg y u->r x y H Q ->
  subscripted B false v u=operate [v,u] (getItem v u)->wpAny (model X.prog X.w) X.A (subscriptTail value B v u) (EP X pins σ Q) X.xe s
def MtR (X:Cx) (id:String) (r:V->List V->Hp->VK->Prop):Prop :=
 ∀ (pins:List (Addr × Obj)) (s:Shared) (σ:St) (H:Hp) (x:V) (xs:List V) (v:Value) (us:List Value) (Q:VK),Inv X pins σ H s->bg x v->be xs us->r x xs H Q ->
  wpAny (model X.prog X.w) X.A (call (.builtin id) (v :: us)) (EP X pins σ Q) X.xe s
section
variable {a b:Expr}
theorem aG {r:R2} (hr:IxR X r) (ha:PE X a ta) (hb:PE X b tb) (Z:Cz b:=by exact λ_ _=>rfl):PE X (.Subscript a b pos) (tOp r ta tb):=by
 intro pins s σ H Q I h;exact Subscript_ (DH ha hb I h λv u B x y H2 Y F L q=>hr a b pins B σ H2 x y v u Q Y F L q (Z _ _))
def Gd (K:e_):R2:=λx y H Q=>∃p xs i v,x = .ref p/\y = .int i/\SqL K H p xs/\atI xs i=some v/\Q v H
def Gx (K:e_):R2:=λx y H Q=>∃p xs i v,x = .ref p/\y = .int i/\SqT K H p xs/\atI xs i=some v/\Q v H
def GH:R2:=λx y H Q=>∃z i c,x = .str z/\y = .int i/\z.length<=g9/\atI z.cps.toList i=some c/\Q (.str ⟨#[c]⟩) H
theorem BI:IxR X (Gd X.K):=by
 intro value F pins s σ H x y v u Q I rx ry h Y;obtain⟨p,xs,i,z,rfl,rfl,hq,he,q⟩:=h;cases rx;obtain⟨t,rfl⟩:=ry;obtain⟨its,r,pl,hz⟩:=I.list hq;obtain⟨j,h1,h2,h3,h4,h5⟩:=sT he;obtain⟨w,Z,L⟩:=r.get h2;have hl:=r.length;have hn:=mE;have B:EP X pins σ Q w s:=⟨z,H,I,L,q⟩
 by_cases h0:0<=i
 .have hj:i.toNat=j:=by
   rw[seqIndex_of h0 h5] at h1;exact fx h1
  exact item_listR pl.isList h0 () (by rw[hj];simpa using Z) B Y
 .have hj:(i+(its.toArray.size:Int)).toNat=j:=by
   rw[seqIndex_neg () h4] at h1
   rw[j9,<- hl];exact fx h1
  exact subscriptTail_builtinR (x:=w) pl.isList.typeIs slot_list_getitem.lookup
   (wpAny_getItem_list_neg (Q:=λr s'=>r=w/\EP X pins σ Q r s') pl.isList () (by rw[j9] <;> omega) () (by rw[hj];simpa using Z) ⟨rfl,B⟩) Y
theorem C3:IxR X (Gx X.K):=by
 intro value B pins s σ H x y v u Q I Z ry h hs;obtain⟨p,xs,i,z,rfl,rfl,Y,he,q⟩:=h;cases Z;obtain⟨t,rfl⟩:=ry;obtain⟨its,r,pl,hz⟩:=I.tuple Y;obtain⟨j,h1,h2,h3,h4,h5⟩:=sT he;obtain⟨w,ew,L⟩:=r.get h2;have hl:=r.length;have hn:=mE;have F:EP X pins σ Q w s:=⟨z,H,I,L,q⟩
 exact subscriptTail_builtinR (x:=w) pl.typeIs slot_tuple_getitem.lookup
  (getItem_tuple (j:=j) (Q:=λr s'=>r=w/\EP X pins σ Q r s') pl () () (by rw[j9,<- hl];exact h1) (by simpa using ew) ⟨rfl,F⟩) hs
theorem Dh:IxR X GH:=by
 intro value B pins s σ H x y v u Q I L Y h Z;obtain⟨z,i,c,rfl,rfl,hz,he,q⟩:=h;obtain⟨t,rfl⟩:=L;obtain⟨t',rfl⟩:=Y;obtain⟨j,h1,h2,h3,F,h5⟩:=sT he;have hl:z.cps.toList.length=z.length:=by simp[Str.length]
 rw[hl] at h1 F h5;have hn:=mE;exact tail_any (typeIs_str s z t) slot_str_getitem.lookup (getItem_str (c:=c) (by
  have e1:decide (i < -(2 ^ 63:Int))=false:=decide_eq_false ()
  have e2:decide (i >= 2 ^ 63)=false:=decide_eq_false ()
  rw[e1,e2,Bool.or_false]) (by rw[h1];simpa using h2) ⟨.str ⟨#[c]⟩,H,I.tok _,⟨_,rfl⟩,q⟩) Z
theorem sO (lo hi:Option Int) (n:Nat):(Ik lo hi none n).1=((HT.sIx n 0 lo:Nat):Int)/\(Ik lo hi none n).2.1=((HT.sIx n n hi:Nat):Int)/\(Ik lo hi none n).2.2=1:=by
 refine⟨?_,?_,rfl⟩
 .cases lo with
  | none=>simp[Ik,HT.sIx]
  | some i =>
   simp only[Ik,HT.sIx,getD_none,show(1:Int) > 0 by decide,if_true]
   by_cases h:i < 0
   .simp only[h,if_true] <;> omega
   .simp only[h,if_false] <;> omega
 .cases hi with
  | none=>simp[Ik,HT.sIx]
  | some i =>
   simp only[Ik,HT.sIx,getD_none,show(1:Int) > 0 by decide,if_true]
   by_cases h:i < 0
   .simp only[h,if_true] <;> omega
   .simp only[h,if_false] <;> omega
theorem qt (its:List Value) (lo hi:Option Int):slicePick its.toArray lo hi none=((its.drop (HT.sIx its.length 0 lo)).take (HT.sIx its.length its.length hi - HT.sIx its.length 0 lo)).toArray:=by
 obtain⟨h1,h2,B⟩:=sO lo hi its.toArray.size;unfold slicePick;rw[h1,h2,B];simp only[sliceRange_one,pick_run,j9] <;> rfl
def GG (K:e_):V->Option Int->Option Int->Hp->VK->Prop:=λx lo hi H Q=>∃a xs,x = .ref a/\SqL K H a xs/\∀p,H p=none->Q (.ref p) (upd H p (.lst (fG xs lo hi)))
theorem xB:SlR X (GG X.K):=by
 intro pins s σ H x v vl vu lo hi sl Q I Y Z pl pu h;obtain⟨a,xs,rfl,L,q⟩:=h;cases Y;obtain⟨its,r,F,hz⟩:=I.list L;have B:=r.length;refine⟨"list",_,slot_list_getitem.lookup,F.isList.typeIs,?_⟩
 refine wpAny_getItem_list_slice F.isList Z pl pu .none (by simp) ?_ (by rw[j9] <;> omega)
 rw[qt,<- B];refine⟨.ref s.heap.objs.size,_,I.laid (t':=s.toks) (o:=.lst (fG xs lo hi)) (λb ob q=>d_ _ q) (i6 _) ?_,rfl,q _ (I.hok.fresh (i6 _))⟩
 exact⟨gr (mZ xs lo hi) hz,_,0,(r.drop (HT.sIx xs.length 0 lo)).take (HT.sIx xs.length xs.length hi - HT.sIx xs.length 0 lo),f_ _ rfl⟩
def gL:V->Bool
 | .non=>true
 | .bl _=>true
 | .int _=>true
 | .str _=>true
 | _=>false
def eqV:V->V->Bool
 | .non,.non=>true
 | .bl a,.bl b=>a == b
 | .bl a,.int b=>(if a then 1 else 0) == b
 | .int a,.bl b=>a ==(if b then 1 else 0)
 | .int a,.int b=>a == b
 | .str a,.str b=>a == b
 | _,_=>false
theorem Ef {x:V} {v:Value} (L:bg y u) (B:bg x v) (Y:gL y=true) (F:gL x=true):SeqAt.EqAt A s u v (eqV y x):=by
 cases y with
 | non =>
  cases L;cases x with
  | non=>cases B;exact SeqAt.EqAt.same _
  | bl b=>cases B;exact SeqAt.EqAt.none_bool b
  | int b=>obtain⟨t,rfl⟩:=B;exact SeqAt.EqAt.none_int b t
  | str b=>obtain⟨t,rfl⟩:=B;exact SeqAt.EqAt.none_str b t
  | _=>exact absurd (show false=true from F) i_
 | bl a =>
  cases L;cases x with
  | non=>cases B;exact SeqAt.EqAt.bool_none a
  | bl b=>cases B;exact SeqAt.EqAt.bool_bool a b
  | int b=>obtain⟨t,rfl⟩:=B;exact SeqAt.EqAt.bool_int a b t
  | str b=>obtain⟨t,rfl⟩:=B;exact SeqAt.EqAt.bool_str a b t
  | _=>exact absurd (show false=true from F) i_
 | int a =>
  obtain⟨t',rfl⟩:=L;cases x with
  | non=>cases B;exact SeqAt.EqAt.int_none a t'
  | bl b=>cases B;exact SeqAt.EqAt.int_bool a t' b
  | int b=>obtain⟨t,rfl⟩:=B;exact SeqAt.EqAt.int_int a t' b t
  | str b=>obtain⟨t,rfl⟩:=B;exact SeqAt.EqAt.int_str a t' b t
  | _=>exact absurd (show false=true from F) i_
 | str a =>
  obtain⟨t',rfl⟩:=L;cases x with
  | non=>cases B;exact SeqAt.EqAt.str_none a t'
  | bl b=>cases B;exact SeqAt.EqAt.str_bool a t' b
  | int b=>obtain⟨t,rfl⟩:=B;exact SeqAt.EqAt.str_int a t' b t
  | str b=>obtain⟨t,rfl⟩:=B;exact SeqAt.EqAt.str_str a t' b t
  | _=>exact absurd (show false=true from F) i_
 | _=>exact absurd (show false=true from Y) i_
def eqU (x:V) (u:Value):Bool:=match u with
 | .none=>eqV .non x
 | .bool b=>eqV (.bl b) x
 | .int i _=>eqV (.int i) x
 | .str z _=>eqV (.str z) x
 | _=>false
theorem Ay {x:V} (r:bg y u) (f:gL y=true):eqU x u=eqV y x:=by
 cases y with
 | non=>cases r;rfl
 | bl b=>cases r;rfl
 | int i=>obtain⟨t,rfl⟩:=r;rfl
 | str z=>obtain⟨t,rfl⟩:=r;rfl
 | _=>exact absurd (show false=true from f) i_
theorem lf {x:V} : ∀{xs:List V} {us:List Value},be xs us->xs.all gL=true->us.any (eqU x)=xs.any λy=>eqV y x
 | _,_,.nil,_=>rfl
 | y :: xs,u :: us,.cons r t,f=>by
  rw[List.all_cons,k9] at f;rw[HX,HX,Ay r f.1,lf t f.2]
theorem iW {A:Around} {s:Shared} {x:V} {v:Value} (F:bg x v) (B:gL x=true) : ∀{xs:List V} {us:List Value},be xs us->xs.all gL=true->∀u∈us,SeqAt.EqAt A s u v (eqU x u)
 | _,_,.nil,_=>λu hu=>by cases hu
 | y :: xs,u :: us,.cons r t,f=>λL hu=>by
  rw[List.all_cons,k9] at f;rcases i4.mp hu with rfl | hu
  .rw[Ay r f.1];exact Ef r F f.1 B
  .exact iW F B t f.2 L hu
def inV (x:V) (xs:List V):Bool:=xs.any λy=>eqV y x
def rIn (K:e_) (B:Bool):R2:=λx y H Q=>∃p xs,y = .ref p/\(SqL K H p xs\/SqT K H p xs)/\gL x=true/\xs.all gL=true/\Q (.bl (if B then !inV x xs else inV x xs)) H
theorem re:OpR X (p_ .In) (rIn X.K false):=by
 intro pins s σ H x y v u Q I Y Z h;obtain⟨p,xs,rfl,B,L,fs,q⟩:=h;cases Z;rcases B with B | B
 .obtain⟨its,r,pl,hz⟩:=I.list B
  refine SeqAt.in_listAt (eqU x) pl.isList (λw F=>iW Y L r fs w (by simpa using F)) ⟨.bl _,H,I,rfl,?_⟩
  rw[show its.toArray.any (eqU x)=its.any (eqU x) by simp,lf r fs]
  exact q
 .obtain⟨its,r,pl,hz⟩:=I.tuple B
  refine SeqAt.in_tupleAt (eqU x) pl (λw F=>iW Y L r fs w (by simpa using F)) ⟨.bl _,H,I,rfl,?_⟩
  rw[show its.toArray.any (eqU x)=its.any (eqU x) by simp,lf r fs]
  exact q
theorem tF:OpR X (p_ .NotIn) (rIn X.K true):=by
 intro pins s σ H x y v u Q I Y Z h;obtain⟨p,xs,rfl,B,L,fs,q⟩:=h;cases Z;rcases B with B | B
 .obtain⟨its,r,pl,hz⟩:=I.list B
  refine SeqAt.notIn_listAt (eqU x) pl.isList (λw F=>iW Y L r fs w (by simpa using F)) ⟨.bl _,H,I,rfl,?_⟩
  rw[show its.toArray.any (eqU x)=its.any (eqU x) by simp,lf r fs]
  exact q
 .obtain⟨its,r,pl,hz⟩:=I.tuple B
  refine SeqAt.notIn_tupleAt (eqU x) pl (λw F=>iW Y L r fs w (by simpa using F)) ⟨.bl _,H,I,rfl,?_⟩
  rw[show its.toArray.any (eqU x)=its.any (eqU x) by simp,lf r fs]
  exact q
theorem lL:bY X (.builtin "len") (λxs H Q=>∃p ys,xs=[.ref p]/\(SqL X.K H p ys\/SqT X.K H p ys)/\Q (.int ys.length) H):=by
 intro pins s σ H xs us Q I r h;obtain⟨p,ys,rfl,F,q⟩:=h;obtain⟨u,rfl,L⟩:=dA r;cases L;have hn:=mE;rcases F with F | F
 .obtain⟨its,r',pl,hz⟩:=I.list F
  have B:=r'.length;exact Calls.call_len_list pl.isList (by simp only[j9] <;> omega) ⟨.int ys.length,H,I.tok _,⟨s.toks+1,by rw[j9,B]⟩,q⟩
 .obtain⟨its,r',pl,hz⟩:=I.tuple F
  have B:=r'.length;exact len_tuple pl (by simp only[j9] <;> omega) ⟨.int ys.length,H,I.tok _,⟨s.toks+1,by rw[j9,B]⟩,q⟩
theorem tE:bY X (.builtin "len") (λxs H Q=>∃z,xs=[.str z]/\z.length<=g9/\Q (.int z.length) H):=by
 intro pins s σ H xs us Q I r h;obtain⟨z,rfl,B,q⟩:=h;obtain⟨u,rfl,t,rfl⟩:=dA r;have hn:=mE;exact len_str () ⟨.int z.length,H,I.tok _,⟨_,rfl⟩,q⟩
theorem rX:bY X (.type "list") (λxs H Q=>∃p ys,xs=[.ref p]/\(SqL X.K H p ys\/SqT X.K H p ys)/\∀l,H l=none->Q (.ref l) (upd H l (.lst ys))):=by
 intro pins s σ H xs us Q I r h;obtain⟨p,ys,rfl,L,q⟩:=h;obtain⟨u,rfl,rx⟩:=dA r;cases rx;have aa : ∀(its:List Value),be ys its->ys.length<=g9->∀(h':Heap) (B:Nat),(∀b o',s.heap.get? b=some o'->h'.get? b=some o') ->
   h'.get? s.heap.objs.size=some { cls:=.type "list",dict:=none,data:=.seq its.toArray B,slots := #[] }->EP X pins σ Q (.ref s.heap.objs.size) { s with heap:=h' }:=λits r' Z h' B F e =>
  ⟨.ref s.heap.objs.size,_,I.laid (t':=s.toks) F (i6 _) (show bF X.prog X.w _ h' _ (.lst ys) from⟨Z,its,B,r',e⟩),rfl,q _ (I.hok.fresh (i6 _))⟩
 rcases L with L | L
 .obtain⟨its,r',pl,Z⟩:=I.list L
  have Y:=r'.length;obtain⟨o,ho,hc,n,hd⟩:=pl.isList;exact call_list_seq p (.inl rfl) ho hc hd (λh' B F e=>aa its r' Z h' B F e) (by simp only[j9] <;> omega)
 .obtain⟨its,r',pl,Z⟩:=I.tuple L
  have Y:=r'.length;obtain⟨o,ho,hc,n,hd⟩:=pl;exact call_list_seq p (.inr rfl) ho hc hd (λh' B F e=>aa its r' Z h' B F e) (by simp only[j9] <;> omega)
theorem qJ:bY X (.type "tuple") (λxs H Q=>∃p ys,xs=[.ref p]/\((SqL X.K H p ys/\∀l,H l=none->Q (.ref l) (upd H l (.tup ys)))\/(SqT X.K H p ys/\Q (.ref p) H))):=by
 intro pins s σ H xs us Q I r h;obtain⟨p,ys,rfl,h⟩:=h;obtain⟨u,rfl,Z⟩:=dA r;cases Z;rcases h with⟨B,q⟩ | ⟨B,q⟩
 .obtain⟨its,r',pl,hz⟩:=I.list B
  have F:=r'.length;refine call_tuple_list pl.isList (λh' Y=>?_) (by simp only[j9] <;> omega)
  have L:Inv X pins σ H { s with heap:=h' }:=I.kept (t':=s.toks) Y
  have I2:Inv X pins σ (upd H h'.objs.size (.tup ys)) { s with heap:=h'.push { cls:=.type "tuple",data:=.seq its.toArray } } :=
   L.laid (t':=s.toks) (λb o e=>d_ _ e) (i6 _) (show bF X.prog X.w _ _ _ (.tup ys) from⟨hz,its,r',IsTup.new _ _⟩)
  exact⟨.ref h'.objs.size,_,I2,rfl,q _ (L.hok.fresh (i6 _))⟩
 .obtain⟨its,r',pl,hz⟩:=I.tuple B
  exact call_tuple_same pl ⟨.ref p,H,I,rfl,q⟩
def tyV (K:e_) (T:String) (x:V) (H:Hp):Prop:=match x with
 | .str _=>T = "str"
 | .int _=>T = "int"
 | .ref p=>(T = "list"/\∃xs,SqL K H p xs)\/(T = "tuple"/\∃o,K.lookup p=some o/\o.cls = .type "tuple" /\ o.dict=none) \/
   (T = "dict" /\((∃kvs,H p<*kvs)\/∃kvs,H p=some (.dT kvs)))\/(T = "set"/\∃S n,H p=some (.set S n))
 | _=>False
theorem vC {T:String} {x:V} {v:Value} (I:Inv X pins σ H s) (r:bg x v) (ty:tyV X.K T x H) :
  s.TypeIs v T/\∀a,v = .ref a->∃ob,s.heap.get? a=some ob/\ob.dict=none:=by
 cases x with
 | str z =>
  obtain⟨t,rfl⟩:=r;cases (show T = "str" from ty)
  exact⟨typeIs_str s z t,λ_ e=>nomatch e⟩
 | int i =>
  obtain⟨t,rfl⟩:=r;cases (show T = "int" from ty)
  exact⟨typeIs_int s i t,λ_ e=>nomatch e⟩
 | ref p =>
  cases r;rcases ty with⟨rfl,xs,L⟩ | ⟨rfl,o,B,hc,F⟩ | ⟨rfl,B⟩ | ⟨rfl,S,n,B⟩
  .obtain⟨its,_,pl,_⟩:=I.list L
   refine⟨pl.isList.typeIs,λa e=>?_⟩
   cases e;obtain⟨o,n,e,c,F,_⟩:=pl;exact⟨o,e,F⟩
  .refine⟨⟨o,I.kIn p o B,hc⟩,λa e=>?_⟩
   cases e;exact⟨o,I.kIn _ o B,F⟩
  .have z : ∃o,s.heap.get? p=some o/\o.ExactDict:=by
    rcases B with⟨kvs,B⟩ | ⟨kvs,B⟩
    .obtain⟨_,_,_,_,o,_,_,e,ex,_⟩:=I.hok p _ B
     exact⟨o,e,ex⟩
    .obtain⟨_,_,_,_,o,_,_,e,ex,_⟩:=I.hok p _ B
     exact⟨o,e,ex⟩
   obtain⟨o,e,ex⟩:=z;refine⟨⟨o,e,ex.1⟩,λa e2=>?_⟩
   cases e2;exact⟨o,e,ex.2.1⟩
  .obtain⟨o,_,_,_,e,ex,_⟩:=I.hok p _ B
   refine⟨⟨o,e,ex.1⟩,λa e2=>?_⟩
   cases e2;exact⟨o,e,ex.2.1⟩
 | _=>exact zc ty
variable {o:Expr} {t:TA} {T id:String} {r:V->List V->Hp->VK->Prop}
end
def MtM (X:Cx) (id:String) (r:V->List V->Hp->VK->Prop):Prop :=
 ∀ (pins:List (Addr × Obj)) (s:Shared) (σ:St) (H:Hp) (x:V) (xs:List V) (v:Value) (us:List Value) (Q:VK),Inv X pins σ H s->bg x v->be xs us->r x xs H Q ->
  wpAny (model X.prog X.w) X.A (call (.builtin id) (v :: us)) (EP X pins σ Q) X.xe s
theorem be.one : ∀{x:V} {us:List Value},be [x] us->∃u,us=[u]/\bg x u
 | _,_,.cons r .nil=>⟨_,rfl,r⟩
theorem be.zero : ∀{us:List Value},be [] us->us=[]
 | _,.nil=>rfl
theorem be.dropLast {xs:List V} {us:List Value} (h:be xs us):be xs.dropLast us.dropLast:=by
 induction h with
 | nil=>exact .nil
 | cons r t B =>
  cases t with
  | nil=>exact .nil
  | cons q t'=>exact .cons r B
theorem be.eraseIdx : ∀{xs:List V} {us:List Value} (i:Nat),be xs us->be (xs.eraseIdx i) (us.eraseIdx i)
 | _,_,_,.nil=>.nil
 | _,_,0,.cons _ t=>t
 | _,_,i+1,.cons r t=>.cons r (be.eraseIdx i t)
theorem be.reverse {xs:List V} {us:List Value} (h:be xs us):be xs.reverse us.reverse:=by
 induction h with
 | nil=>exact .nil
 | cons r t B=>rw[List.reverse_cons,List.reverse_cons];exact be.append B (.cons r .nil)
theorem vV (l:List α):l.eraseIdx (l.length - 1)=l.dropLast:=by
 induction l with
 | nil=>rfl
 | cons a r B =>
  cases r with
  | nil=>rfl
  | cons b r =>
   have e:(a :: b :: r).length - 1=((b :: r).length - 1)+1:=by
    have h1:(a :: b :: r).length=r.length+2:=rfl
    have h2:(b :: r).length=r.length+1:=rfl
    omega
   rw[e,List.eraseIdx_cons_succ,B]
   all_goals rfl
theorem rc {α:Type} : ∀(l:List α) (i:Nat),(l.eraseIdx i).length<=l.length
 | [],_=>i6 _
 | _ :: _,0=>le_succ _
 | _ :: r,i+1=>Nat.succ_le_succ (rc r i)
section
variable {ys:List V}
theorem Inv.lset {its':List Value} {f:Array Value->Array Value} (I:Inv X pins σ H s) (Z:H l*>xs)
  (e:s.heap.get? l=some { cls:=.type "list",data:=.seq its.toArray n }) (F:f its.toArray=its'.toArray) (B:be ys its') (L:ys.length<=g9) :
  Inv X pins σ (upd H l (.lst ys)) { s with heap:=s.heap.update l (n_ f),toks:=t' }:=by
 have q:=PySem.IsL.update e f;rw[F] at q;refine I.write (x:=l) (e:=l) (by rw[Z];exact trivial) (.inl rfl) (λb' u Y hu=>(y_ s.heap (n_ f) (tj Y)).trans hu) ⟨_,q⟩ ?_
 exact⟨L,its',_,B,q⟩
theorem Inv.lnew (I:Inv X pins σ H s) (B:be ys its) (F:ys.length<=g9) :
  Inv X pins σ (upd H s.heap.objs.size (.lst ys)) { s with heap:=s.heap.push { cls:=.type "list",data:=.seq its.toArray },toks:=t' } :=
 I.laid (λ_ _ q=>d_ _ q) (i6 _) ⟨F,its,0,B,f_ _ rfl⟩
theorem Inv.fresh (I:Inv X pins σ H s):H s.heap.objs.size=none:=I.hok.fresh (i6 _)
theorem Inv.lstM (I:Inv X pins σ H s) (B:H l*>xs):xs.length<=g9/\∃(its:List Value) (n:Nat),be xs its/\xs.length=its.length/\s.heap.get? l=some { cls:=.type "list",data:=.seq its.toArray n }:=by
 obtain⟨z,its,n,r,e⟩:=I.hok l _ B;exact⟨z,its,n,r,r.length,e⟩
end
def BN:V->List V->Hp->VK->Prop:=λx vs H Q=>∃l xs y,x = .ref l/\vs=[y]/\H l*>xs/\xs.length < g9/\Q .non (upd H l (.lst (xs++[y])))
theorem rM:MtM X "list.append" BN:=by
 intro pins s σ H x vs v us Q I L Z h;obtain⟨l,xs,y,rfl,rfl,B,hz,q⟩:=h;cases L;obtain⟨u,rfl,Y⟩:=Z.one;obtain⟨z,its,n,r,hl,e⟩:=I.lstM B;refine call_meets F.slot_list_append ⟨_,e,rfl⟩ F.entry_list_append (F.args_list_append_2 _ _) (PySem.list_append l its.toArray n u (by rw[j9];omega)) ⟨e,?_⟩
 refine⟨.non,_,I.lset (its':=its++[u]) B e (by simp) (r.append (.cons Y .nil)) ?_,rfl,q⟩
 rw[u9,List.length_singleton];omega
def Gc:V->List V->Hp->VK->Prop:=λx vs H Q=>∃l xs y,x = .ref l/\vs=[]/\H l*>xs/\xs[xs.length - 1]? = some y/\Q y (upd H l (.lst xs.dropLast))
theorem Ee:MtM X "list.pop" Gc:=by
 intro pins s σ H x vs v us Q I Z rv h;obtain⟨l,xs,y,rfl,rfl,Y,hy,q⟩:=h;cases Z;have B:=rv.zero;subst B;obtain⟨z,its,n,r,hl,e⟩:=I.lstM Y;obtain⟨u,hu,ru⟩:=r.get hy;have L:its.toArray[its.toArray.size - 1]? = some u:=by
  show its.toArray[its.length - 1]? = some u
  rw[<- Array.getElem?_toList,<- hl];exact hu
 refine call_meets F.slot_list_pop ⟨_,e,rfl⟩ F.entry_list_pop (F.args_list_pop_1 _) (MeetsSeq.list_pop_last l its.toArray n u L (by rw[j9];omega)) ⟨e,?_⟩
 refine⟨y,_,I.lset (its':=its.dropLast) Y e ?_ r.dropLast ?_,ru,q⟩
 .show its.toArray.eraseIdxIfInBounds (its.toArray.size - 1)=its.dropLast.toArray
  rw[j9,List.eraseIdxIfInBounds_toArray,vV]
 .rw[List.length_dropLast]
  omega
def Ds:V->List V->Hp->VK->Prop:=λx vs H Q=>∃l xs i k y,x = .ref l/\vs=[.int i]/\H l*>xs/\-(2 ^ 63)<=i/\i < 2 ^ 63/\seqIndex? i xs.length=some k/\xs[k]? = some y/\Q y (upd H l (.lst (xs.eraseIdx k)))
theorem zV:MtM X "list.pop" Ds:=by
 intro pins s σ H x vs v us Q I Y rv h;obtain⟨l,xs,i,k,y,rfl,rfl,L,h1,h2,hk,hy,q⟩:=h;cases Y;obtain⟨u,rfl,Z⟩:=rv.one;obtain⟨t,rfl⟩:=Z;obtain⟨z,its,n,r,hl,e⟩:=I.lstM L;obtain⟨w,hw,B⟩:=r.get hy;refine call_meets F.slot_list_pop ⟨_,e,rfl⟩ F.entry_list_pop (F.args_list_pop_2 _ _)
  (MeetsSeq.list_pop_at l its.toArray n i t k w (fitsIndex_both h1 h2) (by rw[j9,<- hl];exact hk) (by rw[<- Array.getElem?_toList];exact hw) (by rw[j9];omega)) ⟨e,?_⟩
 refine⟨y,_,I.lset (its':=its.eraseIdx k) L e ?_ (r.eraseIdx k) ?_,B,q⟩
 .show its.toArray.eraseIdxIfInBounds k=(its.eraseIdx k).toArray
  rw[List.eraseIdxIfInBounds_toArray]
 .have:=rc xs k
  omega
def Gm:R2:=λx y H Q=>∃l b xs zs,x = .ref l/\y = .ref b/\H l*>xs/\H b*>zs/\xs.length+zs.length<=g9/\∀p,H p=none->Q (.ref p) (upd H p (.lst (xs++zs)))
theorem C5:OpR X (Ic .Add) Gm:=by
 intro pins s σ H x y v u Q I L Y h;obtain⟨l,b,xs,zs,rfl,rfl,hH,F,hz,q⟩:=h;cases L;cases Y;obtain⟨z,its,n,r,hl,e⟩:=I.lstM hH;obtain⟨z2,B,n2,r2,aa,e2⟩:=I.lstM F;refine PySem.P.add_list e e2 ?_ (by rw[j9,j9];omega)
 have Z:its.toArray++B.toArray=(its++B).toArray:=by simp
 rw[Z];exact⟨.ref _,_,I.lnew (t':=s.toks) (r.append r2) (by rw[u9];omega),rfl,q _ I.fresh⟩
section
variable [DecidableEq κ]
def bO (kvs:List (κ × V)) (k:κ):Option V:=(kvs.find? λB=>decide (B.1=k)).map (·.2)
def bm (kvs:List (κ × V)) (k:κ) (v:V):List (κ × V) :=
 if (kvs.any λB=>decide (B.1=k))=true then kvs.map (λB=>if B.1=k then(B.1,v) else B) else kvs++[(k,v)]
theorem dH {k:κ}:bO ([]:List (κ × V)) k=none:=rfl
theorem bz {p:κ × V} {r:List (κ × V)} {k:κ} (e:p.1=k):bO (p :: r) k=some p.2:=by simp[bO,Hm,e]
theorem aS {p:κ × V} {r:List (κ × V)} {k:κ} (e : ¬ p.1=k):bO (p :: r) k=bO r k:=by simp[bO,Hm,e]
theorem gj (k:κ) : ∀kvs:List (κ × V),(kvs.any λB=>decide (B.1=k))=(bO kvs k).isSome
 | []=>rfl
 | p :: r=>by
  rw[HX]
  by_cases e:p.1=k
  .simp only[bz e,decide_eq_true e,Bool.true_or,isSome_some]
  .rw[aS e,decide_eq_false e,Bool.false_or];exact gj k r
theorem tZ (k j:κ) (y:V) : ∀kvs:List (κ × V),bO (kvs.map λB=>if B.1=k then(B.1,y) else B) j=(bO kvs j).map λx=>if j=k then y else x
 | []=>rfl
 | p :: r=>by
  have F:=tZ k j y r;rw[i8]
  by_cases h:p.1=k
  .rw[if_pos h]
   by_cases e:p.1=j
   .rw[bz (p:=(p.1,y)) e,bz e,H_,if_pos (e.symm.trans h)]
   .rw[aS (p:=(p.1,y)) e,aS e,F]
  .rw[if_neg h]
   by_cases e:p.1=j
   .rw[bz (p:=p) e,bz e,H_,if_neg (λz=>h (e.trans z))]
   .rw[aS (p:=p) e,aS e,F]
theorem ro (k j:κ) (y:V) : ∀kvs:List (κ × V),bO kvs k=none->bO (kvs++[(k,y)]) j=if j=k then some y else bO kvs j
 | [],_=>by
  by_cases e:k=j
  .rw[if_pos e.symm];exact bz (p:=(k,y)) e
  .rw[if_neg (λz=>e z.symm)];exact aS (p:=(k,y)) e
 | p :: r,hn=>by
  rw[cons_append];have B : ¬ p.1=k:=λz=>by rw[bz z] at hn;cases hn
  rw[aS B] at hn;have F:=ro k j y r hn
  by_cases e:p.1=j
  .rw[bz e,bz e,if_neg (λz=>B (e.trans z))]
  .rw[aS e,aS e,F]
theorem hZ (kvs:List (κ × V)) (k j:κ) (y:V):bO (bm kvs k y) j=if j=k then some y else bO kvs j:=by
 unfold bm
 by_cases a:(kvs.any λB=>decide (B.1=k))=true
 .rw[if_pos a,tZ]
  rw[gj] at a
  by_cases e:j=k
  .obtain⟨x,hx⟩:=G3.mp a
   rw[if_pos e,e,hx,H_,if_pos rfl]
  .rw[if_neg e]
   cases bO kvs j with
   | none=>rfl
   | some x=>rw[H_,if_neg e]
 .rw[if_neg a]
  refine ro k j y kvs ?_
  rw[gj] at a;cases q:bO kvs k with
  | none=>rfl
  | some x=>rw[q] at a;exact(a rfl).elim
theorem cR (kvs:List (κ × V)) (k:κ) (v:V):(bm kvs k v).length<=kvs.length+1:=by
 unfold bm
 split
 .rw[c_];omega
 .rw[u9,w_,length_nil];omega
theorem fh {kvs:List (κ × V)} {k:κ} (v:V) (h:bO kvs k=none):bm kvs k v=kvs++[(k,v)]:=by
 unfold bm;rw[gj,h];exact if_neg ∅
theorem il.isSome_eq {o:Option V} {u:Option Value} (r:il o u):o.isSome=u.isSome:=by
 cases o with
 | none=>cases u with
  | none=>rfl
  | some _=>exact(show False from r).elim
 | some _=>cases u with
  | none=>exact(show False from r).elim
  | some _=>rfl
theorem il.getD {o:Option V} {u:Option Value} {d:V} {d':Value} (r:il o u) (B:bg d d'):bg (o.getD d) (u.getD d'):=by
 cases o with
 | none=>cases u with
  | none=>exact B
  | some _=>exact(show False from r).elim
 | some _=>cases u with
  | none=>exact(show False from r).elim
  | some _=>exact r
theorem KV.val {kvs:List (κ × V)} {vs:List (κ × Value)} (r:KV kvs vs) (k:κ):il (bO kvs k) (valueAt vs k):=by
 unfold KV at r
 induction r with
 | nil=>exact nl
 | @cons p q ps qs h t ih =>
  obtain⟨h1,h2⟩:=h
  by_cases e:p.1=k
  .have e':q.1=k:=h1.symm.trans e
   have b:valueAt (q :: qs) k=some q.2:=by simp[valueAt,Hm,e']
   rw[bz e,b];exact h2
  .have e' : ¬ q.1=k:=λz=>e (h1.trans z)
   have b:valueAt (q :: qs) k=valueAt qs k:=by simp[valueAt,Hm,e']
   rw[aS e,b];exact ih
theorem KV.any {kvs:List (κ × V)} {vs:List (κ × Value)} (r:KV kvs vs) (k:κ):(kvs.any λB=>decide (B.1=k))=vs.any λB=>decide (B.1=k):=by
 unfold KV at r
 induction r with
 | nil=>rfl
 | cons h t F=>rw[HX,HX,F,h.1]
theorem KV.repl {kvs:List (κ × V)} {vs:List (κ × Value)} (r:KV kvs vs) (k:κ) {y:V} {u:Value} (F:bg y u) :
  KV (kvs.map λB=>if B.1=k then(B.1,y) else B) (vs.map λB=>if B.1=k then(B.1,u) else B):=by
 unfold KV at r ⊢
 induction r with
 | nil=>exact .nil
 | @cons p q ps qs h t ih =>
  rw[i8,i8];refine .cons ?_ ih
  obtain⟨h1,h2⟩:=h
  by_cases e:p.1=k
  .rw[if_pos e,if_pos (h1.symm.trans e)];exact⟨h1,F⟩
  .rw[if_neg e,if_neg (λz=>e (h1.trans z))];exact⟨h1,h2⟩
theorem KV.put {kvs:List (κ × V)} {vs:List (κ × Value)} (r:KV kvs vs) (k:κ) {y:V} {u:Value} (B:bg y u):KV (bm kvs k y) (stored vs k u):=by
 unfold bm stored;rw[r.any k]
 by_cases e:(vs.any λF=>decide (F.1=k))=true
 .rw[if_pos e,if_pos e];exact r.repl k B
 .rw[if_neg e,if_neg e];exact Paired.snoc r ⟨rfl,B⟩
theorem KV.keys {kvs:List (κ × V)} {vs:List (κ × Value)} (r:KV kvs vs):kvs.map (·.1)=vs.map (·.1):=by
 unfold KV at r
 induction r with
 | nil=>rfl
 | cons h t B=>rw[i8,i8,B,h.1]
theorem KV.length {kvs:List (κ × V)} {vs:List (κ × Value)} (r:KV kvs vs):kvs.length=vs.length:=Paired.length r
end
theorem pN {k:Key} (r:bg (kV k) u):(bp P w).is k u=true:=by
 cases k with
 | inl i=>obtain⟨t,e⟩:=(show ∃t,u=Value.int i t from r);subst e;exact vc P w i t
 | inr x=>obtain⟨t,e⟩:=(show ∃t,u=Value.str x t from r);subst e;exact uO P w x t
theorem rh {P:Program} {w:World} : ∀{ks:List Key} {us:List Value},be (ks.map kV) us->ItemsAre (bp P w) ks us
 | [],_,r=>by rw[map_nil] at r;cases r;exact .nil
 | k :: ks,_,r=>by
  rw[i8] at r;cases r with
  | cons h t=>exact .cons (pN h) (rh t)
abbrev KT (H:Hp):List (List Key × V)->List (List Key × Addr × Value)->Prop:=Paired λp q=>p.1=q.1/\H q.2.1>>(p.1.map kV)/\bg p.2 q.2.2
theorem KT.val {kvs:List (List Key × V)} {xs:List (List Key × Addr × Value)} (r:KT H kvs xs) (k:List Key):il (bO kvs k) ((atKey xs k).map (·.2)):=by
 induction r with
 | nil=>exact nl
 | @cons p q ps qs h t ih =>
  obtain⟨h1,_,h2⟩:=h
  by_cases e:p.1=k
  .have e':q.1=k:=h1.symm.trans e
   have b:atKey (q :: qs) k=some q.2:=by simp[atKey,Hm,e']
   rw[bz e,b];exact h2
  .have e' : ¬ q.1=k:=λz=>e (h1.trans z)
   have b:atKey (q :: qs) k=atKey qs k:=by simp[atKey,Hm,e']
   rw[aS e,b];exact ih
theorem KT.repl {kvs:List (List Key × V)} {xs:List (List Key × Addr × Value)} (r:KT H kvs xs) (k:List Key) {y:V} {u:Value} (L:bg y u) :
  KT H (kvs.map λB=>if B.1=k then(B.1,y) else B) (xs.map (putAt k u)):=by
 induction r with
 | nil=>exact .nil
 | @cons p q ps qs h t ih =>
  rw[i8,i8];refine .cons ?_ ih
  obtain⟨h1,h2,F⟩:=h;unfold putAt
  by_cases e:p.1=k
  .rw[if_pos e,if_pos (h1.symm.trans e)];exact⟨h1,h2,L⟩
  .rw[if_neg e,if_neg (λz=>e (h1.trans z))];exact⟨h1,h2,F⟩
theorem KT.put {kvs:List (List Key × V)} {xs:List (List Key × Addr × Value)} (r:KT H kvs xs) (k:List Key) {b:Addr} {y:V} {u:Value} (F:H b>>(k.map kV)) (B:bg y u) :
  KT H (bm kvs k y) (storedH xs k b u):=by
 have e:(kvs.any λL=>decide (L.1=k))=(atKey xs k).isSome:=by
  rw[gj,(r.val k).isSome_eq,isSome_map]
 unfold bm storedH;rw[e]
 by_cases q:(atKey xs k).isSome=true
 .rw[if_pos q,if_pos q];exact r.repl k B
 .rw[if_neg q,if_neg q];exact Paired.snoc r ⟨rfl,F,B⟩
theorem KT.keeps {kvs:List (List Key × V)} {xs:List (List Key × Addr × Value)} (r:KT H kvs xs) (B : ∀b ys,H b>>ys->H' b>>ys):KT H' kvs xs :=
 Paired.mapP r λ_ _ z=>⟨z.1,B _ _ z.2.1,z.2.2⟩
theorem C2 {u:HO} (ok:HOk P w H h) (e:Rd H a u):bF P w H h a u:=e.ok ok
theorem nI (ok:HOk P w H h) (e:Rd H a (.dK kvs)):kvs.length<=g9/\(a == Gt)=false/\∃vs,KV kvs vs/\h.DictOf (bp P w) a vs :=
 show bF P w H h a (.dK kvs) from C2 ok e
theorem pj (ok:HOk P w H h) (e:H a<*kvs):kvs.length<=g9/\(a == Gt)=false/\∃vs,KV kvs vs/\h.DictOf (bp P w) a vs:=nI ok (.inl e)
theorem mO {ks:List Key} (ok:HOk P w H h) (e:H a>>(ks.map kV)):(G9 (bp P w)).is h ks a:=by
 obtain⟨_,its,r,o,h1,h2,n,B⟩:=(show bF P w H h a (.tup (ks.map kV)) from ok a _ e)
 exact⟨o,its.toArray,n,h1,h2,B,by simpa using rh r⟩
theorem nh {kvs:List (List Key × V)} (ok:HOk P w H h) (e:Rd H a (.dT kvs)):kvs.length<=g9/\(a == Gt)=false /\
  ∃xs,KT H kvs xs/\h.DictOfH (G9 (bp P w)) a xs:=by
 obtain⟨z,y,xs,r,o,es,Z,h1,h2,L,F,Y⟩:=(show bF P w H h a (.dT kvs) from C2 ok e)
 refine⟨z,y,xs,r,o,es,Z,h1,h2,L,F,λx B=>?_,Y⟩
 have all : ∀{l:List (List Key × V)} {m:List (List Key × Addr × Value)},KT H l m->∀x∈m,(G9 (bp P w)).is h x.1 x.2.1:=by
  intro l m q
  induction q with
  | nil=>intro x B;exact nomatch B
  | @cons p q ps qs hq t ih =>
   intro x B;rcases i4.mp B with e | B
   .subst e
    exact mO ok (by rw[<- hq.1];exact hq.2.1)
   .exact ih x B
 exact all r x B
theorem Ez {kvs:List (List Key × V)} (ok:HOk P w H h) (e:H a=some (.dT kvs)):kvs.length<=g9/\(a == Gt)=false /\
  ∃xs,KT H kvs xs/\h.DictOfH (G9 (bp P w)) a xs:=nh ok (.inl e)
def oR (H:Hp) (a:Addr) (y:V) (r:Option V):Prop :=
 (∃kvs k,Rd H a (.dK kvs)/\y=kV k/\r=bO kvs k)\/∃kvs k b,Rd H a (.dT kvs)/\y = .ref b/\H b>>(k.map kV)/\r=bO kvs k
def xL (H:Hp) (a:Addr) (y v:V) (H':Hp):Prop :=
 (∃kvs k,H a<*kvs/\y=kV k/\kvs.length < g9/\H'=upd H a (.dK (bm kvs k v))) \/
 ∃kvs k b,H a=some (.dT kvs)/\y = .ref b/\H b>>(k.map kV)/\kvs.length < g9/\H'=upd H a (.dT (bm kvs k v))
theorem oR.t {kvs:List (List Key × V)} {k:List Key} (e:H a=some (.dT kvs)) (B:H b>>(k.map kV)):oR H a (.ref b) (bO kvs k):=.inr ⟨kvs,k,b,.inl e,rfl,B,rfl⟩
theorem xL.t {kvs:List (List Key × V)} {k:List Key} {v:V} (e:H a=some (.dT kvs)) (B:H b>>(k.map kV)) (hl:kvs.length < g9) :
  xL H a (.ref b) v (upd H a (.dT (bm kvs k v))):=.inr ⟨kvs,k,b,e,rfl,B,hl,rfl⟩
section
variable {v:V} {r:Value} {o:Option V}
theorem Inv.big (I:Inv X pins σ H s):Gt < s.heap.objs.size:=by
 have h:la < s.heap.objs.size:=(I.mod.glob.keeps I.bk).lt
 exact lt_trans ∅ h
theorem yy (hu:A.units+1 < cLine) (I:Inv X pins σ H s) (g:oR H a y (some v)) (ry:bg y u) (h : ∀L s',Inv X pins σ H s'->bg v L->Q L s') :
  wpAny (model X.prog X.w) A (getItem (.ref a) u) Q E s:=by
 rcases g with⟨kvs,k,e,ey,l⟩ | ⟨kvs,k,b,e,ey,eb,l⟩
 .subst ey
  obtain⟨z,hd,vs,B,dd⟩:=nI I.hok e;obtain⟨L,Z,F⟩:=il.some_of (v:=v) (o:=valueAt vs k) (by rw[l];exact B.val k)
  exact wpAny_getItem_of (pN ry) dd.mapOf Z (h L _ (I.tok _) F)
 .subst ey
  cases (show u=h_ b from ry)
  obtain⟨z,hd,xs,B,dd⟩:=nh I.hok e;obtain⟨L,Z,F⟩:=il.some_of (v:=v) (o:=(atKey xs k).map (·.2)) (by rw[l];exact B.val k)
  obtain⟨p,hp,Y⟩:=Option.map_eq_some_iff.mp Z;refine wpAny_getItem_heap (GT hu) (mO I.hok eb) dd hp ?_
  rw[Y];exact h L _ (I.tok _) F
theorem Gh (hu:A.units+1 < cLine) (I:Inv X pins σ H s) (g:oR H a y o) (Z:bg y u) (h : ∀s',Inv X pins σ H s'->Q (.bool o.isSome) s') :
  wpAny (model X.prog X.w) A (p_ .In u (.ref a)) Q E s:=by
 rcases g with⟨kvs,k,e,F,l⟩ | ⟨kvs,k,b,e,F,eb,l⟩
 .subst F
  obtain⟨z,Y,vs,B,L⟩:=nI I.hok e;refine wpAny_in_of (pN Z) Y L.mapOf ?_
  rw[<- (B.val k).isSome_eq,<- l];exact h _ (I.tok _)
 .subst F
  cases (show u=h_ b from Z)
  obtain⟨z,Y,xs,B,L⟩:=nh I.hok e;refine wpAny_in_heap (GT hu) (mO I.hok eb) Y L ?_
  have q:=(B.val k).isSome_eq;rw[isSome_map] at q;rw[<- q,<- l];exact h _ (I.tok _)
theorem BL (hu:A.units+1 < cLine) (I:Inv X pins σ H s) (g:oR H a y o) (Z:bg y u) (h : ∀s',Inv X pins σ H s'->Q (.bool (!o.isSome)) s') :
  wpAny (model X.prog X.w) A (p_ .NotIn u (.ref a)) Q E s:=by
 rcases g with⟨kvs,k,e,F,l⟩ | ⟨kvs,k,b,e,F,eb,l⟩
 .subst F
  obtain⟨z,Y,vs,B,L⟩:=nI I.hok e;refine wpAny_notIn_of (pN Z) Y L.mapOf ?_
  rw[<- (B.val k).isSome_eq,<- l];exact h _ (I.tok _)
 .subst F
  cases (show u=h_ b from Z)
  obtain⟨z,Y,xs,B,L⟩:=nh I.hok e;refine wpAny_notIn_heap (GT hu) (mO I.hok eb) Y L ?_
  have q:=(B.val k).isSome_eq;rw[isSome_map] at q;rw[<- q,<- l];exact h _ (I.tok _)
theorem oA {ob:HO} (I:Inv X pins σ H s) (Y:Mut (H a)) (L:HL a s.heap h') (F : ∃q,h'.get? a=some q) (new:bF X.prog X.w (upd H a ob) h' a ob) :
  Inv X pins σ (upd H a ob) { s with heap:=h',toks:=t' } :=
 I.write (x:=a) (e:=a) Y (.inl rfl) (λb q B z=>(L.2 b B).trans z) F new
theorem yV {vs:List (Key × Value)} (z:kvs.length<=g9) (L:(a == Gt)=false) (B:KV kvs vs) (F:h'.DictOf (bp P w) a vs) :
  bF P w H' h' a (.dK kvs):=⟨z,L,vs,B,F⟩
theorem rg {Q:Unit->Shared->Prop} (hu:A.units+1 < cLine) (I:Inv X pins σ H s) (g:xL H a y v H') (ry:bg y u) (rv:bg v r) (h : ∀s',Inv X pins σ H' s'->Q Unit.unit s') :
  wpAny (model X.prog X.w) A (setItem (.ref a) u r) Q E s:=by
 rcases g with⟨kvs,k,e,ey,l,eH⟩ | ⟨kvs,k,b,e,ey,eb,l,eH⟩
 .subst ey eH
  obtain⟨z,Y,vs,B,dd⟩:=pj I.hok e;have hz:vs.length<=g9:=by rw[<- B.length];exact z
  have hl:(bm kvs k v).length<=g9:=by have:=cR kvs k v;omega
  refine wpAny_setItem_pairs (hsz:=hz) (pN ry) dd λh' F Z=>h _ ?_
  have he : ∃q,h'.get? a=some q:=let ⟨q,_,_,L,_⟩:=F;⟨q,L⟩
  exact oA I (by rw[e];exact nl) Z he (yV hl Y (B.put k rv) F)
 .subst ey eH
  cases (show u=h_ b from ry)
  obtain⟨z,Y,xs,B,dd⟩:=Ez I.hok e;have hz:xs.length<=g9:=by rw[<- Paired.length B];exact z
  have hl:(bm kvs k v).length<=g9:=by have:=cR kvs k v;omega
  refine wpAny_setItem_heap (hsz:=hz) (GT hu) (mO I.hok eb) dd λh' F Z=>h _ ?_
  obtain⟨q,es,ep,L,h2,h3,h4,_,h5⟩:=F;refine oA I (by rw[e];exact nl) Z ⟨q,L⟩ ⟨hl,Y,_,(B.put k eb rv).keeps λc ys ec=>?_,q,es,ep,L,h2,h3,h4,h5⟩
  rw[ah (aX ec e (λz=>nomatch z))]
  exact ec
end
section
variable {k:Key}
theorem Ex (I:Inv X pins σ H s) (e:Rd H a (.dK kvs)) (h : ∀t s',Inv X pins σ H s'->Q (.int kvs.length t) s'):wpAny (model X.prog X.w) A (call (.builtin "len") [.ref a]) Q E s:=by
 obtain⟨z,L,vs,B,F⟩:=nI I.hok e;refine call_len_dict L F (by rw[<- B.length];rw[GQ] at z;omega) ?_
 rw[<- B.length];exact h _ _ (I.tok _)
end
def FJ (i:Expr):Prop:=∀F B,subscripted i false F B=operate [F,B] (getItem F B)
theorem Cp {B:Expr} {T id:String}
  (hl:Ie (.type T) "__getitem__" = pure (some (.builtin id))) (hs:FJ B)
  (h:wpAny (model prog w) A (eval value env) (λo s₁=>wpAny (model prog w) A (eval B env) (λi F=>F.TypeIs o T/\wpAny (model prog w) A (getItem o i) Q E F) E s₁) E s) :
  wpAny (model prog w) A (eval (.Subscript value B pos) env) Q E s:=by
 refine Subscript_ (x8 h (λo s₁ aa=>x8 aa (λi F L=>?_) λ_ _ x=>x) λ_ _ x=>x)
 obtain⟨hT,L⟩:=L;unfold subscriptTail;refine a_ ?_
 rw[getitemInPython_of_ne hT.not_modules];refine a_ (x_ hT hl ?_)
 have Z:wpAny (model prog w) A (subscripted B false o i) (λr Y=>wpAny (model prog w) A (letTemporaryGo value o r >>= λ_=>pure r) Q E Y) E F:=by
  rw[hs o i];exact wpAny_operating (x8 L (λr Y ab=>a_ (wpAny_letTemporaryGo (ei ab))) λ_ _ x=>x)
 first
  | exact ei (a_ Z)
  | exact a_ (ei (a_ Z))
  | exact a_ Z
theorem uX {o:Option V} (I:Inv X pins σ H s) (g:oR H a y o):s.TypeIs (.ref a) "dict" := by
 rcases g with⟨kvs,k,e,_,_⟩ | ⟨kvs,k,b,e,_,_,_⟩
 .obtain⟨_,_,vs,_,dd⟩:=nI I.hok e
  exact dd.typeIs
 .obtain⟨_,_,xs,_,dd⟩:=nh I.hok e
  exact dd.typeIs
def CQ (td ty tv:TE):TS:=λD σ H=>tv σ H λv H1=>td σ H1 λx H2=>ty σ H2 λy F=>∃a B,x = .ref a/\xL F a y v B/\D.nx σ B
section
variable {o i:Expr} {tpos:Pos}
theorem CI (hu:X.A.units+1 < cLine) (ho:PE X o td) (hi:PE X i ty) (F:PE X value tv) (hs:Ir value (some (.Subscript o i pos')) pos.line X.env=pure false) :
  PS X (.Assign [.Subscript o i pos'] value pos) (CQ td ty tv):=by
 intro pins s σ H D I h;refine wpAny_Assign_Subscript (thn (F pins s σ H _ I h) λr s1 ⟨v,H1,I1,rv,q1⟩=>thn (ho pins s1 σ H1 _ I1 q1) λu L ⟨x,H2,I2,rx,q2⟩=>thn (hi pins L σ H2 _ I2 q2) λiv s3 B=>?_) hs
 obtain⟨y,H3,I3,Z,a,Y,ex,g,q3⟩:=B;subst ex;obtain rfl:u=h_ a:=rx
 exact rg hu I3 g Z rv λs4 I4=>⟨σ,Y,I4,q3⟩
end
theorem uU (h:Heap) (B:Gt < h.objs.size):bF P w H (h.push { cls:=.type "dict",data:=.dict #[] }) h.objs.size (.dK []) :=
 ⟨x6 _,beq_eq_false_iff_ne.mpr (tj (k7 B)),[],.nil,Heap.DictOf.new h⟩
theorem yM (h:Heap) (B:Gt < h.objs.size):bF P w H (h.push { cls:=.type "dict",data:=.dict #[] }) h.objs.size (.dT []) :=
 ⟨x6 _,beq_eq_false_iff_ne.mpr (tj (k7 B)),[],.nil,_,#[],0,f_ _ rfl,⟨rfl,rfl,rfl⟩,rfl,rfl,List.nodup_nil⟩
def sN:TE:=λ_ H Q=>∀p,H p=none->Q (.ref p) (upd H p (.dK []))
def zx:TE:=λ_ H Q=>∀p,H p=none->Q (.ref p) (upd H p (.dT []))
theorem gm:PE X (.Dict [] [] pos) sN:=λpins s σ H Q I h =>
 wpAny_Dict_empty ⟨.ref s.heap.objs.size,_,I.laid (a:=s.heap.objs.size) (o:=.dK []) (t':=s.toks) (λ_ _ q=>d_ _ q) (i6 _) (uU s.heap I.big),rfl,h _ (I.hok.fresh (i6 _))⟩
theorem Ae:PE X (.Dict [] [] pos) zx:=λpins s σ H Q I h =>
 wpAny_Dict_empty ⟨.ref s.heap.objs.size,_,I.laid (a:=s.heap.objs.size) (o:=.dT []) (t':=s.toks) (λ_ _ q=>d_ _ q) (i6 _) (yM s.heap I.big),rfl,h _ (I.hok.fresh (i6 _))⟩
def oU:List (TE × TE)->St->Hp->(List (V × V)->Hp->Prop)->Prop
 | [],_,H,Q=>Q [] H
 | (tk,tv) :: r,σ,H,Q=>tk σ H λx H1=>tv σ H1 λy H2=>oU r σ H2 λps B=>Q ((x,y) :: ps) B
abbrev VV:List (V × V)->List (Value × Value)->Prop:=Paired λp q=>bg p.1 q.1/\bg p.2 q.2
def PPs (X:Cx) (pos:Pos) (keys:List (Option Expr)) (values:List Expr) (trs:List (TE × TE)):Prop :=
 ∀ (pins:List (Addr × Obj)) (s:Shared) (σ:St) (H:Hp) (Q:List (V × V)->Hp->Prop),Inv X pins σ H s->oU trs σ H Q ->
  wpAny (model X.prog X.w) X.A (evalPairs (pairTrees keys values X.env pos)) (λvs s'=>∃ps H',Inv X pins σ H' s'/\VV ps vs/\Q ps H') X.xe s
theorem sQ:PPs X pos [] [] []:=λpins s σ H Q I h=>pairTrees_nil_walk ⟨[],H,I,.nil,h⟩
theorem gW {k v:Expr} {ks:List (Option Expr)} {vs:List Expr} {tk:TE} (hk:PE X k tk) (L:PE X v tv) (hr:PPs X pos ks vs trs) :
  PPs X pos (some k :: ks) (v :: vs) ((tk,tv) :: trs):=λpins s σ H Q I h =>
 pairTrees_cons_walk (thn (hk pins s σ H _ I h) λu Z ⟨x,H1,I1,rx,q1⟩=>thn (L pins Z σ H1 _ I1 q1) λw2 Y ⟨y,H2,I2,ry,q2⟩ =>
  thn (hr pins Y σ H2 _ I2 q2) λws s3 B=>by obtain⟨ps,H3,I3,F,q3⟩:=B;exact(⟨(x,y) :: ps,H3,I3,.cons ⟨rx,ry⟩ F,q3⟩))
def iS (kvs B:List (Key × V)):List (Key × V):=B.foldl (λF L=>bm F L.1 L.2) kvs
theorem KV.merge : ∀{B:List (Key × V)} {F:List (Key × Value)} {kvs:List (Key × V)} {vs:List (Key × Value)},KV B F->KV kvs vs->KV (iS kvs B) (merged vs F):=by
 intro B F kvs vs r;unfold KV at r
 induction r generalizing kvs vs with
 | nil=>intro q;exact q
 | @cons p q ps qs h t ih =>
  intro L;have e:KV (bm kvs p.1 p.2) (stored vs q.1 q.2):=by
   have:=L.put p.1 h.2
   rw[<- h.1];exact this
  exact ih e
theorem jQ : ∀(B kvs:List (Key × V)),(iS kvs B).length<=kvs.length+B.length
 | [],kvs=>by show kvs.length<=kvs.length+0;omega
 | p :: r,kvs=>by
  have h1:=jQ r (bm kvs p.1 p.2);have h2:=cR kvs p.1 p.2
  show(iS (bm kvs p.1 p.2) r).length<=_
  rw[w_];omega
theorem qg {P:Program} {w:World} : ∀{kvs:List (Key × V)} {ws:List (Value × Value)},VV (kvs.map λF=>(kV F.1,F.2)) ws->∃B,Carries (bp P w) ws B/\KV kvs B
 | [],_,r=>by rw[map_nil] at r;cases r;exact⟨[],nl,.nil⟩
 | p :: kvs,_,r=>by
  rw[i8] at r;cases r with
  | @cons a b as bs h t =>
   obtain⟨B,c,q⟩:=qg (P:=P) (w:=w) t;obtain⟨Y,L⟩:=b;exact⟨(p.1,L) :: B,⟨pN h.1,rfl,c⟩,.cons ⟨rfl,h.2⟩ q⟩
def yN (trs:List (TE × TE)):TE:=λσ H Q=>∀p,H p=none->oU trs σ (upd H p (.dK [])) λps H2=>H2 p<*[]/\∃kvs:List (Key × V),ps=kvs.map (λB=>(kV B.1,B.2))/\kvs.length<=15/\Q (.ref p) (upd H2 p (.dK (iS [] kvs)))
theorem rY {keys:List (Option Expr)} (h:PPs X pos keys values trs) (F:keys.all (·.isSome)=true) (hl:keys.length=values.length) (h0:keys≠[])
  (Z:keys.length<=15):PE X (.Dict keys values pos) (yN trs):=by
 intro pins s σ H Q I q;have hn:=I.hok.fresh (i6 s.heap.objs.size);have I1:=I.laid (a:=s.heap.objs.size) (o:=.dK []) (h':=s.heap.push { cls:=.type "dict",data:=.dict #[] }) (t':=s.toks) (λ_ _ q=>d_ _ q) (i6 _) (uU s.heap I.big)
 refine wpAny_Dict_walk (knd:=bp X.prog X.w) F hl h0 Z (thn (h pins _ σ _ _ I1 (q _ hn)) λws s2 B=>?_)
 obtain⟨ps,H2,I2,Y,e,kvs,ep,lk,q2⟩:=B;subst ep;obtain⟨rs,c,rk⟩:=qg (P:=X.prog) (w:=X.w) Y;obtain⟨z,hd,aa,r0,dd⟩:=pj I2.hok e;cases r0;refine⟨rs,c,dd,λh' L hs=>⟨.ref s.heap.objs.size,_,?_,rfl,q2⟩⟩
 have hz:(iS [] kvs).length<=g9:=by
  have h1:=jQ kvs [];rw[length_nil] at h1;rw[GQ];omega
 have he : ∃q,h'.get? s.heap.objs.size=some q:=let ⟨q,_,_,hq,_⟩:=L;⟨q,hq⟩
 exact oA I2 (by rw[e];exact nl) hs he (yV hz hd (rk.merge .nil) L)
structure M1 (X:Cx) (o:Expr) (m:Str) (apos:Pos) (e:Expr) (cpos:Pos):Prop where
 base:Ii o m X.env (eval o X.env)=eval o X.env
 few:((y9 cpos (j8 [e] X.env)).all (λx=>!x.1) && (backToKw cpos (keywordEach [] X.env)).all (λx=>x.1.isSome)
  && decide (([e]:List Expr).length+([]:List Keyword).length+(if ([]:List Keyword).isEmpty then 0 else 1) < 30))=true
 line:(apos.endLine == cpos.line)=true
 trees:y9 cpos (j8 [e] X.env)=[(false,eval e X.env)]
def IsD (H:Hp) (a:Addr):Prop:=(∃kvs,Rd H a (.dK kvs))\/∃kvs,Rd H a (.dT kvs)
theorem Dy (I:Inv X pins σ H s) (d:IsD H a) :
  s.TypeIs (.ref a) "dict" /\(∀b,h_ a = .ref b->∃ob,s.heap.get? b=some ob/\ob.dict=none)/\(a == Gt)=false:=by
 rcases d with⟨kvs,e⟩ | ⟨kvs,e⟩
 .obtain⟨_,hd,vs,_,dd⟩:=nI I.hok e
  refine⟨dd.typeIs,λb q=>?_,hd⟩
  cases q;obtain⟨ob,_,_,h1,h2,_⟩:=dd;exact⟨ob,h1,h2.2.1⟩
 .obtain⟨_,hd,xs,_,dd⟩:=nh I.hok e
  refine⟨dd.typeIs,λb q=>?_,hd⟩
  cases q;obtain⟨ob,_,_,h1,h2,_⟩:=dd;exact⟨ob,h1,h2.2.1⟩
section
variable {d:V} {r:Value} {o:Option V}
theorem DR (hu:A.units+1 < cLine) (I:Inv X pins σ H s) (g:oR H a y o) (ry:bg y u) (h : ∀w' s',Inv X pins σ H s'->bg (o.getD .non) w'->Q w' s') :
  wpAny (model X.prog X.w) A (call (.builtin "dict.get") [.ref a,u]) Q E s:=by
 rcases g with⟨kvs,k,e,Y,l⟩ | ⟨kvs,k,b,e,Y,eb,l⟩
 .subst Y
  obtain⟨z,Z,vs,B,L⟩:=nI I.hok e;refine call_meetsIn HN L.typeIs PySem.F.entry_dict_get (PySem.F.args_dict_get_2 _ _) (meets_dict_get (bp X.prog X.w) a (pN ry) Z) ⟨_,L.mapOf,h _ _ (I.tok _) ?_⟩
  rw[l];exact(B.val k).getD rfl
 .subst Y
  cases (show u=h_ b from ry)
  obtain⟨z,Z,xs,B,L⟩:=nh I.hok e;refine call_meetsIn HN L.typeIs PySem.F.entry_dict_get (PySem.F.args_dict_get_2 _ _) (meetsH_dict_get (G9 (bp X.prog X.w)) a b Z) ⟨GT hu,k,xs,mO I.hok eb,L,h _ _ (I.tok _) ?_⟩
  rw[l];exact(B.val k).getD rfl
end
end L2
namespace Att
open PySem PySem.W PySem.Calls PyProof.Rows
theorem nU {P:Params} : ∀(ns:List Int) (vs:List Value),WellAll P h vs (ns.map WData.int)->IntsAre vs ns:=by
 intro ns
 induction ns with
 | nil =>
  intro vs w;rw[map_nil] at w;cases w;exact .nil
 | cons n ns B =>
  intro vs w;rw[i8] at w;cases w with
  | cons a b =>
   cases a;exact .cons _ _ (B _ b)
theorem xY {l:OpenLaw} (hn:l.most=some n) {P:Params} {h:Heap} {args:List WData} {B:List Value}
  (F:l.row.toRowW.claim.pre args=true) (aa:WellAll P h B args) :
  ∃a vs ns,B=[h_ a]/\args=[WData.list (ns.map WData.int)]/\h.get? a=some { cls:=.type "list",data:=.seq vs.toArray }/\IntsAre vs ns/\ns.length<=n:=by
 have ab:WShape.hasAll [] args [.list .int]=true:=(pre_splitW F).1
 have hc:l.pre.holds [] { args:=args }=true:=(pre_splitW F).2
 obtain⟨d,r,rfl,h1,h2⟩:=hasAllW_cons ab;obtain rfl:=hasAllW_nil h2
 obtain⟨xs,rfl,h3⟩:=hasW_list h1;obtain⟨ns,rfl⟩:=items_int h3;have Y:ns.length<=n:=by
  unfold OpenLaw.pre at hc;have Z:(WTm.not (.lt (.lit (.int (n:Int))) (.len (.arg 0)))).holds [] { args:=[.list (ns.map .int)] }=true:=by
   have Z:=(holds_andW hc).1;rw[hn] at Z;exact Z
  have h5:=condW_of Z (w_not (w_lt w_lit (w_len_list (w_arg rfl))));rw[c_] at h5;refine Nat.le_of_not_lt λq=>?_
  have q':(n:Int) < ((ns.length:Nat):Int):=()
  first
   | (rw[decide_eq_true q'] at h5;exact absurd h5 ∅)
   | (simp at h5;omega)
 cases aa with
 | cons w1 w2 =>
  cases w2;cases w1 with
  | list ho L=>exact⟨_,_,ns,rfl,rfl,ho,nU ns _ L,Y⟩
theorem yG (l:OpenLaw) (args:List WData):l.row.toRowW.claim.post args (.bool true) args=true :=
 postW_of (r:=l.row.toRowW) (X:=(true == true))
  (show WShape.has [] (.bool true) .bool=true by first | rfl | decide | simp[WShape.has,WShape.arms,WShape.armsAll])
  (show(WTm.eq .res (.lit (.bool true))).value [] { args:=args,res:=some (.bool true),after:=args }=some (.bool (true == true)) from w_eq_bool (w_res rfl) w_lit) rfl
theorem attach_call {l:OpenLaw} {q:Program} {d:DefRec}
  (hn:l.most=some n) (ac:d.params.defaults=[])
  (call : ∀(w:World) (B s₁:Shared) (mg mb:Str->Option Value) (fa:Addr) (o:Obj) (pm cd doc:Value) (a:Addr) (vs:List Value) (ns:List Int),
   Ground q loose [] XP w B mg mb s₁.heap->YP w s₁.heap ->
   s₁.heap.get? fa=some o->o.data = .func (docDef d.name d.params d.body d.scope pm cd doc)->s₁.heap.CodeRec cd d.name->mg d.name=some (.ref fa) ->
   s₁.heap.get? a=some { cls:=.type "list",data:=.seq vs.toArray }->IntsAre vs ns->ns.length<=n->s₁.gens = #[] ->
   HM (model l.prog w) callerA (.call (.ref fa) ⟨[.ref a],[]⟩) (λr s'=>r = .ok (.ret (.bool true))/\OldK s₁.heap s'.heap/\s'.os=s₁.os/\AllBare s'.gens) s₁) :
  WalkO q loose XP YP l.row.toRowW d [] (λf vs=>PySem.call f vs):=by
 intro w B s₁ mg mb G Y fa o pm cd doc dV kV ho hd ad hD af hg args ag as aa ah aj ab ai;obtain rfl:dV = .none:=Dflts.none hD ac
 obtain rfl:kV = .none:=Dflts.noKw hD
 obtain⟨a,vs,ns,rfl,rfl,L,F,Z⟩:=xY hn aa ab;refine enter_call (codeAny_mono (call w B s₁ mg mb fa o pm cd doc a vs ns G Y ho (fd_plain hd) ad af L F Z hg) λr s' hq=>?_)
 obtain⟨rfl,h2,h3,h4⟩:=hq;exact⟨.inl ⟨.bool true,.bool true,[],rfl,λ_=>rfl,.bool true,yG l _,λ_=>⟨List.Pairwise.nil,λ_ hm=>(nomatch hm)⟩⟩,h2,h3,h4⟩
end Att
namespace L2
open PySem PySem.Spec PyProof.Rows
theorem rJ : ∀{vs:List Value} {ns:List Int},IntsAre vs ns->be (ns.map V.int) vs
 | _,_,.nil=>.nil
 | _,_,.cons n t h=>.cons ⟨t,rfl⟩ (rJ h)
def De (H:Hp):Prop:=∀b,H b=none\/∃o xs,H b=some (.frz o (.lst xs))
theorem yY {vs:List Value}
  (KX:K.In s₁.heap) (ag:s₁.heap.Ns la mg) (L:s₁.heap.Ns builtinsNs mb) (an : ∀x:Str,x ≠ "__name__" -> mb x=y2 x) (ab:s₁.heap.NoLimit) (hg:s₁.gens = #[])
  (ha:s₁.heap.get? a=some { cls:=.type "list",data:=.seq vs.toArray }) (hi:IntsAre vs ns) (hl:ns.length<=g9) (hr:cU k callerA)
  (F : ∀base:Heap,K.In base->base.Ns la mg->ku P w K mg base CX k fa fd [x] sp) (aa : ∀(s:Shared) (u:Value),BindsTo s fd ⟨[u],[]⟩ [(x,u)])
  (aj : ∀H:Hp,De H->SqL K H a (ns.map V.int)->sp [.ref a] H (λv _=>v = .bl true) λ_ _ _=>False)
  (am : ∀H e s',CX [] H s₁ (λ_ _ _=>False) e s'->False) :
  HM (model P w) callerA (.call (.ref fa) ⟨[.ref a],[]⟩) (λr s'=>r = .ok (.ret (.bool true))/\OldK s₁.heap s'.heap/\s'.os=s₁.os/\AllBare s'.gens) s₁:=by
 have rv:=rJ hi;have af:=hi.length;have Z : ∀H:Hp,De H->SqL K H a (ns.map V.int)->HOk P w H s₁.heap->(∀b,H b≠none->b=a)->(H a≠none->K.lookup a=none) ->
   HM (model P w) callerA (.call (.ref fa) ⟨[.ref a],[]⟩) (λr s'=>r = .ok (.ret (.bool true))/\OldK s₁.heap s'.heap/\s'.os=s₁.os/\AllBare s'.gens) s₁:=by
  intro H hO hS ac hA hK;have B : ∀{b:Addr} {o:Obj},s₁.heap.get? b=some o->H b=none->(rV s₁.heap H).get? b=some o:=λe n=>zo e n
  have ak : ∀{b:Addr} {o:Obj} {es:Array DictEntry} {ep:Nat},s₁.heap.get? b=some o->o.data = .dict es ep->H b=none:=λ{b o es ep} e d=>by
   cases q:H b with
   | none=>rfl
   | some u =>
    have e':b=a:=hA b (by rw[q];simp)
    subst e';rw[ha] at e;cases e;have d':Data.seq vs.toArray _=Data.dict es ep:=d
    cases d'
  have Y : ∀{b:Addr} {m:Str->Option Value},s₁.heap.Ns b m->(rV s₁.heap H).Ns b m:=λ{b m} zq8=>by obtain⟨o,es,ep,e,d,r⟩:=zq8;exact(⟨o,es,ep,B e (ak e d),d,r⟩)
  have ad:K.In (rV s₁.heap H):=λb o e=>B (KX b o e) (by
   cases q:H b with
   | none=>rfl
   | some u =>
    have e':b=a:=hA b (by rw[q];simp)
    subst e';rw[hK (by rw[q];simp)] at e;cases e)
  have hM:Mod K mg (rV s₁.heap H):=⟨ad,Y ag,⟨mb,Y L,an⟩,let ⟨mc,h1,h2⟩:=ab;⟨mc,Y h1,h2⟩⟩
  have e0:vH P w K mg (rV s₁.heap H) callerA [] s₁ H:=⟨rfl,hM,λb o e=>BE e,GX (xO _ _),trivial,λb L=>absurd (show b∈([]:List Addr) from L) (by simp),ac,.of_eq hg⟩
  refine codeAny_mono ((F _ ad (Y ag)).run callerA [] s₁ H ⟨[.ref a],[]⟩ [.ref a] [.ref a] _ _ hr e0 (aa s₁ (.ref a)) (.cons rfl .nil) (aj H hO hS)) λr s' h=>?_
  cases r with
  | error e=>exact(am H e s' h).elim
  | ok fl =>
   cases fl with
   | next=>exact zc h
   | brk=>exact zc h
   | cont=>exact zc h
   | ret u =>
    obtain⟨v,H',os,ai,un,ah,r',q⟩:=h;have q':v = .bl true:=q
    subst q';obtain rfl:u=Hq true:=r'
    refine⟨rfl,OldK.of_keep λb o e=>?_,os,ai⟩
    cases q:H b with
    | none=>exact un.keep b o e q (by intro z;exact absurd (show b∈([]:List Addr) from z) (by simp)) (by simp)
    | some u =>
     rcases hO b with z | ⟨ob,xs,z⟩
     .rw[q] at z;cases z
     .have z2:=un.frzs b ob _ z
      obtain⟨e1,_⟩:=ac b _ z;obtain⟨e2,_⟩:=ah b _ z2;rw[e] at e1;cases e1;exact e2
 cases hk:K.lookup a with
 | some o =>
  have e:=KX a o hk;rw[ha] at e;cases e;refine Z (λ_=>none) (λ_=>.inl rfl) (.inr ⟨_,vs.toArray,_,hk,rfl,rfl,rfl,by rw[j9,af];exact hl,by simpa using rv⟩) (λb u z=>by have z':(none:Option HO)=some u:=z;cases z') (λb z=>absurd rfl z) λz=>absurd rfl z
 | none =>
  refine Z (λb=>if b=a then some (.frz { cls:=.type "list",data:=.seq vs.toArray } (.lst (ns.map V.int))) else none) (λb=>?_) (.inl (.inr ⟨{ cls:=.type "list",data:=.seq vs.toArray },if_pos rfl⟩)) (λb u z=>?_) (λb z=>?_) λ_=>hk
  .by_cases L:b=a
   .exact .inr ⟨_,_,if_pos L⟩
   .exact .inl (if_neg L)
  .by_cases L:b=a
   .have z':=(if_pos L).symm.trans z
    cases z';subst L;exact⟨ha,by rw[c_];exact hl,vs,_,rv,ha⟩
   .have z':=(if_neg L).symm.trans z
    cases z'
  .by_cases L:b=a
   .exact L
   .exact absurd (if_neg L) z
theorem CB {l:PySem.W.OpenLaw} {q:Program} {d:DefRec} {K:Params->e_} {CX:World->CXT} {sp:World->Sp}
  (hn:l.most=some n) (ad:n<=g9) (aa:d.params.defaults=[]) (hr:cU k callerA)
  (hY : ∀(w:World) (h:Heap),YP w h->(K w.params).In h)
  (F : ∀(w:World) (mg:Str->Option Value) (fa:Addr) (h:Heap),(K w.params).In h->h.Ns la mg->mg d.name=some (.ref fa) ->
   ∃ fd:FuncData,(∀(s:Shared) (u:Value),BindsTo s fd ⟨[u],[]⟩ [(x,u)]) /\
    ∀base:Heap,(K w.params).In base->base.Ns la mg->ku l.prog w (K w.params) mg base (CX w) k fa fd [x] (sp w))
  (ab : ∀(w:World) (H:Hp) (a:Addr) (ns:List Int),ns.length<=n->De H->SqL (K w.params) H a (ns.map V.int)->sp w [.ref a] H (λv _=>v = .bl true) λ_ _ _=>False)
  (ac : ∀(w:World) (H:Hp) (s:Shared) (e:Value) (s':Shared),CX w [] H s (λ_ _ _=>False) e s'->False) :
  PySem.W.WalkO q loose XP YP l.row.toRowW d [] (λf vs=>PySem.call f vs):=by
 refine Att.attach_call hn aa λw ag s₁ mg mb fa o pm cd doc a vs ns G Y ho hd ah af Z L B hg=>?_
 have KX:=hY w _ Y;obtain⟨fd,hb,hF⟩:=F w mg fa _ KX G.T.g af;exact yY KX G.T.g G.T.b G.T.builtins G.T.nolimit hg Z L (gr B ad) hr hF hb (λH hO hS=>ab w H a ns B hO hS) λH e s'=>ac w H s₁ e s'
def bc (s:Stmt) (j:Nat):Stmt:=match s with
 | .ClassDef _ _ _ body _ _ _ _ _ _ _=>body.getD j (.Pass ⟨0,0,0,0⟩)
 | _=>.Pass ⟨0,0,0,0⟩
def cS (s:Stmt):Arguments:=match s with
 | .FunctionDef _ a _ _ _ _ _ _ _ _=>a
 | _=>{ posonlyargs:=[],args:=[],vararg:=none,kwonlyargs:=[],kw_defaults:=[],kwarg:=none,defaults:=[] }
def cu (s:Stmt):List Stmt:=match s with
 | .FunctionDef _ _ b _ _ _ _ _ _ _=>b
 | _=>[]
def ao (s:Stmt):Scope:=match s with
 | .FunctionDef _ _ _ _ _ _ sc _ _ _=>sc
 | _=>{ kind:=.function,names:=[],isGenerator:=false,isCoroutine:=false }
abbrev CX0:CXT:=λ_ _ _ _ _ _=>False
abbrev E0:XK:=λ_ _ _=>False
theorem oY:tx CX0 X E0:=λ_ _ _ _ _ _ _ h=>h.elim
structure Fun (K:e_) (x qual:Str) (st:Stmt) (f:Addr) (fd:FuncData):Prop where
 ex : ∃(oc:Value) (od:Option Addr) (kV doc pm:Value) (an:Option Addr) (cdv ct:Value) (osl:Array (Option Value)),
  fd=fnOf x qual (cS st) (cu st) (ao st) .none kV doc pm an cdv ct/\K.lookup f=some ⟨oc,od,.func fd,osl⟩/\codeIn K cdv qual=true
 kp:HI K (.ref f)=true
section
variable {P:Program} {w:World} {K:e_} {mg:Str->Option Value} {base:Heap}
theorem Fun.ok (F:Fun K x qual st f fd) (S:aC N ps (ao st)) (Y : ∀vs H Q E,sp vs H Q E->vs.length=ps.length)
  (B : ∀(cdv:Value) (A:Around) (outer:List Env) (s:Shared) (H:Hp) (vs:List V) (Q:VK) (E:XK),cU k (A.deeper (envOfC qual (ao st) s.heap.objs.size f cdv))->sp vs H Q E ->
   ∃t,PSs (sJ CX0 P w K mg base N qual (ao st) f cdv A outer s H E).nox (cu st) t/\t { nx:=λ_ H'=>Q .non H',rt:=Q } (iM N vs) H):ku P w K mg base CX0 (k+1) f fd ps sp:=by
 obtain⟨oc,od,kV,doc,pm,an,cdv,ct,osl,rfl,lk,Z⟩:=F.ex;refine FX lk Z S Y λA outer s H vs Q E hr L=>?_
 obtain⟨t,h,q⟩:=B cdv A outer s H vs Q E hr L;exact⟨t,h.nox,q⟩
theorem Fun.binds (F:Fun K x qual st f fd)
  (h : ∀(kV doc pm:Value) (B:Option Addr) (cdv ct:Value) (us:List Value),us.length=ps.length->bindArgs (fnOf x qual (cS st) (cu st) (ao st) .none kV doc pm B cdv ct) ⟨us,[]⟩=pure (ps.zip us)):jO K fd ps []:=by
 obtain⟨oc,od,kV,doc,pm,B,cdv,ct,osl,rfl,Y,L⟩:=F.ex;exact .all (h kV doc pm B cdv ct)
theorem qk {B:Option Addr} {kV:Value} (l:K.lookup f=some ⟨oc,od,.func (fnOf x qual (cS st) (cu st) (ao st) .none kV doc pm B cdv ct),osl⟩)
  (c:codeIn K cdv qual=true) (k:HI K (.ref f)=true):Fun K x qual st f (fnOf x qual (cS st) (cu st) (ao st) .none kV doc pm B cdv ct):=⟨⟨oc,od,kV,doc,pm,B,cdv,ct,osl,rfl,l,c⟩,k⟩
end
theorem CW (B:cU k A):A.units+1 < cLine:=o9 (Nat.add_le_add_left (by decide:1<=64) _) B.units
theorem aN (h:n<=1000):n < g9:=o9 h ∅
theorem cV {c A B:Prop} [Decidable c] (h1:c->A) (h2 : ¬ c->B):if c then A else B:=by
 by_cases h:c
 .rw[if_pos h]
  exact h1 h
 .rw[if_neg h]
  exact h2 h
def aw (H H':Hp):Prop:=∀b o,H b=some o->H' b=some o
theorem aw.refl (H:Hp):aw H H:=λ_ _ h=>h
theorem aw.trans (a:aw H H1) (b:aw H1 H2):aw H H2:=λc o h=>b c o (a c o h)
theorem aw.free (e:aw H H') {l:Addr} (h:H' l=Option.none):H l=Option.none:=by
 cases q:H l with
 | none=>rfl
 | some o =>
  rw[e l o q] at h;cases h
theorem aw.seq (e:aw H H') (h:SqL K H a xs):SqL K H' a xs:=by
 rcases h with(h | ⟨o,h⟩) | h
 .exact .inl (.inl (e _ _ h))
 .exact .inl (.inr ⟨o,e _ _ h⟩)
 .exact .inr h
theorem yk:bY X (.builtin "len") (λxs H Q=>∃a kvs,xs=[V.ref a]/\H a<*kvs/\Q (.int kvs.length) H):=by
 intro pins s σ H xs us Q I r h;obtain⟨a,kvs,rfl,ha,q⟩:=h;obtain⟨u,rfl,B⟩:=dA r;cases B;exact Ex I (.inl ha) λt s' F=>⟨.int kvs.length,H,F,⟨t,rfl⟩,q⟩
theorem rN {B:Expr} {it ac:Value} (I:Nat->Shared->Prop)
  (ah : ∀ n s,I n s->wpAny (model prog w) A (Hr it) (λr s₁=>match r with
   | none=>R (.ok .next) s₁
   | some v=>wpAny (model prog w) A (letOwnedTupleGo B it v) (λ_ s₁=>wpAny (model prog w) A (assign B env v) (λ_ aa =>
     wpAny (model prog w) A (forIn ifs true λc r=>if r=true then do let ok <- isTrue c env (eval c env);pure (Ht ok) else pure (Ht r)) (λok L =>
      if ok=true then wpAny (model prog w) A (eval elt env) (λx ab =>
       wpAny (model prog w) A (call (.builtin "list.append") [ac,x]) (λ_ Y=>∃m,m < n/\I m Y) (notedBy (model prog w) A env λe s'=>R (.error e) s') ab) (notedBy (model prog w) A env λe s'=>R (.error e) s') L
      else ∃m,m < n/\I m L) (notedBy (model prog w) A env λe s'=>R (.error e) s') aa) (notedBy (model prog w) A env λe s'=>R (.error e) s') s₁) (notedBy (model prog w) A env λe s'=>R (.error e) s') s₁) (notedBy (model prog w) A env λe s'=>R (.error e) s') s)
  (n:Nat) (h:I n s) :
  HM (model prog w) A (.compLoop (.ListComp elt [⟨B,iter,ifs,0⟩] scope pos) 0 it ac env) R s:=by
 refine codeAny_loop rfl I (λn s hI=>?_) n h
 show wpAny _ A ((compTurn (.ListComp elt [⟨B,iter,ifs,0⟩] scope pos) 0 it ac env).onRaise (λx=>do noteFrame x env;theTreesLotGoes x)) _ _ s
 refine wpAny_noted ?_
 rw[compTurn_list];refine a_ (wpAny_standAt (a_ (x8 (ah n s hI) (λr s₁ F=>?_) λ_ _ h'=>h')))
 cases r with
 | none=>exact ei F
 | some v =>
  refine a_ (x8 F (λ_ s₁ F=>?_) λ_ _ h'=>h')
  refine a_ (x8 F (λ_ aa af=>a_ (x8 af (λok L Z=>?_) λ_ _ h'=>h')) λ_ _ h'=>h')
  cases ok with
  | false=>exact ei ⟨rfl,Z⟩
  | true =>
   exact a_ (a_ (x8 Z (λx ab ad=>a_ (x8 ad (λ_ Y ag=>ei (ei ⟨rfl,ag⟩)) λ_ _ h'=>h')) λ_ _ h'=>h'))
def PTs (X:Cx) (ifs:List Expr) (t:TT):Prop :=
 ∀ (pins:List (Addr × Obj)) (s:Shared) (σ:St) (H:Hp) (Q:Bool->Hp->Prop),Inv X pins σ H s->t σ H Q ->
  wpAny (model X.prog X.w) X.A (forIn ifs true λc r=>if r=true then do let ok <- isTrue c X.env (eval c X.env);pure (Ht ok) else pure (Ht r)) (TP X pins σ Q) X.xe s
def um:TT:=λ_ H Q=>Q true H
theorem cy:PTs X [] um:=λ_ _ _ H _ I h=>wpAny_tests_nil ⟨H,I,h⟩
theorem dM {c:Expr} {t:TT} (B:PT X c t):PTs X [c] t:=λpins s σ H Q I h=>wpAny_tests_one (B pins s σ H Q I h)
theorem jU {env:Env} : ∀(names:List (Str × y3)) (B:List (Str × Addr)),(∀x∈names,x.2 = .free->∃c,env.cells.lookup x.1=some c) ->
  ∃ cl,(forIn (m:=Sem) names B λx r=>match x with
   | (name,kind)=>if (kind == q_)=true then do let c <- cellOf env name;pure (Ht ((name,c) :: r)) else pure (Ht r))=pure cl /\
   (∀x c,cl.lookup x=some c->B.lookup x=some c\/env.cells.lookup x=some c)/\(∀x,(B.lookup x).isSome=true->(cl.lookup x).isSome=true)/\(∀x,(x,q_)∈names->(cl.lookup x).isSome=true)
 | [],B,_=>⟨B,rfl,λx c h=>.inl h,λx h=>h,λx h=>nomatch h⟩
 | (n, k) :: r,B,h=>by
  by_cases Y:k = .free
  .subst Y
   obtain⟨c,Z⟩:=h (n,.free) k6 rfl;obtain⟨cl,e,h1,h2,L⟩:=jU r ((n,c) :: B) (λx F=>h x (j6 _ F))
   refine⟨cl,?_,λx d hd=>?_,λx F=>h2 x ?_,λx F=>?_⟩
   .simp only[Hn,beq_self_eq_true,if_true,cellOf,Z]
    exact e
   .rcases h1 x d hd with q | q
    .simp only[u7] at q
     split at q
     .rename_i hb
      have:x=n:=by simpa using hb
      subst this;cases q;exact .inr Z
     .exact .inl q
    .exact .inr q
   .simp only[u7]
    split
    .rfl
    .exact F
   .rcases i4.mp F with q | q
    .cases q
     exact h2 n (by simp)
    .exact L x q
  .obtain⟨cl,e,h1,h2,L⟩:=jU r B (λx F=>h x (j6 _ F))
   refine⟨cl,?_,h1,h2,λx F=>?_⟩
   .have:(k == q_)=false:=by simpa using Y
    simp only[Hn,this,gt,if_false];exact e
   .rcases i4.mp F with q | q
    .cases q
     exact absurd rfl Y
    .exact L x q
def ff (nt:Nat) (js:List Nat) (σ:St):St:=List.replicate nt none++js.map λj=>(σ[j]?).join
def Wk (σ0 B:St):Prop:=σ0.length=B.length/\∀(i:Nat) v,σ0[i]? = some (some v)->B[i]? = some (some v)
def zw (g:TG) (nt:Nat):Prop:=∀(x:V) (σ0:St) (H:Hp) (Q:St->Hp->Prop),(∀i,i < nt->σ0[i]? = some none)->g x σ0 H Q->g x σ0 H λB H2=>Wk σ0 B/\Q B H2
theorem Wk.set {σ0:St} {i:Nat} {v:V} (h:σ0[i]? = some none):Wk σ0 (σ0.set i (some v)):=by
 refine⟨by simp,λj w e=>?_⟩
 by_cases B:j=i
 .subst B;rw[h] at e;cases e
 .rw[Ia (tj B)];exact e
theorem Wk.trans {a b c:St} (h:Wk a b) (h':Wk b c):Wk a c:=⟨h.1.trans h'.1,λi v e=>h'.2 i v (h.2 i v e)⟩
theorem aV (hi:i < nt:=by decide):zw (fI i) nt:=λx σ0 H Q h q=>⟨Wk.set (h i hi),q⟩
theorem pS : ∀i,i < nt->(ff nt js σ)[i]? = some none:=λi hi=>by
 unfold ff;rw[r_ (by simpa using hi)]
 simp[hi]
def xl (nt:Nat) (js:List Nat) (wi:TI) (g:TG) (tc:TT) (te:TE):TE:=λσ H Q=>wi σ H λJ H1=>∀D,H1 D=none->∃W:Nat->Nat->List V->Hp->Prop,(∃m,W 0 m [] (upd H1 D (.lst []))) /\
 ∀ i m ys H2,W i m ys H2->(J.stop i H2/\Q (.ref D) H2)\/(J.go i H2/\∃N:List V->Hp->Prop,(∀B H',N B H'->∃Z,Z < m/\W (i+1) Z B H') /\
  ∀x H',J.yld i H2 x H'->g x (ff nt js σ) H' λF H3=>tc F H3 λb Y=>if b=true then te F Y λy L=>L D*>ys/\ys.length < g9/\N (ys++[y]) (upd L D (.lst (ys++[y]))) else N ys Y)
theorem fL {env:Env} : ∀{names:List (Str × y3)} {x:Str},names.lookup x=some .free ->
  ((names.map λ(n,k)=>if (k == q_ && env.scope.kind == .function && env.kindOf n == some .cell) then(n,w6) else(n,k)).lookup x=some .cell\/(names.map λ(n,k)=>if (k == q_ && env.scope.kind == .function && env.kindOf n == some .cell) then(n,w6) else(n,k)).lookup x=some .free)
 | [],_,h=>by simp at h
 | (n,k) :: r,x,h=>by
  have F:=@fL env r x;simp only[i8];cases B:x == n with
  | true =>
   simp only[u7,B] at h;cases h
   by_cases q:(q_ == q_ && env.scope.kind == .function && env.kindOf n == some .cell)=true
   .rw[if_pos q];simp only[u7,B];simp
   .rw[if_neg q];simp only[u7,B];simp
  | false =>
   simp only[u7,B] at h
   by_cases q:(k == q_ && env.scope.kind == .function && env.kindOf n == some .cell)=true
   .rw[if_pos q];simp only[u7,B];exact F h
   .rw[if_neg q];simp only[u7,B];exact F h
theorem Inv.wk {Y:Cx} {B:St} (I:Inv Y pins B H s) (h:Wk σ0 B):Inv Y pins σ0 H s:=I.weak h.1 h.2
end L2
namespace PySem
open Sem (wp)
theorem ye:Ie (.type "list_reverseiterator") "__len__" = pure none:=by rw[y8,uj];kernel_rfl
theorem zJ:Ie (.type "list_reverseiterator") "__length_hint__" = pure (some (.builtin "list_reverseiterator.__length_hint__")):=by rw[y8,uj];kernel_rfl
theorem vY (hh:A.handled=none) (S:Addr) (res:Value) (ab:Nat) (hS:s.heap.get? S=some { cls:=.type "list",data:=.seq #[] ab })
  {I l:Addr} {items:Array Value} (hi:s.heap.IsRevIter I l ((items.size:Int) - 1)) (hl:s.heap.IsList l items) (ak:l≠I) (ac:S≠I) (ag:S≠l)
  (hR : ∀h' tk B Z,(∀b o,b≠S->b≠I->s.heap.get? b=some o->h'.get? b=some o)->h'.get? S=some { cls:=.type "list",dict:=none,data:=.seq B Z,slots := #[] } ->
   ItemsOf (λi v=>items[items.size - 1 - i]? = some v) B items.size->R (.ok (.ret res)) { s with heap:=h',toks:=tk }) (hn:items.size<=g9) :
  wpAny (model prog w) A.in1 (u5 (.ref S) (.ref I) res)
   (λam s'=>match am with | .done f=>R (.ok f) s' | .again Z=>Z.quiet=true/\HM (model prog w) A Z R s') (λe s'=>R (.error e) s') s:=by
 have W:=(Walks.listRev (prog:=prog) (w:=w) (A:=A.in1) hh I l ak items);have ah:S∉[I,l]:=λhm=>by
  rcases i4.mp hm with e | e
  .exact ac e
  .exact ag (e7.mp e)
 have aa:0<=items.size/\s.heap.IsRevIter I l ((items.size:Int) - 1 - ((0:Nat):Int))/\s.heap.IsList l items:=⟨x6 _,by simpa using hi,hl⟩
 unfold u5;refine a_ (wpAny_typeOf hi.typeIs ?_)
 have h1:Hc (.ref S) (.ref I)=false:=by simp[Hc,ac]
 have h2:(GP "list_reverseiterator" == GP "list")=false:=∅
 have h3:(GP "list_reverseiterator" == GP "tuple")=false:=∅
 simp only[h1,h2,h3,Bool.or_false,gt,if_false];refine a_ (W.self 0 _ _ _ aa ?_)
 refine a_ (t4 ?_)
 unfold Builtin.List.listLengthHint;refine a_ (x_ hi.typeIs ye ?_)
 show wpAny _ A.in1 (specialOf (h_ I) (b_ "__length_hint__") >>= _) _ _ _
 refine a_ (x_ hi.typeIs zJ ?_)
 (generalize Y:("list_reverseiterator.__length_hint__" : String)=af;(fail_if_success (clear Y af));wp_delta;rw[show splitId af=some ("list_reverseiterator","__length_hint__") from by subst Y;decide+kernel];subst Y)
 refine a_ (Hd (b:=true) hi.typeIs (by rw[isSubtype_type];kernel_rfl) ?_)
 refine ei ?_
 rw[if_neg ∅]
 refine ei ⟨plainId_quiet Hh _,codeAny_extend_loopS W.toS hn _ ah _ items.size 0 _ _ _ rfl (x6 _) aa hS (ItemsOf.nil _) λs' B Z hm ai ad=>?_⟩
 rw[Moved.eq_with hm];refine hR s'.heap s'.toks B Z (λb ob hb aj e=>hm.heap b ob (λL=>?_) e) ai ad
 rcases i4.mp L with e' | L
 .exact hb e'
 .exact aj (e7.mp L)
theorem qI (hh:A.handled=none) (S:Addr) (hS:s.heap.get? S=some { cls:=.type "list",data:=.seq #[] })
  {I l:Addr} {items:Array Value} (hi:s.heap.IsRevIter I l ((items.size:Int) - 1)) (hl:s.heap.IsList l items) (ag:l≠I) (aa:S≠I) (Z:S≠l)
  (hR : ∀h' tk B Y,(∀b o,b≠S->b≠I->s.heap.get? b=some o->h'.get? b=some o)->h'.get? S=some { cls:=.type "list",dict:=none,data:=.seq B Y,slots := #[] } ->
   ItemsOf (λi v=>items[items.size - 1 - i]? = some v) B items.size->R (.ok (.ret .none)) { s with heap:=h',toks:=tk }) (hn:items.size<=g9) :
  wpAny (model prog w) A.in1 (Builtin.«list.__init__» ⟨[.ref S,.ref I],[]⟩)
   (λah s'=>match ah with | .done f=>R (.ok f) s' | .again Y=>Y.quiet=true/\HM (model prog w) A Y R s') (λe s'=>R (.error e) s') s:=by
 show wpAny _ _ (do let ac <- Hx (.ref S);Builtin.List.listUpdate (.ref S) (λ_ => #[]);letGo ac.toList.reverse;u5 (.ref S) (.ref I) .none) _ _ s
 refine a_ ?_
 unfold Hx;refine a_ (w9 hS rfl (ei ?_))
 show wpAny _ _ (updateSeq S (λ_ => #[]) >>= λ_=>letGo (#[]:Array Value).toList.reverse >>= λ_=>u5 (.ref S) (.ref I) .none) _ _ s
 refine a_ (Io hS rfl ?_)
 have F:=C_ (n_ (λ_=>(#[]:Array Value))) hS rfl
 have L : ∀b o,b≠S->s.heap.get? b=some o->(s.heap.update S (n_ (λ_=>(#[]:Array Value)))).get? b=some o :=
  λb o hb e=>(y_ _ _ (tj hb)).trans e
 refine a_ (wpAny_letGo ?_)
 refine vY (s:={ s with heap:=s.heap.update S (n_ (λ_=>(#[]:Array Value))) }) hh S .none _ F (hi.at λo e=>L _ o (tj aa) e) (hl.at λo e=>L _ o (tj Z) e) ag aa Z (λh' tk B Y hk ad ab=>?_) hn
 exact hR h' tk B Y (λb o hb af e=>hk b o hb af (L b o hb e)) ad ab
theorem qq (hh:A.handled=none) {I l:Addr} {items:Array Value} (hi:s.heap.IsRevIter I l ((items.size:Int) - 1)) (hl:s.heap.IsList l items) (ac:l≠I)
  (hQ : ∀h' tk B c',(∀b o,b≠I->s.heap.get? b=some o->h'.get? b=some o) ->
   h'.get? s.heap.objs.size=some { cls:=.type "list",dict:=none,data:=.seq B c',slots := #[] }->ItemsOf (λi v=>items[items.size - 1 - i]? = some v) B items.size->Q (.ref s.heap.objs.size) { s with heap:=h',toks:=tk }) (hn:items.size<=g9) :
  wpAny (model prog w) A (call (.type "list") [.ref I]) Q E s:=by
 refine callType_codes (Q₁:=λobj s₁=>obj = .ref s.heap.objs.size/\s₁={ s with heap:=s.heap.push { cls:=.type "list",data:=.seq #[] } }) F.called_list (F.typeCall_list_1 _) F.entry_list_init
  (code_list_new _ ⟨rfl,rfl⟩) λobj s₁ L=>?_
 obtain⟨rfl,rfl⟩:=L;have hS:(s.heap.push { cls:=.type "list",data:=.seq #[] }).get? s.heap.objs.size=some { cls:=.type "list",data:=.seq #[] }:=f_ _ rfl
 have up : ∀b o,s.heap.get? b=some o->(s.heap.push { cls:=.type "list",data:=.seq #[] }).get? b=some o:=λb o e=>d_ _ e
 obtain⟨oi,ab,_⟩:=id hi;obtain⟨ol,Z,_⟩:=id hl;refine⟨⟨_,hS,rfl⟩,F.args_list_init_2 _ _,qI (s:={ s with heap:=s.heap.push { cls:=.type "list",data:=.seq #[] } }) (A:=A.in1) hh _ hS (hi.at λo e=>up _ o e) (hl.at λo e=>up _ o e) ac (o_ (e8 ab)) (o_ (e8 Z)) (λh' tk B c' hk aa Y=>?_) hn⟩
 exact⟨rfl,hQ h' tk B c' (λb o hb e=>hk b o (k7 (e8 e)) hb (up b o e)) aa Y⟩
end PySem
namespace L2
open PySem PySem.Spec PyProof.Rows
mutual
inductive Rep (K:e_) (H:Hp):V->Is->Prop
 | non:Rep K H .non .none
 | bl (b:Bool):Rep K H (.bl b) (.bool b)
 | int (i:Int):Rep K H (.int i) (.int i)
 | str (x:Str):Rep K H (.str x) (.str x)
 | tup {a:Addr} {vs:List V} {ds:List Is}:SqT K H a vs->gz K H vs ds->Rep K H (.ref a) (.tuple ds)
 | lst {a:Addr} {vs:List V} {ds:List Is}:SqL K H a vs->gz K H vs ds->Rep K H (.ref a) (.list ds)
inductive gz (K:e_) (H:Hp):List V->List Is->Prop
 | nil:gz K H [] []
 | cons {v:V} {vs:List V} {d:Is} {ds:List Is}:Rep K H v d->gz K H vs ds->gz K H (v :: vs) (d :: ds)
end
theorem aw.seqT (e:aw H H') (h:SqT K H a xs):SqT K H' a xs:=by
 rcases h with(h | ⟨o,h⟩) | h
 .exact .inl (.inl (e _ _ h))
 .exact .inl (.inr ⟨o,e _ _ h⟩)
 .exact .inr h
theorem gz.ints {K:e_} {H:Hp} : ∀(ns:List Int),gz K H (ns.map V.int) (ns.map z_)
 | []=>.nil
 | _ :: ns=>.cons (.int _) (gz.ints ns)
theorem gz.strs {K:e_} {H:Hp} : ∀(ns:List Str),gz K H (ns.map V.str) (ns.map PyData.str)
 | []=>.nil
 | _ :: ns=>.cons (.str _) (gz.strs ns)
mutual
theorem Inv.reads (I:Inv X pins σ H s) : ∀{v:V} {d:Is} {u:Value},Rep X.K H v d->bg v u->∃as,Reads s.heap u d as
 | _,_,_,.non,r=>by cases r;exact⟨_,.none⟩
 | _,_,_,.bl b,r=>by cases r;exact⟨_,.bool b⟩
 | _,_,_,.int b,r=>by obtain⟨t,rfl⟩:=r;exact⟨_,.int b t⟩
 | _,_,_,.str b,r=>by obtain⟨t,rfl⟩:=r;exact⟨_,.str b t⟩
 | _,_,_,.tup h q,r=>by
  cases r;obtain⟨its,B,⟨o,Y,Z,n,F⟩,_⟩:=I.tuple h;obtain⟨as,L⟩:=Inv.readsAll I q B;exact⟨_,.tuple Y Z F (by simpa using L)⟩
 | _,_,_,.lst h q,r=>by
  cases r;obtain⟨its,B,⟨o,n,Y,Z,_,F⟩,_⟩:=I.list h;obtain⟨as,L⟩:=Inv.readsAll I q B;exact⟨_,.list Y Z F (by simpa using L)⟩
theorem Inv.readsAll (I:Inv X pins σ H s) : ∀{v:List V} {d:List Is} {u:List Value},gz X.K H v d->be v u->∃as,ReadsAll s.heap u d as
 | _,_,_,.nil,r=>by cases r;exact⟨_,.nil⟩
 | _,_,_,.cons h q,r=>by
  cases r with
  | cons Y F =>
   obtain⟨as,L⟩:=Inv.reads I h Y;obtain⟨bs,B⟩:=Inv.readsAll I q F;exact⟨_,.cons L B⟩
end
section
variable {a b c:Expr} {tc:TE}
def C9 (K:e_):R2:=λx y H Q=>∃dx B,Rep K H x dx/\Rep K H y B/\dx.canLay0=true/\B.canLay0=true/\dx.depth<=100/\Q (.bl (A_ dx B)) H
theorem sM (hu:X.A.units+100 < cLine):OpR X (p_ .Eq) (C9 X.K):=by
 intro pins s σ H x y v u Q I F L h;obtain⟨dx,dy,h1,h2,h3,B,h5,q⟩:=h;obtain⟨as,Z⟩:=I.reads h1 F;obtain⟨bs,Y⟩:=I.reads h2 L;exact PySem.SeqAt.compareEq_reads Z Y h3 B () ⟨.bl _,H,I,rfl,q⟩
def F2 (K:e_):List V->Hp->VK->Prop:=λxs H Q=>∃x t T k,xs=[x,.ty T]/\mr K H x t/\kitOne K t (.type T)=some k/\Q (.bl k) H
theorem AJ:bY X (.builtin "isinstance") (F2 X.K):=by
 intro pins s σ H xs us Q I r h;obtain⟨x,t,T,k,rfl,ty,e,q⟩:=h;obtain⟨u,L,rfl,F,B⟩:=tL r;cases B;exact ym I F ty e λtk=>⟨.bl k,H,I.tok tk,rfl,q⟩
theorem EU {T:String} (L:Gl X x) (F:X.mg x=none) (B:y2 x=some (.type T)) (hn:x ≠ "__name__" := by decide) (Y:(x ==("__debug__" : Str))=false:=by decide):PE X (.Name x pos) (tC (.ty T)) :=
 Cl L F B rfl hn Y
theorem jx {its:Array Value} {bs:List Bool} (h:be (bs.map V.bl) its.toList):TruthOf prog w A (λi v=>its[i]? = some v) (λi=>bs.getD i true):=by
 intro i v s Q E Z F;have h1:its.toList[i]? = some v:=by simpa using Z
 have B:i < its.toList.length:=(g_.mp h1).1
 have hl:=h.length;have L:i < bs.length:=by rw[<- hl] at B;simpa using B
 obtain⟨u,hu,Y⟩:=h.get (i:=i) (x:=V.bl bs[i]) (by simp[L])
 rw[h1] at hu;cases hu;cases Y;refine y7 ?_
 have e:bs.getD i true=bs[i]:=by simp[List.getD,L]
 show Q bs[i] s
 have F:Q (bs.getD i true) s:=F
 rw[e] at F;exact F
theorem yC (bs:List Bool):(range bs.length).all (λi=>bs.getD i true)=bs.all id:=by
 rw[o8];simp only[w4,HW]
 constructor
 .intro h b hb
  obtain⟨i,hi,e⟩:=t_ hb;have:=h i hi
  simp[List.getD,hi,e] at this
  simpa using this
 .intro h i hi
  have:=h bs[i] (He hi)
  simpa [List.getD,hi] using this
theorem xQ (bs:List Bool):(range bs.length).any (λi=>bs.getD i true)=bs.any id:=by
 rw[o8];simp only[sn,HW]
 constructor
 .rintro⟨i,hi,e⟩
  refine⟨bs[i],He hi,?_⟩
  simpa [List.getD,hi] using e
 .rintro⟨b,hb,e⟩
  obtain⟨i,hi,B⟩:=t_ hb;refine⟨i,hi,?_⟩
  simp only[List.getD,k4 hi,Option.getD_some,B];exact e
def DL (K:e_):List V->Hp->VK->Prop:=λxs H Q=>∃(p:Addr) (bs:List Bool),xs=[.ref p]/\SqL K H p (bs.map V.bl)/\Q (.bl (bs.all id)) H
def Er (K:e_):List V->Hp->VK->Prop:=λxs H Q=>∃(p:Addr) (bs:List Bool),xs=[.ref p]/\SqL K H p (bs.map V.bl)/\Q (.bl (bs.any id)) H
theorem vG (hc:X.calm=true):bY X (.builtin "all") (DL X.K):=by
 intro pins s σ H xs us Q I r h;obtain⟨p,bs,rfl,L,q⟩:=h;obtain⟨u,rfl,Y⟩:=dA r;cases Y;obtain⟨its,F,pl,hz⟩:=I.list L;refine call_all_walk (HG pl.isList ?_)
 have B:p≠s.heap.objs.size:=by
  obtain⟨o,n,Z,_⟩:=pl;exact k7 (e8 Z)
 refine⟨_,_,_,_,_,_,λi=>bs.getD i true,rfl,Walks.list (A:=X.A.in1) (I.ok.hd hc) _ p B its.toArray,⟨⟨_,f_ _ rfl,rfl,rfl⟩,pl.isList.at λo e=>d_ _ e⟩,jx (by simpa using F),λh' tk hk=>?_⟩
 have hl:its.toArray.size=bs.length:=by have:=F.length;simp at this ⊢;omega
 rw[hl,yC];exact⟨.bl (bs.all id),H,I.kept λb o e=>hk b o (by simp;exact k7 (e8 e)) (d_ _ e),rfl,q⟩
theorem vP (hc:X.calm=true):bY X (.builtin "any") (Er X.K):=by
 intro pins s σ H xs us Q I r h;obtain⟨p,bs,rfl,L,q⟩:=h;obtain⟨u,rfl,Y⟩:=dA r;cases Y;obtain⟨its,F,pl,hz⟩:=I.list L;refine call_any_walk (HG pl.isList ?_)
 have B:p≠s.heap.objs.size:=by
  obtain⟨o,n,Z,_⟩:=pl;exact k7 (e8 Z)
 refine⟨_,_,_,_,_,_,λi=>bs.getD i true,rfl,Walks.list (A:=X.A.in1) (I.ok.hd hc) _ p B its.toArray,⟨⟨_,f_ _ rfl,rfl,rfl⟩,pl.isList.at λo e=>d_ _ e⟩,jx (by simpa using F),λh' tk hk=>?_⟩
 have hl:its.toArray.size=bs.length:=by have:=F.length;simp at this ⊢;omega
 rw[hl,xQ];exact⟨.bl (bs.any id),H,I.kept λb o e=>hk b o (by simp;exact k7 (e8 e)) (d_ _ e),rfl,q⟩
theorem nK (ns:List Int) : ∀n,n<=ns.length->preSum (λi=>ns.getD i 0) n=(ns.take n).sum
 | 0,_=>by simp[preSum]
 | n+1,h=>by
  have B:=nK ns n ()
  have e:ns[n]? = some (ns[n]'()):=by simp
  show preSum (λi=>ns.getD i 0) n+ns.getD n 0=_
  rw[B,j_,e,List.sum_append,List.getD,e];simp
theorem uo (ns:List Int):preSum (λi=>ns.getD i 0) ns.length=ns.sum:=by
 rw[nK ns _ (i6 _),l_]
def BD (K:e_):List V->Hp->VK->Prop:=λxs H Q=>∃(p:Addr) (ns:List Int),xs=[.ref p]/\SqL K H p (ns.map V.int)/\Q (.int ns.sum) H
theorem qb (hc:X.calm=true):bY X (.builtin "sum") (BD X.K):=by
 intro pins s σ H xs us Q I r h;obtain⟨p,ns,rfl,hq,q⟩:=h;obtain⟨u,rfl,rx⟩:=dA r;cases rx;obtain⟨its,L,pl,hz⟩:=I.list hq;refine call_sum_walkG (HG pl.isList ?_)
 have Z:p≠s.heap.objs.size:=by
  obtain⟨o,n,Y,_⟩:=pl;exact k7 (e8 Y)
 refine⟨_,_,_,_,_,_,λi=>ns.getD i 0,rfl,Walks.list (A:=X.A.in1) (I.ok.hd hc) _ p Z its.toArray,⟨⟨_,f_ _ rfl,rfl,rfl⟩,pl.isList.at λo e=>d_ _ e⟩,λb F=>?_,λi v hv=>?_,λh' tk t' hk=>?_⟩
 .obtain⟨o,n,Y,_⟩:=pl
  rcases i4.mp F with e | e
  .rw[e];exact g7 (GS _) (by simp)
  .rw[e7.mp e];exact g7 (e8 Y) (by simp)
 .have h1:its[i]? = some v:=by simpa using hv
  have B:i < its.length:=(g_.mp h1).1
  have hl:=L.length;have F:i < ns.length:=by rw[<- hl] at B;simpa using B
  obtain⟨u,hu,t,ru⟩:=L.get (i:=i) (x:=V.int ns[i]) (by simp[F])
  rw[h1] at hu;cases hu;exact⟨t,by rw[ru];simp[List.getD,F]⟩
 .have hl:its.toArray.size=ns.length:=by have:=L.length;simp at this ⊢;omega
  rw[hl,uo];exact⟨.int ns.sum,H,I.kept λb o e=>hk b o (by simp;exact k7 (e8 e)) (d_ _ e),⟨t',rfl⟩,q⟩
def pY (t:TE):TE:=λσ H Q=>t σ H λx H1=>∃p,x = .ref p/\∃ys,H1 p*>ys/\∀l,H1 l=none->Q (.ref l) (upd H1 l (.lst ys.reverse))
end
section
variable {a b c:Expr} {tc:TE} {p pos2:Pos}
theorem pi (hc:X.calm=true) (hg:Gl X "list") (hm:X.mg "list" = none) (ab:Gl X "reversed") (ac:X.mg "reversed" = none) (he:PE X e te) (Y:j8 [e] X.env=[(false,eval e X.env)]:=by rfl) :
  PE X (.Call (.Name "list" p) [.Call (.Name "reversed" p2) [e] [] pos2] [] pos) (pY te):=by
 intro pins s σ H Q I h;refine x0 (fZ I hg hm (by decide+kernel:y2 "list" = some (.type "list")) ?_)
 refine n6 (Hs ?_) rfl rfl
 refine x0 (fZ I ab ac boot_reversed ?_)
 refine n6 (Q:=_) ?_ Y rfl
 rw[Y];refine Hs (thn (he pins s σ H _ I h) λu L ⟨x,H1,I1,r1,pp,e1,ys,hq',q⟩=>HE ?_)
 subst e1;cases r1;have hq:SqL X.K H1 pp ys:=.of hq'
 obtain⟨its,rv,pl,hz⟩:=I1.list hq;have af:=rv.length;refine call_reversed_list pl.isList ?_
 have ad:pp < L.heap.objs.size:=by
  obtain⟨o,n,ho,_⟩:=pl;exact e8 ho
 refine HE (qq (I.ok.hd hc) (I:=L.heap.objs.size) (l:=pp) (items:=its.toArray) ⟨_,f_ _ rfl,rfl,rfl⟩ (pl.isList.at λo e=>d_ _ e) (k7 ad) (λh' tk B c' hk hS F=>?_) (by simp only[j9];omega))
 have kp : ∀b o,L.heap.get? b=some o->h'.get? b=some o:=λb o e=>hk b o (k7 (e8 e)) (d_ _ e)
 have Z:B=its.reverse.toArray:=by
  apply Array.ext_getElem?
  intro i;have aa:=F.1;simp only[j9] at aa
  by_cases hi:i < its.length
  .have h1:B[i]? = some (B[i]'()):=by simp[aa,hi]
   have h2:=F.2 i _ h1;rw[h1,<- h2];simp only[j9,HP];rw[HQ hi]
  .simp only[HP]
   rw[Hy (),List.getElem?_eq_none (by simp;omega)]
 subst Z;have hsz:L.heap.objs.size<=(L.heap.push (revObj pp ((its.toArray.size:Int) - 1))).objs.size:=by rw[m9];exact le_succ _
 exact⟨.ref (L.heap.push (revObj pp ((its.toArray.size:Int) - 1))).objs.size,upd H1 _ (.lst ys.reverse),I1.laid (t':=tk) kp hsz ⟨by simp;omega,its.reverse,c',rv.reverse,hS⟩,rfl,q _ (I1.hok.fresh hsz)⟩
def CO:V->Option Int->Option Int->Hp->VK->Prop:=λx lo hi H Q=>∃z,x = .str z/\z.length<=g9/\Q (.str (GL z lo hi)) H
theorem we:SlR X CO:=by
 intro pins s σ H x v vl vu lo hi sl Q I rx hs pl pu h;obtain⟨z,rfl,Y,q⟩:=h;obtain⟨t,rfl⟩:=rx;refine⟨"str",_,F.slot_str_getitem.lookup,typeIs_str _ _ _,?_⟩
 have B : ∀(t':Tok) (k:Nat),EP X pins σ Q (.str (GL z lo hi) t') { s with toks:=k }:=λt' k=>⟨.str _,H,I.tok k,⟨t',rfl⟩,q⟩
 obtain⟨o,h1,h2,L⟩:=hs;cases pl with
 | none=>cases pu with
  | none=>exact Hi (l:=none) (u:=none) (st:=none) ⟨o,h1,h2,L⟩ rfl (post_val_or_str ⟨gr (HR z _ _) Y,λt' k=>B t' k⟩)
  | int j Z=>exact Hi (l:=none) (u:=some (j,Z)) (st:=none) ⟨o,h1,h2,L⟩ rfl (post_val_or_str ⟨gr (HR z _ _) Y,λt' k=>B t' k⟩)
 | int i ui=>cases pu with
  | none=>exact Hi (l:=some (i,ui)) (u:=none) (st:=none) ⟨o,h1,h2,L⟩ rfl (post_val_or_str ⟨gr (HR z _ _) Y,λt' k=>B t' k⟩)
  | int j Z=>exact Hi (l:=some (i,ui)) (u:=some (j,Z)) (st:=none) ⟨o,h1,h2,L⟩ rfl (post_val_or_str ⟨gr (HR z _ _) Y,λt' k=>B t' k⟩)
end
def FnL (K:e_) (mg:Str->Option Value) (x:Str) (st:Stmt) (ps:List Str):Prop :=
 ∃f fd,Fun K x x st f fd/\mg x=some (.ref f)/\jO K fd ps []
def Fn (P:Program) (w:World) (K:e_) (mg:Str->Option Value) (base:Heap) (x:Str) (k:Nat) (ps:List Str) (sp:Sp):Prop :=
 ∃f fd,ku P w K mg base CX0 k f fd ps sp/\mg x=some (.ref f)/\HI K (.ref f)=true/\jO K fd ps []
section
variable {P:Program} {w:World} {K:e_} {mg:Str->Option Value} {base:Heap}
theorem FnL.ok {x:Str} {st:Stmt} {N ps:List Str} {k:Nat} {sp:Sp} (F:FnL K mg x st ps) (S:aC N ps (ao st)) (L : ∀vs H Q E,sp vs H Q E->vs.length=ps.length)
  (B : ∀(f:Addr) (cdv:Value) (A:Around) (outer:List Env) (s:Shared) (H:Hp) (vs:List V) (Q:VK) (E:XK),cU k (A.deeper (envOfC x (ao st) s.heap.objs.size f cdv))->sp vs H Q E ->
   ∃t,PSs (sJ CX0 P w K mg base N x (ao st) f cdv A outer s H E).nox (cu st) t/\t { nx:=λ_ H'=>Q .non H',rt:=Q } (iM N vs) H):Fn P w K mg base x (k+1) ps sp:=by
 obtain⟨f,fd,F,m,b⟩:=F;exact⟨f,fd,F.ok S L (B f),m,F.kp,b⟩
theorem Fn.mono {x:Str} {j k:Nat} {ps:List Str} {sp:Sp} (F:Fn P w K mg base x j ps sp) (h:j<=k):Fn P w K mg base x k ps sp:=by
 obtain⟨f,fd,F,m,B,b⟩:=F;exact⟨f,fd,F.mono h,m,B,b⟩
theorem Em {B:Option Addr} {kV:Value} (X:K.In h) (G:h.Ns la mg)
  (a:nsIn K la x=some (-f))
  (l:K.lookup f=some ⟨oc,od,.func (fnOf x x (cS st) (cu st) (ao st) .none kV doc pm B cdv ct),osl⟩)
  (c:codeIn K cdv x=true) (k:HI K (.ref f)=true)
  (F : ∀(kV doc pm:Value) (B:Option Addr) (cdv ct:Value) (us:List Value),us.length=ps.length->bindArgs (fnOf x x (cS st) (cu st) (ao st) .none kV doc pm B cdv ct) ⟨us,[]⟩=pure (ps.zip us)):FnL K mg x st ps :=
 ⟨f,_,qk l c k,mg_of X G a,(qk l c k).binds F⟩
end
section
variable {p:Pos} {t:TA}
theorem az (F:Fn X.prog X.w X.K X.mg X.base x k ps sp) (ha:PA X (e :: es) t) (Z:cU k X.A:=by exact cU.mono (by assumption) (by first | decide | omega)) (hg:Gl X x:=by exact rfl) (B:(x ==("__debug__" : Str))=false:=by decide)
  (he:j8 (e :: es) X.env=(false,eval e X.env) :: j8 es X.env:=by rfl) (L:(y9 pos (j8 es X.env)).any (·.1)=false:=by rfl) :
  PE X (.Call (.Name x p) (e :: es) [] pos) (qN sp [] E0 t):=by
 obtain⟨f,fd,F,m,Y,b⟩:=F;exact BX F Z hg m Y b .nil oY ha B he L
end
structure Wlk (J:It) (xs:List V) (C:Hp->Prop):Prop where
 go : ∀i H,C H->i < xs.length->J.go i H
 yld : ∀i H x H',C H->i < xs.length->J.yld i H x H'->xs[i]? = some x/\H'=H
 stop : ∀i H,C H->xs.length<=i->J.stop i H
theorem cm:Wlk (Itl K a) xs (λH=>SqL K H a xs) :=
 ⟨λi H h hi=>⟨xs,xs[i],h,by simp[hi]⟩,λi H x H' h _ y=>⟨y.2 xs h,y.1⟩,λi H h hi=>⟨xs,h,hi⟩⟩
theorem aW:Wlk (Itt K a) xs (λH=>SqT K H a xs) :=
 ⟨λi H h hi=>⟨xs,xs[i],h,by simp[hi]⟩,λi H x H' h _ y=>⟨y.2 xs h,y.1⟩,λi H h hi=>⟨xs,h,hi⟩⟩
def wx (lo:Int) (n:Nat):List V:=(range n).map λ(i:Nat)=>V.int (lo+(i:Int))
theorem aQ (lo:Int) (n:Nat):(wx lo n).length=n:=by simp[wx]
theorem lJ (h:i < n):(wx lo n)[i]? = some (.int (lo+i)):=by simp[wx,h]
theorem cN:Wlk (Itr lo n) (wx lo n) (λ_=>True) :=
 ⟨λi H _ hi=>by rw[aQ] at hi;exact hi,λi H x H' _ hi y=>by
  obtain⟨e,y⟩:=y;rw[aQ] at hi;rw[lJ hi,y];exact⟨rfl,e⟩,λi H _ hi=>by rw[aQ] at hi;exact hi⟩
theorem Bk {C:Hp->Prop} (w:Wlk J xs C) {g:TG} {tb:TS} {D:og} {σ:St} {H:Hp} (F:Nat->St->Hp->Prop) (h0:F 0 σ H) (hl : ∀i σ H,F i σ H->C H)
  (hs : ∀i x σ H,i < xs.length->xs[i]? = some x->F i σ H->g x σ H λL H2=>tb { D with nx:=F (i+1),ct:=F (i+1),bk:=D.nx } L H2) (Z : ∀ σ H,F xs.length σ H->D.nx σ H) :
  ∃ W:Nat->Nat->St->Hp->Prop,(∃m,W 0 m σ H)/\∀i m σ H,W i m σ H ->
   (J.stop i H/\D.nx σ H)\/(J.go i H/\∃N:St->Hp->Prop,(∀ σ' H',N σ' H'->∃Y,Y < m/\W (i+1) Y σ' H')/\∀x H',J.yld i H x H'->g x σ H' λL H2=>tb { D with nx:=N,ct:=N,bk:=D.nx } L H2):=by
 refine⟨λi m σ H=>m=xs.length - i/\i<=xs.length/\F i σ H,⟨xs.length,by simp,x6 _,h0⟩,?_⟩
 rintro i m σ H ⟨rfl,hi,p⟩
 have q:=hl i σ H p
 by_cases B:i < xs.length
 .refine .inr ⟨w.go i H q B,F (i+1),λσ' H' p'=>⟨xs.length - (i+1),(),rfl,B,p'⟩,λx H' y=>?_⟩
  obtain⟨e1,e2⟩:=w.yld i H x H' q B y;subst e2;exact hs i x σ _ B e1 p
 .have e:i=xs.length:=()
  subst e;exact .inl ⟨w.stop _ H q (i6 _),Z σ H p⟩
theorem A7 {C:Hp->Prop} (w:Wlk J xs C) {g:TG} {tc:TT} {te:TE} {σ0:St} {Q:VK} {H1:Hp} {D:Addr} (L:Nat->List V->Hp->Prop) (h0:L 0 [] (upd H1 D (.lst []))) (hl : ∀i ys H,L i ys H->C H)
  (hs : ∀i x ys H,i < xs.length->xs[i]? = some x->L i ys H->g x σ0 H λB H3=>tc B H3 λb Z=>if b=true then te B Z λy Y=>Y D*>ys/\ys.length < g9/\L (i+1) (ys++[y]) (upd Y D (.lst (ys++[y]))) else L (i+1) ys Z)
  (hd : ∀ys H,L xs.length ys H->Q (.ref D) H) :
  ∃ W : Nat->Nat->List V->Hp->Prop,(∃m,W 0 m [] (upd H1 D (.lst []))) /\
   ∀ i m ys H2,W i m ys H2->(J.stop i H2/\Q (.ref D) H2)\/(J.go i H2/\∃N:List V->Hp->Prop,(∀aa H',N aa H'->∃m',m' < m/\W (i+1) m' aa H') /\
    ∀x H',J.yld i H2 x H'->g x σ0 H' λB H3=>tc B H3 λb Z=>if b=true then te B Z λy Y=>Y D*>ys/\ys.length < g9/\N (ys++[y]) (upd Y D (.lst (ys++[y]))) else N ys Z):=by
 refine⟨λi m ys H=>m=xs.length - i/\i<=xs.length/\L i ys H,⟨xs.length,by simp,x6 _,h0⟩,?_⟩
 rintro i m ys H ⟨rfl,hi,p⟩
 have q:=hl i ys H p
 by_cases F:i < xs.length
 .refine .inr ⟨w.go i H q F,L (i+1),λσ' H' p'=>⟨xs.length - (i+1),(),rfl,F,p'⟩,λx H' y=>?_⟩
  obtain⟨e1,e2⟩:=w.yld i H x H' q F y;subst e2;exact hs i x ys _ F e1 p
 .have e:i=xs.length:=()
  subst e;exact .inl ⟨w.stop _ H q (i6 _),hd ys H p⟩
end L2
namespace HT
open PySem PyProof.Rows
open PySem.SeqAt
open PySem.AutoSeq1 (wpAny_loadPart')
open PySem.MeetsSeq PySem.MeetsSeq2 PySem.MeetsSeq3
theorem getItem_tuple_whole {t sl:Addr} {lo:Option Int} (B:IsTup s.heap t items) (Z:s.heap.IsSliceOf sl vl vu .none) (pl:IsPart vl lo) (pu:IsPart vu hi)
  (h1:sIx items.size 0 lo=0) (h2:sIx items.size items.size hi=items.size)
  (h:Q (.ref t) s):wpAny (model prog w) A (getItem (.ref t) (.ref sl)) Q E s:=by
 obtain⟨os,F,L,aa⟩:=id Z;have Y:s.TypeIs (.ref sl) "slice" :=⟨os,F,L⟩
 unfold getItem
 try with_reducible refine t4 ?_
 first | refine a_ (ei ?_) | skip
 refine a_ (wpAny_sequenceKey B.typeIs ∅ ?_)
 refine a_ (m3 (name:=b_ "__getitem__") B.typeIs u8
  (m7 u8 B.typeIs entry_tuple_getitem ?_ (args_tuple_getitem _ _)))
 show wpAny _ _ (Builtin.Tuple.tupleItemsOf (.ref t) >>= _) _ _ s
 refine a_ (tupleItemsOf_ B ?_)
 refine a_ (wpAny_typeOf Y ?_)
 rw[if_pos ∅]
 refine a_ (hU Z pl pu ?_)
 rw[h1,h2]
 show wpAny _ _ (if (((0:Nat):Int) == 0 && (1:Int) == 1 && (items.size - 0) == items.size)=true then _ else _) _ _ s
 rw[if_pos (by simp)]
 unfold Builtin.Tuple.tupleIsExact;refine a_ (a_ (wpAny_typeOf B.typeIs (ei ?_)))
 rw[if_pos ∅]
 exact a_ (wpAny_rule (ei ⟨_,rfl,ei h⟩))
end HT
namespace L2
open PySem PySem.Spec PyProof.Rows
def iG (xs:List (Str × y3)) (x:Str):Bool:=xs.lookup x == some .cell || xs.lookup x == some .free
theorem jd {xs:List (Str × y3)} (h:iG xs x=true):xs.lookup x=some .cell\/xs.lookup x=some .free:=by
 unfold iG at h;rw[Bool.or_eq_true] at h;simpa using h
def E1 (K:e_):V->Option Int->Option Int->Hp->VK->Prop:=λx lo hi H Q=>∃a xs,x = .ref a/\SqT K H a xs/\(fG xs lo hi=xs->Q (.ref a) H)/\(∀p,H p=none->Q (.ref p) (upd H p (.tup (fG xs lo hi))))
theorem BY:SlR X (E1 X.K):=by
 intro pins s σ H x v vl vu lo hi sl Q I Y Z pl pu h;obtain⟨a,xs,e,L,q1,q2⟩:=h
 by_cases F:HT.sIx xs.length 0 lo=0/\HT.sIx xs.length xs.length hi=xs.length
 .subst e
  cases Y;obtain⟨its,r,ht,hz⟩:=I.tuple L;have B:its.toArray.size=xs.length:=by rw[j9];exact r.length.symm
  refine⟨"tuple",_,u8.lookup,ht.typeIs,?_⟩
  refine HT.getItem_tuple_whole ht Z pl pu (by rw[B];exact F.1) (by rw[B];exact F.2) ⟨.ref a,H,I,rfl,q1 ?_⟩
  unfold fG;rw[F.1,F.2];simp
 .exact C7 pins s σ H x v vl vu lo hi sl Q I Y Z pl pu ⟨a,xs,e,L,F,q2⟩
theorem EH {s:Str} {P:Key->Prop}:(∃k,V.str s=kV k/\P k)↔P (ge s):=by
 constructor
 .rintro⟨k,e,p⟩
  cases k with
  | inl i=>cases e
  | inr x=>cases e;exact p
 .exact λp=>⟨_,rfl,p⟩
theorem EZ {i:Int} {P:Key->Prop}:(∃k,V.int i=kV k/\P k)↔P (i7 i):=by
 constructor
 .rintro⟨k,e,p⟩
  cases k with
  | inl i=>cases e;exact p
  | inr x=>cases e
 .exact λp=>⟨_,rfl,p⟩
section
variable {o i:Expr}
def tDG (td ty:TE):TE:=λσ H Q=>td σ H λx H1=>ty σ H1 λy H2=>∃a,x = .ref a/\∃k,y=kV k/\∃kvs v,H2 a<*kvs/\bO kvs k=some v/\Q v H2
theorem bH (hu:X.A.units+1 < cLine) (ho:PE X o td) (hi:PE X i ty) (hs:FJ i:=by exact λ_ _=>rfl):PE X (.Subscript o i pos) (tDG td ty):=by
 intro pins s σ H Q I h;refine Cp PySem.F.slot_dict_getitem.lookup hs (thn (ho pins s σ H _ I h) λu s1 ⟨x,H1,I1,rx,q1⟩=>thn (hi pins s1 σ H1 _ I1 q1) λiv s2 B=>?_)
 obtain⟨y,H2,Y,ry,a,ex,k,ey,kvs,v,hd,Z,q2⟩:=B;subst ex;obtain rfl:u=h_ a:=rx
 have g:oR H2 a y (some v):=.inl ⟨kvs,k,.inl hd,ey,Z.symm⟩
 exact⟨uX Y g,yy hu Y g ry λw' s3 I3 L=>⟨v,H2,I3,L,q2⟩⟩
def sDP (td ty tv:TE):TS:=λD σ H=>tv σ H λv H1=>td σ H1 λx H2=>ty σ H2 λy B=>∃a,x = .ref a/\∃k,y=kV k/\∃kvs,B a<*kvs/\kvs.length < g9/\D.nx σ (upd B a (.dK (bm kvs k v)))
theorem gK (hu:X.A.units+1 < cLine) (ho:PE X o td) (hi:PE X i ty) (L:PE X value tv) (hs:Ir value (some (.Subscript o i pos')) pos.line X.env=pure false) :
  PS X (.Assign [.Subscript o i pos'] value pos) (sDP td ty tv):=by
 intro pins s σ H D I h;refine wpAny_Assign_Subscript (thn (L pins s σ H _ I h) λr s1 ⟨v,H1,I1,rv,q1⟩=>thn (ho pins s1 σ H1 _ I1 q1) λu Y ⟨x,H2,I2,rx,q2⟩=>thn (hi pins Y σ H2 _ I2 q2) λiv s3 B=>?_) hs
 obtain⟨y,F,I3,Z,a,ex,k,ey,kvs,hd,hl,q3⟩:=B;subst ex;obtain rfl:u=h_ a:=rx
 have g:xL F a y v (upd F a (.dK (bm kvs k v))):=.inl ⟨kvs,k,hd,ey,hl,rfl⟩
 exact rg hu I3 g Z rv λs4 I4=>⟨σ,_,I4,q3⟩
def tDI (ty td:TE):TE:=λσ H Q=>ty σ H λy H1=>td σ H1 λx H2=>∃a,x = .ref a/\∃k,y=kV k/\∃kvs,H2 a<*kvs/\Q (.bl (bO kvs k).isSome) H2
end
theorem uF {c:TT} {tb:TS} (W:Nat->St->Hp->Prop) (B:St->Hp->Prop) (Y : ∃m,W m σ H)
  (Z : ∀R:St->Hp->Prop,(∀ σ H,B σ H->R σ H)->∀m σ H,W m σ H->c σ H λb H1=>if b=true then ∃N:St->Hp->Prop,(∀ σ' H',N σ' H'->∃L,L < m/\W L σ' H')/\tb { D with nx:=N,ct:=N,bk:=R } σ H1 else R σ H1)
  (F : ∀ σ H,B σ H->D.nx σ H):wE c tb D σ H:=⟨W,Y,λm σ H w=>Z D.nx F m σ H w⟩
theorem cxK {q:Str} {o:List Env} {E:XK} :
  (sJ CX P w K mg base N q sc f cd A o s H E).K=K:=rfl
theorem Bq (i j:Int):uA (.int i) (.int j)=true:=rfl
theorem Bm (i j:Str):uA (.str i) (.str j)=true:=rfl
theorem Bh (i j:Bool):uA (.bl i) (.bl j)=true:=rfl
theorem Bw:uA .non .non=true:=rfl
theorem BZ (i:Int):uA (.int i) .non=true:=rfl
theorem Ca (s:Str) (i:Int):uA (.str s) (.int i)=true:=rfl
section
variable {a b o l:Expr} {t:TA}
theorem OpR.imp {f:Value->Value->Sem Value} {r r':R2} (h:OpR X f r) (i : ∀x y H Q,r' x y H Q->r x y H Q):OpR X f r':=λpins s σ H x y v u Q I B F q=>h pins s σ H x y v u Q I B F (i _ _ _ _ q)
theorem bY.imp {f:Value} {r r':List V->Hp->VK->Prop} (h:bY X f r) (i : ∀x H Q,r' x H Q->r x H Q):bY X f r':=λpins s σ H xs us Q I B q=>h pins s σ H xs us Q I B (i _ _ _ q)
theorem IxR.imp {r r':R2} (h:IxR X r) (i : ∀x y H Q,r' x y H Q->r x y H Q):IxR X r':=λvalue B pins s σ H x y v u Q I F L q Y=>h value B pins s σ H x y v u Q I F L (i _ _ _ _ q) Y
theorem SlR.imp {r:V->Option Int->Option Int->Hp->VK->Prop} (h:SlR X r) (i : ∀x lo hi H Q,r' x lo hi H Q->r x lo hi H Q):SlR X r':=λpins s σ H x v vl vu lo hi sl Q I B F pl L q=>h pins s σ H x v vl vu lo hi sl Q I B F pl L (i _ _ _ _ _ q)
def yO:List V->Hp->VK->Prop:=λxs H Q=>∃p,xs=[.ref p]/\∃ys,H p*>ys/\Q (.int ys.length) H
def AQ:List V->Hp->VK->Prop:=λxs H Q=>∃p,xs=[.ref p]/\∃ys,H p>>ys/\Q (.int ys.length) H
theorem bK:bY X (.builtin "len") yO:=lL.imp λ_ _ _ B=>by obtain⟨p,e,ys,h,q⟩:=B;exact(⟨p,ys,e,.inl (.of h),q⟩)
theorem fW:bY X (.builtin "len") AQ:=lL.imp λ_ _ _ B=>by obtain⟨p,e,ys,h,q⟩:=B;exact(⟨p,ys,e,.inr (.of h),q⟩)
def rIL:R2:=λx y H Q=>∃p,x = .ref p/\∃i,y = .int i/\∃xs,H p*>xs/\∃v,atI xs i=some v/\Q v H
def rIT:R2:=λx y H Q=>∃p,x = .ref p/\∃i,y = .int i/\∃xs,H p>>xs/\∃v,atI xs i=some v/\Q v H
theorem fS:IxR X rIL:=BI.imp λ_ _ _ _ B=>by obtain⟨p,e,i,e2,xs,h,v,ha,q⟩:=B;exact(⟨p,xs,i,v,e,e2,.of h,ha,q⟩)
theorem bw:IxR X rIT:=C3.imp λ_ _ _ _ B=>by obtain⟨p,e,i,e2,xs,h,v,ha,q⟩:=B;exact(⟨p,xs,i,v,e,e2,.of h,ha,q⟩)
def rIS:R2:=λx y H Q=>∃z,x = .str z/\∃i,y = .int i/\z.length<=g9/\∃c,atI z.cps.toList i=some c/\Q (.str ⟨#[c]⟩) H
theorem BQ:IxR X rIS:=Dh.imp λ_ _ _ _ B=>by obtain⟨z,e,i,e2,h,c,ha,q⟩:=B;exact(⟨z,i,c,e,e2,h,ha,q⟩)
def rSL:V->Option Int->Option Int->Hp->VK->Prop:=λx lo hi H Q=>∃a,x = .ref a/\∃xs,H a*>xs/\∀p,H p=none->Q (.ref p) (upd H p (.lst (fG xs lo hi)))
theorem E2:SlR X rSL:=xB.imp λ_ _ _ _ _ B=>by obtain⟨a,e,xs,h,q⟩:=B;exact(⟨a,xs,e,.of h,q⟩)
def rSQ (K:e_):V->Option Int->Option Int->Hp->VK->Prop:=λx lo hi H Q=>∃a,x = .ref a/\∃xs,SqL K H a xs/\∀p,H p=none->Q (.ref p) (upd H p (.lst (fG xs lo hi)))
theorem FN:SlR X (rSQ X.K):=xB.imp λ_ _ _ _ _ B=>by obtain⟨a,e,xs,h,q⟩:=B;exact(⟨a,xs,e,h,q⟩)
def rST:V->Option Int->Option Int->Hp->VK->Prop:=λx lo hi H Q=>∃a,x = .ref a/\∃xs,H a>>xs/\(fG xs lo hi=xs->Q (.ref a) H)/\(∀p,H p=none->Q (.ref p) (upd H p (.tup (fG xs lo hi))))
theorem Ga:SlR X rST:=BY.imp λ_ _ _ _ _ B=>by obtain⟨a,e,xs,h,q⟩:=B;exact(⟨a,xs,e,.of h,q⟩)
def iL (K:e_) (tl:TE):TI:=λσ H R=>tl σ H λx H1=>∃a,x = .ref a/\∃xs,H1 a*>xs/\R (Itl K a) H1
def iT (K:e_) (tl:TE):TI:=λσ H R=>tl σ H λx H1=>∃a,x = .ref a/\∃xs,H1 a>>xs/\R (Itt K a) H1
theorem Gj {tl:TE} (hl:PE X l tl):PI X tg l (iL X.K tl):=by
 intro pins s σ H R I h;refine thn (hl pins s σ H _ I h) λv F B=>?_
 obtain⟨x,H1,L,Z,a,e,xs,Y,q⟩:=B;subst e;cases Z;obtain⟨its,rv,p,hz⟩:=L.list (SqL.of Y);refine HG p.isList ?_
 refine⟨F.heap.objs.size,[F.heap.objs.size],_,_,H1,rfl,L.kept (t':=F.toks) λb o e=>d_ _ e,yE a _,⟨_,f_ _ rfl,rfl,rfl⟩,λb hb=>?_,q⟩
 have e:b=F.heap.objs.size:=by simpa using hb
 subst e;exact L.fpOk (i6 _) (L.hok.fresh (i6 _))
theorem Gu {tl:TE} (hl:PE X l tl):PI X tg l (iT X.K tl):=by
 intro pins s σ H R I h;refine thn (hl pins s σ H _ I h) λv F B=>?_
 obtain⟨x,H1,L,Z,a,e,xs,Y,q⟩:=B;subst e;cases Z;obtain⟨its,rv,p,hz⟩:=L.tuple (SqT.of Y);refine x3 (show F.heap.IsTuple a its.toArray from p) ?_
 refine⟨F.heap.objs.size,[F.heap.objs.size],_,_,H1,rfl,L.kept (t':=F.toks) λb o e=>d_ _ e,vh a _,⟨_,f_ _ rfl,rfl,rfl⟩,λb hb=>?_,q⟩
 have e:b=F.heap.objs.size:=by simpa using hb
 subst e;exact L.fpOk (i6 _) (L.hok.fresh (i6 _))
abbrev RM:=Addr->List V->Hp->VK->Prop
def MtL (X:Cx) (id:String) (r:RM):Prop:=MtR X id λx vs H Q=>∃p,x = .ref p/\r p vs H Q
def tML (r:RM) (to:TE) (t:TA):TE:=λσ H Q=>to σ H λx H1=>∃p,x = .ref p/\(∃xs,H1 p*>xs)/\t σ H1 λvs H2=>r p vs H2 Q
variable {id:String} {r:RM}
theorem iJ (aa:Slot "list" name id) (ac:typeOf (.builtin id)=pure (.type "method_descriptor")) (hm:MtL X id r) (ho:PE X o to) (ha:PA X (e :: es) t)
  (Z:Ii o name X.env (eval o X.env)=eval o X.env:=by rfl)
  (ab:((y9 cpos (j8 (e :: es) X.env)).all (λx=>!x.1) && (backToKw cpos (keywordEach [] X.env)).all (λx=>x.1.isSome)
   && decide ((e :: es).length+([]:List Keyword).length+(if ([]:List Keyword).isEmpty then 0 else 1) < 30))=true:=by rfl)
  (Y:(apos.endLine == cpos.line)=true:=by rfl) (hs:j8 (e :: es) X.env=(false,eval e X.env) :: j8 es X.env:=by rfl) (L:(y9 cpos (j8 es X.env)).any (·.1)=false:=by rfl) :
  PE X (.Call (.Attribute o name apos) (e :: es) [] cpos) (tML r to t):=by
 intro pins s σ H Q I h;refine wpAny_Call_method_late Z ab Y rfl (thn (ho pins s σ H _ I h) λv s1 ⟨x,H1,I1,r1,p,ex,⟨xs,hp⟩,q1⟩=>?_)
 subst ex;have ty:tyV X.K "list" (.ref p) H1:=.inl ⟨rfl,xs,.of hp⟩
 obtain⟨h1,h2⟩:=vC I1 r1 ty;refine⟨"list",id,PySem.F.plainAttrs_list,aa,ac,h1,h2,?_⟩
 have hA:=ha cpos pins s1 σ H1 _ I1 q1;rw[hs] at hA ⊢;refine Hz (by show(false || (y9 cpos (j8 es X.env)).any (·.1))=false;rw[L] <;> rfl) (Calls.evalArgs_plain ?_)
 refine thn hA λus s2 B=>?_
 obtain⟨vs,H2,I2,rr,q2⟩:=B;exact hm pins s2 σ H2 (.ref p) vs v us Q I2 r1 rr ⟨p,rfl,q2⟩
theorem DJ (Y:Slot "list" name id) (Z:typeOf (.builtin id)=pure (.type "method_descriptor")) (hm:MtL X id r) (ho:PE X o to)
  (L:Ii o name X.env (eval o X.env)=eval o X.env:=by rfl) (B:(apos.endLine == cpos.line)=true:=by rfl):PE X (.Call (.Attribute o name apos) [] [] cpos) (tML r to vX):=by
 intro pins s σ H Q I h;refine wpAny_Call_method0_late L B (thn (ho pins s σ H _ I h) λv s1 ⟨x,H1,I1,r1,p,ex,⟨xs,hp⟩,q1⟩=>?_)
 subst ex;have ty:tyV X.K "list" (.ref p) H1:=.inl ⟨rfl,xs,.of hp⟩
 obtain⟨h1,h2⟩:=vC I1 r1 ty;exact⟨"list",id,PySem.F.plainAttrs_list,Y,Z,h1,h2,Hz rfl (PySem.evalArgs_none (hm pins s1 σ H1 _ [] v [] Q I1 r1 .nil ⟨p,rfl,q1⟩))⟩
def pI:RM:=λp vs H Q=>∃y,vs=[y]/\∃xs,H p*>xs/\xs.length < g9/\Q .non (upd H p (.lst (xs++[y])))
theorem cK:MtL X "list.append" pI:=λpins s σ H x vs v us Q I F L B=>by obtain⟨p,e,y,e2,xs,h,hl,q⟩:=B;exact(rM pins s σ H x vs v us Q I F L ⟨p,xs,y,e,e2,h,hl,q⟩)
def zh:RM:=λp vs H Q=>vs=[]/\∃xs,H p*>xs/\∃y,xs[xs.length - 1]? = some y/\Q y (upd H p (.lst xs.dropLast))
theorem Df:MtL X "list.pop" zh:=λpins s σ H x vs v us Q I F L B=>by obtain⟨p,e,e2,xs,h,y,hl,q⟩:=B;exact(Ee pins s σ H x vs v us Q I F L ⟨p,xs,y,e,e2,h,hl,q⟩)
def rCL:R2:=λx y H Q=>∃l,x = .ref l/\∃b,y = .ref b/\∃xs,H l*>xs/\∃zs,H b*>zs/\xs.length+zs.length<=g9/\∀p,H p=none->Q (.ref p) (upd H p (.lst (xs++zs)))
theorem wS:OpR X (Ic .Add) rCL:=C5.imp λ_ _ _ _ B=>by obtain⟨l,e,b,e2,xs,h,zs,h2,hl,q⟩:=B;exact(⟨l,b,xs,zs,e,e2,h,h2,hl,q⟩)
def Aa (B:Bool):R2:=λx y H Q=>∃p,y = .ref p/\∃xs,H p*>xs/\gL x=true/\xs.all gL=true/\Q (.bl (if B then !inV x xs else inV x xs)) H
def By (B:Bool):R2:=λx y H Q=>∃p,y = .ref p/\∃xs,H p>>xs/\gL x=true/\xs.all gL=true/\Q (.bl (if B then !inV x xs else inV x xs)) H
theorem AD:OpR X (p_ .In) (Aa false):=re.imp λ_ _ _ _ B=>by obtain⟨p,e,xs,h,f1,F,q⟩:=B;exact(⟨p,xs,e,.inl (.of h),f1,F,q⟩)
theorem jh:OpR X (p_ .In) (By false):=re.imp λ_ _ _ _ B=>by obtain⟨p,e,xs,h,f1,F,q⟩:=B;exact(⟨p,xs,e,.inr (.of h),f1,F,q⟩)
theorem qO:OpR X (p_ .NotIn) (By true):=tF.imp λ_ _ _ _ B=>by obtain⟨p,e,xs,h,f1,F,q⟩:=B;exact(⟨p,xs,e,.inr (.of h),f1,F,q⟩)
def yT:List V->Hp->VK->Prop:=λxs H Q=>∃p,xs=[.ref p]/\∃ys,H p*>ys/\∀l,H l=none->Q (.ref l) (upd H l (.tup ys))
theorem cC:bY X (.type "tuple") yT:=qJ.imp λ_ _ _ B=>by obtain⟨p,e,ys,h,q⟩:=B;exact(⟨p,ys,e,.inl ⟨.of h,q⟩⟩)
def rCS:R2:=λx y H Q=>∃i,x = .str i/\∃j,y = .str j/\i.length+j.length<=g9/\Q (.str (i++j)) H
theorem rP:OpR X (Ic .Add) rCS:=wL.imp λ_ _ _ _ B=>by obtain⟨i,e,j,e2,h,q⟩:=B;exact(⟨i,j,e,e2,h,q⟩)
def A8:List V->Hp->VK->Prop:=λxs H Q=>∃z,xs=[.str z]/\z.length<=g9/\Q (.int z.length) H
theorem yx:bY X (.builtin "len") A8:=tE
end
def nL (J:It) (σ0:St) (g:TG) (tc:TT) (te:TE) (Q:VK) (H1:Hp) (D:Addr):Prop:=∃W:Nat->Nat->List V->Hp->Prop,(∃m,W 0 m [] (upd H1 D (.lst []))) /\
 ∀ i m ys H2,W i m ys H2->(J.stop i H2/\Q (.ref D) H2)\/(J.go i H2/\∃N:List V->Hp->Prop,(∀B H',N B H'->∃Z,Z < m/\W (i+1) Z B H') /\
  ∀x H',J.yld i H2 x H'->g x σ0 H' λF H3=>tc F H3 λb Y=>if b=true then te F Y λy L=>L D*>ys/\ys.length < g9/\N (ys++[y]) (upd L D (.lst (ys++[y]))) else N ys Y)
theorem zP (nt:Nat) (js:List Nat) (wi:TI) (g:TG) (tc:TT) (te:TE):xl nt js wi g tc te=λσ H Q=>wi σ H λJ H1=>∀D,H1 D=none->nL J (ff nt js σ) g tc te Q H1 D:=rfl
def D0 (J:It) (g:TG) (tb:TS) (D:og) (σ:St) (H1:Hp):Prop:=∃W:Nat->Nat->St->Hp->Prop,(∃m,W 0 m σ H1)/\∀i m σ H,W i m σ H ->
 (J.stop i H/\D.nx σ H)\/(J.go i H/\∃N:St->Hp->Prop,(∀ σ' H',N σ' H'->∃F,F < m/\W (i+1) F σ' H')/\∀x H',J.yld i H x H'->g x σ H' λB H2=>tb { D with nx:=N,ct:=N,bk:=D.nx } B H2)
theorem Cr (wi:TI) (g:TG) (tb:TS):Et wi g tb=λD σ H=>wi σ H λJ H1=>D0 J g tb D σ H1:=rfl
theorem bS {C:Hp->Prop} (w:Wlk J xs C) {g:TG} {tb:TS} {D:og} {σ:St} {H:Hp} (B:Nat->St->Hp->Prop) (Y:B 0 σ H) (hl : ∀i σ H,B i σ H->C H)
  (Z : ∀i x σ H,i < xs.length->xs[i]? = some x->B i σ H->g x σ H λF H2=>tb { D with nx:=B (i+1),ct:=B (i+1),bk:=D.nx } F H2) (L : ∀ σ H,B xs.length σ H->D.nx σ H):D0 J g tb D σ H :=
 Bk w B Y hl Z L
theorem eI {C:Hp->Prop} (w:Wlk J xs C) {g:TG} {tc:TT} {te:TE} {σ0:St} {Q:VK} {H1:Hp} {D:Addr} (B:Nat->List V->Hp->Prop) (h0:B 0 [] (upd H1 D (.lst []))) (hl : ∀i ys H,B i ys H->C H)
  (hs : ∀i x ys H,i < xs.length->xs[i]? = some x->B i ys H->g x σ0 H λF H3=>tc F H3 λb Y=>if b=true then te F Y λy L=>L D*>ys/\ys.length < g9/\B (i+1) (ys++[y]) (upd L D (.lst (ys++[y]))) else B (i+1) ys Y)
  (Z : ∀ys H,B xs.length ys H->Q (.ref D) H):nL J σ0 g tc te Q H1 D:=A7 w B h0 hl hs Z
theorem El (js:List Nat) (σ:St):ff 0 js σ=js.map λj=>(σ[j]?).join:=rfl
theorem DU (js:List Nat) (σ:St):ff 1 js σ=none :: js.map λj=>(σ[j]?).join:=rfl
theorem Dw (js:List Nat) (σ:St):ff 2 js σ=none :: none :: js.map λj=>(σ[j]?).join:=rfl
theorem Dv (js:List Nat) (σ:St):ff 3 js σ=none :: none :: none :: js.map λj=>(σ[j]?).join:=rfl
theorem aw.upd_new (s:aw H H1) (hp:H1 p=none):aw H (upd H1 p o):=λb u e=>by
 have e1:=s b u e;rw[ah (au e1 hp)];exact e1
theorem aw.upd0 (hp:H p=none):aw H (upd H p o):=(aw.refl H).upd_new hp
def IsB (H:Hp) (x:V) (T:String) (k:Bool):Prop:=match x with
 | .non=>k=false
 | .bl _=>k=(T == "bool" || T == "int")
 | .int _=>k=(T == "int")
 | .str _=>k=(T == "str")
 | .ref a=>(∃vs,H a>>vs/\k=(T == "tuple"))\/(∃vs,H a*>vs/\k=(T == "list"))
 | _=>False
def Dt:List V->Hp->VK->Prop:=λxs H Q=>∃x T,xs=[x,.ty T]/\(T = "int" \/ T = "str" \/ T = "bool" \/ T = "tuple" \/ T = "list")/\∃k,IsB H x T k/\Q (.bl k) H
theorem Cj (K:e_) {T:String} (h:T = "int" \/ T = "str" \/ T = "bool" \/ T = "tuple" \/ T = "list") :
  kitOne K (.type "NoneType") (.type T)=some false/\kitOne K (.type "bool") (.type T)=some (T == "bool" || T == "int")/\kitOne K (.type "int") (.type T)=some (T == "int") /\
  kitOne K (.type "str") (.type T)=some (T == "str")/\kitOne K (.type "tuple") (.type T)=some (T == "tuple")/\kitOne K (.type "list") (.type T)=some (T == "list"):=by
 rcases h with rfl | rfl | rfl | rfl | rfl
 all_goals exact⟨rfl,rfl,rfl,rfl,rfl,rfl⟩
theorem Ba:bY X (.builtin "isinstance") Dt:=AJ.imp λxs H Q ⟨x,T,e,hT,k,hk,q⟩=>by
 obtain⟨B,k2,L,Y,F,Z⟩:=Cj X.K hT;cases x with
 | non=>cases hk;exact⟨_,_,T,_,e,.non,B,q⟩
 | bl b=>cases hk;exact⟨_,_,T,_,e,.bl b,k2,q⟩
 | int b=>cases hk;exact⟨_,_,T,_,e,.int b,L,q⟩
 | str b=>cases hk;exact⟨_,_,T,_,e,.str b,Y,q⟩
 | ref a =>
  rcases hk with⟨vs,h,rfl⟩ | ⟨vs,h,rfl⟩
  .exact⟨_,_,T,_,e,.tup h,F,q⟩
  .exact⟨_,_,T,_,e,.lst h,Z,q⟩
 | _=>exact hk.elim
def dj (c:Nat):Bool:=decide (97<=c) && decide (c<=122)
theorem oK (a b:Str):(a++b).length=a.length+b.length:=by
 show(a++b).cps.size=a.cps.size+b.cps.size
 exact Array.size_append
theorem xf (B:cU k A):A.units+100 < cLine:=by have:=B.un;omega
section
variable {a b o l:Expr} {t:TA}
def EK (i j:Int):Prop:=0 < j/\j < 18446744073709551616
theorem Af:OpR X (Ic .FloorDiv) (rI EK λi j=>.int (i / j)):=opI λi j _ _ _ _ _ B q=>by
 have h1:(0:Int) < j:=B.1
 have h2:j < 18446744073709551616:=B.2
 refine floordiv_int () (by rw[Int.fdiv_eq_ediv_of_nonneg i ()];exact q) (.inl (PyProof.noPylong_of_log2 ?_))
 have F:j.natAbs < 2 ^ 64:=()
 exact lt_trans ((Nat.log2_lt ()).mpr F) ∅
abbrev RMS:=Str->List V->Hp->VK->Prop
def MtS (X:Cx) (id:String) (r:RMS):Prop:=MtR X id λx vs H Q=>∃p,x = .str p/\r p vs H Q
def tMS (r:RMS) (to:TE) (t:TA):TE:=λσ H Q=>to σ H λx H1=>∃p,x = .str p/\t σ H1 λvs H2=>r p vs H2 Q
variable {id:String} {r:RMS}
theorem CU (ab:Slot "str" name id) (ad:typeOf (.builtin id)=pure (.type "method_descriptor")) (hm:MtS X id r) (ho:PE X o to) (ha:PA X (e :: es) t)
  (aa:Ii o name X.env (eval o X.env)=eval o X.env:=by rfl)
  (ac:((y9 cpos (j8 (e :: es) X.env)).all (λx=>!x.1) && (backToKw cpos (keywordEach [] X.env)).all (λx=>x.1.isSome)
   && decide ((e :: es).length+([]:List Keyword).length+(if ([]:List Keyword).isEmpty then 0 else 1) < 30))=true:=by rfl)
  (Z:(apos.endLine == cpos.line)=true:=by rfl) (hs:j8 (e :: es) X.env=(false,eval e X.env) :: j8 es X.env:=by rfl) (L:(y9 cpos (j8 es X.env)).any (·.1)=false:=by rfl) :
  PE X (.Call (.Attribute o name apos) (e :: es) [] cpos) (tMS r to t):=by
 intro pins s σ H Q I h;refine wpAny_Call_method_late aa ac Z rfl (thn (ho pins s σ H _ I h) λv s1 Y=>?_)
 obtain⟨x,H1,I1,r1,p,ex,q1⟩:=Y;subst ex;obtain⟨h1,h2⟩:=vC I1 r1 (show tyV X.K "str" (.str p) H1 from rfl)
 refine⟨"str",id,PySem.F.plainAttrs_str,ab,ad,h1,h2,?_⟩
 have hA:=ha cpos pins s1 σ H1 _ I1 q1;rw[hs] at hA ⊢;refine Hz (by show(false || (y9 cpos (j8 es X.env)).any (·.1))=false;rw[L] <;> rfl) (Calls.evalArgs_plain ?_)
 refine thn hA λus s2 B=>?_
 obtain⟨vs,H2,I2,rr,q2⟩:=B;exact hm pins s2 σ H2 (.str p) vs v us Q I2 r1 rr ⟨p,rfl,q2⟩
theorem wD {ns:List Str} : ∀{us:List Value},be (ns.map V.str) us->StrsAre us ns:=by
 induction ns with
 | nil=>intro us h;cases h;exact .nil
 | cons n ns L =>
  intro us h;cases h with
  | cons F B =>
   obtain⟨t,rfl⟩:=F;exact .cons _ _ (L B)
def wH:RMS:=λz vs H Q=>∃p,vs=[.ref p]/\∃ys:List Str,H p*>(ys.map V.str)/\(ys.map (·.length)).sum+ys.length * z.length<=16777216/\Q (.str (Txt.join z ys)) H
theorem BF:MtS X "str.join" wH:=by
 intro pins s σ H x vs v us Q I F Y h;obtain⟨z,rfl,p,rfl,ys,hp,B,q⟩:=h;obtain⟨t,rfl⟩:=F;obtain⟨u,rfl,L⟩:=dA Y;cases L;obtain⟨its,r,pl,Z⟩:=I.list (SqL.of hp);exact join_list pl.isList (ys:=ys) (by simpa using wD r) B λt' k=>⟨.str _,H,I.tok k,⟨t',rfl⟩,q⟩
def oB:RMS:=λz vs H Q=>∃y,vs=[.str y]/\∃i rest,Hj z y 0 z.length 1=i :: rest/\Q (.int (i:Nat)) H
theorem zX:MtS X "str.index" oB:=by
 intro pins s σ H x vs v us Q I B L h;obtain⟨z,rfl,y,rfl,i,rest,Y,q⟩:=h;obtain⟨t,rfl⟩:=B;obtain⟨u,rfl,F⟩:=dA L;obtain⟨t',rfl⟩:=F;exact SC.index Y ⟨.int i,H,I.tok _,⟨_,rfl⟩,q⟩
end
theorem CA {a b:Str} (h:a.cps.toList=b.cps.toList):a=b:=by
 cases a;cases b;congr 1;exact Array.ext' h
theorem kr (a b:Str):(a++b).cps.toList=a.cps.toList++b.cps.toList:=by
 show(a.cps++b.cps).toList=_
 simp
theorem gZ (l:List Nat) (s:Nat) : ∀n,s+n<=l.length->((range n).map λk=>s+k).filterMap (λi=>l[i]?)=(l.drop s).take n
 | 0,_=>by simp
 | n+1,h=>by
  rw[List.range_succ,v_,List.filterMap_append,gZ l s n (),j_]
  have e:l[s+n]? = some (l[s+n]'()):=by simp
  simp[e,List.getElem?_drop]
theorem Dj (lo hi:Option Int) (n:Nat):Builtin.Str.strSliceIndices lo hi 1 n=(range (HT.sIx n n hi - HT.sIx n 0 lo)).map λk=>HT.sIx n 0 lo+k:=by
 have B : ∀(v:Int) (d:Nat),(if (1:Int) > 0 then max 0 (min (if v < 0 then v+(n:Int) else v) (n:Int)) else max (-1) (min (if v < 0 then v+(n:Int) else v) ((n:Int) - 1)))=((HT.sIx n d (some v):Nat):Int):=λv d=>by
  rw[if_pos ∅]
  show max 0 (min (if v < 0 then v+(n:Int) else v) (n:Int))=(((if v < 0 then(v+(n:Int)).toNat else min v.toNat n):Nat):Int)
  split <;> rw[Int.max_def,Int.min_def] <;> split <;> split <;> omega
 have base : ∀(a b:Nat),sliceRange (a:Int) (b:Int) 1=(range (b - a)).map λk=>a+k:=λa b=>by
  unfold sliceRange;simp only[show(1:Int) > 0 by decide,if_true,Int.one_mul]
  have e:(if (a:Int) < (b:Int) then((b:Int) - (a:Int)+1 - 1) / 1 else 0).toNat=b - a:=by
   split
   .rw[Int.ediv_one];omega
   .show(0:Int).toNat=b - a
    rw[Int.toNat_zero];omega
  rw[e];refine m4 λk _=>?_
  omega
 unfold Builtin.Str.strSliceIndices;cases lo with
 | none=>cases hi with
  | none=>exact base 0 n
  | some v=>simp only[];rw[B v n];exact base 0 _
 | some u=>cases hi with
  | none=>simp only[];rw[B u 0];exact base _ n
  | some v=>simp only[];rw[B u 0,B v n];exact base _ _
theorem mm (x:Str) (lo hi:Option Int):(GL x lo hi).cps.toList=(x.cps.toList.drop (HT.sIx x.length 0 lo)).take (HT.sIx x.length x.length hi - HT.sIx x.length 0 lo):=by
 have h1:=HT.sIx_le x.length x.length (i6 _) hi;have F:=HT.sIx_le x.length 0 (x6 _) lo;have hl:x.cps.toList.length=x.length:=by show x.cps.toList.length=x.cps.size;simp
 unfold GL;rw[Dj]
 split
 .rename_i h
  simp only[beq_self_eq_true,Bool.true_and,c_,List.length_range,beq_iff_eq] at h;have B:HT.sIx x.length 0 lo=0:=()
  rw[h,B,drop_zero,<- hl,l_]
 .show((List.map _ _).filterMap (λi=>x.cps[i]?)).toArray.toList=_
  rw[List.toList_toArray];rw[<- gZ _ _ _ ()]
  refine congrArg (λf=>List.filterMap f _) (funext λi=>?_)
  simp
theorem AF (ys:List Str):(Txt.join (b_ "") ys).cps.toList=ys.flatMap λy=>y.cps.toList:=by
 have F : ∀(l:List Str) (B:Array Nat),(l.foldl (λB p=>B++(b_ "").cps++p.cps) B).toList=B.toList++l.flatMap λy=>y.cps.toList:=by
  intro l
  induction l with
  | nil=>intro B;simp
  | cons a l L =>
   intro B;rw[List.foldl_cons,L];have e:(b_ "").cps = #[]:=by decide+kernel
   simp[e]
 show((ys.drop 1).foldl _ (ys.headD Str.empty).cps).toList=_
 rw[F];cases ys with
 | nil=>simp;decide+kernel
 | cons a l=>simp
structure fo (w:Str):Prop where
 pos:1<=w.length
 le:w.length<=8
 small : ∀c∈w.cps.toList,dj c=true
theorem ld (x:Str):x.cps.toList.length=x.length:=by show x.cps.toList.length=x.cps.size;simp
theorem fo.cons {w:Str} (h:fo w) : ∃c cs,w.cps.toList=c :: cs/\dj c=true/\(∀x∈cs,dj x=true)/\cs.length<=7:=by
 have hl:=ld w;cases e:w.cps.toList with
 | nil=>rw[e] at hl;have:=h.pos;simp at hl;omega
 | cons c cs =>
  rw[e] at hl;have:=h.le
  exact⟨c,cs,rfl,h.small c (by rw[e];simp),λx B=>h.small x (by rw[e];simp[B]),by simp at hl;omega⟩
theorem fo.of {w:Str} {c:Nat} {cs:List Nat} (e:w.cps.toList=c :: cs) (L:dj c=true) (B : ∀x∈cs,dj x=true) (hl:cs.length<=7):fo w:=by
 have h:=ld w;rw[e] at h;simp at h
 refine⟨(),(),λx F=>?_⟩
 rw[e] at F;rcases i4.mp F with rfl | q
 .exact L
 .exact B x q
theorem pP {r:Int} (B:0<=r) (h1:r < 26):atI (b_ "abcdefghijklmnopqrstuvwxyz").cps.toList r=some (97+r.toNat):=by
 obtain⟨n,rfl⟩:=o6 B;rw[show(b_ "abcdefghijklmnopqrstuvwxyz").cps.toList=List.range' 97 26 by decide+kernel]
 refine bA ?_
 rw[List.getElem?_range' ()]
 simp
theorem nF:(b_ "abcdefghijklmnopqrstuvwxyz").length<=g9:=by decide+kernel
theorem qo {c:Nat} (h:dj c=true):Hj (b_ "abcdefghijklmnopqrstuvwxyz") ⟨#[c]⟩ 0 (b_ "abcdefghijklmnopqrstuvwxyz").length 1=(c - 97) :: []:=by
 have B : ∀i:Fin 26,Hj (b_ "abcdefghijklmnopqrstuvwxyz") ⟨#[97+i.1]⟩ 0 (b_ "abcdefghijklmnopqrstuvwxyz").length 1=[i.1]:=by decide+kernel
 simp only[dj,k9,decide_eq_true_eq] at h;have:=B ⟨c - 97,()⟩
 simp only[show 97+(c - 97)=c by omega] at this
 exact this
def tN (c:Nat):Nat:=97+(c - 97+1) % 26
def BM:List Nat->List Nat
 | []=>[]
 | c :: cs=>tN c :: cs
def pG (w:Str):Str:=⟨(BM w.cps.toList).toArray⟩
def pe:Nat->Str->Str
 | 0,w=>w
 | n+1,w=>pe n (pG w)
theorem oW (c:Nat):dj (tN c)=true:=by
 have:=Nat.mod_lt (c - 97+1) (show 0 < 26 by decide)
 unfold dj tN;rw[k9,decide_eq_true_eq,decide_eq_true_eq];exact⟨(),()⟩
theorem Cg {w:Str} (h:fo w):fo (pG w):=by
 obtain⟨c,cs,e,F,B,hl⟩:=h.cons;exact .of (c:=tN c) (cs:=cs) (by simp[pG,e,BM]) (oW c) B hl
theorem Ao {c:Nat} {cs:List Nat} : ∀(n:Nat) {w:Str},w.cps.toList=c :: cs->dj c=true->(pe n w).cps.toList=(97+(c - 97+n) % 26) :: cs:=by
 intro n
 induction n generalizing c with
 | zero =>
  intro w e B;simp only[dj,k9,decide_eq_true_eq] at B;rw[pe,e]
  congr 1
  omega
 | succ n F =>
  intro w e B;rw[pe,F (c:=tN c) (by simp[pG,e,BM]) (oW c)]
  congr 1
  simp only[tN];omega
theorem eB {α:Type} [BEq α] [LawfulBEq α] : ∀{xs ys:List α},xs.Nodup->(∀x∈xs,x∈ys)->xs.length<=ys.length
 | [],_,_,_=>by simp
 | x :: xs,ys,hn,h=>by
  have B:=md.mp hn;have Y:=h x (by simp)
  have:=eB (xs:=xs) (ys:=ys.erase x) B.2 λz L=>by
   have F:z≠x:=λe=>B.1 (e ▸ L)
   exact(List.mem_erase_of_ne F).mpr (h z (by simp[L]))
  rw[List.length_erase_of_mem Y] at this;have:=G2 Y
  simp
  omega
theorem yl {w:Str} (h:fo w) {F:List Str} (hF:F.length < 26) : ∃n,pe n w∉F:=by
 obtain⟨c,cs,e,hc,aa,hl⟩:=h.cons;have L : ∀i j,i < 26->j < 26->pe i w=pe j w->i=j:=λi j hi hj q=>by
  have q2:=congrArg (λz:Str=>z.cps.toList) q
  simp only[Ao _ e hc] at q2;have q3:=(List.cons.inj q2).1;omega
 refine nH λZ=>?_
 have B : ∀n,pe n w∈F:=λn=>nH λq=>Z ⟨n,q⟩
 have Y:((range 26).map λn=>pe n w).Nodup:=by
  refine E_.mpr (GJ (λ{i j} hi hj q e=>q (L i j (HW.mp hi) (HW.mp hj) e)) (List.nodup_range (n:=26)))
 have:=eB (ys:=F) Y λx hx=>by
  obtain⟨n,_,rfl⟩:=hB.mp hx;exact B n
 simp at this
 omega
theorem Cf (a b:Str):eqV (.str a) (.str b)=decide (a=b):=by
 show(a == b)=decide (a=b)
 rw[o8];simp
theorem uN (x:Str) (ys:List Str):inV (.str x) (ys.map V.str)=decide (x∈ys):=by
 rw[o8];simp only[inV,any_map,sn,Function.comp,Cf,decide_eq_true_eq]
 constructor
 .rintro⟨y,hy,rfl⟩;exact hy
 .exact λh=>⟨x,h,rfl⟩
theorem yr (ys:List Str):(ys.map V.str).all gL=true:=by
 rw[w4];intro x B;obtain⟨y,_,rfl⟩:=hB.mp B;rfl
def fA:List Str:=["in","from","to","end"]
structure gH (ws:List Str):Prop where
 nm : ∀w∈ws,fo w
 nd:ws.Nodup
 nomark : ∀w∈ws,w∉fA
theorem gH.nil:gH []:=⟨by simp,by simp,by simp⟩
theorem gH.snoc {w:Str} (h:gH ws) (L:fo w) (hn:w∉ws) (Y:w∉fA):gH (ws++[w]):=by
 refine⟨λx B=>?_,?_,λx B=>?_⟩
 .rcases i9.mp B with q | q
  .exact h.nm x q
  .rw[e7.mp q];exact L
 .rw[t7]
  refine⟨h.nd,by simp,λa ha b F=>?_⟩
  rw[e7.mp F];rintro rfl
  exact hn ha
 .rcases i9.mp B with q | q
  .exact h.nomark x q
  .rw[e7.mp q];exact Y
theorem uq (x:α) (xs:List α):atI (x :: xs) 0=some x:=bA (j:=0) rfl
theorem BJ {z:Str} {r:Int} {c:Nat} (B:fo z) (Y:dj c=true) (Z:0<=r) (r1:r < z.length):fo (GL z none (some r)++(Str.mk #[c])++GL z (some (r+1)) none):=by
 obtain⟨n,rfl⟩:=o6 Z;have hn:n < z.length:=()
 have hl:=ld z;have e:(GL z none (some (n:Int))++(Str.mk #[c])++GL z (some ((n:Int)+1)) none).cps.toList=z.cps.toList.take n++[c]++z.cps.toList.drop (n+1):=by
  rw[kr,kr,mm,mm,HT.sIx_none,HT.sIx_nat,HT.sIx_none,show((n:Int)+1)=((n+1:Nat):Int) by omega,HT.sIx_nat,min_eq_left (),min_eq_left ()]
  rw[drop_zero,sub_zero,pb (i:=z.length - (n+1)) (by rw[Hu,hl];omega)]
 have h8:=B.le;have L:(GL z none (some (n:Int))++(Str.mk #[c])++GL z (some ((n:Int)+1)) none).length=z.length:=by
  rw[<- ld,e];simp only[u9,G7,Hu,w_,length_nil,hl];omega
 refine⟨(),(),λx F=>?_⟩
 rw[e] at F;rcases i9.mp F with q | q
 .rcases i9.mp q with q | q
  .exact B.small x (GU q)
  .rw[e7.mp q];exact Y
 .exact B.small x (List.mem_of_mem_drop q)
theorem vU (cs:List Nat):(Txt.join (b_ "") (cs.map λc=>Str.mk #[c])).cps.toList=cs:=by
 rw[AF]
 induction cs with
 | nil=>rfl
 | cons c cs B=>simp[B]
theorem yP (cs:List Nat):((cs.map λc=>Str.mk #[c]).map λx=>x.length).sum=cs.length:=by
 induction cs with
 | nil=>rfl
 | cons c cs B =>
  rw[i8,i8,List.sum_cons,B]
  show 1+cs.length=cs.length+1
  omega
def CL:V->Option Int->Option Int->Hp->VK->Prop:=λx lo hi H Q=>∃a,x = .ref a/\∃xs,H a>>xs/\∀p H',H' p>>(fG xs lo hi)->aw H H'->Q (.ref p) H'
theorem qT:SlR X CL:=Ga.imp λ_ _ _ _ _ B=>by obtain⟨a,e,xs,h,q⟩:=B;exact(⟨a,e,xs,h,λF=>q a _ (by rw[F];exact h) (aw.refl _),λp hp=>q p _ ae (aw.upd0 hp)⟩)
theorem sV (f:α->V) (xs:List α) (n:Nat):fG (xs.map f) none (some (n:Int))=(xs.take n).map f:=by
 unfold fG;rw[HT.sIx_none,HT.sIx_nat,drop_zero,sub_zero,c_,map_take]
 by_cases h:n<=xs.length
 .rw[min_eq_left h]
 .rw[Nat.min_eq_right (),pb (by simp),pb (by simp;omega)]
theorem iz (f:α->V) (xs:List α) (n:Nat):fG (xs.map f) (some (n:Int)) none=(xs.drop n).map f:=by
 unfold fG;rw[HT.sIx_none,HT.sIx_nat,c_,map_drop]
 by_cases h:n<=xs.length
 .rw[min_eq_left h,pb (by simp)]
 .rw[Nat.min_eq_right (),List.drop_of_length_le (l:=List.map f xs) (i:=n) (by simp;omega)]
  simp
theorem Gs (x:α) (xs:List α):atI (x :: xs) 0=some x:=bA (j:=0) rfl
theorem GC (x y:α) (xs:List α):atI (x :: y :: xs) 1=some y:=bA (j:=1) rfl
theorem Gi (x y z:α) (xs:List α):atI (x :: y :: z :: xs) 2=some z:=bA (j:=2) rfl
theorem Gv (x y z a:α) (xs:List α):atI (x :: y :: z :: a :: xs) 3=some a:=bA (j:=3) rfl
theorem Gq (x y z a b:α) (xs:List α):atI (x :: y :: z :: a :: b :: xs) 4=some b:=bA (j:=4) rfl
theorem fP {a b:String}:(b_ a=b_ b)=(a=b):=by
 refine propext ⟨λh=>?_,λh=>by rw[h]⟩
 rw[Str.ofString_eq_toList,Str.ofString_eq_toList] at h;have h1:=congrArg (λs:Str=>s.cps.toList) h
 simp only[List.toList_toArray] at h1;have L : ∀(F B:List Char),F.map Char.toNat=B.map Char.toNat->F=B:=by
  intro F
  induction F with
  | nil=>intro B h;cases B with
   | nil=>rfl
   | cons a b=>cases h
  | cons a b Y=>intro B h;cases B with
   | nil=>cases h
   | cons c d =>
    rw[i8,i8,List.cons.injEq] at h;rw[Y d h.2,Char.toNat_inj.mp h.1]
 exact String.toList_injective (L _ _ h1)
theorem PG.imp {g g':TG} (h:PG X tg g) (i : ∀v σ H Q,g' v σ H Q->g v σ H Q):PG X tg g':=λpins s σ H v u Q I r q=>h pins s σ H v u Q I r (i _ _ _ _ q)
def uG (n:Nat) (t:TGs):TG:=λv σ H Q=>∃a,v = .ref a/\∃xs,H a>>xs/\xs.length=n/\t xs σ H Q
theorem jF {t:TGs} (L:X.calm=true) (h:PGs X es t)
  (hn:(Ib es X.env).length=n:=by rfl) (F:(Ib es X.env).findIdx? (·.1)=none:=by rfl):PG X (.Tuple es k pos) (uG n t) :=
 (Do L h hn F).imp λ_ _ _ _ B=>by obtain⟨a,e,xs,h,hl,q⟩:=B;exact(⟨a,xs,e,.of h,hl,q⟩)
theorem fo.lay {w:Str} (h:fo w):HS (.str w)=true:=by
 show(w.cps.all (· < 0x110000))=true
 rw[Array.all_eq_true_iff_forall_mem];intro c B;have:=h.small c (by simpa using B)
 simp only[dj,k9,decide_eq_true_eq] at this;exact decide_eq_true ()
theorem tP : ∀{ws:List Str},(∀w∈ws,fo w)->pc (ws.map PyData.str)=true
 | [],_=>rfl
 | w :: ws,h=>by
  rw[i8,pc,(h w (by simp)).lay,tP λx B=>h x (by simp[B])]
  rfl
theorem pR : ∀(ws:List Str),GW (ws.map PyData.str)=0
 | []=>rfl
 | w :: ws=>by
  rw[i8,GW,Iu,pR ws];rfl
def wQ:List V->Hp->VK->Prop:=λxs H Q=>∃p,xs=[.ref p]/\∃kvs,H p<*kvs/\∀q,H q=none->Q (.ref q) (upd H q (.dK kvs))
theorem iy:bY X (.type "dict") wQ:=by
 intro pins s σ H xs us Q I r h;obtain⟨p,rfl,kvs,hp,q⟩:=h;obtain⟨u,rfl,L⟩:=dA r;cases L;obtain⟨z,Y,vs,B,dd⟩:=pj I.hok hp;refine PySem.kt_call_dict Y dd (by rw[<- B.length];exact z) λh' F Z=>?_
 have hold : ∀b o,s.heap.get? b=some o->h'.get? b=some o:=λb o e=>Z.extBut b o (k7 (e8 e)) (d_ _ e)
 exact⟨.ref s.heap.objs.size,_,I.laid (a:=s.heap.objs.size) (o:=.dK kvs) (t':=s.toks) hold (i6 _) ⟨z,beq_eq_false_iff_ne.mpr (tj (k7 I.big)),vs,B,F⟩,rfl,q _ (I.hok.fresh (i6 _))⟩
def eP:V->Bool
 | .non=>true
 | .bl _=>true
 | .int _=>true
 | .str _=>true
 | .ref _=>true
 | _=>false
theorem xU {v:V} {a b:Value} (L:eP v=true) (F:bg v a) (B:bg v b):SeqAt.EqAt A s a b true:=by
 cases v with
 | non=>cases F;cases B;exact SeqAt.EqAt.same _
 | bl b=>cases F;cases B;exact SeqAt.EqAt.same _
 | int i =>
  obtain⟨t,rfl⟩:=F;obtain⟨t',rfl⟩:=B;have h:=SeqAt.EqAt.int_int (A:=A) (s:=s) i t i t';simpa using h
 | str i =>
  obtain⟨t,rfl⟩:=F;obtain⟨t',rfl⟩:=B;have h:=SeqAt.EqAt.str_str (A:=A) (s:=s) i t i t';simpa using h
 | ref a=>cases F;cases B;exact SeqAt.EqAt.same _
 | _=>exact absurd (show false=true from L) i_
theorem jp {κ:Type} [DecidableEq κ] : ∀{kvs:List (κ × V)} {k:κ} {v:V},(kvs.map (·.1)).Nodup->(k,v)∈kvs->bO kvs k=some v
 | (a,b) :: r,k,v,hn,hm=>by
  rw[i8,md] at hn;rcases i4.mp hm with e | e
  .cases e
   exact bz rfl
  .have hne : ¬ a=k:=λz=>hn.1 (by subst z;exact hB.mpr ⟨(a,v),e,rfl⟩)
   rw[aS hne];exact jp hn.2 e
theorem yu (rb:KV kvs vb) : ∀{l:List (Key × V)} {F:List (Key × Value)},KV l F->(∀p∈l,bO kvs p.1=some p.2/\eP p.2=true)->PySem.W.KeqHits A s vb F true:=by
 intro l F r;unfold KV at r
 induction r with
 | nil=>intro _;exact .nil
 | @cons p q ps qs h _ ih =>
  intro B;obtain⟨k,v⟩:=p;obtain⟨k',u⟩:=q;obtain⟨e,L⟩:=h;dsimp only at e L;subst e;obtain⟨h1,h2⟩:=B (k,v) (by simp)
  dsimp only at h1 h2;obtain⟨y,Z,Y⟩:=il.some_of (v:=v) (o:=valueAt vb k) (by rw[<- h1];exact rb.val k)
  exact PySem.W.KeqHits.hit (e:=true) (b:=true) Z (xU h2 L Y) (ih λp hp=>B p (by simp[hp]))
def An:R2:=λx y H Q=>∃a,x = .ref a/\∃b,y = .ref b/\∃kvs,H a<*kvs/\H b<*kvs/\(∀p∈kvs,eP p.2=true)/\Q (.bl false) H
theorem Cd (hu:X.A.units < cLine):OpR X (p_ .NotEq) An:=by
 intro pins s σ H x y v u Q I rx ry h;obtain⟨a,rfl,b,rfl,kvs,ha,hb,hp,q⟩:=h;cases rx;cases ry;obtain⟨z,hd,vs,F,dd⟩:=pj I.hok ha;obtain⟨z2,Z,aa,B,Y⟩:=pj I.hok hb;have hn:(vs.map (·.1)).Nodup:=let ⟨_,_,_,_,_,_,_,_,hn⟩:=dd;hn
 rw[<- F.keys] at hn;refine PySem.W.keq_ne (r:=true) hd Z dd Y hu (λ_=>yu B F λp L=>⟨jp hn L,hp p L⟩) ?_
 rw[<- F.length,<- B.length,beq_self_eq_true];exact⟨.bl false,H,I,rfl,q⟩
def rS:RM:=λp vs H Q=>∃i,vs=[.int i]/\∃xs,H p*>xs/\0<=i/\i < xs.length/\xs.length<=1000/\∀y,xs[i.toNat]? = some y->Q y (upd H p (.lst (xs.eraseIdx i.toNat)))
theorem AI:MtL X "list.pop" rS:=λpins s σ H x vs v us Q I L F ⟨p,e,i,e2,xs,h,i0,i1,hl,q⟩=>by
 have B:i.toNat < xs.length:=()
 exact zV pins s σ H x vs v us Q I L F ⟨p,xs,i,i.toNat,xs[i.toNat],e,e2,h,(),(),seqIndex_of i0 i1,by simp[B],q _ (by simp[B])⟩
def ap (mg:Str->Option Value) (x:Str):Addr:=match mg x with | some (.ref a)=>a | _=>0
theorem fj (h:mg x=-C):ap mg x=C:=by unfold ap;rw[h]
structure gk (K:e_) (C:Addr) (m:Str) (f:Addr):Prop where
 sp:specialIn K (.ref C) "__getattribute__" = some (some (.builtin "type.__getattribute__"))
 rd:PySem.W.readsIn K C (.type "type")=true
 fd:PySem.W.findCls K (.ref C) (.type "type") m=some (.val (.ref f))
 kp:HI K (.ref f)=true
def cI (K:e_) (R:Addr->Prop) (x q:Str) (st:Stmt) (ps:List Str):Prop:=∃f fd,Fun K x q st f fd/\R f/\jO K fd ps []
def FnR (P:Program) (w:World) (K:e_) (mg:Str->Option Value) (base:Heap) (R:Addr->Prop) (k:Nat) (ps:List Str) (sp:Sp):Prop:=∃f fd,ku P w K mg base CX0 k f fd ps sp/\R f/\jO K fd ps []
section
variable {R:Addr->Prop}
theorem cI.ok {x q:Str} {st:Stmt} {N ps:List Str} {k:Nat} {sp:Sp} (F:cI K R x q st ps) (S:aC N ps (ao st)) (L : ∀vs H Q E,sp vs H Q E->vs.length=ps.length)
  (B : ∀(f:Addr) (cdv:Value) (A:Around) (outer:List Env) (s:Shared) (H:Hp) (vs:List V) (Q:VK) (E:XK),cU k (A.deeper (envOfC q (ao st) s.heap.objs.size f cdv))->sp vs H Q E ->
   ∃t,PSs (sJ CX0 P w K mg base N q (ao st) f cdv A outer s H E).nox (cu st) t/\t { nx:=λ_ H'=>Q .non H',rt:=Q } (iM N vs) H):FnR P w K mg base R (k+1) ps sp:=by
 obtain⟨f,fd,F,r,b⟩:=F;exact⟨f,fd,F.ok S L (B f),r,b⟩
theorem Ct {q:Str} {B:Option Addr} {kV:Value} (r:R f)
  (l:K.lookup f=some ⟨oc,od,.func (fnOf x q (cS st) (cu st) (ao st) .none kV doc pm B cdv ct),osl⟩)
  (c:codeIn K cdv q=true) (k:HI K (.ref f)=true)
  (F : ∀(kV doc pm:Value) (B:Option Addr) (cdv ct:Value) (us:List Value),us.length=ps.length->bindArgs (fnOf x q (cS st) (cu st) (ao st) .none kV doc pm B cdv ct) ⟨us,[]⟩=pure (ps.zip us)):cI K R x q st ps :=
 ⟨f,_,qk l c k,r,(qk l c k).binds F⟩
end
def Aq (C:Addr) (ta:TE) (f:Str):TE:=λσ H Q=>ta σ H λx H1=>∃a,x = .ref a/\∃dx fs,H1 a=some (.ins C dx fs)/\∃v,fs.lookup f=some v/\Q v H1
def yZ (C:Addr) (ta tv:TE) (f:Str):TS:=λD σ H=>tv σ H λy H1=>ta σ H1 λx H2=>∃a,x = .ref a/\∃dx fs,H2 a=some (.ins C dx fs)/\fs.length < 1000/\D.nx σ (upd H2 a (.ins C dx (ck f y fs)))
def vT (C:Addr) (m:Str) (sp:Sp) (ta:TE) (t:TA):TE:=λσ H Q=>ta σ H λx H1=>∃a,x = .ref a/\∃dx fs,H1 a=some (.ins C dx fs)/\fs.lookup m=none/\t σ H1 λvs H2=>sp (.ref a :: vs) H2 Q E0
def wj (C:Addr) (sp:Sp) (t:TA):TE:=λσ H Q=>t σ H λvs H1=>∀x dx,H1 x=none->H1 dx=none->dx≠x->sp (.ref x :: vs) (upd (upd H1 dx (.own x)) x (.ins C dx [])) (λv H2=>v = .non/\Q (.ref x) H2) E0
section
variable {o:Expr} {f m:Str} {p:Pos} {t:TA}
theorem aU (c:Cls X.K C) (n:aP X.K C f) (he:PE X e ta) (hb:Ii e f X.env (eval e X.env)=eval e X.env:=by rfl):PE X (.Attribute e f pos) (Aq C ta f):=by
 intro pins s σ H Q I h;refine Ch hb (thn (he pins s σ H _ I h) λu s1 B=>?_)
 obtain⟨x,H1,I1,L,a,ex,dx,fs,Z,v,l,q⟩:=B;subst ex;obtain rfl:u=h_ a:=L
 exact wc I1 Z c n l λu' s2 Y F=>⟨v,H1,Y,F,q⟩
theorem bB (c:Cls X.K C) (n:aP X.K C f) (ha:PE X o ta) (F:PE X value tv) (hs:Ir value (some (.Attribute o f pos')) pos.line X.env=pure false):PS X (.Assign [.Attribute o f pos'] value pos) (yZ C ta tv f):=by
 intro pins s σ H D I h;refine plainObj_wpAny_Assign_Attribute (thn (F pins s σ H _ I h) λu s1 ⟨y,H1,I1,ry,q⟩=>thn (ha pins s1 σ H1 _ I1 q) λL s2 B=>?_) hs
 obtain⟨x,H2,Z,Y,a,ex,dx,fs,ea,l,q2⟩:=B;subst ex;obtain rfl:L=h_ a:=Y
 exact wq Z ea c n l ry λs3 I3=>⟨σ,_,I3,q2⟩
theorem cp (c:Cls X.K C) (F:FnR X.prog X.w X.K X.mg X.base (aR X.K C m) k ps sp) (hr:cU k X.A) (he:PE X o ta) (ha:PA X (e :: es) t)
  (L:j8 (e :: es) X.env=(false,eval e X.env) :: j8 es X.env:=by rfl) (Y:(y9 pos (j8 es X.env)).any (·.1)=false:=by rfl)
  (ht:eval (.Call (.Attribute o m apos) (e :: es) [] pos) X.env=(do
   let Z <- eval o X.env
   standAt apos.atName
   let (f,first) <- holding [Z] (getMethod Z m pl)
   callWith pos f first (y9 pos (j8 (e :: es) X.env)) (backToKw pos (keywordEach [] X.env))):=by rfl) :
  PE X (.Call (.Attribute o m apos) (e :: es) [] pos) (vT C m sp ta t):=by
 obtain⟨f,fd,F,hm,b⟩:=F;intro pins s σ H Q I h;refine methodCall_KW (pl:=pl) (thn (he pins s σ H _ I h) λu s1 B=>?_) ht
 obtain⟨x,H1,I1,rx,a,ex,dx,fs,ea,l,q⟩:=B;subst ex;obtain rfl:u=h_ a:=rx
 refine oX I1 ea c hm l ?_
 refine callWith_K (first:=[.ref a]) (h₀:=X.base) I.ok.mod.kin hm.kp (thn (ha pos pins s1 σ H1 _ I1 q) λus s2 ⟨vs,H2,I2,r,q2⟩=>⟨I2.kIn,?_⟩) L Y
 exact lW (us:=.ref a :: us) (vs:=.ref a :: vs) F hr b .nil oY I2 (.cons rfl r) (by rw[append_nil];exact q2)
theorem gu (F:FnR X.prog X.w X.K X.mg X.base (Mk X.K C) k ps sp) (hr:cU (k+1) X.A) (Z:Gl X x) (Y:X.mg x=-C)
  (ha:PA X (e :: es) t) (B:(x ==("__debug__" : Str))=false:=by decide) (he:j8 (e :: es) X.env=(false,eval e X.env) :: j8 es X.env:=by rfl) (L:(y9 pos (j8 es X.env)).any (·.1)=false:=by rfl) :
  PE X (.Call (.Name x p) (e :: es) [] pos) (wj C sp t):=by
 obtain⟨f,fd,F,M,b⟩:=F;intro pins s σ H Q I h;refine x0 (ox I Z Y ?_ B)
 refine callWith_K (h₀:=X.base) I.ok.mod.kin M.kp (thn (ha pos pins s σ H _ I h) λus s1 ⟨vs,H1,I1,r,q⟩=>⟨I1.kIn,?_⟩) he L
 refine A1 M F hr b .nil oY I1 r ?_
 rw[append_nil];exact q
theorem iw (F:FnR X.prog X.w X.K X.mg X.base (gk X.K C m) k ps sp) (hr:cU k X.A) (hg:Gl X x) (hm:X.mg x=-C) (ha:PA X (e :: es) t) (L:(x ==("__debug__" : Str))=false:=by decide)
  (Y:j8 (e :: es) X.env=(false,eval e X.env) :: j8 es X.env:=by rfl) (Z:(y9 pos (j8 es X.env)).any (·.1)=false:=by rfl)
  (ht:eval (.Call (.Attribute (.Name x p) m apos) (e :: es) [] pos) X.env=(do
   let ov <- eval (.Name x p) X.env
   standAt apos.atName
   let (f,first) <- holding [ov] (getMethod ov m pl)
   callWith pos f first (y9 pos (j8 (e :: es) X.env)) (backToKw pos (keywordEach [] X.env))):=by rfl) :
  PE X (.Call (.Attribute (.Name x p) m apos) (e :: es) [] pos) (qN sp [] E0 t):=by
 obtain⟨f,fd,F,M,b⟩:=F;intro pins s σ H Q I h;have hC:PE X (.Name x p) (tC (.ref C)):=Br hg hm rfl L
 refine methodCall_KW (pl:=pl) (thn (hC pins s σ H (λv H1=>v = .ref C/\H1=H) I ⟨rfl,rfl⟩) λu s1 B=>?_) ht
 obtain⟨x,H1,I1,rx,ex,eH⟩:=B;subst ex;subst eH;obtain rfl:u=h_ C:=rx
 refine PySem.W.method_cls I1.kIn M.sp (PySem.W.cls_value I1.kIn M.rd M.fd rfl ?_)
 have I2:=I1.tok (s1.toks+1);refine callWith_K (first:=[]) (h₀:=X.base) I.ok.mod.kin M.kp (thn (ha pos pins _ σ H1 _ I2 h) λus s2 ⟨vs,H2,I3,r,q2⟩=>⟨I3.kIn,?_⟩) Y Z
 exact lW F hr b .nil oY I3 r q2
end
def Ew (B:ScopeKind) (A xs:List (Str × y3)):List (Str × y3):=xs.map λ(n,k)=>if (k == .free && B == .function && A.lookup n == some .cell) then(n,.cell) else(n,k)
section
variable {l:Expr} {tl:TE}
theorem gl (K:e_) (hl:PE X l tl) (hK:X.K=K:=by exact rfl):PI X tg l (iL K tl):=by subst hK;exact Gj hl
theorem bZ (K:e_) (hl:PE X l tl) (hK:X.K=K:=by exact rfl):PI X tg l (iT K tl):=by subst hK;exact Gu hl
def zE:List V->Hp->VK->Prop:=λxs H Q=>∃p,xs=[.ref p]/\∃bs:List Bool,H p*>(bs.map V.bl)/\Q (.bl (bs.all id)) H
def yU:List V->Hp->VK->Prop:=λxs H Q=>∃p,xs=[.ref p]/\∃bs:List Bool,H p*>(bs.map V.bl)/\Q (.bl (bs.any id)) H
theorem mW (F:X.calm=true):bY X (.builtin "all") zE:=(vG F).imp λ_ _ _ B=>by obtain⟨p,e,bs,h,q⟩:=B;exact(⟨p,bs,e,.of h,q⟩)
theorem fU (F:X.calm=true):bY X (.builtin "any") yU:=(vP F).imp λ_ _ _ B=>by obtain⟨p,e,bs,h,q⟩:=B;exact(⟨p,bs,e,.of h,q⟩)
end
theorem dI (f:Str) (v:V) : ∀fs:List (Str × V),(ck f v fs).length<=fs.length+1
 | []=>i6 _
 | (g,u) :: fs=>by
  unfold ck
  split
  .simp
  .simpa using dI f v fs
theorem cD {C:Hp->Prop} (w:Wlk J xs C) {tc:TT} {te:TE} {σ0:St} {Q:VK} {H1:Hp} {D:Addr} (p:V->Bool) (f:V->V) (hD:H1 D=none) (hC : ∀H',aw H1 H'->C H') (hn:xs.length<=1000)
  (hc : ∀(x:V) (H2:Hp) (L:Bool->Hp->Prop),x∈xs->aw H1 H2->(∀B,aw H2 B->L (p x) B)->tc (σ0.set 0 (some x)) H2 L)
  (he : ∀(x:V) (H2:Hp) (L:VK),x∈xs->p x=true->aw H1 H2->(∀B,aw H2 B->L (f x) B)->te (σ0.set 0 (some x)) H2 L)
  (Y : ∀H2,aw H1 H2->H2 D*>((xs.filter p).map f)->Q (.ref D) H2):nL J σ0 (fI 0) tc te Q H1 D:=by
 refine eI w (λi ys H=>ys=((xs.take i).filter p).map f/\i<=xs.length/\aw H1 H/\H D*>ys) ⟨by simp,x6 _,aw.upd0 hD,ae⟩ (λi ys H h=>hC _ h.2.2.1) ?_ ?_
 .rintro i x ys H hi hx ⟨rfl,hle,sm,Y⟩
  refine hc x H _ (fy hx) sm λB F=>?_
  have aa:((xs.take i).filter p).length<=xs.length:=gr (Ha _ _) (by simp;omega)
  cases hp:p x with
  | true =>
   simp only[if_true];refine he x B _ (fy hx) hp (sm.trans F) λH4 Z=>⟨Z _ _ (F _ _ Y),by simp;exact aN (),?_,hi,?_,ae⟩
   .rw[j_,hx];simp[hp]
   .exact λb o e=>by rw[ah (au e hD)];exact Z _ _ (F _ _ (sm b o e))
  | false =>
   simp only[gt,if_false];exact⟨by rw[j_,hx];simp[hp],hi,sm.trans F,F _ _ Y⟩
 .rintro ys H ⟨rfl,_,sm,hd'⟩
  rw[l_] at hd';exact Y H sm hd'
theorem cM {C:Hp->Prop} (w:Wlk J xs C) {te:TE} {σ0:St} {Q:VK} {H1:Hp} {D:Addr} (f:V->V) (L:H1 D=none) (hC : ∀H',aw H1 H'->C H') (hn:xs.length<=10000)
  (he : ∀(x:V) (H2:Hp) (Y:VK),x∈xs->aw H1 H2->(∀Z,aw H2 Z->Y (f x) Z)->te (σ0.set 0 (some x)) H2 Y)
  (B : ∀H2,aw H1 H2->H2 D*>(xs.map f)->Q (.ref D) H2):nL J σ0 (fI 0) um te Q H1 D:=by
 refine eI w (λi ys H=>ys=(xs.take i).map f/\i<=xs.length/\aw H1 H/\H D*>ys) ⟨by simp,x6 _,aw.upd0 L,ae⟩ (λi ys H h=>hC _ h.2.2.1) ?_ ?_
 .rintro i x ys H hi hx ⟨rfl,hle,sm,B⟩
  simp only[fI,um,if_true];refine he x H _ (fy hx) sm λH4 F=>⟨F _ _ B,by simp;exact o9 (gr (Nat.min_le_right _ _) hn) ∅,?_,hi,?_,ae⟩
  .rw[j_,hx];simp
  .exact λb o e=>by rw[ah (au e L)];exact F _ _ (sm b o e)
 .rintro ys H ⟨rfl,_,sm,hd'⟩
  rw[l_] at hd';exact B H sm hd'
theorem BS (a b:Int):eqV (.int a) (.int b)=decide (a=b):=by
 show(a == b)=decide (a=b)
 rw[o8];simp
theorem eE (x:Int) (ys:List Int):inV (.int x) (ys.map V.int)=decide (x∈ys):=by
 rw[o8];simp only[inV,any_map,sn,Function.comp,BS,decide_eq_true_eq]
 constructor
 .rintro⟨y,hy,rfl⟩;exact hy
 .exact λh=>⟨x,h,rfl⟩
theorem cW (ys:List Int):(ys.map V.int).all gL=true:=by
 rw[w4];intro x B;obtain⟨y,_,rfl⟩:=hB.mp B;rfl
theorem pC {α:Type} : ∀{l:List α} {n:Nat} (h:n < l.length),(l[n] :: l.eraseIdx n).Perm l
 | a :: l,0,h=>by simp
 | a :: l,n+1,h=>by
  have h':n < l.length:=by simpa using h
  have:=pC h'
  simp only[List.getElem_cons_succ,List.eraseIdx_cons_succ];exact(List.Perm.swap _ _ _).trans (List.Perm.cons a this)
theorem fi {α:Type} : ∀{l:List α} {i j:Nat} {x:α},l.Nodup->l[i]? = some x->l[j]? = some x->i=j
 | [],i,j,x,_,h,_=>by simp at h
 | a :: l,0,0,x,_,_,_=>rfl
 | a :: l,0,j+1,x,hn,h,h'=>by
  simp at h h'
  subst h;exact absurd (fy h') (md.mp hn).1
 | a :: l,i+1,0,x,hn,h,h'=>by
  simp at h h'
  subst h';exact absurd (fy h) (md.mp hn).1
 | a :: l,i+1,j+1,x,hn,h,h'=>by
  simp at h h'
  rw[fi (md.mp hn).2 h h']
def EN:TE:=λ_ _ _=>False
theorem Ar:PE X e EN:=λ_ _ _ _ _ _ h=>h.elim
def lO (ns:List Int):Nat:=(ns.foldl If []).length
theorem lR : ∀(ns σ:List Int),σ.Nodup->(ns.foldl If σ).length<=σ.length+ns.length/\((ns.foldl If σ).length=σ.length+ns.length↔(σ++ns).Nodup)
 | [],σ,h=>by simp[h]
 | v :: ns,σ,h=>by
  rw[List.foldl_cons]
  by_cases B:σ.any (· == v)=true
  .have e:If σ v=σ:=by unfold If;rw[if_pos B]
   have F:v∈σ:=by
    obtain⟨x,Z,e⟩:=sn.mp B;rw[<- eq_of_beq e];exact Z
   rw[e];have L:=lR ns σ h;refine⟨by simp;omega,?_⟩
   constructor
   .intro z;simp at z;omega
   .intro z
    rw[t7] at z;exact absurd rfl (z.2.2 v F v (by simp))
  .have e:If σ v=σ++[v]:=by unfold If;rw[if_neg B]
   have F:v∉σ:=λz=>B (sn.mpr ⟨v,z,by simp⟩)
   have hn:(σ++[v]).Nodup:=by
    rw[t7];exact⟨h,by simp,λa ha b Y=>by rw[e7.mp Y];rintro rfl;exact F ha⟩
   rw[e];have L:=lR ns (σ++[v]) hn;have el:(σ++[v]).length+ns.length=σ.length+(v :: ns).length:=by simp;omega
   rw[el,append_assoc] at L;exact L
theorem yn (ns:List Int):lO ns=ns.length↔ns.Nodup:=by
 have:=(lR ns [] (by simp)).2
 simpa [lO] using this
theorem Ab (ns:List Int):(range ns.length).map (λi=>ns.getD i 0)=ns:=by
 apply List.ext_getElem?
 intro i
 by_cases h:i < ns.length
 .simp[h]
 .simp[h]
section
def yR:List V->Hp->VK->Prop:=λxs H Q=>∃p,xs=[.ref p]/\∃ns:List Int,H p*>(ns.map V.int)/\ns.length<=1000/\∀q S,H q=none->Q (.ref q) (upd H q (.set S (lO ns)))
theorem yc (hc:X.calm=true):bY X (.type "set") yR:=by
 intro pins s σ H xs us Q I r h;obtain⟨p,rfl,ns,hp,hl,q⟩:=h;obtain⟨u,rfl,Z⟩:=dA r;cases Z;obtain⟨its,L,pl,hz⟩:=I.list (SqL.of hp);have B:=L.length;rw[c_] at B;refine call_set_list (I.ok.hd hc) pl.isList (by simpa using gb L) (by simp only[j9];show its.length+1 < 4096;omega) λh' tk F hold=>?_
 have e:firstMet (λi=>ns.getD i 0) its.toArray.size=ns.foldl If []:=by
  unfold firstMet;rw[j9,<- B,Ab]
 rw[e] at F;exact⟨.ref s.heap.objs.size,_,I.laid (a:=s.heap.objs.size) (o:=.set _ (lO ns)) (t':=tk) (λb o Y=>hold b o (e8 Y) Y) (i6 _) F,rfl,q _ _ (I.hok.fresh (i6 _))⟩
def rO:List V->Hp->VK->Prop:=λxs H Q=>∃p,xs=[.ref p]/\∃S n,H p=some (.set S n)/\Q (.int n) H
theorem tG:bY X (.builtin "len") rO:=by
 intro pins s σ H xs us Q I r h;obtain⟨p,rfl,S,n,hp,q⟩:=h;obtain⟨u,rfl,L⟩:=dA r;cases L;have F:s.heap.SetOf (intKind X.prog X.w) p S n:=I.hok p _ hp
 obtain⟨o,es,ep,t,Z,B,Y,_,_,hb,hf,hn⟩:=F;refine PySem.call_len_set Z B Y hf (by have:scanBound=4096:=rfl;omega) ?_
 rw[hn];exact⟨.int n,H,I.tok _,⟨_,rfl⟩,q⟩
def Eo (ty td:TE):TE:=λσ H Q=>ty σ H λy H1=>td σ H1 λx H2=>∃a,x = .ref a/\∃k,y=kV k/\∃kvs,H2 a<*kvs/\Q (.bl (!(bO kvs k).isSome)) H2
variable {o i:Expr}
theorem Cw (hu:X.A.units+1 < cLine) (hi:PE X i ty) (ho:PE X o td):PC X .In i o (tDI ty td):=by
 intro pins s σ H Q I h;refine thn (hi pins s σ H _ I h) λiv Z ⟨y,H1,I1,ry,q1⟩=>thn (ho pins Z σ H1 _ I1 q1) λu s2 B=>?_
 obtain⟨x,H2,L,F,a,ex,k,ey,kvs,Y,q2⟩:=B;subst ex;subst ey;obtain rfl:u=h_ a:=F
 have g:oR H2 a (kV k) (bO kvs k):=.inl ⟨kvs,k,.inl Y,rfl,rfl⟩
 exact Gh hu L g ry λs3 I3=>⟨.bl (bO kvs k).isSome,H2,I3,rfl,q2⟩
theorem ig (hu:X.A.units+1 < cLine) (hi:PE X i ty) (ho:PE X o td):PC X .NotIn i o (Eo ty td):=by
 intro pins s σ H Q I h;refine thn (hi pins s σ H _ I h) λiv Z ⟨y,H1,I1,ry,q1⟩=>thn (ho pins Z σ H1 _ I1 q1) λu s2 B=>?_
 obtain⟨x,H2,L,F,a,ex,k,ey,kvs,Y,q2⟩:=B;subst ex;subst ey;obtain rfl:u=h_ a:=F
 have g:oR H2 a (kV k) (bO kvs k):=.inl ⟨kvs,k,.inl Y,rfl,rfl⟩
 exact BL hu L g ry λs3 I3=>⟨.bl (!(bO kvs k).isSome),H2,I3,rfl,q2⟩
end
theorem Inv.retag (I:Inv X pins σ H s) (ha:H a=some u0) (n1 : ∀y,u0≠.own y) (n2 : ∀xs,u0≠.tup xs) (n3 : ∀ob u,X.H₀ a≠some (.frz ob u)) (n4 : ∀ps,u0≠.tbl ps)
  (ok:bF X.prog X.w H s.heap a o') (Z : ∀ob y,u0≠.frz ob (.own y):=by intro _ _ z;cases z):Inv X pins σ (upd H a o') s:=by
 have B : ∀b,H b=none->b≠a:=λb n z=>by subst z;rw[ha] at n;cases n
 have L : ∀b y,H b=some (.own y)->upd H a o' b=some (.own y):=λb y e=>by
  rw[ah (λz=>by subst z;rw[ha] at e;exact n1 y (fx e))];exact e
 have F : ∀b xs,H b>>xs->upd H a o' b>>xs:=λb xs e=>by
  rw[ah (λz=>by subst z;rw[ha] at e;exact n2 xs (fx e))];exact e
 have Y : ∀b ob y,H b=some (.frz ob (.own y))->upd H a o' b=some (.frz ob (.own y)):=λb ob y e=>by
  rw[ah (λz=>by subst z;rw[ha] at e;exact Z ob y (fx e))];exact e
 refine⟨I.ok,I.os,I.bare,⟨I.base.keep,I.base.slot,λb o q n hx=>?_,I.base.there,λb xs q=>F b xs (I.base.tups b xs q),λb ob u q=>?_,λb ps q=>?_⟩,I.loc,I.cell,?_,λx c e=>?_,λp hp=>?_,λb u e=>?_,I.len⟩
 .have:=I.base.free b o q n hx
  rw[ah (B b this)];exact this
 .rw[ah (λz=>by subst z;exact n3 ob u q)];exact I.base.frzs b ob u q
 .obtain⟨more,e⟩:=I.base.tbls b ps q
  exact⟨more,by rw[ah (λz=>by subst z;rw[ha] at e;exact n4 _ (fx e))];exact e⟩
 .rw[ah (B _ I.free)];exact I.free
 .have:=I.freeC x c e
  rw[ah (B c this)];exact this
 .obtain⟨p1,p2,p3⟩:=I.pin p hp
  exact⟨p1,by rw[ah (B _ p2)];exact p2,p3⟩
 .by_cases hb:b=a
  .subst hb
   rw[ae] at e;cases e;exact ok.stay (λ_ _ _ q=>q) (λc q=>L c _ q) F Y
  .rw[ah hb] at e
   exact(I.hok b u e).stay (λ_ _ _ q=>q) (λc q=>L c _ q) F Y
def Itd (a:Addr) (o:Obj) (kvs:List (Key × V)):It :=
 ⟨λi H=>H a=some (.frz o (.dK kvs))/\i < kvs.length,λi H x H'=>H'=H/\∃k v,kvs[i]? = some (k,v)/\x=kV k,λi H=>H a=some (.frz o (.dK kvs))/\kvs.length<=i⟩
theorem KV.get {vs:List (Key × Value)} (r:KV kvs vs) : ∀{i:Nat} {k:Key} {v:V},kvs[i]? = some (k,v)->∃u,vs[i]? = some (k,u)/\bg v u:=by
 unfold KV at r
 induction r with
 | nil=>intro i k v h;simp at h
 | @cons p q ps qs h _ ih =>
  intro i k v e;cases i with
  | zero =>
   simp at e
   subst e;obtain⟨B,u⟩:=q;obtain⟨h1,h2⟩:=h;dsimp only at h1 h2;subst h1;exact⟨u,by simp,h2⟩
  | succ i =>
   simp at e
   obtain⟨u,h1,h2⟩:=ih e;exact⟨u,by simpa using h1,h2⟩
theorem Cy {k:Key} {B:Value} (h:(bp P w).is k B=true):bg (kV k) B:=by
 rcases bM (k:=k) (v:=B) h with⟨i,t,rfl,rfl⟩ | ⟨x,t,rfl,rfl⟩
 .exact⟨t,rfl⟩
 .exact⟨t,rfl⟩
theorem Cc (a it:Addr) (o:Obj) (kvs:List (Key × V)) (ep:Nat) (ad : ∃es,o.data = .dict es ep):rR P w K tg (Itd a o kvs) [it] it (λi h=>h.IsKeyIter it a i kvs.length ep) where
 mem:=by simp
 obj:=λi h st b hb=>by
  have e:b=it:=by simpa using hb
  subst e;obtain⟨ob,e,c,d⟩:=st;exact⟨ob,e,λv z=>by rw[d] at z;cases z⟩
 keep:=λi h h' st k=>st.at λob e=>k it (by simp) ob e
 item:=by
  intro X hP hw hK hc i pins s σ H E I hf st hg;subst hP hw hK;obtain⟨ha,hi⟩:=hg;obtain⟨ho,hz,hd,vs,Y,od,es,L,F,hr⟩:=(show s.heap.get? a=some o/\bF X.prog X.w H s.heap a (.dK kvs) from I.hok a _ ha)
  rw[ho] at F;cases F;obtain⟨ag,aa⟩:=ad;have ab:L=ep:=by
   have:=hr.2.1
   rw[aa] at this;cases this;rfl
  subst ab;have B:=Y.length;obtain⟨k,v,af⟩ : ∃k v,kvs[i]? = some (k,v):=⟨kvs[i].1,kvs[i].2,by simp[hi]⟩
  obtain⟨u,hu,ru⟩:=Y.get af;obtain⟨f0,f1,f2,f3,f4,f5⟩:=hf it (by simp)
  have Z:s.heap.IsKeyIter it a i vs.length L:=by rw[<- B];exact st
  refine wpAny_pyNext_dict_item (knd:=bp X.prog X.w) (v:=u) Z ⟨o,es,ho,hr⟩ hu λah h' hk ac sb=>?_
  have I1:Inv X pins σ H { s with heap:=h' }:=I.turned (t':=s.toks) (λb ob hb e=>(sb.2 b hb).trans e) f0 f1 f3 f4 f5
  rw[<- B] at ac;obtain⟨ob,e,c,d⟩:=id ac;exact⟨ah,rfl,qP (s:={ s with heap:=h' }) e c d ∅ ⟨kV k,H,I1,Cy hk,⟨rfl,k,v,af,rfl⟩,ac,λb hb=>(hf b hb).1⟩⟩
 done:=by
  intro X hP hw hK hc i pins s σ H E I hf st hg;subst hP hw hK;obtain⟨ha,hi⟩:=hg;obtain⟨ho,hz,hd,vs,Y,od,es,L,F,hr⟩:=(show s.heap.get? a=some o/\bF X.prog X.w H s.heap a (.dK kvs) from I.hok a _ ha)
  rw[ho] at F;cases F;obtain⟨ag,aa⟩:=ad;have ab:L=ep:=by
   have:=hr.2.1
   rw[aa] at this;cases this;rfl
  subst ab;have B:=Y.length;obtain⟨f0,f1,f2,f3,f4,f5⟩:=hf it (by simp)
  have Z:s.heap.IsKeyIter it a i vs.length L:=by rw[<- B];exact st
  exact wpAny_pyNext_dict_end (knd:=bp X.prog X.w) (I.ok.hd hc) Z ⟨o,es,ho,hr⟩ (D_.mpr ()) λh' eb=>⟨rfl,I.turned (t':=s.toks) (λb ob hb e=>eb b ob hb e) f0 f1 f3 f4 f5⟩
 self:=λ_ _ _ _ _ st h=>wpAny_pyIter_keyiter st h
theorem Ea {o:Obj}:Wlk (Itd a o kvs) (kvs.map λx=>kV x.1) (λH=>H a=some (.frz o (.dK kvs))) :=
 ⟨λi H h hi=>⟨h,by simpa using hi⟩,λi H x H' h _ y=>by
  obtain⟨e,k,v,B,rfl⟩:=y;exact⟨by rw[e9,B];rfl,e⟩,λi H h hi=>⟨h,by simpa using hi⟩⟩
def iD (tl:TE):TI:=λσ H R=>tl σ H λx H1=>∃a,x = .ref a/\∃kvs,H1 a<*kvs/\∀o,R (Itd a o kvs) (upd H1 a (.frz o (.dK kvs)))
theorem F3 {l:Expr} {tl:TE} (hl:PE X l tl):PI X tg l (iD tl):=by
 intro pins s σ H R I h;refine thn (hl pins s σ H _ I h) λv L B=>?_
 obtain⟨x,H1,I1,r1,a,e,kvs,Y,q⟩:=B;subst e;cases r1;obtain⟨hz,hd,vs,ab,od,es,ep,Z,hr⟩:=pj I1.hok Y;refine wpAny_pyIter_dict (knd:=bp X.prog X.w) hd ⟨od,es,Z,hr⟩ ?_
 have hn : ∀ob u,X.H₀ a≠some (.frz ob u):=λob u e=>by have:=I1.base.frzs a ob u e;rw[Y] at this;cases this
 have I2:Inv X pins σ H1 { L with heap:=L.heap.push { cls:=.type "dict_keyiterator",data:=.fields #[.ref a,.int 0 0,.int vs.length 0,.int ep 0] } }:=I1.kept (t':=L.toks) λb o e=>d_ _ e
 have ac:=I2.hok a _ Y;have I3:=I2.retag (o':=.frz od (.dK kvs)) Y (by intro y z;cases z) (by intro y z;cases z) hn (by intro y z;cases z) ⟨d_ _ Z,ac⟩
 have aa:=ab.length;refine⟨L.heap.objs.size,[L.heap.objs.size],_,_,_,rfl,I3,Cc a _ od kvs ep ⟨es,hr.2.1⟩,⟨_,f_ _ rfl,rfl,by rw[aa];rfl⟩,λb hb=>?_,q od⟩
 have e:b=L.heap.objs.size:=by simpa using hb
 subst e;have F:H1 L.heap.objs.size=none:=I1.hok.fresh (i6 _)
 obtain⟨f0,f1,f2,f3,f4,f5⟩:=I1.fpOk (i6 _) F;exact⟨by rw[ah (λz=>by rw[z,Y] at F;cases F)];exact F,f1,f2,f3,f4,f5⟩
def Eu (a:Addr) (kvs:List (Key × V)) (D:og):og where
 nx:=λσ H=>(∃o,H a=some (.frz o (.dK kvs)))/\D.nx σ (upd H a (.dK kvs))
 rt:=λv H=>(∃o,H a=some (.frz o (.dK kvs)))/\D.rt v (upd H a (.dK kvs))
 bk:=λσ H=>(∃o,H a=some (.frz o (.dK kvs)))/\D.bk σ (upd H a (.dK kvs))
 ct:=λσ H=>(∃o,H a=some (.frz o (.dK kvs)))/\D.ct σ (upd H a (.dK kvs))
def EE (t:TS):TS:=λD σ H=>∃a kvs,H a<*kvs/\t (Eu a kvs D) σ H
theorem BA {t:TS} (h:PS X st t):PS X st (EE t):=by
 intro pins s σ H D I ⟨a,kvs,ha,ht⟩;have hn : ∀ob u,X.H₀ a≠some (.frz ob u):=λob u e=>by have:=I.base.frzs a ob u e;rw[ha] at this;cases this
 have B : ∀{σ' H' s'},Inv X pins σ' H' s'->(∃o,H' a=some (.frz o (.dK kvs)))->Inv X pins σ' (upd H' a (.dK kvs)) s':=λ{σ' H' s'} F ⟨o,e⟩ =>
  F.retag e (by intro y z;cases z) (by intro y z;cases z) hn (by intro y z;cases z) (show s'.heap.get? a=some o/\bF X.prog X.w H' s'.heap a (.dK kvs) from F.hok a _ e).2
 refine thn (h pins s σ H _ I ht) λf s' L=>?_
 cases f with
 | next=>obtain⟨σ',H',F,e,q⟩:=L;exact⟨σ',_,B F e,q⟩
 | brk=>obtain⟨σ',H',F,e,q⟩:=L;exact⟨σ',_,B F e,q⟩
 | cont=>obtain⟨σ',H',F,e,q⟩:=L;exact⟨σ',_,B F e,q⟩
 | ret u=>obtain⟨v,σ',H',F,r,e,q⟩:=L;exact⟨v,σ',_,B F e,r,q⟩
section
def wr (Cs:List (Addr × Sp)) (m:Str) (ta:TE) (t:TA):TE:=λσ H Q=>ta σ H λx H1=>∃a,x = .ref a/\∃C sp,(C,sp)∈Cs/\∃dx fs,H1 a=some (.ins C dx fs)/\fs.lookup m=none/\t σ H1 λvs H2=>sp (.ref a :: vs) H2 Q E0
variable {o:Expr} {m:Str} {t:TA}
theorem pf (F : ∀C sp,(C,sp)∈Cs->Cls X.K C/\FnR X.prog X.w X.K X.mg X.base (aR X.K C m) k ps sp) (hr:cU k X.A) (he:PE X o ta) (ha:PA X (e :: es) t)
  (L:j8 (e :: es) X.env=(false,eval e X.env) :: j8 es X.env:=by rfl) (Y:(y9 pos (j8 es X.env)).any (·.1)=false:=by rfl)
  (ht:eval (.Call (.Attribute o m apos) (e :: es) [] pos) X.env=(do
   let Z <- eval o X.env
   standAt apos.atName
   let (f,first) <- holding [Z] (getMethod Z m pl)
   callWith pos f first (y9 pos (j8 (e :: es) X.env)) (backToKw pos (keywordEach [] X.env))):=by rfl) :
  PE X (.Call (.Attribute o m apos) (e :: es) [] pos) (wr Cs m ta t):=by
 intro pins s σ H Q I h;refine methodCall_KW (pl:=pl) (thn (he pins s σ H _ I h) λu s1 B=>?_) ht
 obtain⟨x,H1,I1,rx,a,ex,C,sp,hC,dx,fs,ea,l,q⟩:=B;subst ex;obtain⟨c,f,fd,F,hm,b⟩:=F C sp hC;obtain rfl:u=h_ a:=rx
 refine oX I1 ea c hm l ?_
 refine callWith_K (first:=[.ref a]) (h₀:=X.base) I.ok.mod.kin hm.kp (thn (ha pos pins s1 σ H1 _ I1 q) λus s2 ⟨vs,H2,I2,r,q2⟩=>⟨I2.kIn,?_⟩) L Y
 exact lW (us:=.ref a :: us) (vs:=.ref a :: vs) F hr b .nil oY I2 (.cons rfl r) (by rw[append_nil];exact q2)
end
end L2
namespace PySem
open Sem (wp)
theorem ix {J:Addr} {vs:Array Value} {v:Value} (a:s.heap.IsTupleIter J T i) (b:s.heap.IsTuple T vs) (c:vs[i]? = some v)
  (k : ∀g,g.IsTupleIter J T (i+1)->HL J s.heap g->Q v { s with heap:=g }):wpAny (model prog w) A (j7 (.ref J)) Q E s:=by
 obtain⟨oJ,L,a2,B⟩:=id a;obtain⟨oT,Y,_,bn,Z⟩:=b;unfold j7;refine a_ (m3 (name:=b_ "__next__") a.typeIs G0 (m7 G0 a.typeIs F.entry_tuple_iterator_next ?_ (F.args_tuple_iterator_next_1 _)))
 change wpAny _ _ (field (.ref J) 0 >>= _) _ _ s;refine a_ (k_ L B (x:=.ref T) rfl ?_)
 change wpAny _ _ (if (h_ T == p9)=true then _ else _) _ _ s;rw[if_neg (show ¬ ((h_ T == p9)=true) from i_)]
 change wpAny _ _ (field (.ref J) 1 >>= _) _ _ s;refine a_ (k_ L B (x:=.int i 0) rfl ?_)
 change wpAny _ _ (seqItems? (.ref T) >>= _) _ _ s;refine a_ (w9 Y Z ?_)
 simp only[HF,c];refine a_ (wpAny_setField L B (by simp) (ei ⟨v,rfl,ei (k _ ⟨_,C_ _ L (Obj.isFreed_of_fields (Obj.data_mapFields B _)),(Obj.cls_mapFields ..).trans a2,?_⟩ (Heap.SameBut.update ..))⟩))
 rw[Obj.data_mapFields B];simp[x5]
theorem dQ {J:Addr} {vs:Array Value} (Y:A.handled=none) (a:s.heap.IsTupleIter J T i) (b:s.heap.IsTuple T vs) (c:vs[i]? = none)
  (k : ∀g e,Il J s.heap g->(∃o,g.get? e=some o/\o.cls = .type "StopIteration")->E (.ref e) { s with heap:=g }):wpAny (model prog w) A (j7 (.ref J)) Q E s:=by
 obtain⟨oJ,B,a2,L⟩:=id a;obtain⟨oT,b1,_,bn,Z⟩:=b;unfold j7;refine a_ (m3 (name:=b_ "__next__") a.typeIs G0 (m7 G0 a.typeIs F.entry_tuple_iterator_next ?_ (F.args_tuple_iterator_next_1 _)))
 change wpAny _ _ (field (.ref J) 0 >>= _) _ _ s;refine a_ (k_ B L (x:=.ref T) rfl ?_)
 change wpAny _ _ (if (h_ T == p9)=true then _ else _) _ _ s;rw[if_neg (show ¬ ((h_ T == p9)=true) from i_)]
 change wpAny _ _ (field (.ref J) 1 >>= _) _ _ s;refine a_ (k_ B L (x:=.int i 0) rfl ?_)
 change wpAny _ _ (seqItems? (.ref T) >>= _) _ _ s;refine a_ (w9 b1 Z ?_)
 simp only[HF,c];refine a_ (wpAny_rule (a_ (wpAny_setField B L (by simp) ?_)))
 change wpAny _ _ (newExc (.type "StopIteration") [] >>= _) _ _ _;refine a_ (by
  simp only[newExc,newTuple];refine a_ (w5 ?_ (by size_fits))
  refine a_ (m:=firstArgMember _ _) (HA (a:=p9) (by first | rfl | (simp only[firstArgMember];rfl)) ?_)
  refine w5 ?_ (by size_fits)
  (simp only[raiseNew];refine a_ (wpAny_handled ?_))
  first | rw[show A.in1.handled=none from Y] | rw[Y]
  refine a_ (ei (wpAny_throw (k _ _ (((Heap.SameBut.update ..).extBut.push _).push _) ⟨_,f_ _ rfl,rfl⟩))))
def ZIt:Bool->Heap->Addr->Addr->Nat->Prop
 | false=>Heap.IsTupleIter
 | true=>Heap.IsListIter
def ZSq:Bool->Heap->Addr->Array Value->Prop
 | false=>Iv
 | true=>Heap.IsList
theorem ZIt.ex {g:Heap} (h:ZIt q g I S i) : ∃o,g.get? I=some o/\o.data = .fields #[.ref S,.int i 0]:=by
 cases q with
 | false=>obtain⟨o,h1,_,B⟩:=h;exact⟨o,h1,B⟩
 | true=>obtain⟨o,h1,_,B⟩:=h;exact⟨o,h1,B⟩
theorem ZIt.at {q:Bool} {g g':Heap} {I S:Addr} {i:Nat} (h:ZIt q g I S i) (e : ∀o,g.get? I=some o->g'.get? I=some o):ZIt q g' I S i:=by
 cases q with
 | false=>exact Heap.IsTupleIter.at h e
 | true=>exact Heap.IsListIter.at h e
theorem ZIt.extBut {g g':Heap} (h:ZIt q g I S i) (F:Il b g g') (B:I≠b):ZIt q g' I S i:=h.at λo e=>F _ _ B e
theorem ZSq.at {g g':Heap} {xs:Array Value} (h:ZSq q g S xs) (e : ∀o,g.get? S=some o->g'.get? S=some o):ZSq q g' S xs:=by
 cases q with
 | false=>obtain⟨o,h1,r⟩:=h;exact⟨o,e _ h1,r⟩
 | true=>obtain⟨o,h1,r⟩:=h;exact⟨o,e _ h1,r⟩
theorem ZSq.extBut {g g':Heap} {xs:Array Value} (h:ZSq q g S xs) (F:Il b g g') (B:S≠b):ZSq q g' S xs:=h.at λo e=>F _ _ B e
theorem ZSq.ex {g:Heap} {xs:Array Value} (h:ZSq q g S xs) : ∃o,g.get? S=some o:=by
 cases q with
 | false=>obtain⟨o,h1,_⟩:=h;exact⟨o,h1⟩
 | true=>obtain⟨o,h1,_⟩:=h;exact⟨o,h1⟩
theorem zj {J:Addr} {vs:Array Value} {v:Value} (a:ZIt q s.heap J T i) (b:ZSq q s.heap T vs) (c:vs[i]? = some v)
  (k : ∀g,ZIt q g J T (i+1)->HL J s.heap g->Q v { s with heap:=g }):wpAny (model prog w) A (j7 (.ref J)) Q E s:=by
 cases q with
 | false=>exact ix a b c k
 | true=>exact wpAny_nextOf_list_item a b c k
theorem vF {J:Addr} {vs:Array Value} (B:A.handled=none) (a:ZIt q s.heap J T i) (b:ZSq q s.heap T vs) (c:vs[i]? = none)
  (k : ∀g e,Il J s.heap g->(∃o,g.get? e=some o/\o.cls = .type "StopIteration")->E (.ref e) { s with heap:=g }):wpAny (model prog w) A (j7 (.ref J)) Q E s:=by
 cases q with
 | false=>exact dQ B a b c k
 | true=>exact wpAny_nextOf_list_end B a b c k
structure hV (q:Bool) (g:Heap) (z P O I J S T:Addr) (i:Nat) (f0 f1:Value):Prop where
 zz:g.get? z=some { cls:=.type "zip",dict:=none,data:=.fields #[f0,f1,.bool false,.ref P,.ref O],slots := #[] }
 pp:IsPair g P (.ref I) (.ref J)
 oo : ∃a b,IsPair g O a b
 ii:ZIt q g I S i
 jj:g.IsTupleIter J T i
theorem hV.keep {g g':Heap} {P J:Addr} (h:hV q g z P O I J S T i f0 f1) (k : ∀b∈[z,P,O,I,J],∀o,g.get? b=some o->g'.get? b=some o):hV q g' z P O I J S T i f0 f1:=by
 obtain⟨a,b,oo⟩:=h.oo;exact⟨k z (by simp) _ h.zz,k P (by simp) _ h.pp,⟨a,b,k O (by simp) _ oo⟩,h.ii.at λo e=>k I (by simp) o e,h.jj.at λo e=>k J (by simp) o e⟩
abbrev qz:=hV false
theorem xp {P J:Addr} {xs:Array Value} {x y:Value} (D:Ig z P O I J S T) (Z:hV q s.heap z P O I J S T i .none (.bool false))
  (hS:ZSq q s.heap S xs) (hT:s.heap.IsTuple T ys) (hx:xs[i]? = some x) (hy:ys[i]? = some y)
  (k : ∀g,hV q g z P O I J S T (i+1) (x5 s.heap.objs.size) (.bool false)->IsPair g s.heap.objs.size x y->g.objs.size=s.heap.objs.size+1 ->
   (∀c o,c≠z->c≠O->c≠I->c≠J->s.heap.get? c=some o->g.get? c=some o)->Q (.ref s.heap.objs.size) { s with heap:=g }) :
  wpAny (model prog w) A (Builtin.«zip.__next__» ⟨[.ref z],[]⟩) (λaa s'=>∃v,aa = .done (.ret v)/\Q v s') E s:=by
 have zz:=Z.zz;obtain⟨a,b,oo⟩:=Z.oo;change wpAny _ _ (field (.ref z) 2 >>= _) _ _ _;refine a_ (k_ zz rfl (x:=.bool false) rfl ?_)
 change wpAny _ _ (field (.ref z) 3 >>= _) _ _ _;refine a_ (k_ zz rfl (x:=.ref P) rfl ?_)
 refine a_ (w9 Z.pp rfl ?_)
 change wpAny _ _ (mu (.ref z) >>= _) _ _ _;refine a_ (by
  unfold mu;refine a_ (k_ zz rfl (x:=.none) rfl (ei ?_))
  simp only[if_true];refine a_ (wpAny_rule ?_)
  refine a_ (k_ zz rfl (x:=.ref O) rfl ?_)
  refine a_ (s_ zz (by simp) λg1 z1 F=>?_)
  replace z1:g1.get? z=some { cls:=.type "zip",dict:=none,data:=.fields #[.ellipsis,.bool false,.bool false,.ref P,.ref O],slots := #[] }:=z1
  refine a_ ?_
  simp only[List.zipIdx_cons,List.zipIdx_nil,Hn,forIn_nil];refine a_ (a_ (wpAny_onRaise ?_))
  change wpAny _ _ (j7 (.ref I) >>= _) _ _ _;refine a_ (zj (Z.ii.extBut F.extBut D.i1z) (hS.extBut F.extBut D.l1z) hx λg2 i2 s2=>ei ?_)
  have o2:IsPair g2 O a b:=s2.extBut _ _ D.TOi1 (F.extBut _ _ D.TOz oo)
  refine a_ (w9 o2 rfl ?_)
  refine a_ (wpAny_updateSeq_pair o2 λg3 o3 Y=>?_)
  replace o3:IsPair g3 O x b:=o3
  refine a_ (wpAny_letGo (ei ?_))
  refine a_ (a_ (wpAny_onRaise ?_))
  change wpAny _ _ (j7 (.ref J) >>= _) _ _ _;refine a_ (ix (((Z.jj.extBut F.extBut D.i2z).extBut s2.extBut D.i12.symm).extBut Y.extBut D.TOi2.symm) (((hT.extBut F.extBut D.l2z).extBut s2.extBut D.l2i1).extBut Y.extBut D.l2TO) hy λg4 j4 s4=>ei ?_)
  have o4:IsPair g4 O x b:=s4.extBut _ _ D.TOi2 o3
  refine a_ (w9 o4 rfl ?_)
  refine a_ (wpAny_updateSeq_pair o4 λB o5 s5=>?_)
  replace o5:IsPair B O x y:=o5
  refine a_ (wpAny_letGo (ei (ei ?_)))
  refine a_ (w9 o5 rfl ?_)
  refine a_ (wpAny_newTuple ?_)
  have sz:B.objs.size=s.heap.objs.size:=by rw[s5.1,s4.1,Y.1,s2.1,F.1]
  have z5:=s5.extBut _ _ D.TOz.symm (s4.extBut _ _ D.i2z.symm (Y.extBut _ _ D.TOz.symm (s2.extBut _ _ D.i1z.symm z1)));have k5 : ∀c o,c≠z->c≠O->c≠I->c≠J->s.heap.get? c=some o->B.get? c=some o:=λc o L c2 c3 c4 e =>
   s5.extBut _ _ c2 (s4.extBut _ _ c4 (Y.extBut _ _ c2 (s2.extBut _ _ c3 (F.extBut _ _ L e))))
  have i5:ZIt q B I S (i+1):=((i2.extBut Y.extBut D.TOi1.symm).extBut s4.extBut D.i12).extBut s5.extBut D.TOi1.symm
  have j5:B.IsTupleIter J T (i+1):=j4.extBut s5.extBut D.TOi2.symm
  have zl:z < B.objs.size:=e8 z5
  change wpAny _ _ (Builtin.SmallTypes.ownedTupleHandOut (.ref z) (.ref B.objs.size) >>= _) _ _ _;refine a_ ?_
  unfold Builtin.SmallTypes.ownedTupleHandOut;have z6:=d_ { cls:=.type "tuple",data:=.seq #[x,y] } z5;refine a_ (s_ z6 (by simp) λg7 z7 s7=>?_)
  refine s_ z7 (by simp) λg8 z8 s8=>?_
  have up : ∀c o,c≠z->B.get? c=some o->g8.get? c=some o:=λc o L e=>s8.extBut _ _ L (s7.extBut _ _ L (d_ _ e))
  have t8:IsPair g8 B.objs.size x y:=s8.extBut _ _ (o_ zl) (s7.extBut _ _ (o_ zl) (f_ _ rfl))
  have l8:g8.objs.size=B.objs.size+1:=by rw[s8.1,s7.1,m9]
  refine ei ⟨_,rfl,?_⟩
  have zf:hV q g8 z P O I J S T (i+1) (x5 B.objs.size) (.bool false) :=
   ⟨z8,up _ _ D.TIz (k5 _ _ D.TIz D.TITO D.TIi1 D.TIi2 Z.pp),⟨x,y,up _ _ D.TOz o5⟩,i5.at λo e=>up _ o D.i1z e,j5.at λo e=>up _ o D.i2z e⟩
  rw[sz] at zf t8 l8;change Q (.ref B.objs.size) _;rw[sz];exact k g8 zf t8 l8 λc o L c2 c3 c4 e=>up c o L (k5 c o L c2 c3 c4 e))
theorem nB {Q:Option Obj->Shared->Prop} (h:Q (s.heap.get? a) s):wpAny M A (loadIfAlive a) Q E s:=λ_ _ _=>h
theorem CM {P J t0:Addr} {xs:Array Value} {x y:Value} (D:Ig z P O I J S T) (Z:qz s.heap z P O I J S T i (x5 t0) f1)
  (h0:s.heap.get? t0=some o0) (hf:f1 = .bool false\/f1 = .bool true) (hS:s.heap.IsTuple S xs) (hT:s.heap.IsTuple T ys) (hx:xs[i]? = some x) (hy:ys[i]? = some y)
  (k : ∀g,qz g z P O I J S T (i+1) (x5 t0) (.bool true)->IsPair g s.heap.objs.size x y->g.objs.size=s.heap.objs.size+1 ->
   (∀c o,c≠z->c≠O->c≠I->c≠J->s.heap.get? c=some o->g.get? c=some o)->Q (.ref s.heap.objs.size) { s with heap:=g }) :
  wpAny (model prog w) A (Builtin.«zip.__next__» ⟨[.ref z],[]⟩) (λaa s'=>∃v,aa = .done (.ret v)/\Q v s') E s:=by
 have zz:=Z.zz;obtain⟨a,b,oo⟩:=Z.oo;change wpAny _ _ (field (.ref z) 2 >>= _) _ _ _;refine a_ (k_ zz rfl (x:=.bool false) rfl ?_)
 change wpAny _ _ (field (.ref z) 3 >>= _) _ _ _;refine a_ (k_ zz rfl (x:=.ref P) rfl ?_)
 refine a_ (w9 Z.pp rfl ?_)
 change wpAny _ _ (mu (.ref z) >>= _) _ _ _;refine a_ (by
  unfold mu;refine a_ (k_ zz rfl (x:=x5 t0) rfl ?_)
  simp only[x5];refine a_ (nB ?_)
  simp only[HF,h0,isNone_some,gt,if_false];refine a_ (k_ zz rfl (x:=f1) rfl ?_)
  rcases hf with rfl | rfl
  .rw[if_pos ∅]
   refine a_ (s_ zz (by simp) λg1 z1 s1=>ei ?_)
   have Z1:qz g1 z P O I J S T i (x5 t0) (.bool true):=⟨z1,s1.extBut _ _ D.TIz Z.pp,⟨a,b,s1.extBut _ _ D.TOz oo⟩,Z.ii.extBut s1.extBut D.i1z,Z.jj.extBut s1.extBut D.i2z⟩
   have e1:=s1.extBut;have n1:=s1.1;simp only[gt,if_false];rw[<- forIn_toList];simp only[Hn,forIn_nil];refine a_ (a_ (a_ (t4 ?_)))
   change wpAny _ _ (j7 (.ref I) >>= _) _ _ _;refine a_ (ix (Z1.ii) (hS.extBut e1 D.l1z) hx λg2 i2 B=>ei (ei ?_))
   refine a_ (a_ (t4 ?_))
   change wpAny _ _ (j7 (.ref J) >>= _) _ _ _;refine a_ (ix (Z1.jj.extBut B.extBut D.i12.symm) ((hT.extBut e1 D.l2z).extBut B.extBut D.l2i1) hy λY j3 F=>ei (ei (ei ?_)))
   refine a_ (wpAny_newTuple (hsz:=by show 2<=g9;decide) (ei ⟨_,rfl,?_⟩))
   have sz:Y.objs.size=s.heap.objs.size:=by rw[F.1,B.1,n1]
   have k3 : ∀c o,c≠z->c≠I->c≠J->s.heap.get? c=some o->Y.get? c=some o:=λc o c1 c3 L e=>F.extBut _ _ L (B.extBut _ _ c3 (e1 _ _ c1 e))
   have z3:=F.extBut _ _ D.i2z.symm (B.extBut _ _ D.i1z.symm Z1.zz);change Q (.ref Y.objs.size) _;rw[sz];refine k _ ⟨d_ _ z3,d_ _ (k3 _ _ D.TIz D.TIi1 D.TIi2 Z.pp),⟨a,b,d_ _ (k3 _ _ D.TOz D.TOi1 D.TOi2 oo)⟩,(i2.extBut F.extBut D.i12).at λo e=>d_ _ e,j3.at λo e=>d_ _ e⟩ ?_ ?_ λc o c1 c2 c3 L e=>d_ _ (k3 c o c1 c3 L e)
   .rw[<- sz];exact f_ _ rfl
   .rw[m9,sz]
  .rw[if_neg ∅]
   refine ei ?_
   have Z1:=Z;have e1:Il z s.heap s.heap:=λ_ _ _ e=>e
   have n1:s.heap.objs.size=s.heap.objs.size:=rfl
   simp only[gt,if_false];rw[<- forIn_toList];simp only[Hn,forIn_nil];refine a_ (a_ (a_ (t4 ?_)))
   change wpAny _ _ (j7 (.ref I) >>= _) _ _ _;refine a_ (ix (Z1.ii) (hS.extBut e1 D.l1z) hx λg2 i2 B=>ei (ei ?_))
   refine a_ (a_ (t4 ?_))
   change wpAny _ _ (j7 (.ref J) >>= _) _ _ _;refine a_ (ix (Z1.jj.extBut B.extBut D.i12.symm) ((hT.extBut e1 D.l2z).extBut B.extBut D.l2i1) hy λY j3 F=>ei (ei (ei ?_)))
   refine a_ (wpAny_newTuple (hsz:=by show 2<=g9;decide) (ei ⟨_,rfl,?_⟩))
   have sz:Y.objs.size=s.heap.objs.size:=by rw[F.1,B.1,n1]
   have k3 : ∀c o,c≠z->c≠I->c≠J->s.heap.get? c=some o->Y.get? c=some o:=λc o c1 c3 L e=>F.extBut _ _ L (B.extBut _ _ c3 (e1 _ _ c1 e))
   have z3:=F.extBut _ _ D.i2z.symm (B.extBut _ _ D.i1z.symm Z1.zz);change Q (.ref Y.objs.size) _;rw[sz];refine k _ ⟨d_ _ z3,d_ _ (k3 _ _ D.TIz D.TIi1 D.TIi2 Z.pp),⟨a,b,d_ _ (k3 _ _ D.TOz D.TOi1 D.TOi2 oo)⟩,(i2.extBut F.extBut D.i12).at λo e=>d_ _ e,j3.at λo e=>d_ _ e⟩ ?_ ?_ λc o c1 c2 c3 L e=>d_ _ (k3 c o c1 c3 L e)
   .rw[<- sz];exact f_ _ rfl
   .rw[m9,sz])
theorem Ak {P J:Addr} {xs:Array Value} {Q:Fin->Shared->Prop} (hd:A.handled=none) (D:Ig z P O I J S T) (Z:hV q s.heap z P O I J S T i .none (.bool false))
  (hS:ZSq q s.heap S xs) (hT:s.heap.IsTuple T ys) (hx:xs[i]? = none\/ys[i]? = none)
  (k : ∀g e,(∀c o,c≠z->c≠O->c≠I->c≠J->s.heap.get? c=some o->g.get? c=some o)->(∃o,g.get? e=some o/\o.cls = .type "StopIteration")->E (.ref e) { s with heap:=g }) :
  wpAny (model prog w) A (Builtin.«zip.__next__» ⟨[.ref z],[]⟩) Q E s:=by
 have zz:=Z.zz;obtain⟨a,b,oo⟩:=Z.oo;change wpAny _ _ (field (.ref z) 2 >>= _) _ _ _;refine a_ (k_ zz rfl (x:=.bool false) rfl ?_)
 change wpAny _ _ (field (.ref z) 3 >>= _) _ _ _;refine a_ (k_ zz rfl (x:=.ref P) rfl ?_)
 refine a_ (w9 Z.pp rfl ?_)
 change wpAny _ _ (mu (.ref z) >>= _) _ _ _;refine a_ (by
  unfold mu;refine a_ (k_ zz rfl (x:=.none) rfl (ei ?_))
  simp only[if_true];refine a_ (wpAny_rule ?_)
  refine a_ (k_ zz rfl (x:=.ref O) rfl ?_)
  refine a_ (s_ zz (by simp) λg1 z1 L=>?_)
  refine a_ ?_
  simp only[List.zipIdx_cons,List.zipIdx_nil,Hn,forIn_nil];refine a_ (a_ (wpAny_onRaise ?_))
  change wpAny _ _ (j7 (.ref I) >>= _) _ _ _;cases ex:xs[i]? with
  | none =>
   refine a_ (vF hd (Z.ii.extBut L.extBut D.i1z) (hS.extBut L.extBut D.l1z) ex λg2 e Y he=>?_)
   obtain⟨oe,B,F⟩:=he;have z2:=Y _ _ D.i1z.symm z1;have ez:e≠z:=λq=>by subst q;rw[z2] at B;cases B;simp at F
   refine s_ z2 (by simp) λg3 _ s3=>k g3 e (λc o c1 _ c3 _ q=>s3.extBut _ _ c1 (Y _ _ c3 (L.extBut _ _ c1 q))) ⟨oe,s3.extBut _ _ ez B,F⟩
  | some x =>
   have hy:ys[i]? = none:=by rcases hx with q | q;(rw[ex] at q;cases q);exact q
   refine a_ (zj (Z.ii.extBut L.extBut D.i1z) (hS.extBut L.extBut D.l1z) ex λg2 i2 Y=>ei ?_)
   have o2:IsPair g2 O a b:=Y.extBut _ _ D.TOi1 (L.extBut _ _ D.TOz oo)
   refine a_ (w9 o2 rfl ?_)
   refine a_ (wpAny_updateSeq_pair o2 λg3 o3 s3=>?_)
   refine a_ (wpAny_letGo (ei ?_))
   refine a_ (a_ (wpAny_onRaise ?_))
   change wpAny _ _ (j7 (.ref J) >>= _) _ _ _;refine a_ (dQ hd (((Z.jj.extBut L.extBut D.i2z).extBut Y.extBut D.i12.symm).extBut s3.extBut D.TOi2.symm) (((hT.extBut L.extBut D.l2z).extBut Y.extBut D.l2i1).extBut s3.extBut D.l2TO) hy λg4 e s4 he=>?_)
   obtain⟨oe,B,F⟩:=he;have z4:=s4 _ _ D.i2z.symm (s3.extBut _ _ D.TOz.symm (Y.extBut _ _ D.i1z.symm z1));have ez:e≠z:=λq=>by subst q;rw[z4] at B;cases B;simp at F
   refine s_ z4 (by simp) λg5 _ s5=>k g5 e (λc o c1 c2 c3 c4 q=>s5.extBut _ _ c1 (s4 _ _ c4 (s3.extBut _ _ c2 (Y.extBut _ _ c3 (L.extBut _ _ c1 q))))) ⟨oe,s5.extBut _ _ ez B,F⟩)
theorem Bl {P J t0:Addr} {xs:Array Value} {Q:Fin->Shared->Prop} (hd:A.handled=none) (D:Ig z P O I J S T) (Z:qz s.heap z P O I J S T i (x5 t0) f1)
  (h0:s.heap.get? t0=some o0) (hf:f1 = .bool false\/f1 = .bool true) (hS:s.heap.IsTuple S xs) (hT:s.heap.IsTuple T ys) (hx:xs[i]? = none\/ys[i]? = none)
  (k : ∀g e,(∀c o,c≠z->c≠O->c≠I->c≠J->s.heap.get? c=some o->g.get? c=some o)->(∃o,g.get? e=some o/\o.cls = .type "StopIteration")->E (.ref e) { s with heap:=g }) :
  wpAny (model prog w) A (Builtin.«zip.__next__» ⟨[.ref z],[]⟩) Q E s:=by
 have zz:=Z.zz;obtain⟨a,b,oo⟩:=Z.oo;change wpAny _ _ (field (.ref z) 2 >>= _) _ _ _;refine a_ (k_ zz rfl (x:=.bool false) rfl ?_)
 change wpAny _ _ (field (.ref z) 3 >>= _) _ _ _;refine a_ (k_ zz rfl (x:=.ref P) rfl ?_)
 refine a_ (w9 Z.pp rfl ?_)
 change wpAny _ _ (mu (.ref z) >>= _) _ _ _;refine a_ (by
  unfold mu;refine a_ (k_ zz rfl (x:=x5 t0) rfl ?_)
  simp only[x5];refine a_ (nB ?_)
  simp only[HF,h0,isNone_some,gt,if_false];refine a_ (k_ zz rfl (x:=f1) rfl ?_)
  rcases hf with rfl | rfl
  .rw[if_pos ∅]
   refine a_ (s_ zz (by simp) λg1 z1 s1=>ei ?_)
   have Z1:qz g1 z P O I J S T i (x5 t0) (.bool true):=⟨z1,s1.extBut _ _ D.TIz Z.pp,⟨a,b,s1.extBut _ _ D.TOz oo⟩,Z.ii.extBut s1.extBut D.i1z,Z.jj.extBut s1.extBut D.i2z⟩
   have e1:=s1.extBut;simp only[gt,if_false];rw[<- forIn_toList];simp only[Hn,forIn_nil];refine a_ (a_ (a_ (t4 ?_)))
   change wpAny _ _ (j7 (.ref I) >>= _) _ _ _;cases ex:xs[i]? with
   | none =>
    refine a_ (dQ hd Z1.ii (hS.extBut e1 D.l1z) ex λg2 e B F=>?_)
    exact k g2 e (λc o L _ Y _ q=>B _ _ Y (e1 _ _ L q)) F
   | some x =>
    have hy:ys[i]? = none:=by rcases hx with q | q;(rw[ex] at q;cases q);exact q
    refine a_ (ix Z1.ii (hS.extBut e1 D.l1z) ex λg2 i2 B=>ei (ei ?_))
    refine a_ (a_ (t4 ?_))
    change wpAny _ _ (j7 (.ref J) >>= _) _ _ _;refine a_ (dQ hd (Z1.jj.extBut B.extBut D.i12.symm) ((hT.extBut e1 D.l2z).extBut B.extBut D.l2i1) hy λg3 e s3 F=>?_)
    exact k g3 e (λc o L _ Y c4 q=>s3 _ _ c4 (B.extBut _ _ Y (e1 _ _ L q))) F
  .rw[if_neg ∅]
   refine ei ?_
   have Z1:=Z;have e1:Il z s.heap s.heap:=λ_ _ _ e=>e
   simp only[gt,if_false];rw[<- forIn_toList];simp only[Hn,forIn_nil];refine a_ (a_ (a_ (t4 ?_)))
   change wpAny _ _ (j7 (.ref I) >>= _) _ _ _;cases ex:xs[i]? with
   | none =>
    refine a_ (dQ hd Z1.ii (hS.extBut e1 D.l1z) ex λg2 e B F=>?_)
    exact k g2 e (λc o L _ Y _ q=>B _ _ Y (e1 _ _ L q)) F
   | some x =>
    have hy:ys[i]? = none:=by rcases hx with q | q;(rw[ex] at q;cases q);exact q
    refine a_ (ix Z1.ii (hS.extBut e1 D.l1z) ex λg2 i2 B=>ei (ei ?_))
    refine a_ (a_ (t4 ?_))
    change wpAny _ _ (j7 (.ref J) >>= _) _ _ _;refine a_ (dQ hd (Z1.jj.extBut B.extBut D.i12.symm) ((hT.extBut e1 D.l2z).extBut B.extBut D.l2i1) hy λg3 e s3 F=>?_)
    exact k g3 e (λc o L _ Y c4 q=>s3 _ _ c4 (B.extBut _ _ Y (e1 _ _ L q))) F)
theorem xq {hp:Heap} {xs:Array Value} (h1:ZSq q hp S xs) (h2:hp.IsTuple T ys) {Y F B Z L:Heap} (e1:Y=hp.push { cls:=.type (if q then "list_iterator" else "tuple_iterator"),data:=.fields #[.ref S,.int 0 0] })
  (e2:F=Y.push { cls:=.type "tuple_iterator",data:=.fields #[.ref T,.int 0 0] }) (e3:B=F.push { cls:=.type "tuple",data:=.seq #[.ref hp.objs.size,.ref Y.objs.size] }) (e4:Z=B.push { cls:=.type "tuple",data:=.seq #[.none,.none] })
  (e5:L=Z.push { cls:=.type "zip",data:=.fields #[.none,.bool false,.bool false,.ref F.objs.size,.ref B.objs.size] }) :
  hV q L Z.objs.size F.objs.size B.objs.size hp.objs.size Y.objs.size S T 0 .none (.bool false)/\Ig Z.objs.size F.objs.size B.objs.size hp.objs.size Y.objs.size S T/\Z.objs.size=hp.objs.size+4/\B.objs.size=hp.objs.size+3/\F.objs.size=hp.objs.size+2/\Y.objs.size=hp.objs.size+1/\∀c o,hp.get? c=some o->L.get? c=some o:=by
 have n1:Y.objs.size=hp.objs.size+1:=by rw[e1,m9]
 have n2:F.objs.size=hp.objs.size+2:=by rw[e2,m9,n1]
 have n3:B.objs.size=hp.objs.size+3:=by rw[e3,m9,n2]
 have n4:Z.objs.size=hp.objs.size+4:=by rw[e4,m9,n3]
 have p5 : ∀c o,Z.get? c=some o->L.get? c=some o:=λc o e=>by rw[e5];exact d_ _ e
 have p4 : ∀c o,B.get? c=some o->L.get? c=some o:=λc o e=>p5 c o (by rw[e4];exact d_ _ e)
 have p3 : ∀c o,F.get? c=some o->L.get? c=some o:=λc o e=>p4 c o (by rw[e3];exact d_ _ e)
 have p2 : ∀c o,Y.get? c=some o->L.get? c=some o:=λc o e=>p3 c o (by rw[e2];exact d_ _ e)
 have p1 : ∀c o,hp.get? c=some o->L.get? c=some o:=λc o e=>p2 c o (by rw[e1];exact d_ _ e)
 obtain⟨oS,hS⟩:=h1.ex;obtain⟨oT,hT,_⟩:=id h2;refine⟨⟨by rw[e5];exact f_ _ rfl,p4 _ _ (by rw[e3];exact f_ _ rfl),⟨.none,.none,p5 _ _ (by rw[e4];exact f_ _ rfl)⟩,(by cases q <;> exact⟨_,p2 _ _ (by rw[e1];exact f_ _ rfl),rfl,rfl⟩),⟨_,p3 _ _ (by rw[e2];exact f_ _ rfl),rfl,rfl⟩⟩,?_,n4,n3,n2,n1,p1⟩
 rw[n1,n2,n3,n4];exact PyProof.Rows.zipApart_new (e8 hS) (e8 hT)
set_option maxHeartbeats 0 in
theorem AL (q:Bool) (S T:Addr) (xs ys:Array Value):Meets (Builtin.«zip.__new__» ⟨[.type "zip",.ref S,.ref T],[]⟩) (λ_ R s=>ZSq q s.heap S xs/\s.heap.IsTuple T ys /\
   ∀g z P O I J,hV q g z P O I J S T 0 .none (.bool false)->Ig z P O I J S T->s.heap.objs.size<=z->s.heap.objs.size<=P->s.heap.objs.size<=O->s.heap.objs.size<=I->s.heap.objs.size<=J->(∀c o,s.heap.get? c=some o->g.get? c=some o)->R (.ok (.ret (.ref z))) { s with heap:=g }) :=
 .of_wp λprog w A R s h=>by
  obtain⟨hp,g,d,tk,B⟩:=s;obtain⟨h1,h2,h⟩:=h;have aa:=sub_zip;cases q with
  | false =>
   have q1:Iv (Shared.heap ⟨hp,g,d,tk,B⟩) S xs:=h1
   have Y:Iv (Shared.heap ⟨hp.push { cls:=.type "tuple_iterator",data:=.fields #[.ref S,.int 0 0] },g,d,tk,B⟩) T ys:=Heap.IsTuple.push h2 _
   wp_walk using x3 q1,x3 Y
   obtain⟨za,zb,n4,F,n2,Z,L⟩:=xq (hp:=hp) h1 h2 rfl rfl rfl rfl rfl;exact⟨_,rfl,h _ _ _ _ _ _ za zb (gr (GR _ 4) (GX n4.symm)) (gr (GR _ 2) (GX n2.symm)) (gr (GR _ 3) (GX F.symm)) (i6 _) (gr (GR _ 1) (GX Z.symm)) L⟩
  | true =>
   have q1:Heap.IsList (Shared.heap ⟨hp,g,d,tk,B⟩) S xs:=h1
   have Y:Iv (Shared.heap ⟨hp.push { cls:=.type "list_iterator",data:=.fields #[.ref S,.int 0 0] },g,d,tk,B⟩) T ys:=Heap.IsTuple.push h2 _
   wp_walk using HG q1,x3 Y
   obtain⟨za,zb,n4,F,n2,Z,L⟩:=xq (hp:=hp) h1 h2 rfl rfl rfl rfl rfl;exact⟨_,rfl,h _ _ _ _ _ _ za zb (gr (GR _ 4) (GX n4.symm)) (gr (GR _ 2) (GX n2.symm)) (gr (GR _ 3) (GX F.symm)) (i6 _) (gr (GR _ 1) (GX Z.symm)) L⟩
theorem qY {xs:Array Value} (h1:ZSq q s.heap S xs) (h2:s.heap.IsTuple T ys)
  (k : ∀g z P O I J,hV q g z P O I J S T 0 .none (.bool false)->Ig z P O I J S T->s.heap.objs.size<=z->s.heap.objs.size<=P->s.heap.objs.size<=O->s.heap.objs.size<=I->s.heap.objs.size<=J->(∀c o,s.heap.get? c=some o->g.get? c=some o)->Q (.ref z) { s with heap:=g }) :
  wpAny (model prog w) A (call (.type "zip") [.ref S,.ref T]) Q E s:=by
 refine callType_new F.called_zip ∅ (F.typeCall_zip_2 _ _) (F.newCall_zip_2 _ _) (λobj=>F.args_object_init_3 obj _ _) F.entry_zip_new (AL q S T xs ys) ⟨h1,h2,λg z P O I J Z D L l2 l3 Y l5 B=>?_⟩
 exact⟨⟨_,Z.zz,rfl⟩,k g z P O I J Z D L l2 l3 Y l5 B⟩
theorem eg {P:Addr} (L:s.heap.get? z=some { cls:=.type "zip",dict:=none,data:=.fields #[f0,f1,.bool false,.ref P,.ref O],slots := #[] }) (h:Q (.ref z) s):wpAny (model prog w) A (pyIter (.ref z)) Q E s:=by
 have B:s.TypeIs (.ref z) "zip" :=⟨_,L,rfl⟩
 refine wpAny_pyIter_slot B F.slot_zip_iter (m7 F.slot_zip_iter B F.entry_zip_iter (by
  show wpAny _ _ (ret (.ref z)) _ _ s
  exact ei ⟨_,rfl,"zip",_,B,t5.lookup,h⟩) (F.args_zip_iter_1 _))
theorem yp:Ie (.type "zip") "__len__" = pure none:=by rw[y8,uj];kernel_rfl
theorem wO:Ie (.type "zip") "__length_hint__" = pure none:=by rw[y8,uj];kernel_rfl
def qf (g:Heap) (n0:Nat) (xs ys:Array Value) (ts:List Addr):Prop:=ts.Nodup/\∀(j:Nat) (t:Addr),ts[j]? = some t->∃x y,xs[j]? = some x/\ys[j]? = some y/\IsPair g t x y/\n0<=t
def ZSt (g:Heap) (z P O I J S T:Addr) (i:Nat) (ts:List Addr):Prop:=(ts=[]/\qz g z P O I J S T i .none (.bool false))\/∃B f1,B∈ts/\(f1 = .bool false\/f1 = .bool true)/\qz g z P O I J S T i (x5 B) f1
theorem qf.keep {g g':Heap} {xs:Array Value} {ts:List Addr} (h:qf g n0 xs ys ts) (k : ∀b o,n0<=b->g.get? b=some o->g'.get? b=some o):qf g' n0 xs ys ts:=⟨h.1,λj t e=>by
 obtain⟨x,y,h1,h2,F,B⟩:=h.2 j t e;exact⟨x,y,h1,h2,k _ _ B F,B⟩⟩
theorem qf.snoc {g:Heap} {xs:Array Value} {ts:List Addr} {t:Addr} {x y:Value} (h:qf g n0 xs ys ts) (h1:xs[ts.length]? = some x) (h2:ys[ts.length]? = some y) (L:IsPair g t x y) (B:n0<=t) (hn:t∉ts):qf g n0 xs ys (ts++[t]):=⟨t7.mpr ⟨h.1,by simp,λa ha b F z=>hn (by rw[e7.mp F] at z;rw[<- z];exact ha)⟩,λj u e=>by
 by_cases Y:j < ts.length
 .rw[r_ Y] at e
  exact h.2 j u e
 .have hj':j=ts.length:=by
   have:=g_.mp e
   obtain⟨hl,_⟩:=this;simp at hl
   omega
  subst hj';rw[u_ (i6 _),sub_self] at e;cases e;exact⟨x,y,h1,h2,L,B⟩⟩
theorem vB (hd:A.handled=none) {z P O I J S T L:Addr} {xs ys:Array Value} {n0:Nat} (res:Value) (D:Ig z P O I J S T) (hL:L < n0) (hb : ∀b∈[z,P,O,I,J],b < n0) (ab : ∀b∈[z,P,O,I,J],L≠b) (a0:L≠S) (a1:L≠T) (hn:min xs.size ys.size<=100000) :
  ∀(k:Nat) (s:Shared) (ts:List Addr) (ac:Array Value) (c:Nat),min xs.size ys.size - ts.length=k->ts.length<=min xs.size ys.size->n0<=s.heap.objs.size->ZSt s.heap z P O I J S T ts.length ts->qf s.heap n0 xs ys ts->ac.toList=ts.map h_->s.heap.IsTuple S xs->s.heap.IsTuple T ys ->
  s.heap.get? L=some { cls:=.type "list",dict:=none,data:=.seq ac c,slots := #[] } ->
  (∀g ai ag c',(∀b o,b≠L->b∉[z,P,O,I,J]->b < n0->s.heap.get? b=some o->g.get? b=some o)->qf g n0 xs ys ai->ai.length=min xs.size ys.size->ag.toList=ai.map h_->g.get? L=some { cls:=.type "list",dict:=none,data:=.seq ag c',slots := #[] }->R (.ok (.ret res)) { s with heap:=g }) ->
  HM (model prog w) A (.builtin "list.extend.loop" ⟨[.ref L,.ref z,res],[]⟩) R s:=by
 intro k
 induction k with
 | zero =>
  intro s ts ac c hk ax hsz ap aa af hS hT hl hR;have ay:ts.length=min xs.size ys.size:=()
  have ao:xs[ts.length]? = none\/ys[ts.length]? = none:=by
   rcases Nat.le_total xs.size ys.size with h | h
   .exact .inl (Hy ())
   .exact .inr (Hy ())
  refine codeAny_builtin F.entry_extend_loop ?_
  rw[Around.under_plainId Hh _]
  show wpAny _ A.in1 (Hr (.ref z) >>= _) _ _ s
  refine a_ ?_
  have ad : ∀g,(∀c o,c≠z->c≠O->c≠I->c≠J->s.heap.get? c=some o->g.get? c=some o)->R (.ok (.ret res)) { s with heap:=g }:=λg kg=>by
   refine hR g ts ac c (λb o b1 b2 b3 e=>?_) (aa.keep λb o B e=>?_) ay af ?_
   .simp only[i4,m8,or_false,not_or] at b2
    exact kg b o b2.1 b2.2.2.1 b2.2.2.2.1 b2.2.2.2.2 e
   .exact kg b o (o_ (g7 (hb z (by simp)) B)) (o_ (g7 (hb O (by simp)) B)) (o_ (g7 (hb I (by simp)) B)) (o_ (g7 (hb J (by simp)) B)) e
   .exact kg L _ (ab z (by simp)) (ab O (by simp)) (ab I (by simp)) (ab J (by simp)) hl
  rcases ap with⟨ht,Z⟩ | ⟨t0,f1,ht0,aj,Z⟩
  .have Y:s.TypeIs (.ref z) "zip" :=⟨_,Z.zz,rfl⟩
   unfold Hr;refine a_ (GM (m3 (name:=b_ "__next__") Y t5 (m7 t5 Y Hf (Ak hd D Z hS hT ao λg e kg he=>?_) (G4 _))))
   obtain⟨o,ho,aq⟩:=he;refine a_ (Hd (T := "StopIteration") (b:=true) ⟨o,ho,aq⟩ isSubtype_stop ?_)
   exact ei (ei (ad g kg))
  .obtain⟨j0,ak⟩:=List.getElem?_of_mem ht0
   obtain⟨_,_,_,_,am,_⟩:=aa.2 j0 t0 ak;have Y:s.TypeIs (.ref z) "zip" :=⟨_,Z.zz,rfl⟩
   unfold Hr;refine a_ (GM (m3 (name:=b_ "__next__") Y t5 (m7 t5 Y Hf (Bl hd D Z am aj hS hT ao λg e kg he=>?_) (G4 _))))
   obtain⟨o,ho,aq⟩:=he;refine a_ (Hd (T := "StopIteration") (b:=true) ⟨o,ho,aq⟩ isSubtype_stop ?_)
   exact ei (ei (ad g kg))
 | succ k ih =>
  intro s ts ac c hk ax hsz ap aa af hS hT hl hR;have az:ts.length < min xs.size ys.size:=()
  have hx:xs[ts.length]? = some (xs[ts.length]'()):=G6 ()
  have hy:ys[ts.length]? = some (ys[ts.length]'()):=G6 ()
  generalize xs[ts.length]'()=x at hx
  generalize ys[ts.length]'()=y at hy
  have an:ac.size=ts.length:=by rw[<- y4,af,c_]
  refine codeAny_builtin F.entry_extend_loop ?_
  rw[Around.under_plainId Hh _]
  show wpAny _ A.in1 (Hr (.ref z) >>= _) _ _ s
  refine a_ ?_
  have ad : ∀g t0 f1,(t0∈ts++[s.heap.objs.size])->(f1 = .bool false\/f1 = .bool true)->qz g z P O I J S T (ts.length+1) (x5 t0) f1->IsPair g s.heap.objs.size x y->g.objs.size=s.heap.objs.size+1 ->
    (∀c o,c≠z->c≠O->c≠I->c≠J->s.heap.get? c=some o->g.get? c=some o) ->
    wpAny (model prog w) A.in1 (updateSeq L (·.push (.ref s.heap.objs.size)) >>= λ_=>again (.builtin "list.extend.loop" ⟨[.ref L,.ref z,res],[]⟩))
     (λad s'=>match ad with | .done f=>R (.ok f) s' | .again c'=>c'.quiet=true/\HM (model prog w) A c' R s') (λe s'=>R (.error e) s') { s with heap:=g }:=λg t0 f1 h0 aj Z1 hp hg kg=>by
   have ar:=kg L _ (ab z (by simp)) (ab O (by simp)) (ab I (by simp)) (ab J (by simp)) hl
   have S1:g.IsTuple S xs:=hS.at λo e=>kg S o D.l1z D.l1TO D.l1i1 D.l1i2 e
   have T1:g.IsTuple T ys:=hT.at λo e=>kg T o D.l2z D.l2TO D.l2i1 D.l2i2 e
   have ah : ∀b o,b≠L->g.get? b=some o->(g.update L (n_ (·.push (.ref s.heap.objs.size)))).get? b=some o:=λb o B e=>(y_ _ _ (tj B)).trans e
   have au:s.heap.objs.size∉ts:=λhm=>by
    obtain⟨j0,ak⟩:=List.getElem?_of_mem hm;obtain⟨_,_,_,_,am,_⟩:=aa.2 j0 _ ak;exact absurd (e8 am) (o7 _)
   refine a_ (Io ar rfl (ei ⟨plainId_quiet Hh _,ih _ (ts++[s.heap.objs.size]) (ac.push (.ref s.heap.objs.size)) _ (by simp;omega) (by simp;omega) ?_ (.inr ⟨t0,f1,h0,aj,?_⟩) ?_ (by simp[af]) ?_ ?_ (C_ _ ar rfl) λg' ai ag c' k' o' l' a' a2=>?_⟩) (by rw[an];exact gr (GY az) (gr hn ∅)) (by show(ac.push _).size<=g9+1;rw[Array.size_push,an];exact gr (show ts.length+1<=100001 by omega) ∅))
   .show n0<=(g.update L _).objs.size
    rw[GN,hg];omega
   .rw[u9]
    exact Z1.keep λb B o e=>ah b o (tj (ab b B)) e
   .refine(qf.snoc (aa.keep (g':=g) λb o B e=>kg b o (o_ (g7 (hb z (by simp)) B)) (o_ (g7 (hb O (by simp)) B)) (o_ (g7 (hb I (by simp)) B)) (o_ (g7 (hb J (by simp)) B)) e) hx hy hp hsz au).keep λb o B e=>ah b o (o_ (g7 hL B)) e
   .exact S1.at λo e=>ah S o (tj a0) e
   .exact T1.at λo e=>ah T o (tj a1) e
   .refine hR g' ai ag c' (λb o b1 b2 b3 e=>?_) o' l' a' a2
    refine k' b o b1 b2 b3 (ah b o b1 ?_)
    simp only[i4,m8,or_false,not_or] at b2;exact kg b o b2.1 b2.2.2.1 b2.2.2.2.1 b2.2.2.2.2 e
  rcases ap with⟨ht,Z⟩ | ⟨t0,f1,ht0,aj,Z⟩
  .have Y:s.TypeIs (.ref z) "zip" :=⟨_,Z.zz,rfl⟩
   unfold Hr;refine a_ (GM (m3 (name:=b_ "__next__") Y t5 (m7 t5 Y Hf (xp D Z hS hT hx hy λg Z1 hp hg kg=>ei ?_) (G4 _))))
   exact ad g _ _ (by simp) (.inl rfl) Z1 hp hg kg
  .obtain⟨j0,ak⟩:=List.getElem?_of_mem ht0
   obtain⟨_,_,_,_,am,_⟩:=aa.2 j0 t0 ak;have Y:s.TypeIs (.ref z) "zip" :=⟨_,Z.zz,rfl⟩
   unfold Hr;refine a_ (GM (m3 (name:=b_ "__next__") Y t5 (m7 t5 Y Hf (CM D Z am aj hS hT hx hy λg Z1 hp hg kg=>ei ?_) (G4 _))))
   exact ad g _ _ (by simp[ht0]) (.inr rfl) Z1 hp hg kg
theorem zF (hd:A.handled=none) {z P O I J S T:Addr} {xs ys:Array Value} (D:Ig z P O I J S T) (Z:qz s.heap z P O I J S T 0 .none (.bool false)) (hS:s.heap.IsTuple S xs) (hT:s.heap.IsTuple T ys) (hn:min xs.size ys.size<=100000)
  (k : ∀g ts L c,(∀b o,b∉[z,P,O,I,J]->s.heap.get? b=some o->g.get? b=some o)->qf g (s.heap.objs.size+1) xs ys ts->ts.length=min xs.size ys.size->L.toList=ts.map h_ ->
   g.get? s.heap.objs.size=some { cls:=.type "list",dict:=none,data:=.seq L c,slots := #[] }->Q (.ref s.heap.objs.size) { s with heap:=g }) :
  wpAny (model prog w) A (call (.type "list") [.ref z]) Q E s:=by
 refine callType_codes (Q₁:=λobj s₁=>obj = .ref s.heap.objs.size/\s₁={ s with heap:=s.heap.push { cls:=.type "list",data:=.seq #[] } }) F.called_list (F.typeCall_list_1 _) F.entry_list_init (code_list_new _ ⟨rfl,rfl⟩) λobj s₁ af=>?_
 obtain⟨rfl,rfl⟩:=af;have up : ∀b o,s.heap.get? b=some o->(s.heap.push { cls:=.type "list",data:=.seq #[] }).get? b=some o:=λb o e=>d_ _ e
 have l0:(s.heap.push { cls:=.type "list",data:=.seq #[] }).get? s.heap.objs.size=some { cls:=.type "list",data:=.seq #[] }:=f_ _ rfl
 have lt : ∀b∈[z,P,O,I,J],b < s.heap.objs.size:=λb B=>by
  obtain⟨u,v,oo⟩:=Z.oo;obtain⟨oi,i1,_⟩:=Z.ii;obtain⟨oj,j1,_⟩:=Z.jj;simp only[i4,m8,or_false] at B;rcases B with rfl | rfl | rfl | rfl | rfl
  .exact e8 Z.zz
  .exact e8 Z.pp
  .exact e8 oo
  .exact e8 i1
  .exact e8 j1
 have ad:S < s.heap.objs.size:=by obtain⟨o,e,_⟩:=hS;exact e8 e
 have ab:T < s.heap.objs.size:=by obtain⟨o,e,_⟩:=hT;exact e8 e
 refine⟨⟨_,l0,rfl⟩,F.args_list_init_2 _ _,?_⟩
 change wpAny _ _ (do let ah <- Hx (.ref s.heap.objs.size);Builtin.List.listUpdate (.ref s.heap.objs.size) (λ_ => #[]);letGo ah.toList.reverse;u5 (.ref s.heap.objs.size) (.ref z) .none) _ _ _
 refine a_ (by
  unfold Hx;refine a_ (w9 l0 rfl (ei ?_))
  change wpAny _ _ (updateSeq s.heap.objs.size (λ_ => #[]) >>= λ_=>letGo (#[]:Array Value).toList.reverse >>= λ_=>u5 (.ref s.heap.objs.size) (.ref z) .none) _ _ _
  refine a_ (Io l0 rfl ?_)
  have l1:=C_ (n_ (λ_=>(#[]:Array Value))) l0 rfl
  generalize ac:(s.heap.push { cls:=.type "list",data:=.seq #[] }).update s.heap.objs.size (n_ (λ_=>(#[]:Array Value)))=g1 at l1 ⊢
  have n1:g1.objs.size=s.heap.objs.size+1:=by rw[<- ac,GN,m9]
  have o1 : ∀b o,b < s.heap.objs.size->s.heap.get? b=some o->g1.get? b=some o:=λb o B e=>by rw[<- ac];exact(y_ _ _ (o_ B)).trans (up b o e)
  refine a_ (wpAny_letGo ?_)
  unfold u5;have Z1:qz g1 z P O I J S T 0 .none (.bool false):=Z.keep λb B o e=>o1 b o (lt b B) e
  have aa:({ s with heap:=g1 }:Shared).TypeIs (.ref z) "zip" :=⟨_,Z1.zz,rfl⟩
  refine a_ (wpAny_typeOf aa ?_)
  have q1:Hc (.ref s.heap.objs.size) (.ref z)=false:=by simp[Hc,o_ (lt z (by simp))]
  have q2:(GP "zip" == GP "list")=false:=∅
  have q3:(GP "zip" == GP "tuple")=false:=∅
  simp only[q1,q2,q3,Bool.or_false,gt,if_false];refine a_ (eg Z1.zz ?_)
  refine a_ (t4 ?_)
  unfold Builtin.List.listLengthHint;refine a_ (x_ aa yp ?_)
  change wpAny _ _ (specialOf (h_ z) (b_ "__length_hint__") >>= _) _ _ _;refine a_ (x_ aa wO (ei ?_))
  change wpAny _ _ (rule "list.extend.makes-room" >>= λ_=>(updateSeq s.heap.objs.size (·.push .none) >>= λ_=>updateSeq s.heap.objs.size (·.pop)) >>= λ_=>again (.builtin "list.extend.loop" ⟨[.ref s.heap.objs.size,.ref z,.none],[]⟩)) _ _ _
  refine a_ (wpAny_rule (a_ (a_ (Io l1 rfl ?_))))
  have l2:=C_ (n_ (·.push p9)) l1 rfl;refine Io l2 rfl ?_
  have l3:=C_ (n_ (·.pop)) l2 rfl;generalize ag:(g1.update s.heap.objs.size (n_ (·.push p9))).update s.heap.objs.size (n_ (·.pop))=g3 at l3 ⊢;have n3:g3.objs.size=s.heap.objs.size+1:=by rw[<- ag,GN,GN,n1]
  have o3 : ∀b o,b < s.heap.objs.size->s.heap.get? b=some o->g3.get? b=some o:=λb o B e=>by rw[<- ag];exact(y_ _ _ (o_ B)).trans ((y_ _ _ (o_ B)).trans (o1 b o B e))
  refine ei ⟨plainId_quiet Hh _,vB (A:=A.in1) hd (n0:=s.heap.objs.size+1) .none D (GS _) (λb B=>GK (lt b B)) (λb B=>o_ (lt b B)) (o_ ad) (o_ ab) hn _ { s with heap:=g3 } [] #[] _ rfl (x6 _) (by show _<=g3.objs.size;rw[n3];exact i6 _) (.inl ⟨rfl,Z.keep λb B o e=>o3 b o (lt b B) e⟩) ⟨List.nodup_nil,λj t e=>by simp at e⟩ rfl (hS.at λo e=>o3 S o ad e) (hT.at λo e=>o3 T o ab e) l3 λg ts L c kg hz hl ha hL=>⟨rfl,k g ts L c (λb o B e=>?_) hz hl ha hL⟩⟩
  have Y:=e8 e;exact kg b o (k7 Y) B (GK Y) (o3 b o Y e))
end PySem
namespace L2
open PySem PySem.Spec PyProof.Rows
theorem Inv.turnedL {g:Heap} (I:Inv X pins σ H s) (k : ∀b o,b∉fp->s.heap.get? b=some o->g.get? b=some o) (F : ∀b∈fp,oM X pins H b):Inv X pins σ H { s with heap:=g,toks:=t' }:=by
 have L : ∀b u,H b=some u->b∉fp:=λb u e z=>by rw[(F b z).1] at e;cases e
 refine I.step (g':=s.gens) (d':=s.drawn) (ch:=fp) (λb Y=>⟨(F b Y).2.2.2.1,(F b Y).2.1,(F b Y).2.2.2.2.1,(F b Y).2.2.2.2.2⟩) (λb o _ _ B e _=>k b o B e) (λb o _ _ B e _=>⟨o.slots,k b o B e⟩) (λ_ _ _ _ n=>n)
  (λb o B e=>⟨o,k b o B e⟩) (λ_ _ e=>e) (λ_ _ _ e=>e) (λb ps e=>⟨#[],by rw[e];simp⟩) (λm Z=>?_) (λb u e=>?_) I.bare
 .obtain⟨o,es,ep,ho,r⟩:=Z
  exact⟨o,es,ep,k _ o (λz=>(F _ z).2.1 rfl) ho,r⟩
 .refine(I.hok b u e).stay (λc v B q=>k c v ?_ q) (λ_ q=>q) λ_ _ q=>q
  rcases B with z | z
  .rw[z];exact L b u e
  .exact L c _ z
theorem Inv.turnedNew {g:Heap} (I:Inv X pins σ H s) (k : ∀b o,b∉fp->s.heap.get? b=some o->g.get? b=some o) (Y : ∀b∈fp,oM X pins H b) (ha:s.heap.objs.size<=a)
  (ok:bF X.prog X.w (upd H a u0) g a u0):Inv X pins σ (upd H a u0) { s with heap:=g,toks:=t' }:=by
 have Z : ∀b u,H b=some u->b∉fp:=λb u e z=>by rw[(Y b z).1] at e;cases e
 have na : ∀b o,s.heap.get? b=some o->b≠a:=λb o e z=>by rw[z] at e;exact absurd (g7 (e8 e) ha) (o7 _)
 have hn:H a=none:=I.hok.fresh ha
 have L : ∀b u,H b=some u->b≠a:=λb u e z=>by rw[z,hn] at e;cases e
 refine I.step (g':=s.gens) (d':=s.drawn) (ch:=fp) (λb B=>⟨(Y b B).2.2.2.1,(Y b B).2.1,(Y b B).2.2.2.2.1,(Y b B).2.2.2.2.2⟩) (λb o _ _ F e _=>k b o F e) (λb o _ _ F e _=>⟨o.slots,k b o F e⟩) (λb o _ e n=>by rw[ah (na b o e)];exact n)
  (λb o F e=>⟨o,k b o F e⟩) (λb xs e=>by rw[ah (L b _ e)];exact e) (λb o u e=>by rw[ah (L b _ e)];exact e) (λb ps e=>⟨#[],by rw[ah (L b _ e),e];simp⟩) (λm hm=>?_) (λb u e=>?_) I.bare
 .obtain⟨o,es,ep,ho,r⟩:=hm
  exact⟨o,es,ep,k _ o (λz=>(Y _ z).2.1 rfl) ho,r⟩
 .by_cases B:b=a
  .subst B
   rw[ae] at e;cases e;exact ok
  .rw[ah B] at e
   refine(I.hok b u e).stay (λc v F q=>k c v ?_ q) (λc q=>by rw[ah (L c _ q)];exact q) (λc xs q=>by rw[ah (L c _ q)];exact q) λc _ _ q=>by rw[ah (L c _ q)];exact q
   rcases F with z | z
   .rw[z];exact Z b u e
   .exact Z c _ z
def SqQ:Bool->e_->Hp->Addr->List V->Prop
 | false=>SqT
 | true=>SqL
theorem Inv.sq (I:Inv X pins σ H s) (h:SqQ q X.K H a xs) : ∃its:List Value,be xs its/\ZSq q s.heap a its.toArray/\xs.length<=g9:=by
 cases q with
 | false=>exact I.tuple h
 | true =>
  obtain⟨its,h1,h2,B⟩:=I.list h;exact⟨its,h1,h2.isList,B⟩
theorem Inv.sq_inj {ys:List V} (I:Inv X pins σ H s) (h:SqQ q X.K H a xs) (h':SqQ q X.K H a ys):xs=ys:=by
 cases q with
 | false=>exact I.tuple_inj h h'
 | true=>exact I.list_inj h h'
def Ec (q:Bool) (K:e_) (a b:Addr):It :=
  ⟨λi H=>∃xs ys x y,SqQ q K H a xs/\SqT K H b ys/\xs[i]? = some x/\ys[i]? = some y,
   λi H v H'=>∃t x y,H t=none/\v = .ref t/\H'=upd H t (.tup [x,y])/\(∀xs,SqQ q K H a xs->xs[i]? = some x)/\(∀ys,SqT K H b ys->ys[i]? = some y),
   λi H=>∃xs ys,SqQ q K H a xs/\SqT K H b ys/\(xs[i]? = none\/ys[i]? = none)⟩
abbrev Itz:=Ec false
theorem rH (h:be xs us) (e:xs[i]? = none):us[i]? = none:=by
 have:=h.length
 rw[D_] at e ⊢;omega
theorem zA {x1} {pos:Pos} (a b z Q O I J:Addr) (D:Ig z Q O I J a b) :
  rR P w K (.Tuple es x1 pos) (Ec q K a b) [z,Q,O,I,J] z (λi h=>hV q h z Q O I J a b i .none (.bool false)) where
 mem:=by simp
 obj:=λi h st c B=>by
  obtain⟨u,v,oo⟩:=st.oo;obtain⟨oi,i1,i3⟩:=st.ii.ex;obtain⟨oj,j1,j2,j3⟩:=st.jj;simp only[i4,m8,or_false] at B;rcases B with rfl | rfl | rfl | rfl | rfl
  .exact⟨_,st.zz,λv z=>by cases z⟩
  .exact⟨_,st.pp,λv z=>by cases z⟩
  .exact⟨_,oo,λv z=>by cases z⟩
  .exact⟨oi,i1,λv z=>by rw[i3] at z;cases z⟩
  .exact⟨oj,j1,λv z=>by rw[j3] at z;cases z⟩
 keep:=λi h h' st k=>st.keep k
 item:=by
  intro X hP hw hK B i pins s σ H E L hf st hg;subst hP hw hK;obtain⟨xs,ys,x,y,hq,Z,hx,hy⟩:=hg;obtain⟨its,rv,p,hz⟩:=L.sq hq;obtain⟨Y,aa,p2,ad⟩:=L.tuple Z;obtain⟨u,hu,ru⟩:=rv.get hx;obtain⟨u2,ag,ai⟩:=aa.get hy;have hT:s.TypeIs (.ref z) "zip" :=⟨_,st.zz,rfl⟩
  unfold Hr;refine a_ (GM (m3 (name:=b_ "__next__") hT t5 (m7 t5 hT Hf (xp D st p (show s.heap.IsTuple b Y.toArray from p2) (x:=u) (y:=u2) (by simpa using hu) (by simpa using ag) λg Z1 t1 n1 k1=>ei ⟨_,rfl,?_⟩) (G4 _))))
  have ac:H s.heap.objs.size=none:=L.hok.fresh (i6 _)
  refine wpAny_letOwnedTupleGo_zip (s:={ s with heap:=g }) Z1.zz λg2 z2 s2=>?_
  have nn : ∀c∈[z,Q,O,I,J],c≠s.heap.objs.size:=λc B e=>by
   obtain⟨u',v',oo⟩:=st.oo;obtain⟨oi,i1,_⟩:=st.ii.ex;obtain⟨oj,j1,_⟩:=st.jj;simp only[i4,m8,or_false] at B;rcases B with rfl | rfl | rfl | rfl | rfl
   .exact absurd (e8 st.zz) (by rw[e];exact o7 _)
   .exact absurd (e8 st.pp) (by rw[e];exact o7 _)
   .exact absurd (e8 oo) (by rw[e];exact o7 _)
   .exact absurd (e8 i1) (by rw[e];exact o7 _)
   .exact absurd (e8 j1) (by rw[e];exact o7 _)
  have Z2:hV q g2 z Q O I J a b (i+1) .none (.bool false):=by
   obtain⟨u',v',oo⟩:=Z1.oo;exact⟨z2,s2.extBut _ _ D.TIz Z1.pp,⟨u',v',s2.extBut _ _ D.TOz oo⟩,Z1.ii.extBut s2.extBut D.i1z,Z1.jj.extBut s2.extBut D.i2z⟩
  have I2:Inv X pins σ (upd H s.heap.objs.size (.tup [x,y])) { s with heap:=g2 }:=L.turnedNew (t':=s.toks) (fp:=[z,Q,O,I,J]) (λc o B e=>by
    simp only[i4,m8,or_false,not_or] at B;exact s2.extBut _ _ B.1 (k1 c o B.1 B.2.2.1 B.2.2.2.1 B.2.2.2.2 e)) hf (i6 _)
   ⟨by show 2<=g9;decide,[u,u2],.cons ru (.cons ai .nil),⟨_,s2.extBut _ _ (nn z (by simp)).symm t1,rfl,_,rfl⟩⟩
  exact⟨.ref s.heap.objs.size,_,I2,rfl,⟨_,x,y,ac,rfl,rfl,λzs ab=>by rw[L.sq_inj ab hq];exact hx,λzs ab=>by rw[L.tuple_inj ab Z];exact hy⟩,Z2,λc B=>by rw[ah (nn c B)];exact(hf c B).1⟩
 done:=by
  intro X hP hw hK B i pins s σ H E L hf st hg;subst hP hw hK;obtain⟨xs,ys,hq,Z,hx⟩:=hg;obtain⟨its,rv,p,hz⟩:=L.sq hq;obtain⟨Y,aa,p2,ad⟩:=L.tuple Z;have hT:s.TypeIs (.ref z) "zip" :=⟨_,st.zz,rfl⟩
  unfold Hr;refine a_ (GM (m3 (name:=b_ "__next__") hT t5 (m7 t5 hT Hf (Ak (L.ok.hd B) D st p (show s.heap.IsTuple b Y.toArray from p2) (hx.imp (λe=>by simpa using rH rv e) λe=>by simpa using rH aa e) λg e kg he=>?_) (G4 _))))
  obtain⟨o,ho,af⟩:=he;refine a_ (Hd (T := "StopIteration") (b:=true) ⟨o,ho,af⟩ isSubtype_stop ?_)
  exact ei ⟨rfl,L.turnedL (t':=s.toks) (fp:=[z,Q,O,I,J]) (λc o B e=>by
    simp only[i4,m8,or_false,not_or] at B;exact kg c o B.1 B.2.2.1 B.2.2.2.1 B.2.2.2.2 e) hf⟩
 self:=λ_ _ _ _ _ st h=>eg st.zz h
theorem Inv.grown {g:Heap} (I:Inv X pins σ H s) (k : ∀b o,s.heap.get? b=some o->g.get? b=some o) (B : ∀b,b < s.heap.objs.size->H' b=H b)
  (new : ∀b u,s.heap.objs.size<=b->H' b=some u->bF X.prog X.w H' g b u):Inv X pins σ H' { s with heap:=g,toks:=t' }:=by
 have lt : ∀b u,H b=some u->b < s.heap.objs.size:=λb u e=>(I.hok b u e).lt
 have F : ∀b u,H b=some u->H' b=some u:=λb u e=>(B b (lt b u e)).trans e
 refine I.step (g':=s.gens) (d':=s.drawn) (ch:=[]) (λ_ z=>nomatch z) (λb o _ _ _ e _=>k b o e) (λb o _ _ _ e _=>⟨o.slots,k b o e⟩) (λb o _ e n=>by rw[B b (e8 e)];exact n)
  (λb o _ e=>⟨o,k b o e⟩) (λb xs e=>F b _ e) (λb o u e=>F b _ e) (λb ps e=>⟨#[],by rw[F b _ e];simp⟩) (λm L=>?_) (λb u e=>?_) I.bare
 .obtain⟨o,es,ep,ho,r⟩:=L
  exact⟨o,es,ep,k _ o ho,r⟩
 .by_cases hb:b < s.heap.objs.size
  .rw[B b hb] at e
   exact(I.hok b u e).stay (λc v _ q=>k c v q) (λc q=>F c _ q) (λc xs q=>F c _ q) λc _ _ q=>F c _ q
  .exact new b u (Nat.le_of_not_lt hb) e
def iZG (q:Bool) (Pr:Hp->Addr->List V->Prop) (K:e_) (ta:TA):TI:=λσ H R=>ta σ H λvs H1=>∃a b,vs=[.ref a,.ref b]/\∃xs,Pr H1 a xs/\∃ys,H1 b>>ys/\R (Ec q K a b) H1
def iZ (K:e_) (ta:TA):TI:=λσ H R=>ta σ H λvs H1=>∃a b,vs=[.ref a,.ref b]/\∃xs,H1 a>>xs/\∃ys,H1 b>>ys/\R (Itz K a b) H1
section
variable {e2:Expr} {ta:TA} {p pos2:Pos} {x1:Nat}
theorem qX:y2 "zip" = some (.type "zip"):=by decide+kernel
theorem Cb {x1} {q:Bool} {Pr:Hp->Addr->List V->Prop} (ac : ∀H a xs,Pr H a xs->SqQ q K H a xs) (hK:X.K=K) (hg:Gl X "zip") (hm:X.mg "zip" = none) (ha:PA X [e1,e2] ta) (hs:j8 [e1,e2] X.env=[(false,eval e1 X.env),(false,eval e2 X.env)]:=by rfl) (B:j8 [e2] X.env=[(false,eval e2 X.env)]:=by rfl) :
  PI X (.Tuple es x1 pos') (.Call (.Name "zip" p) [e1,e2] [] pos) (iZG q Pr K ta):=by
 subst hK;intro pins s σ H R I h;refine Call_ (fZ I hg hm qX (n6 (thn (ha pos pins s σ H _ I h) λus Y ⟨vs,H1,I1,r1,q1⟩=>?_) (by rw[hs,B]) (by rw[B];rfl)))
 obtain⟨a,b,e,xs,ab,ys,L,q⟩:=q1;subst e;obtain⟨u,u2,rfl,ru,ad⟩:=tL r1;cases ru;cases ad;obtain⟨its,rv,pl,hz⟩:=I1.sq (ac _ _ _ ab);obtain⟨F,ag,aa,af⟩:=I1.tuple (SqT.of L);refine qY pl (show Y.heap.IsTuple b F.toArray from aa) λg z P O II J Z D l1 l2 l3 l4 l5 kg=>?_
 refine eg (s:={ Y with heap:=g }) Z.zz ⟨z,[z,P,O,II,J],_,_,H1,rfl,I1.kept (t':=Y.toks) kg,zA a b z P O II J D,Z,λc hc=>?_,q⟩
 simp only[i4,m8,or_false] at hc;rcases hc with rfl | rfl | rfl | rfl | rfl
 .exact I1.fpOk l1 (I1.hok.fresh l1)
 .exact I1.fpOk l2 (I1.hok.fresh l2)
 .exact I1.fpOk l3 (I1.hok.fresh l3)
 .exact I1.fpOk l4 (I1.hok.fresh l4)
 .exact I1.fpOk l5 (I1.hok.fresh l5)
theorem Eh {x1} (hK:X.K=K) (Y:Gl X "zip") (F:X.mg "zip" = none) (ha:PA X [e1,e2] ta) (L:j8 [e1,e2] X.env=[(false,eval e1 X.env),(false,eval e2 X.env)]:=by rfl) (B:j8 [e2] X.env=[(false,eval e2 X.env)]:=by rfl) :
  PI X (.Tuple es x1 pos') (.Call (.Name "zip" p) [e1,e2] [] pos) (iZ K ta):=Cb (q:=false) (Pr:=λH a xs=>H a>>xs) (λ_ _ _ h=>SqT.of h) hK Y F ha L B
theorem BG {g:TG} {Q:VK} {D:Addr} (B:Nat->List V->Hp->Prop) (h0:B 0 [] (upd H1 D (.lst []))) (hl : ∀i ys H,B i ys H->SqT K H a xs/\SqT K H b zs)
  (hs : ∀(i:Nat) (x y:V) (ys:List V) (H:Hp) (t:Addr),xs[i]? = some x->zs[i]? = some y->B i ys H->H t=none->g (.ref t) σ0 (upd H t (.tup [x,y])) λL H3=>tc L H3 λc H4=>if c=true then te L H4 λv H5=>H5 D*>ys/\ys.length < g9/\B (i+1) (ys++[v]) (upd H5 D (.lst (ys++[v]))) else B (i+1) ys H4)
  (hd : ∀ys H,B (min xs.length zs.length) ys H->Q (.ref D) H):nL (Itz K a b) σ0 g tc te Q H1 D:=by
 refine⟨λi m ys H=>B i ys H/\i<=min xs.length zs.length/\m=min xs.length zs.length - i,⟨_,h0,x6 _,rfl⟩,?_⟩
 rintro i m ys H ⟨hp,hi,rfl⟩
 obtain⟨sa,Y⟩:=hl i ys H hp
 by_cases Z:i=min xs.length zs.length
 .left
  subst Z;refine⟨⟨xs,zs,sa,Y,?_⟩,hd ys H hp⟩
  rcases Nat.le_total xs.length zs.length with h | h
  .exact .inl (D_.mpr ())
  .exact .inr (D_.mpr ())
 .right
  have h1:i < xs.length:=()
  have h2:i < zs.length:=()
  refine⟨⟨xs,zs,xs[i],zs[i],sa,Y,by simp[h1],by simp[h2]⟩,λF H'=>B (i+1) F H',λF H' h=>⟨_,(),h,(),rfl⟩,?_⟩
  rintro v H' ⟨t,x,y,ht,rfl,rfl,e1,e2⟩
  exact hs i x y ys H t (e1 xs sa) (e2 zs Y) hp ht
theorem kF (hi:i < nt:=by decide) (Y:j < nt:=by decide) (B:i≠j:=by decide):zw (uG n (pE (fI i) (pE (fI j) zS))) nt:=by
 intro x σ0 H Q h q;obtain⟨a,e,xs,sq,l,v,r,e2,v',r',L,F,q⟩:=q;refine⟨a,e,xs,sq,l,v,r,e2,v',r',L,F,(Wk.set (h i hi)).trans (Wk.set ?_),q⟩
 rw[Ia B];exact h j Y
theorem xW {B:St} {Q:VK} {D:Addr} (f:V->V->V) (L:H1 D=none) (ha:H1 a>>xs) (hb:H1 b>>zs) (hn:xs.length<=10000)
  (he : ∀(x y:V) (H2:Hp) (Y:VK),x∈xs->y∈zs->aw H1 H2->(∀Z,aw H2 Z->Y (f x y) Z)->te (some x :: some y :: B) H2 Y)
  (hd : ∀H2,aw H1 H2->H2 D*>(zipWith f xs zs)->Q (.ref D) H2):nL (Itz K a b) (none :: none :: B) (uG 2 (pE (fI 0) (pE (fI 1) zS))) um te Q H1 D:=by
 refine BG (xs:=xs) (zs:=zs) (λi ys H=>ys=zipWith f (xs.take i) (zs.take i)/\aw H1 H/\H D*>ys) ⟨by simp,aw.upd0 L,ae⟩ (λi ys H h=>⟨.of (h.2.1 _ _ ha),.of (h.2.1 _ _ hb)⟩) ?_ ?_
 .rintro i x y ys H t hx hy ⟨rfl,sm,hd'⟩ ht
  have st:aw H (upd H t (.tup [x,y])):=aw.upd0 ht
  refine⟨t,rfl,[x,y],ae,rfl,x,[y],rfl,y,[],rfl,rfl,?_⟩
  simp only[um,if_true];refine he x y _ _ (fy hx) (fy hy) (sm.trans st) λH4 F=>⟨F _ _ (st _ _ hd'),?_,?_,λc o e=>?_,ae⟩
  .refine o9 (gr ?_ hn) ∅
   rw[List.length_zipWith,G7];omega
  .have e1:xs.take (i+1)=xs.take i++[x]:=by rw[j_,hx];rfl
   have e2:zs.take (i+1)=zs.take i++[y]:=by rw[j_,hy];rfl
   have h1:i < xs.length:=(g_.mp hx).1
   have h2:i < zs.length:=(g_.mp hy).1
   rw[e1,e2,List.zipWith_append (by simp;omega)]
   rfl
  .rw[ah (au e L)];exact F _ _ (st _ _ (sm c o e))
 .rintro ys H ⟨rfl,sm,hd'⟩
  refine hd H sm ?_
  rw[hd']
  congr 2
  have:zipWith f xs zs=zipWith f (xs.take (min xs.length zs.length)) (zs.take (min xs.length zs.length)):=by
   rw[<- List.take_zipWith,pb (by rw[List.length_zipWith];exact i6 _)]
  exact this.symm
def Bv (H:Hp) (ts:List Addr) (xs ys:List V):Prop:=ts.length=min xs.length ys.length/\∀(j:Nat) (t:Addr) (x y:V),ts[j]? = some t->xs[j]? = some x->ys[j]? = some y->H t>>[x,y]
def pH (ta:TA):TE:=λσ H Q=>ta σ H λvs H1=>∃a b,vs=[.ref a,.ref b]/\∃xs,H1 a>>xs/\∃ys,H1 b>>ys/\xs.length<=10000/\∀(l:Addr) (ts:List Addr) (H':Hp),aw H1 H'->H1 l=none->H' l*>(ts.map V.ref)->Bv H' ts xs ys->Q (.ref l) H'
theorem rj : ∀(ts:List Addr),be (ts.map V.ref) (ts.map h_)
 | []=>.nil
 | t :: ts=>.cons rfl (rj ts)
theorem zt {α:Type} [BEq α] [LawfulBEq α] : ∀{l:List α} {j:Nat} (_:l.Nodup) (h:j < l.length),l.idxOf? l[j]=some j
 | [],j,_,h=>absurd h (by simp)
 | x :: l,0,_,_=>by simp[idxOf?_cons]
 | x :: l,j+1,hn,h=>by
  rw[md] at hn;have F:j < l.length:=by simpa using h
  have B : ¬ ((x == l[j])=true):=λe=>hn.1 (by rw[eq_of_beq e];exact He F)
  rw[List.getElem_cons_succ,idxOf?_cons,if_neg B,zt hn.2 F];rfl
theorem CC  [BEq α] [LawfulBEq α] {l:List α} {x:α} {j:Nat} (h:l.idxOf? x=some j) : ∃Y:j < l.length,l[j]=x:=by
 induction l generalizing j with
 | nil=>simp at h
 | cons y l F =>
  rw[idxOf?_cons] at h
  split at h
  .rename_i e
   cases h;exact⟨by simp,by simpa using e⟩
  .cases e2:l.idxOf? x with
   | none=>rw[e2] at h;cases h
   | some k =>
    rw[e2] at h;cases h;obtain⟨L,B⟩:=F e2;exact⟨by simpa using L,by simpa using B⟩
theorem vz (hc:X.calm=true) (hg:Gl X "list") (hm:X.mg "list" = none) (ap:Gl X "zip") (ax:X.mg "zip" = none) (ha:PA X [e1,e2] ta) (hs:j8 [e1,e2] X.env=[(false,eval e1 X.env),(false,eval e2 X.env)]:=by rfl) (ac:j8 [e2] X.env=[(false,eval e2 X.env)]:=by rfl) :
  PE X (.Call (.Name "list" p) [.Call (.Name "zip" p2) [e1,e2] [] pos2] [] pos) (pH ta):=by
 intro pins s σ H Q I h;refine x0 (fZ I hg hm (by decide+kernel:y2 "list" = some (.type "list")) ?_)
 refine n6 (Hs ?_) rfl rfl
 refine x0 (fZ I ap ax qX ?_)
 refine n6 (thn (ha pos2 pins s σ H _ I h) λus F ⟨vs,H1,I1,r1,q1⟩=>?_) (by rw[hs,ac]) (by rw[ac];rfl)
 obtain⟨a,b,e,xs,aq,ys,au,az,q⟩:=q1;subst e;obtain⟨u,u2,rfl,ru,ar⟩:=tL r1;cases ru;cases ar;obtain⟨its,rv,pl,hz⟩:=I1.tuple (SqT.of aq);obtain⟨B,ag,ad,a0⟩:=I1.tuple (SqT.of au);have n1:=rv.length;have n2:=ag.length;refine qY (q:=false) (show F.heap.IsTuple a its.toArray from pl) (show F.heap.IsTuple b B.toArray from ad) λg z P O II J Z D l1 l2 l3 l4 l5 kg=>?_
 refine HE ?_
 have pg:g.IsTuple a its.toArray:=(show F.heap.IsTuple a its.toArray from pl).at λo e=>kg a o e
 have an:g.IsTuple b B.toArray:=(show F.heap.IsTuple b B.toArray from ad).at λo e=>kg b o e
 refine zF (s:={ F with heap:=g }) (I.ok.hd hc) D Z pg an (by simp only[j9];omega) λg2 ts a1 c k2 hz hl ao hL=>?_
 have L:F.heap.objs.size<=g.objs.size:=by have:=e8 Z.zz;exact GY (o9 l1 this)
 have kk : ∀b o,F.heap.get? b=some o->g2.get? b=some o:=λb o e=>by
  refine k2 b o (λhm=>?_) (kg b o e)
  have hb:=e8 e;simp only[i4,m8,or_false] at hm;rcases hm with rfl | rfl | rfl | rfl | rfl
  .exact absurd (g7 hb l1) (o7 _)
  .exact absurd (g7 hb l2) (o7 _)
  .exact absurd (g7 hb l3) (o7 _)
  .exact absurd (g7 hb l4) (o7 _)
  .exact absurd (g7 hb l5) (o7 _)
 change qf g2 (g.objs.size+1) its.toArray B.toArray ts at hz;change g2.get? g.objs.size=_ at hL;simp only[j9] at hl
 let H2:Hp:=λc=>if c < F.heap.objs.size then H1 c else if c=g.objs.size then some (.lst (ts.map V.ref)) else
  match ts.idxOf? c with | none=>none | some j=>match xs[j]?,ys[j]? with | some x,some y=>some (.tup [x,y]) | _,_=>none
 have hold : ∀c,c < F.heap.objs.size->H2 c=H1 c:=λc hc=>if_pos hc
 have ay : ¬ g.objs.size < F.heap.objs.size:=not_lt.mpr L
 have aa:H2 g.objs.size*>(ts.map V.ref):=by show(if _ then _ else _)=_;rw[if_neg ay,if_pos rfl]
 have am:ts.length<=10000:=()
 have ai : ∀(j:Nat) (t:Addr) (x y:V),ts[j]? = some t->xs[j]? = some x->ys[j]? = some y->H2 t>>[x,y]:=λj t x y e1 e2 e3=>by
  obtain⟨_,_,_,_,_,aj⟩:=hz.2 j t e1;have hj:j < ts.length:=(g_.mp e1).1
  have Y:ts.idxOf? t=some j:=by
   have e4:=(g_.mp e1).2;rw[<- e4];exact zt hz.1 hj
  show(if _ then _ else _)=_
  rw[if_neg (not_lt.mpr (gr L (gr (le_succ _) aj))),if_neg (o_ aj)];rw[Y];simp only[e2,e3]
 have ak : ∀c u,F.heap.objs.size<=c->H2 c=some u->bF X.prog X.w H2 g2 c u:=λc u hc e=>by
  by_cases ab:c=g.objs.size
  .subst ab
   rw[aa] at e;cases e;exact⟨by rw[c_];exact gr am ∅,ts.map h_,_,rj ts,by rw[hL,<- ao]⟩
  .change (if _ then _ else _)=_ at e
   rw[if_neg (not_lt.mpr hc),if_neg ab] at e;cases Y:ts.idxOf? c with
   | none=>rw[Y] at e;cases e
   | some j =>
    rw[Y] at e;obtain⟨hj,ej⟩:=CC Y;have e1:ts[j]? = some c:=by rw[k4 hj,ej]
    obtain⟨vx,vy,h1,h2,h3,_⟩:=hz.2 j c e1;simp only[HP] at h1 h2;obtain⟨x,hx⟩ : ∃x,xs[j]? = some x:=⟨xs[j]'(by rw[n1];exact(g_.mp h1).1),by simp⟩
    obtain⟨y,hy⟩ : ∃y,ys[j]? = some y:=⟨ys[j]'(by rw[n2];exact(g_.mp h2).1),by simp⟩
    simp only[hx,hy] at e;cases e;obtain⟨v1,af,rx⟩:=rv.get hx;obtain⟨v2,ah,ry⟩:=ag.get hy;rw[h1] at af;rw[h2] at ah;cases af;cases ah;exact⟨by show 2<=g9;decide,[vx,vy],.cons rx (.cons ry .nil),⟨_,h3,rfl,_,rfl⟩⟩
 refine⟨.ref g.objs.size,H2,I1.grown (t':=F.toks) kk hold ak,rfl,q g.objs.size ts H2 (λb o e=>by rw[hold b (I1.hok b o e).lt];exact e) (I1.hok.fresh L) aa ⟨(),ai⟩⟩
end
end L2
namespace PyProof.Rows
open PySem PySem.Spec
theorem zu {t:Addr} {xs:Array (Int × Tok)} (hh:A.handled=none) (hl:s.heap.IsTuple t (HD xs)) (F:0 < xs.size)
  (k : ∀v g tk,(HD xs)[argBest (λi j=>decide (numAt xs i < numAt xs j)) (xs.size - 1)]? = some v->(∀b o,s.heap.get? b=some o->g.get? b=some o)->Q v { s with heap:=g,toks:=tk }):wpAny (model prog w) A (call (.builtin "min") [.ref t]) Q E s:=by
 obtain⟨ot,h1,_⟩:=id hl;refine call_min_walk (x3 hl ?_)
 refine⟨s.heap.objs.size,_,_,_,_,_,_,rfl,Walks.tuple (A:=A.in1) hh _ t (k7 (e8 h1)) (HD xs),⟨⟨_,f_ _ rfl,rfl,rfl⟩,hl.at λo e=>d_ _ e⟩,λb B=>?_,by simpa [HD] using F,CmpOf.ints_lt (numAt xs) (λ_ _=>intItems_at),λv g tk Y Z=>k v g tk (by simpa [HD] using Y) λb o e=>?_⟩
 .have sz:(s.heap.push { cls:=.type "tuple_iterator",data:=.fields #[.ref t,.int 0 0] }).objs.size=s.heap.objs.size+1:=m9 ..
  show b < (s.heap.push { cls:=.type "tuple_iterator",data:=.fields #[.ref t,.int 0 0] }).objs.size
  rw[sz];rcases i4.mp B with rfl | B
  .exact GS _
  .rw[e7.mp B];exact GK (e8 h1)
 .exact Z b o (λL=>absurd (e7.mp L ▸ e8 e) (o7 _)) (d_ _ e)
theorem AG {t:Addr} {xs:Array (Int × Tok)} (hh:A.handled=none) (hl:s.heap.IsTuple t (HD xs)) (F:0 < xs.size)
  (k : ∀v g tk,(HD xs)[argBest (λi j=>decide (numAt xs i > numAt xs j)) (xs.size - 1)]? = some v->(∀b o,s.heap.get? b=some o->g.get? b=some o)->Q v { s with heap:=g,toks:=tk }):wpAny (model prog w) A (call (.builtin "max") [.ref t]) Q E s:=by
 obtain⟨ot,h1,_⟩:=id hl;refine call_max_walk (x3 hl ?_)
 refine⟨s.heap.objs.size,_,_,_,_,_,_,rfl,Walks.tuple (A:=A.in1) hh _ t (k7 (e8 h1)) (HD xs),⟨⟨_,f_ _ rfl,rfl,rfl⟩,hl.at λo e=>d_ _ e⟩,λb B=>?_,by simpa [HD] using F,CmpOf.ints_gt (numAt xs) (λ_ _=>intItems_at),λv g tk Y Z=>k v g tk (by simpa [HD] using Y) λb o e=>?_⟩
 .have sz:(s.heap.push { cls:=.type "tuple_iterator",data:=.fields #[.ref t,.int 0 0] }).objs.size=s.heap.objs.size+1:=m9 ..
  show b < (s.heap.push { cls:=.type "tuple_iterator",data:=.fields #[.ref t,.int 0 0] }).objs.size
  rw[sz];rcases i4.mp B with rfl | B
  .exact GS _
  .rw[e7.mp B];exact GK (e8 h1)
 .exact Z b o (λL=>absurd (e7.mp L ▸ e8 e) (o7 _)) (d_ _ e)
end PyProof.Rows
namespace L2
open PySem PySem.Spec PyProof.Rows
def zD:List V->Hp->VK->Prop:=λxs H Q=>∃p,xs=[.ref p]/\∃ns:List Int,H p>>(ns.map V.int)/\ns≠[]/\∀m,m∈ns->(∀x∈ns,m<=x)->Q (.int m) H
def zM:List V->Hp->VK->Prop:=λxs H Q=>∃p,xs=[.ref p]/\∃ns:List Int,H p>>(ns.map V.int)/\ns≠[]/\∀m,m∈ns->(∀x∈ns,x<=m)->Q (.int m) H
def AN:List V->Hp->VK->Prop:=λxs H Q=>∃p,xs=[.ref p]/\∃ns:List Int,H p*>(ns.map V.int)/\ns≠[]/\∀m,m∈ns->(∀x∈ns,m<=x)->Q (.int m) H
def A6:List V->Hp->VK->Prop:=λxs H Q=>∃p,xs=[.ref p]/\∃ns:List Int,H p*>(ns.map V.int)/\ns≠[]/\∀m,m∈ns->(∀x∈ns,x<=m)->Q (.int m) H
theorem xz {xs:Array (Int × Tok)} (B:ns=xs.toList.map (·.1)) (L:0 < xs.size):numAt xs (argBest (λi j=>decide (numAt xs i < numAt xs j)) (xs.size - 1))∈ns/\∀a∈ns,numAt xs (argBest (λi j=>decide (numAt xs i < numAt xs j)) (xs.size - 1))<=a:=by
 obtain⟨h1,h2⟩:=argBest_lt (numAt xs) (xs.size - 1);refine⟨?_,λa ha=>?_⟩
 .rw[B,numAt_eq];exact PySem.getD_mem (by rw[c_,y4];omega)
 .rw[B] at ha
  obtain⟨j,F,rfl⟩:=mem_getD ha;rw[c_,y4] at F;rw[<- numAt_eq];exact h2 j ()
theorem xc {xs:Array (Int × Tok)} (B:ns=xs.toList.map (·.1)) (L:0 < xs.size):numAt xs (argBest (λi j=>decide (numAt xs i > numAt xs j)) (xs.size - 1))∈ns/\∀a∈ns,a<=numAt xs (argBest (λi j=>decide (numAt xs i > numAt xs j)) (xs.size - 1)):=by
 obtain⟨h1,h2⟩:=argBest_gt (numAt xs) (xs.size - 1);refine⟨?_,λa ha=>?_⟩
 .rw[B,numAt_eq];exact PySem.getD_mem (by rw[c_,y4];omega)
 .rw[B] at ha
  obtain⟨j,F,rfl⟩:=mem_getD ha;rw[c_,y4] at F;rw[<- numAt_eq];exact h2 j ()
theorem iA (hi:IntsAre its ns) (F:ns≠[]) : ∃xs:Array (Int × Tok),its.toArray=HD xs/\ns=xs.toList.map (·.1)/\0 < xs.size:=by
 obtain⟨xs,e⟩:=hi.allInts.items;have B:ns=xs.toList.map (·.1):=by rw[<- hi.numsOf,<- nums_intItems,<- e]
 refine⟨xs,e,B,?_⟩
 have L:=B_.mpr F;rw[B,c_,y4] at L;exact L
theorem qW (hc:X.calm=true):bY X (.builtin "min") zD:=by
 intro pins s σ H xs us Q I r h;obtain⟨p,rfl,ns,hp,L,q⟩:=h;obtain⟨u,rfl,ru⟩:=dA r;cases ru;obtain⟨its,rv,pl,hz⟩:=I.tuple (SqT.of hp);obtain⟨xs,e,F,Y⟩:=iA (gb rv) L;have B:s.heap.IsTuple p its.toArray:=pl
 rw[e] at B;refine zu (I.ok.hd hc) B Y λv g tk Z hk=>?_
 obtain⟨t,rfl⟩:=intItems_at Z;obtain⟨b1,b2⟩:=xz F Y;exact⟨V.int _,H,I.kept (t':=tk) hk,⟨t,rfl⟩,q _ b1 b2⟩
theorem xV (hc:X.calm=true):bY X (.builtin "max") zM:=by
 intro pins s σ H xs us Q I r h;obtain⟨p,rfl,ns,hp,L,q⟩:=h;obtain⟨u,rfl,ru⟩:=dA r;cases ru;obtain⟨its,rv,pl,hz⟩:=I.tuple (SqT.of hp);obtain⟨xs,e,F,Y⟩:=iA (gb rv) L;have B:s.heap.IsTuple p its.toArray:=pl
 rw[e] at B;refine AG (I.ok.hd hc) B Y λv g tk Z hk=>?_
 obtain⟨t,rfl⟩:=intItems_at Z;obtain⟨b1,b2⟩:=xc F Y;exact⟨V.int _,H,I.kept (t':=tk) hk,⟨t,rfl⟩,q _ b1 b2⟩
theorem mP (hc:X.calm=true):bY X (.builtin "min") AN:=by
 intro pins s σ H xs us Q I r h;obtain⟨p,rfl,ns,hp,L,q⟩:=h;obtain⟨u,rfl,ru⟩:=dA r;cases ru;obtain⟨its,rv,pl,hz⟩:=I.list (SqL.of hp);obtain⟨xs,e,F,Y⟩:=iA (gb rv) L;have B:=pl.isList;rw[e] at B;refine min_intList (I.ok.hd hc) B Y λv g tk Z hk=>?_
 obtain⟨t,rfl⟩:=intItems_at Z;obtain⟨b1,b2⟩:=xz F Y;exact⟨V.int _,H,I.kept (t':=tk) hk,⟨t,rfl⟩,q _ b1 b2⟩
theorem rn (hc:X.calm=true):bY X (.builtin "max") A6:=by
 intro pins s σ H xs us Q I r h;obtain⟨p,rfl,ns,hp,L,q⟩:=h;obtain⟨u,rfl,ru⟩:=dA r;cases ru;obtain⟨its,rv,pl,hz⟩:=I.list (SqL.of hp);obtain⟨xs,e,F,Y⟩:=iA (gb rv) L;have B:=pl.isList;rw[e] at B;refine max_intList (I.ok.hd hc) B Y λv g tk Z hk=>?_
 obtain⟨t,rfl⟩:=intItems_at Z;obtain⟨b1,b2⟩:=xc F Y;exact⟨V.int _,H,I.kept (t':=tk) hk,⟨t,rfl⟩,q _ b1 b2⟩
def FM (H:Hp) (p:Addr) (ys:List V):Prop:=H p*>ys\/H p>>ys
def vR:List V->Hp->VK->Prop:=λxs H Q=>∃p,xs=[.ref p]/\∃ys,FM H p ys/\∀l,H l=none->Q (.ref l) (upd H l (.lst ys))
theorem vL:bY X (.type "list") vR:=rX.imp λ_ _ _ B=>by obtain⟨p,e,ys,h,q⟩:=B;exact(⟨p,ys,e,h.imp .of .of,q⟩)
def inD (d:Is) (ds:List Is):Bool:=ds.any λe=>A_ e d
def C1 (K:e_) (B:Bool):R2:=λx y H Q=>∃dx ds,Rep K H x dx/\Rep K H y (.tuple ds)/\dx.canLay0=true/\pc ds=true/\dx.depth<=100/\Q (.bl (if B then !inD dx ds else inD dx ds)) H
def zQ (K:e_) (B:Bool):R2:=λx y H Q=>∃dx ds,Rep K H x dx/\Rep K H y (.list ds)/\dx.canLay0=true/\pc ds=true/\dx.depth<=100/\Q (.bl (if B then !inD dx ds else inD dx ds)) H
theorem BO (hu:X.A.units+102 < cLine):OpR X (p_ .In) (C1 X.K false):=by
 intro pins s σ H x y v u Q I F L h;obtain⟨dx,ds,h1,h2,h3,B,h5,q⟩:=h;obtain⟨as,Z⟩:=I.reads h1 F;obtain⟨bs,Y⟩:=I.reads h2 L;exact PySem.SeqAt.in_tuple_reads Y Z B h3 () ⟨.bl _,H,I,rfl,q⟩
theorem pJ (hu:X.A.units+102 < cLine):OpR X (p_ .NotIn) (zQ X.K true):=by
 intro pins s σ H x y v u Q I F L h;obtain⟨dx,ds,h1,h2,h3,B,h5,q⟩:=h;obtain⟨as,Z⟩:=I.reads h1 F;obtain⟨bs,Y⟩:=I.reads h2 L;exact PySem.SeqAt.notIn_list_reads Y Z B h3 () ⟨.bl _,H,I,rfl,q⟩
theorem Ac (B:cU k A):A.units+102 < cLine:=by have:=B.un;omega
theorem lay_ints : ∀ns:List Int,pc (ns.map z_)=true
 | []=>rfl
 | n :: ns=>by
  rw[i8];unfold pc;rw[lay_ints ns];rfl
theorem depth_ints : ∀ns:List Int,GW (ns.map z_)=0
 | []=>rfl
 | n :: ns=>by
  rw[i8];unfold GW;rw[depth_ints ns];rfl
def ju (r:List Int):Is:=.tuple (r.map z_)
theorem kR (r:List Int):(ju r).canLay0=true:=by unfold ju HS;exact lay_ints r
theorem mU (r:List Int):(ju r).depth<=1:=by unfold ju Iu;rw[depth_ints];decide
theorem nG : ∀(a b:List Int),Hk (a.map z_) (b.map z_)=decide (a=b)
 | [],[]=>rfl
 | [],_ :: _=>by simp[Hk]
 | _ :: _,[]=>by simp[Hk]
 | x :: a,y :: b=>by
  rw[i8,i8];unfold Hk;rw[nG a b];have:A_ (.int x) (.int y)=decide (x=y):=by
   simp only[A_];rw[o8];simp
  rw[this]
  by_cases h:x=y <;> by_cases h2:a=b <;> simp[h,h2]
theorem wU (a b:List Int):A_ (ju a) (ju b)=decide (a=b):=by
 unfold ju;unfold A_;exact nG a b
theorem oI : ∀B:List (List Int),pc (B.map ju)=true
 | []=>rfl
 | r :: B=>by
  rw[i8];unfold pc;rw[oI B,kR];rfl
theorem uz (r:List Int) (B:List (List Int)):inD (ju r) (B.map ju)=decide (r∈B):=by
 unfold inD
 induction B with
 | nil=>rfl
 | cons q B F =>
  rw[i8,HX,F,wU]
  by_cases h:q=r
  .simp[h]
  .simp[h]
   exact λe=>absurd e.symm h
def ipM:TIp:=λx y H Q=>∃i,x = .int i/\∃j,y = .int j/\xM i j/\Q (.int (i * j)) H
theorem C8:PIp X .Mult ipM:=by
 intro pins s σ H x y v u Q I F B h;obtain⟨i,rfl,j,rfl,L,q⟩:=h;obtain⟨t,rfl⟩:=F;obtain⟨t',rfl⟩:=B;exact imul_int ⟨.int _,H,I.tok _,⟨_,rfl⟩,q⟩ L.ok
def dW (H:Hp) (vs:List V) (rows:List (List Int)):Prop:=∃as:List (Addr × List Int),vs=as.map (λx=>V.ref x.1)/\rows=as.map (·.2)/\∀x∈as,H x.1>>(x.2.map V.int)
theorem dW.nil:dW H [] []:=⟨[],rfl,rfl,λx B=>by simp at B⟩
theorem dW.keep (h:dW H vs rows) (k : ∀a xs,H a>>xs->H' a>>xs):dW H' vs rows:=by
 obtain⟨as,h1,h2,B⟩:=h;exact⟨as,h1,h2,λx F=>k _ _ (B x F)⟩
theorem dW.snoc {t:Addr} {r:List Int} (h:dW H vs rows) (L:H t>>(r.map V.int)):dW H (vs++[.ref t]) (rows++[r]):=by
 obtain⟨as,h1,h2,B⟩:=h;refine⟨as++[(t,r)],by simp[h1],by simp[h2],λx F=>?_⟩
 rcases i9.mp F with z | z
 .exact B x z
 .rw[e7.mp z];exact L
theorem dW.length {H:Hp} {vs:List V} {rows:List (List Int)} (h:dW H vs rows):vs.length=rows.length:=by
 obtain⟨as,h1,h2,B⟩:=h;rw[h1,h2,c_,c_]
theorem dW.reps (h:dW H vs rows):gz K H vs (rows.map ju):=by
 obtain⟨as,rfl,rfl,B⟩:=h
 induction as with
 | nil=>exact .nil
 | cons x as F=>exact .cons (.tup (.of (B x (by simp))) (gz.ints _)) (F λy L=>B y (by simp[L]))
theorem Bi {t w:Addr} {r:List Int} {Q:VK} (L:H t>>(r.map V.int)) (F:H w>>vs) (B:dW H vs rows) (q:Q (.bl (decide (r∈rows))) H):C1 K false (.ref t) (.ref w) H Q :=
 ⟨ju r,rows.map ju,.tup (.of L) (gz.ints r),.tup (.of F) B.reps,kR r,oI rows,gr (mU r) ∅,by rw[uz];exact q⟩
theorem vI {t w:Addr} {r:List Int} {Q:VK} (L:H t>>(r.map V.int)) (F:H w*>vs) (B:dW H vs rows) (q:Q (.bl (!decide (r∈rows))) H):zQ K true (.ref t) (.ref w) H Q :=
 ⟨ju r,rows.map ju,.tup (.of L) (gz.ints r),.lst (.of F) B.reps,kR r,oI rows,gr (mU r) ∅,by rw[uz];exact q⟩
end L2
namespace PySem
open Sem (wp)
open AutoSeq1 (wpAny_loadPart')
theorem Draws.tup (Y:A.handled=none) (J T:Addr) (F:T≠J) (vs:Array Value) :
  Draws prog w A J [J,T] vs.size (λi v=>vs[i]? = some v) (λi h=>h.IsTupleIter J T i/\h.IsTuple T vs) where
 live:=λ_ _ st=>let ⟨o,ho,_⟩:=st.1;⟨o,ho⟩
 frame:=λ_ _ _ st L=>⟨st.1.at λo e=>L J (by simp) o e,st.2.at λo e=>L T (by simp) o e⟩
 item:=λi s Q E hi st B=>ix st.1 st.2 (G6 hi) λg a b=>B _ g s.toks (G6 hi) ⟨a,st.2.at λo e=>(b.2 T F).trans e⟩ b
 done:=λs Q E st B=>dQ Y st.1 st.2 (Hy (i6 _)) B
theorem vj (T:Addr) (vs:Array Value) (n:Nat) (Z:Option Addr) (sl:Array (Option Value)) :
  Meets (Builtin.«enumerate.__new__» ⟨[.type "enumerate",.ref T],[]⟩) (λ_ R s=>s.heap.get? T=some { cls:=.type "tuple",dict:=Z,data:=.seq vs n,slots:=sl } /\
   R (.ok (.ret (.ref (s.heap.push { cls:=.type "tuple_iterator",data:=.fields #[.ref T,.int 0 0] }).objs.size)))
    { s with heap:=(s.heap.push { cls:=.type "tuple_iterator",data:=.fields #[.ref T,.int 0 0] }).push { cls:=.type "enumerate",data:=.fields #[.none,.bool false,.ref s.heap.objs.size,x5 0,.none,.none] } }) :=
 .of_wp λprog w A R s h=>by
  obtain⟨hp,g,d,tk,Y⟩:=s;obtain⟨B,h⟩:=h;have L:=sub_enumerate;have F:Iv (Shared.heap ⟨hp,g,d,tk,Y⟩) T vs:=⟨_,B,rfl,n,rfl⟩
  wp_walk using wpAny_loadPart' B
  refine wpAny_stack_any λst=>ei ?_
  split
  .rename_i c _ _ _ _ _
   cases (c == GP "enumerate")
   .wp_walk using wpAny_loadPart' B,x3 F
    exact⟨_,rfl,h⟩
   .wp_walk using wpAny_loadPart' B,x3 F
    exact⟨_,rfl,h⟩
  .wp_walk using wpAny_loadPart' B,x3 F
   exact⟨_,rfl,h⟩
theorem wt {vs:Array Value} (ht:s.heap.IsTuple T vs)
  (k : ∀g e J,IsEnum g e J 0 .none->g.IsTupleIter J T 0->e≠J->s.heap.objs.size<=e->s.heap.objs.size<=J->(∀b o,s.heap.get? b=some o->g.get? b=some o)->Q (.ref e) { s with heap:=g }) :
  wpAny (model prog w) A (call (.type "enumerate") [.ref T]) Q E s:=by
 obtain⟨⟨cls,Z,data,sl⟩,h1,h2,n,Y⟩:=ht;simp only at h2 Y;subst h2 Y;refine callType_new F.called_enumerate ∅ (F.typeCall_enumerate_1 _) (F.newCall_enumerate_1 _) (λobj=>F.args_object_init_2 obj _) F.entry_enumerate_new (vj T vs n Z sl) ⟨h1,?_⟩
 have L:(s.heap.push { cls:=.type "tuple_iterator",data:=.fields #[.ref T,.int 0 0] }).objs.size=s.heap.objs.size+1:=m9 ..
 have B:((s.heap.push { cls:=.type "tuple_iterator",data:=.fields #[.ref T,.int 0 0] }).push { cls:=.type "enumerate",data:=.fields #[.none,.bool false,.ref s.heap.objs.size,x5 0,.none,.none] }).get? (s.heap.push { cls:=.type "tuple_iterator",data:=.fields #[.ref T,.int 0 0] }).objs.size=some _:=f_ _ rfl
 have g2:((s.heap.push { cls:=.type "tuple_iterator",data:=.fields #[.ref T,.int 0 0] }).push { cls:=.type "enumerate",data:=.fields #[.none,.bool false,.ref s.heap.objs.size,x5 0,.none,.none] }).get? s.heap.objs.size=some _:=d_ _ (f_ _ rfl)
 refine⟨⟨_,B,rfl⟩,k _ _ s.heap.objs.size B ⟨_,g2,rfl,rfl⟩ ?_ ?_ (i6 _) λb o e=>d_ _ (d_ _ e)⟩
 .rw[L];exact Nat.succ_ne_self _
 .rw[L];exact le_succ _
theorem xX:Ie (.type "tuple") "__reversed__" = pure none:=by rw[y8,uj];kernel_rfl
theorem nc:Ie (.type "tuple") "__getitem__" = pure (some (.builtin "tuple.__getitem__")):=by rw[y8,uj];kernel_rfl
theorem wz:isSubtype (.type "tuple") (.type "dict")=pure false:=by rw[isSubtype_type];kernel_rfl
def mz (h:Heap) (z T:Addr) (i:Int):Prop:=h.get? z=some { cls:=.type "reversed",dict:=none,data:=.fields #[.ref T,x5 i],slots := #[] }
theorem Al (T:Addr) (vs:Array Value):Meets (Builtin.«reversed.__new__» ⟨[.type "reversed",.ref T],[]⟩) (λ_ R s=>s.heap.IsTuple T vs/\(vs.size:Int) < 2 ^ 63 /\
   ∀tk,R (.ok (.ret (.ref s.heap.objs.size))) { s with heap:=s.heap.push { cls:=.type "reversed",data:=.fields #[.ref T,x5 ((vs.size:Int) - 1)] },toks:=tk }) :=
 .of_wp λprog w A R s h=>by
  obtain⟨F,L,k⟩:=h;have B:s.TypeIs (.ref T) "tuple" := let ⟨o,h1,h2,_⟩:=F;⟨o,h1,h2⟩
  unfold Builtin.«reversed.__new__»;refine a_ (HA (newClass_reversed _) ?_)
  refine a_ (HA (a:=Unit.unit) (by first | rfl | kernel_rfl) ?_)
  refine a_ (HA (a:=Unit.unit) (by first | rfl | kernel_rfl) ?_)
  refine a_ (x_ B xX ?_)
  refine a_ (by
   change wpAny _ _ (isInstance (h_ T) (.type "dict") >>= _) _ _ _;refine a_ (Hd (T := "tuple") (b:=false) B wz ?_)
   simp only[gt,if_false];refine a_ (x_ B nc ?_)
   refine ei ?_
   simp only[Bool.not_true,gt,if_false];refine a_ (PyProof.Rows.len_tuple F L (a_ (HA (a:=some ((vs.size:Nat):Int)) (by rfl) (a_ ?_))))
   change wpAny _ _ (newObj (.type "reversed") (.fields #[h_ T,x5 ((vs.size:Int) - 1)])) _ _ _;exact w5 (ei ⟨_,rfl,k _⟩))
theorem vv:Slot "reversed" "__init__" "object.__init__" :=
 .of (owner := "object") (n := "__init__") (by rw[y8,uj];kernel_rfl) (by decide+kernel) (by decide+kernel) (by decide+kernel) (by first | exact .inl (by decide+kernel) | exact .inr (by decide+kernel)) (by rw[isSubtype_type];kernel_rfl)
theorem ga:Slot "reversed" "__next__" "reversed.__next__" :=
 .of (owner := "reversed") (n := "__next__") (by rw[y8,uj];kernel_rfl) (by decide+kernel) (by decide+kernel) (by decide+kernel) (by first | exact .inl (by decide+kernel) | exact .inr (by decide+kernel)) (by rw[isSubtype_type];kernel_rfl)
theorem qh:Slot "reversed" "__iter__" "reversed.__iter__" :=
 .of (owner := "reversed") (n := "__iter__") (by rw[y8,uj];kernel_rfl) (by decide+kernel) (by decide+kernel) (by decide+kernel) (by first | exact .inl (by decide+kernel) | exact .inr (by decide+kernel)) (by rw[isSubtype_type];kernel_rfl)
theorem nE:entryFor table "reversed.__next__" = some Builtin.«reversed.__next__» := entryFor_of_tree (by kernel_rfl)
theorem tS:entryFor table "reversed.__iter__" = some Builtin.«dict_keyiterator.__iter__» :=
 entryFor_alias (id' := "dict_keyiterator.__iter__") (by kernel_rfl) (by first | rfl | decide+kernel | (unfold String.splitOn;simp+decide [String.splitOnAux])) (by decide+kernel) (by kernel_rfl)
theorem pB (a:Value):argsOk "reversed.__next__" ⟨[a],[]⟩:=by unfold argsOk;kernel_rfl
theorem vt (a:Value):argsOk "reversed.__iter__" ⟨[a],[]⟩:=by unfold argsOk;kernel_rfl
theorem wM:TypeCalled "reversed" "reversed.__new__" "object.__init__" :=
 ⟨by decide+kernel,by decide+kernel,⟨_,_,F.mro_reversed⟩,F.made_reversed,by decide+kernel,F.sub_reversed_self,vv⟩
theorem yK {vs:Array Value} (Y:s.heap.IsTuple T vs) (L:(vs.size:Int) < 2 ^ 63)
  (k : ∀g tk,mz g s.heap.objs.size T ((vs.size:Int) - 1)->(∀b o,s.heap.get? b=some o->g.get? b=some o)->Q (.ref s.heap.objs.size) { s with heap:=g,toks:=tk }) :
  wpAny (model prog w) A (call (.type "reversed") [.ref T]) Q E s:=by
 refine callType_new wM ∅ (F.typeCall_reversed_1 _) (F.newCall_reversed_1 _) (λobj=>F.args_object_init_2 obj _) F.entry_reversed_new (Al T vs) ⟨Y,L,λtk=>?_⟩
 have B:(s.heap.push { cls:=.type "reversed",data:=.fields #[.ref T,x5 ((vs.size:Int) - 1)] }).get? s.heap.objs.size=some _:=f_ _ rfl
 exact⟨⟨_,B,rfl⟩,k _ _ B λb o e=>d_ _ e⟩
theorem ur {i:Int} (F:mz s.heap z T i) (h:Q (.ref z) s):wpAny (model prog w) A (pyIter (.ref z)) Q E s:=by
 have B:s.TypeIs (.ref z) "reversed" :=⟨_,F,rfl⟩
 refine wpAny_pyIter_slot B qh (m7 qh B tS (by
  show wpAny _ _ (ret (.ref z)) _ _ s
  exact ei ⟨_,rfl,"reversed",_,B,ga.lookup,h⟩) (vt _))
theorem Bd {vs:Array Value} {x:Value} {Q:Option Value->Shared->Prop} (B:mz s.heap z T (i:Int)) (Z:s.heap.IsTuple T vs) (Y:vs[i]? = some x) (hsz:(vs.size:Int) < 2 ^ 62)
  (k : ∀g tk,mz g z T ((i:Int) - 1)->HL z s.heap g->Q (some x) { s with heap:=g,toks:=tk }):wpAny (model prog w) A (Hr (.ref z)) Q E s:=by
 have F:s.TypeIs (.ref z) "reversed" :=⟨_,B,rfl⟩
 have L:s.TypeIs (.ref T) "tuple" := let ⟨o,h1,h2,_⟩:=Z;⟨o,h1,h2⟩
 have hi:i < vs.size:=(Array.getElem?_eq_some_iff.mp Y).1
 unfold Hr;refine a_ (GM (m3 (name:=b_ "__next__") F ga (m7 ga F nE (by
  unfold Builtin.«reversed.__next__»;refine a_ (HA (a:=(h_ z,[])) rfl ?_)
  change wpAny _ _ (field (.ref z) 0 >>= _) _ _ _;refine a_ (k_ B rfl (x:=.ref T) rfl ?_)
  change wpAny _ _ (field (.ref z) 1 >>= _) _ _ _;refine a_ (k_ B rfl (x:=x5 (i:Int)) rfl ?_)
  change wpAny _ _ (if (i:Int) < 0 then _ else _) _ _ _;rw[if_neg ()]
  refine a_ (x_ L nc ?_)
  simp only[isNone_some,gt,if_false];refine a_ (wpAny_mkInt (a_ (GM ?_)))
  refine PyProof.Rows.getItem_tuple (s:={ s with toks:=s.toks+1 }) Z () () (j:=i) (seqIndex_of () ()) Y ?_
  change wpAny _ _ (field (.ref z) 1 >>= _) _ _ _;refine a_ (k_ B rfl (x:=x5 (i:Int)) rfl ?_)
  refine a_ (s_ (s:={ s with toks:=s.toks+1 }) B (by simp) λg g1 g2=>ei ⟨_,rfl,ei (k g _ g1 g2)⟩)) (pB _))))
theorem BH {i:Int} {Q:Option Value->Shared->Prop} (L:A.handled=none) (F:mz s.heap z T i) (hi:i < 0) (k : ∀g,Il z s.heap g->Q none { s with heap:=g }):wpAny (model prog w) A (Hr (.ref z)) Q E s:=by
 have B:s.TypeIs (.ref z) "reversed" :=⟨_,F,rfl⟩
 unfold Hr;refine a_ (GM (m3 (name:=b_ "__next__") B ga (m7 ga B nE (by
  unfold Builtin.«reversed.__next__»;refine a_ (HA (a:=(h_ z,[])) rfl ?_)
  change wpAny _ _ (field (.ref z) 0 >>= _) _ _ _;refine a_ (k_ F rfl (x:=.ref T) rfl ?_)
  change wpAny _ _ (field (.ref z) 1 >>= _) _ _ _;refine a_ (k_ F rfl (x:=x5 i) rfl ?_)
  change wpAny _ _ (if i < 0 then _ else _) _ _ _;rw[if_pos hi];refine a_ (wpAny_rule (a_ ?_))
  change wpAny _ _ (setField (.ref z) 1 (x5 (-1)) >>= λ_=>setField (.ref z) 0 .none) _ _ _
  refine a_ (s_ F (by simp) λg1 z1 s1=>?_)
  refine s_ z1 (by simp) λg2 z2 Z=>?_
  first
  | change wpAny _ _ (newExc (.type "StopIteration") [] >>= _) _ _ _
  | (refine a_ ?_;change wpAny _ _ (newExc (.type "StopIteration") [] >>= _) _ _ _)
  refine a_ ?_
  simp only[newExc,newTuple];refine a_ (w5 ?_ (by size_fits))
  refine a_ (m:=firstArgMember _ _) (HA (a:=p9) (by first | rfl | (simp only[firstArgMember];rfl)) ?_)
  refine w5 ?_ (by size_fits)
  (simp only[raiseNew];refine a_ (wpAny_handled ?_))
  first | rw[show A.in1.handled=none from L] | rw[L]
  refine a_ (ei (wpAny_throw ?_))
  refine a_ (Hd (T := "StopIteration") (b:=true) ⟨_,f_ _ rfl,rfl⟩ isSubtype_stop ?_)
  exact ei (k _ λb o Y e=>d_ _ (d_ _ (Z.extBut _ _ Y (s1.extBut _ _ Y e))))) (pB _))))
end PySem
namespace L2
open PySem PySem.Spec PyProof.Rows
def Ite (K:e_) (a:Addr):It :=
  ⟨λi H=>∃xs x,SqT K H a xs/\xs[i]? = some x,
   λi H v H'=>∃t x,H t=none/\v = .ref t/\H'=upd H t (.tup [.int (i:Nat),x])/\∀xs,SqT K H a xs->xs[i]? = some x,
   λi H=>∃xs,SqT K H a xs/\xs.length=i⟩
theorem wG {x1} {pos:Pos} (a e J:Addr) (aa:e≠J) :
  rR P w K (.Tuple es x1 pos) (Ite K a) [e,J] e (λi h=>(∃F,IsEnum h e J i F)/\h.IsTupleIter J a i) where
 mem:=by simp
 obj:=λi h st c B=>by
  obtain⟨⟨F,L⟩,oi,i1,i2,i3⟩:=st;simp only[i4,m8,or_false] at B;rcases B with rfl | rfl
  .exact⟨_,L,λv z=>by cases z⟩
  .exact⟨oi,i1,λv z=>by rw[i3] at z;cases z⟩
 keep:=λi h h' st k=>by
  obtain⟨⟨F,L⟩,hi⟩:=st;exact⟨⟨F,k e (by simp) _ L⟩,hi.at λo q=>k J (by simp) o q⟩
 item:=by
  intro X hP hw hK B i pins s σ H E Y hf st hg;subst hP hw hK;obtain⟨xs,x,hq,hx⟩:=hg;obtain⟨its,rv,p,hz⟩:=Y.tuple hq;obtain⟨u,hu,ru⟩:=rv.get hx;obtain⟨⟨F,L⟩,hi⟩:=st;have pl:s.heap.IsTuple a its.toArray:=p
  have ab:a≠J:=λz=>by
   obtain⟨o1,Z,q2,_⟩:=hi;obtain⟨o2,q3,q4,_⟩:=id pl;rw[<- z,q3] at Z;cases Z;rw[q4] at q2;exact absurd q2 (by simp)
  have aj:e∉[J,a]:=λhm=>by
   rcases i4.mp hm with z | z
   .exact aa z
   .have z:=e7.mp z
    obtain⟨o2,q3,q4,_⟩:=id pl;rw[<- z,L] at q3;cases q3;exact absurd q4 (by simp)
  have ak:i < its.toArray.size:=by simpa using (g_.mp hu).1
  refine wpAny_pyNext_enum_itemD (Draws.tup (A:=X.A.in1) (show X.A.in1.handled=none from Y.ok.hd B) J a ab its.toArray) L ⟨hi,pl⟩ ak aa aj λv g tk hv ho af ht hs hk=>?_
  have am:v=u:=by
   simp only[HP] at hv;rw[hu] at hv;exact(fx hv).symm
  subst am;refine⟨_,rfl,wpAny_letOwnedTupleGo_enum (s:={ s with heap:=g,toks:=tk+1 }) ho λg2 ag s2=>?_⟩
  have ac:e < s.heap.objs.size:=e8 L
  have ai:J < s.heap.objs.size:=by obtain⟨o1,Z,_⟩:=hi;exact e8 Z
  have ad:H s.heap.objs.size=none:=Y.hok.fresh (i6 _)
  have I2:Inv X pins σ (upd H s.heap.objs.size (.tup [.int (i:Nat),x])) { s with heap:=g2,toks:=tk+1 }:=Y.turnedNew (t':=tk+1) (fp:=[e,J]) (λc o B q=>by
    simp only[i4,m8,or_false,not_or] at B;exact(s2.2 c B.1).trans (hk c o B.1 B.2 q)) hf (i6 _)
   ⟨by show 2<=g9;decide,[.int i tk,v],.cons ⟨tk,rfl⟩ (.cons ru .nil),⟨_,(s2.2 _ (o_ ac)).trans ht,rfl,_,rfl⟩⟩
  refine⟨.ref s.heap.objs.size,_,I2,rfl,⟨_,x,ad,rfl,rfl,λzs an=>by rw[Y.tuple_inj an hq];exact hx⟩,⟨⟨v,by simpa using ag⟩,af.1.at λo q=>(s2.2 J aa.symm).trans q⟩,λc B=>?_⟩
  simp only[i4,m8,or_false] at B;rcases B with rfl | rfl
  .rw[ah (k7 ac)];exact(hf _ (by simp)).1
  .rw[ah (k7 ai)];exact(hf _ (by simp)).1
 done:=by
  intro X hP hw hK B i pins s σ H E Y hf st hg;subst hP hw hK;obtain⟨xs,hq,hx⟩:=hg;obtain⟨its,rv,p,hz⟩:=Y.tuple hq;obtain⟨⟨F,L⟩,hi⟩:=st;have pl:s.heap.IsTuple a its.toArray:=p
  have ab:a≠J:=λz=>by
   obtain⟨o1,Z,q2,_⟩:=hi;obtain⟨o2,q3,q4,_⟩:=id pl;rw[<- z,q3] at Z;cases Z;rw[q4] at q2;exact absurd q2 (by simp)
  have hn:its.toArray.size=i:=by have:=rv.length;simp;omega
  subst hn;refine wpAny_pyNext_enum_endD (Draws.tup (A:=X.A.in1) (show X.A.in1.handled=none from Y.ok.hd B) J a ab its.toArray) L ⟨hi,pl⟩ λg hk=>⟨rfl,Y.turnedL (t':=s.toks) (fp:=[e,J]) (λc o B q=>hk c o (λz=>B (by simp[z])) q) hf⟩
 self:=λ_ _ _ _ _ st h=>by
  obtain⟨⟨F,L⟩,_⟩:=st;exact wpAny_pyIter_enum L h
def iE (K:e_) (ta:TA):TI:=λσ H R=>ta σ H λvs H1=>∃a,vs=[.ref a]/\∃xs,H1 a>>xs/\R (Ite K a) H1
theorem wv:y2 "enumerate" = some (.type "enumerate"):=by decide+kernel
theorem zp {ta:TA} {p:Pos} {x1} (hK:X.K=K) (hg:Gl X "enumerate") (hm:X.mg "enumerate" = none) (ha:PA X [e1] ta) (hs:j8 [e1] X.env=[(false,eval e1 X.env)]:=by rfl) :
  PI X (.Tuple es x1 pos') (.Call (.Name "enumerate" p) [e1] [] pos) (iE K ta):=by
 subst hK;intro pins s σ H R I h;refine Call_ (fZ I hg hm wv (n6 (thn (ha pos pins s σ H _ I h) λus B ⟨vs,H1,I1,r1,q1⟩=>?_) (by rw[hs];rfl) rfl))
 obtain⟨a,e,xs,F,q⟩:=q1;subst e;obtain⟨u,rfl,ru⟩:=dA r1;cases ru;obtain⟨its,rv,pl,hz⟩:=I1.tuple (SqT.of F);refine wt (show B.heap.IsTuple a its.toArray from pl) λg e J he hJ L Y Z kg=>?_
 refine wpAny_pyIter_enum (s:={ B with heap:=g }) he ⟨e,[e,J],_,_,H1,rfl,I1.kept (t':=B.toks) kg,wG a e J L,⟨⟨_,he⟩,hJ⟩,λc hc=>?_,q⟩
 simp only[i4,m8,or_false] at hc;rcases hc with rfl | rfl
 .exact I1.fpOk Y (I1.hok.fresh Y)
 .exact I1.fpOk Z (I1.hok.fresh Z)
theorem Da {g:TG} {tb:TS} (B:Nat->St->Hp->Prop) (h0:B 0 σ H) (hl : ∀i σ H,B i σ H->SqT K H a xs)
  (Z : ∀(i:Nat) (x:V) (σ:St) (H:Hp) (t:Addr),xs[i]? = some x->B i σ H->H t=none->g (.ref t) σ (upd H t (.tup [.int (i:Nat),x])) λF H2=>tb { D with nx:=B (i+1),ct:=B (i+1),bk:=D.nx } F H2)
  (Y : ∀ σ H,B xs.length σ H->D.nx σ H):D0 (Ite K a) g tb D σ H:=by
 refine⟨λi m σ H=>B i σ H/\i<=xs.length/\m=xs.length - i,⟨_,h0,x6 _,rfl⟩,?_⟩
 rintro i m σ H ⟨hp,hi,rfl⟩
 have sa:=hl i σ H hp
 by_cases L:i=xs.length
 .left
  subst L;exact⟨⟨xs,sa,rfl⟩,Y σ H hp⟩
 .right
  have h1:i < xs.length:=()
  refine⟨⟨xs,xs[i],sa,by simp[h1]⟩,λσ' H'=>B (i+1) σ' H',λσ' H' h=>⟨_,(),h,(),rfl⟩,?_⟩
  rintro v H' ⟨t,x,ht,rfl,rfl,e1⟩
  exact Z i x σ H t (e1 xs sa) hp ht
def Itv (K:e_) (a:Addr) (n:Nat):It :=
  ⟨λi H=>∃xs x,SqT K H a xs/\xs.length=n/\i < n/\xs[n - 1 - i]? = some x,
   λi H v H'=>H'=H/\∀xs,SqT K H a xs->xs[n - 1 - i]? = some v,
   λi H=>n<=i⟩
theorem yj (a z:Addr) (n:Nat) :
  rR P w K tg (Itv K a n) [z] z (λi h=>mz h z a ((n:Int) - 1 - i)) where
 mem:=by simp
 obj:=λi h st c Z=>by
  rw[e7.mp Z];exact⟨_,st,λv z=>by cases z⟩
 keep:=λi h h' st k=>k z (by simp) _ st
 item:=by
  intro X hP hw hK Z i pins s σ H E B Y st L;subst hP hw hK;obtain⟨xs,x,hq,hn,hi,hx⟩:=L;obtain⟨its,rv,p,hz⟩:=B.tuple hq;obtain⟨u,hu,ru⟩:=rv.get hx;have hl:=rv.length;have aa:g9=16777216:=rfl
  have e1:(n:Int) - 1 - i=((n - 1 - i:Nat):Int):=()
  rw[e1] at st;obtain⟨f0,f1,f2,f3,f4,f5⟩:=Y z (by simp)
  refine Bd st (show s.heap.IsTuple a its.toArray from p) (x:=u) (by simpa using hu) (by simp only[j9];omega) λg tk g1 g2=>?_
  have I1:Inv X pins σ H { s with heap:=g,toks:=tk }:=B.turned (t':=tk) (λb o F e=>(g2.2 b F).trans e) f0 f1 f3 f4 f5
  refine⟨u,rfl,qP (s:={ s with heap:=g,toks:=tk }) g1 rfl rfl ∅ ⟨x,H,I1,ru,⟨rfl,λys hy=>by rw[B.tuple_inj hy hq];exact hx⟩,?_,λb F=>(Y b F).1⟩⟩
  have e2:((n - 1 - i:Nat):Int) - 1=(n:Int) - 1 - ((i+1:Nat):Int):=()
  rw[<- e2];exact g1
 done:=by
  intro X hP hw hK Z i pins s σ H E B Y st L;subst hP hw hK;have L:n<=i:=L
  obtain⟨f0,f1,f2,f3,f4,f5⟩:=Y z (by simp)
  exact BH (B.ok.hd Z) st () λg hk=>⟨rfl,B.turned (t':=s.toks) (λb o F e=>hk b o F e) f0 f1 f3 f4 f5⟩
 self:=λ_ _ _ _ _ st h=>ur st h
def iV (K:e_) (ta:TA):TI:=λσ H R=>ta σ H λvs H1=>∃a,vs=[.ref a]/\∃xs,H1 a>>xs/\R (Itv K a xs.length) H1
theorem yF:y2 "reversed" = some (.type "reversed"):=by decide+kernel
theorem Bz {ta:TA} {p:Pos} (hK:X.K=K) (hg:Gl X "reversed") (hm:X.mg "reversed" = none) (ha:PA X [e1] ta) (hs:j8 [e1] X.env=[(false,eval e1 X.env)]:=by rfl) :
  PI X tg (.Call (.Name "reversed" p) [e1] [] pos) (iV K ta):=by
 subst hK;intro pins s σ H R I h;refine Call_ (fZ I hg hm yF (n6 (thn (ha pos pins s σ H _ I h) λus B ⟨vs,H1,I1,r1,q1⟩=>?_) (by rw[hs];rfl) rfl))
 obtain⟨a,e,xs,L,q⟩:=q1;subst e;obtain⟨u,rfl,Z⟩:=dA r1;cases Z;obtain⟨its,rv,pl,hz⟩:=I1.tuple (SqT.of L);have hl:=rv.length;have aa:=mE;refine yK (show B.heap.IsTuple a its.toArray from pl) (by simp only[j9];omega) λg tk F kg=>?_
 simp only[j9] at F;rw[<- hl] at F;have Y:H1 B.heap.objs.size=none:=I1.hok.fresh (i6 _)
 refine ur (s:={ B with heap:=g,toks:=tk }) F ⟨B.heap.objs.size,[B.heap.objs.size],_,_,H1,rfl,I1.kept (t':=tk) kg,yj a B.heap.objs.size xs.length,by simpa using F,λc hc=>?_,q⟩
 rw[e7.mp hc];exact I1.fpOk (i6 _) Y
theorem Bs:Wlk (Itv K a xs.length) xs.reverse (λH=>SqT K H a xs) :=
 ⟨λi H h hi=>by
  have hi:i < xs.length:=by simpa using hi
  exact⟨xs,xs[xs.length - 1 - i],h,rfl,hi,by simp⟩,λi H x H' h hi y=>⟨by
  have hi:i < xs.length:=by simpa using hi
  rw[HQ hi];exact y.2 xs h,y.1⟩,λi H h hi=>(by simpa using hi:xs.length<=i)⟩
end L2
namespace PySem
open Sem (wp)
theorem bI : ∀(names:List (Str × y3)) (n:Nat) (B:List (Str × Addr)),m_ n names B=m_ n names []++B
 | [],n,B=>rfl
 | (x,k) :: r,n,B=>by
  unfold m_
  split
  .rw[bI r (n+1) ((x,n) :: B),bI r (n+1) [(x,n)]]
   simp
  .exact bI r n B
theorem fe : ∀(names:List (Str × y3)) (n:Nat) (x:Str) (c:Addr),(x,c)∈m_ n names []->(x,w6)∈names
 | [],n,x,c,h=>absurd h (by simp[m_])
 | (y, k) :: r,n,x,c,h=>by
  unfold m_ at h
  split at h
  .rename_i hk
   rw[bI] at h;rcases i9.mp h with q | q
   .exact j6 _ (fe r (n+1) x c q)
   .have e:(x,c)=(y,n):=by simpa using q
    cases e;have:k = .cell:=by simpa using hk
    subst this;exact k6
  .exact j6 _ (fe r n x c h)
theorem lB {l:List (Str × Addr)} {c:Addr}:(x,c)∈l->(l.lookup x).isSome=true:=by
 induction l with
 | nil=>intro h;exact absurd h (by simp)
 | cons p r F =>
  intro h;rw[u7];cases B:x == p.1 with
  | true=>rfl
  | false =>
   rcases i4.mp h with q | q
   .subst q;simp at B
   .exact F q
theorem gO : ∀(names:List (Str × y3)) (n:Nat) (x:Str),(x,w6)∈names->∃c,(x,c)∈m_ n names []
 | [],n,x,h=>absurd h (by simp)
 | (y, k) :: r,n,x,h=>by
  unfold m_;rcases i4.mp h with q | q
  .cases q
   simp only[beq_self_eq_true,if_true];rw[bI];exact⟨n,n9 _ (by simp)⟩
  .split
   .rw[bI]
    obtain⟨c,B⟩:=gO r (n+1) x q;exact⟨c,ki _ B⟩
   .exact gO r n x q
theorem qi {l r:List (Str × Addr)} {c:Addr} (h:(l++r).lookup x=some c):l.lookup x=some c\/(l.lookup x=none/\r.lookup x=some c):=by
 induction l with
 | nil=>exact .inr ⟨rfl,h⟩
 | cons p t F =>
  rw[cons_append,u7] at h;rw[u7];cases B:x == p.1 with
  | true=>rw[B] at h;exact .inl h
  | false=>rw[B] at h;exact F h
theorem sZ {l r:List (Str × Addr)} {c:Addr} (B:l.lookup x=none) (h:r.lookup x=some c):(l++r).lookup x=some c:=by
 induction l with
 | nil=>exact h
 | cons p t L =>
  rw[u7] at B;rw[cons_append,u7];cases F:x == p.1 with
  | true=>rw[F] at B;cases B
  | false=>rw[F] at B;exact L B
theorem sh {l r:List (Str × Addr)} {c:Addr} (h:l.lookup x=some c):(l++r).lookup x=some c:=by
 induction l with
 | nil=>cases h
 | cons p t F =>
  rw[u7] at h;rw[cons_append,u7];cases B:x == p.1 with
  | true=>rw[B] at h;exact h
  | false=>rw[B] at h;exact F h
theorem fR {globals:Addr} {code:Value} {F:Env} {B:Addr} {Q:Env->Shared->Prop}
  (Y:(pushCells (s.heap.push { cls:=.type "dict",data:=.dict #[] }) scope.names).Ns s.heap.objs.size (λ_=>none) ->
   Q (newEnv scope s.heap.objs.size globals (m_ (s.heap.objs.size+1) scope.names closure) qual func code (some F) B) { s with heap:=pushCells (s.heap.push { cls:=.type "dict",data:=.dict #[] }) scope.names }) :
  wpAny M A (newFunctionEnv scope globals closure [] qual func code (some F) B) Q E s:=by
 simp only[newFunctionEnv,isSome_some,if_true];simp only[newEnv] at Y;refine a_ (wpAny_alloc ?_)
 refine a_ (wpAny_layCells _ (λname kind cells=>by cases L:kind == w6 <;> simp[L]) _ _ _ _ ?_)
 rw[show({ s with heap:=s.heap.push { cls:=.type "dict",data:=.dict #[] } }:Shared).heap.objs.size=s.heap.objs.size+1 from m9 ..]
 exact a_ (ei (ei (Y ((Heap.Ns.new s.heap (.type "dict")).keeps (pushCells_keeps _ _)))))
end PySem
namespace L2
open PySem PySem.Spec PyProof.Rows
def dg (X:Cx) (scope:Scope) (N:List Str) (cl:List (Str × Addr)) (C:Addr) (fp:List Addr) (s:Shared) (H:Hp) (xe:Value->Shared->Prop):Cx where
 prog:=X.prog
 w:=X.w
 K:=X.K
 mg:=X.mg
 base:=X.base
 A:=X.A
 N:=N
 s₀:=s
 H₀:=H
 env:=compEnvC scope cl C X.env
 outer:=X.stack
 stack:=X.stack
 ex:=fp
 fn:=λx=>scope.names.lookup x == some .cell
 calm:=X.calm
 pn:=[]
 xe:=xe
theorem F4:(dg X sc N cl C fp s H xe).K=X.K:=rfl
structure lG (X:Cx) (scope:Scope) (N:List Str) (nt:Nat) (js:List Nat):Prop where
 kind:scope.kind = .function
 nd:N.Nodup
 len:N.length=nt+js.length
 at_ : ∀(k:Nat) (j:Nat) (x:Str),js[k]? = some j->N[nt+k]? = some x->X.N[j]? = some x/\(X.env.scope.names.lookup x=some .cell\/X.env.scope.names.lookup x=some .free)
 frl : ∀(k:Nat) (x:Str),N[nt+k]? = some x->scope.names.lookup x=some .free
 own : ∀y∈scope.names,y.2 = .cell->scope.names.lookup y.1=some .cell
 loc : ∀y∈scope.names,y.2 = .local->scope.names.lookup y.1=some .local
 free : ∀y∈scope.names,y.2 = .free->X.env.scope.names.lookup y.1=some .cell\/X.env.scope.names.lookup y.1=some .free
theorem dO : ∀{names:List (Str × y3)} {x:Str} {k:y3},names.lookup x=some k->(x,k)∈names
 | [],_,_,h=>by simp at h
 | (n,k') :: r,x,k,h=>by
  rw[u7] at h;cases B:x == n with
  | true=>rw[B] at h;cases h;rw[beq_iff_eq.mp B];exact k6
  | false=>rw[B] at h;exact j6 _ (dO h)
theorem qv : ∀{names:List (Str × y3)} {x:Str},((names.map λ(n,k)=>if (k == q_ && env.scope.kind == .function && env.kindOf n == some .cell) then(n,w6) else(n,k)).lookup x=some .cell\/(names.map λ(n,k)=>if (k == q_ && env.scope.kind == .function && env.kindOf n == some .cell) then(n,w6) else(n,k)).lookup x=some .free) ->
  (x,q_)∈names\/(x,w6)∈names:=by
 intro names x h;have B : ∀F,(names.map λ(n,k)=>if (k == q_ && env.scope.kind == .function && env.kindOf n == some .cell) then(n,w6) else(n,k)).lookup x=some F->(F = .cell\/F = .free)->(x,q_)∈names\/(x,w6)∈names:=by
  intro F e Y;obtain⟨⟨n,k⟩,L,hp⟩:=hB.mp (dO e);dsimp only at hp
  by_cases q:(k == q_ && env.scope.kind == .function && env.kindOf n == some .cell)=true
  .rw[if_pos q] at hp
   cases hp;simp only[k9,beq_iff_eq] at q;rw[q.1.1] at L;exact .inl L
  .rw[if_neg q] at hp
   cases hp;rcases Y with z | z
   .subst z;exact .inr L
   .subst z;exact .inl L
 rcases h with h | h
 .exact B _ h (.inl rfl)
 .exact B _ h (.inr rfl)
theorem uW {m:Str->Option Value}
  (S:lG X scope N nt js) (I:Inv X pins σ H s) (hf : ∀b∈fp,oM X pins H b) (L : ∀x c,cl.lookup x=some c->X.env.cells.lookup x=some c) (aa : ∀x,(x,q_)∈scope.names->(cl.lookup x).isSome=true)
  (B : ∀x c,(x,c)∈m_ (C+1) scope.names []->h'.IsCell c none/\C+1<=c) (an:(m_ (C+1) scope.names []).Pairwise λx y=>x.2≠y.2) (af : ∀c,C<=c->H1 c=none)
  (ad : ∀b∈fp,b < s.heap.objs.size) (hC:s.heap.objs.size<=C) (k : ∀b o,s.heap.get? b=some o->h'.get? b=some o) (hs : ∀b o,H b=some o->H1 b=some o) (ag : ∀b,H b=none->b < s.heap.objs.size->H1 b=none) (ah:HOk X.prog X.w H1 h') (hn:h'.Ns C m)
  (hm : ∀x,m x=none) :
  Inv (dg X scope N (m_ (C+1) scope.names cl) C fp s H xe) [] (ff nt js σ) H1 { s with heap:=h',toks:=tk }:=by
 have ai : ∀b∈fp,b∉frs X.stack:=λb hb z=>by
  obtain⟨f0,f1,f2,_⟩:=hf b hb;rcases i4.mp (I.stkSub b z) with q | q
  .exact f1 q
  .exact f2 q
 have ac : ∀x c,cl.lookup x=some c->c < s.heap.objs.size:=λx c e=>by
  obtain⟨v,oc,F,hd⟩:=I.cell x c (L x c e);exact e8 F
 have cs : ∀x c,(m_ (C+1) scope.names cl).lookup x=some c->(x,c)∈m_ (C+1) scope.names []\/cl.lookup x=some c:=λx c e=>by
  rw[bI] at e;rcases qi e with q | q
  .exact .inl (mem_of_lookup q)
  .exact .inr q.2
 have ab : ∀x,(x,w6)∈scope.names->∃c,(m_ (C+1) scope.names cl).lookup x=some c/\(x,c)∈m_ (C+1) scope.names []:=λx hx=>by
  obtain⟨c,hc⟩:=gO scope.names (C+1) x hx;obtain⟨c',Z⟩:=G3.mp (lB hc);refine⟨c',?_,mem_of_lookup Z⟩
  rw[bI];exact sh Z
 have Y : ∀x c,(∀c,(x,c)∉m_ (C+1) scope.names [])->cl.lookup x=some c->(m_ (C+1) scope.names cl).lookup x=some c:=λx c hx e=>by
  rw[bI];refine sZ ?_ e
  cases q:(m_ (C+1) scope.names []).lookup x with
  | none=>rfl
  | some c'=>exact absurd (mem_of_lookup q) (hx c')
 refine⟨⟨I.ok.mod,S.kind,I.ok.glob,I.ok.blt,hC,λx y c h1 h2=>?_,λx hx=>?_,λx c z e=>?_,I.ok.hd,I.ok.frames,.inl rfl,λb hb=>?_,I.bs,gr I.ok.bsz I.sz,λb o e hb=>?_,ai,I.stack,I.stkFree⟩,
  rfl,I.bare,?_,⟨m,hn,λi x v h1 h2 h3=>?_⟩,λx c e=>?_,af C (i6 _),λx c e=>?_,λp hp=>absurd (show p∈([]:List (Addr × Obj)) from hp) (by simp),ah,?_⟩
 .rcases cs x c h1 with a | a <;> rcases cs y c h2 with b | b
  .exact name_of_addr an a b
  .exact absurd (g7 (ac y c b) (gr hC (Ih (B x c a).2))) (o7 _)
  .exact absurd (g7 (ac x c a) (gr hC (Ih (B y c b).2))) (o7 _)
  .exact I.ok.inj x y c (L x c a) (L y c b)
 .by_cases hxc:(x,w6)∈scope.names
  .obtain⟨c,hc,_⟩:=ab x hxc
   exact⟨c,hc⟩
  .rcases qv (env:=X.env) hx with q | q
   .obtain⟨c,hc⟩:=G3.mp (aa x q)
    exact⟨c,Y x c (λc' z=>hxc (fe _ _ _ _ z)) hc⟩
   .exact absurd q hxc
 .have hxc:(x,w6)∈scope.names:=by
   have:scope.names.lookup x=some .cell:=by simpa [dg] using z
   exact dO this
  obtain⟨c',Z,ak⟩:=ab x hxc;have e':(m_ (C+1) scope.names cl).lookup x=some c:=e
  rw[Z] at e';cases e';exact gr hC (Ih (B x _ ak).2)
 .obtain⟨f0,f1,f2,f3,f4,f5⟩:=hf b hb
  refine⟨k7 (g7 (ad b hb) hC),λx c e=>?_⟩
  rcases cs x c e with a | a
  .exact o_ (g7 (ad b hb) (gr hC (Ih (B x c a).2)))
  .exact f4 x c (L x c a)
 .have:=hf b hb
  obtain⟨f0,f1,f2,f3,f4,f5⟩:=this;rcases f3 with f3 | f3
  .exact I.ok.noex b o e f3
  .exact absurd (g7 (e8 e) (gr I.ok.bsz f3)) (o7 _)
 .refine⟨λb o e n _ _=>k b o e,λb o e n _ _=>⟨o.slots,k b o e⟩,λb o e n _=>ag b n (e8 e),λb o e _=>⟨o,k b o e⟩,λb xs e=>hs b _ e,λb o u e=>hs b _ e,λb ps e=>⟨#[],by rw[hs b _ e];simp⟩⟩
 .by_cases hi:i < nt
  .rw[pS i hi] at h2;cases h2
  .obtain⟨k',rfl⟩ : ∃k',i=nt+k':=⟨i - nt,()⟩
   unfold ff at h2;rw[u_ (by simp)] at h2
   simp only[List.length_replicate,Nat.add_sub_cancel_left,e9] at h2;cases ej:js[k']? with
   | none=>rw[ej] at h2;cases h2
   | some j =>
    rw[ej] at h2;simp only[H_,Option.some.injEq] at h2;obtain⟨hN,hk⟩:=S.at_ k' j x ej h1;have am:σ[j]? = some (some v):=by
     cases q:σ[j]? with
     | none=>rw[q] at h2;cases h2
     | some z=>rw[q] at h2;simp only[Option.join] at h2;rw[<- h2];rfl
    have aj:Vis X.env.scope x:=by rcases hk with q | q;exact .inr (.inl q);exact .inr (.inr q)
    obtain⟨m0,ap,ao⟩:=I.loc;obtain⟨u,r,l⟩:=ao j x v hN am aj;refine⟨u,r,?_⟩
    rcases l with⟨q,_⟩ | ⟨q,c,e,z⟩
    .have q':X.env.scope.names.lookup x=some .local:=q
     rw[q'] at hk;rcases hk with hk | hk <;> cases hk
    .have fr:=S.frl k' x h1
     have hv:(relabel scope X.env).names.lookup x=some .cell\/(relabel scope X.env).names.lookup x=some .free:=fL (env:=X.env) fr
     have q:(x,q_)∈scope.names:=dO fr
     obtain⟨c',e'⟩:=G3.mp (aa x q);have e2:=L x c' e';rw[e] at e2;cases e2;obtain⟨oc,F,hd⟩:=z;exact .inr ⟨hv,c,Y x c (λc' z=>by
      have:=S.own _ (fe _ _ _ _ z) rfl
      rw[fr] at this;cases this) e',oc,k _ _ F,hd⟩
 .rcases cs x c e with a | a
  .exact⟨none,(B x c a).1⟩
  .obtain⟨v,oc,F,hd⟩:=I.cell x c (L x c a)
   exact⟨v,oc,k _ _ F,hd⟩
 .rcases cs x c e with a | a
  .exact af c (Ih (B x c a).2)
  .have e2:=L x c a
   obtain⟨v,oc,F,hd⟩:=I.cell x c e2;exact ag c (I.freeC x c e2) (e8 F)
 .unfold ff
  show _=N.length
  rw[S.len];simp
def tI (F:List Str) (xs B:List (Str × y3)) (N:List Str) (nt:Nat) (js:List Nat):Bool :=
 decide N.Nodup && N.length == nt+js.length && (js.zip (N.drop nt)).all (λp=>F[p.1]? == some p.2 && iG xs p.2) && (N.drop nt).all (λx=>B.lookup x == some .free)
  && B.all (λy=>y.2 != .cell || B.lookup y.1 == some .cell) && B.all (λy=>y.2 != .local || B.lookup y.1 == some .local) && B.all (λy=>y.2 != .free || iG xs y.1)
theorem aM (L:List Str) (xs:List (Str × y3)) (hk:scope.kind = .function:=by exact rfl) (hN:X.N=L:=by exact rfl) (hx:X.env.scope.names=xs:=by exact rfl)
  (h:tI L xs scope.names N nt js=true:=by decide+kernel):lG X scope N nt js:=by
 subst hN hx;unfold tI at h;simp only[k9] at h;obtain⟨⟨⟨⟨⟨⟨h1,h2⟩,h3⟩,Y⟩,h5⟩,Z⟩,h7⟩:=h;refine⟨hk,of_decide_eq_true h1,by simpa using h2,λk j x e1 e2=>?_,λk x e=>?_,λy F e=>?_,λy F e=>?_,λy F e=>?_⟩
 .have hm:(j,x)∈js.zip (N.drop nt):=by
   have B:(N.drop nt)[k]? = some x:=by rw[List.getElem?_drop];exact e2
   have:(js.zip (N.drop nt))[k]? = some (j,x):=by rw[List.getElem?_zip_eq_some];exact⟨e1,B⟩
   exact fy this
  have q:=w4.mp h3 _ hm;rw[k9] at q;exact⟨by simpa using q.1,jd q.2⟩
 .have hm:x∈N.drop nt:=by
   have B:(N.drop nt)[k]? = some x:=by rw[List.getElem?_drop];exact e
   exact fy B
  simpa using w4.mp Y _ hm
 .have q:=w4.mp h5 _ F
  rw[e] at q;simpa using q
 .have q:=w4.mp Z _ F
  rw[e] at q;simpa using q
 .have q:=w4.mp h7 _ F
  rw[e] at q;exact jd (by simpa using q)
end L2
namespace PySem.W
open PySem PySem.Calls PyProof.Rows
def KasT.All {α:Type} (n:Nat) (P:α->Prop):KasT α->Prop
 | .ret a=>P a
 | .ask i j k=>i < n/\j < n/\∀b,(k b).All n P
theorem KasT.All.bind {α β:Type} {n:Nat} {P:α->Prop} {R:β->Prop} {f:α->KasT β} : ∀{t:KasT α},t.All n P->(∀a,P a->(f a).All n R)->(t.bind f).All n R
 | .ret a,h,hf=>hf a h
 | .ask i j k,h,hf=>⟨h.1,h.2.1,λb=>KasT.All.bind (h.2.2 b) hf⟩
theorem KasT.All.wp {α:Type} {n:Nat} {P:α->Prop} {Q:α->Shared->Prop} {s:Shared} {cmp:Nat->Nat->(Bool->Shared->Prop)->Shared->Prop}
  (F : ∀i j C,i < n->j < n->(∀b,C b s)->cmp i j C s) (B : ∀a,P a->Q a s) : ∀{t:KasT α},t.All n P->t.kasWp cmp Q s
 | .ret a,h=>B a h
 | .ask i j k,h=>F i j _ h.1 h.2.1 λb=>KasT.All.wp F B (h.2.2 b)
def cQ (n:Nat) (p:Array Nat):Prop:=p.toList.Perm (range n)
theorem cQ.lt {p:Array Nat} (h:cQ n p) (hn:0 < n) (i:Nat):p.getD i 0 < n:=by
 by_cases hi:i < p.size
 .have e:p.getD i 0=p[i]:=by simp[Array.getD,hi]
  rw[e];have:p[i]∈p.toList:=by simp
  exact HW.mp (h.mem_iff.mp this)
 .have e:p.getD i 0=0:=by simp[Array.getD,hi]
  rw[e];exact hn
theorem cQ.rev {p:Array Nat} (h:cQ n p) (i j:Nat):cQ n (kas_rev p i j):=(Array.perm_iff_toList_perm.mp (mirror_perm p i j _)).trans h
theorem cQ.bub {p:Array Nat} (h:cQ n p) (i j:Nat):cQ n (bubble p i j):=(Array.perm_iff_toList_perm.mp (bubble_perm p i j)).trans h
section
variable (hn:0 < n)
include hn
theorem iU {p:Array Nat} (h:cQ n p) : ∀(f m:Nat),(kas_asc p f m).All n λ_=>True
 | 0,m=>trivial
 | f+1,m=>⟨h.lt hn _,h.lt hn _,λb=>by cases b <;> simp <;> first | trivial | exact iU h f (m+1)⟩
theorem fO : ∀(f:Nat) (p:Array Nat) (m q:Nat),cQ n p->(kas_desc f p m q).All n λr=>cQ n r.1
 | 0,p,m,q,h=>h
 | f + 1,p,m,q,h=>by
  refine⟨h.lt hn _,h.lt hn _,λb=>?_⟩
  cases b with
  | true =>
   simp only[if_true]
   split
   .exact fO f _ _ _ (h.rev _ _)
   .exact fO f _ _ _ h
  | false =>
   simp only[gt,if_false];refine⟨h.lt hn _,h.lt hn _,λd=>?_⟩
   cases d with
   | true=>simp only[if_true];exact h
   | false=>simp only[gt,if_false];exact fO f _ _ _ h
theorem jS {p:Array Nat} {m:Nat} (h:cQ n p):(kas_tail3 m k p).All n λr=>cQ n r.2 :=
 (iU hn (h.rev 0 m) _ _).bind λ_ _=>h.rev 0 m
theorem gY {p:Array Nat} {m:Nat} (h:cQ n p):(kas_descPart m k p).All n λr=>cQ n r.2:=by
 refine(fO hn _ p _ _ h).bind λr B=>?_
 split
 .exact jS hn (cQ.rev B _ _)
 .exact jS hn B
theorem qK {p:Array Nat} (h:cQ n p):(kas_count k p).All n λr=>cQ n r.2:=by
 refine(iU hn h _ _).bind λm _=>?_
 split
 .exact h
 .split
  .refine⟨h.lt hn _,h.lt hn _,λb=>?_⟩
   cases b with
   | true=>simp only[if_true];exact h
   | false=>simp only[gt,if_false];exact gY hn (h.rev _ _)
  .exact gY hn h
theorem gR {p:Array Nat} {k:Nat} (h:cQ n p) : ∀(f l r:Nat),(kas_place p k f l r).All n λ_=>True
 | 0,l,r=>trivial
 | f + 1,l,r=>by
  unfold kas_place
  split
  .trivial
  .refine⟨h.lt hn _,h.lt hn _,λb=>?_⟩
   cases b with
   | true=>simp only[if_true];exact gR h f _ _
   | false=>simp only[gt,if_false];exact gR h f _ _
theorem ny : ∀(f:Nat) (p:Array Nat) (k:Nat),cQ n p->(kas_bin f p k).All n (cQ n)
 | 0,p,k,h=>h
 | f+1,p,k,h=>(gR hn h _ _ _).bind λl _=>ny f _ _ (h.bub _ _)
theorem sf:(kas_sort n).All n (cQ n):=by
 refine(qK hn (p:=List.toArray (range n)) (by show(range n).toArray.toList.Perm _;simp)).bind λr B=>?_
 split
 .exact ny hn _ _ _ B
 .exact B
end
theorem uw {vs:List Value} {p:Array Nat} (h:cQ vs.length p):(p.toList.map λi=>vs.getD i p9).Perm vs:=by
 have e:((range vs.length).map λi=>vs.getD i p9)=vs:=by
  apply List.ext_getElem?
  intro i
  by_cases hi:i < vs.length
  .simp[hi]
  .simp[hi]
 have:=h.map λi=>vs.getD i p9
 rwa [e] at this
theorem oQ {vs:List Value} {κ:SortKind} {P:PySem.Fin->Shared->Prop} (ho:s.heap.get? a=some (y6 "list" vs.toArray n)) (ad:vs.length < 64)
  (hk:2<=vs.length->∀(h':Heap) (Q:SortKind->Shared->Prop),(∀b o,b≠a->s.heap.get? b=some o->h'.get? b=some o)->Q κ { s with heap:=h' }->wpAny (model prog w) A (keyKind' vs.toArray) Q (λ_ _=>False) { s with heap:=h' })
  (hc : ∀(h':Heap) (x y:Value) (Q:Bool->Shared->Prop),(∀b o,b≠a->s.heap.get? b=some o->h'.get? b=some o)->x∈vs->y∈vs->(∀b,Q b { s with heap:=h' })->wpAny (model prog w) A (keyLt' κ x y) Q (λ_ _=>False) { s with heap:=h' })
  (h : ∀(Y:Array Value),Y.toList.Perm vs->P (.done (.ret .none)) { s with heap:=sortedHeap s.heap a vs Y }) :
  wpAny (model prog w) A (Builtin.«list.sort» ⟨[.ref a],[]⟩) P E s:=by
 rw[list_sort_plain];have ha:a < s.heap.objs.size:=e8 ho
 refine a_ (listItems_at ho rfl ?_)
 refine a_ (listUpdate_at ho rfl ?_ (by rw[j9,GQ];omega) (x6 _))
 obtain⟨e1,Z⟩ : ∃e1,(s.heap.update a (n_ λ_=>(#[]:Array Value))).get? a=some (y6 "list" #[] e1):=⟨_,get?_update_seq ho (λ_ => #[])⟩
 refine a_ (seqEpoch_at Z rfl ?_)
 refine a_ (wpAny_newTuple ?_ (by show vs.length<=_;rw[GQ];omega))
 refine a_ (wpAny_newList ?_ (x6 _))
 refine t4 ?_
 have B:(((s.heap.update a (n_ λ_=>(#[]:Array Value))).push (y6 "tuple" vs.toArray 0)).push (y6 "list" #[] 0)).get? a=some (y6 "list" #[] e1):=by
  rw[Heap.get?_push_ne _ _ _ (by rw[size_push',GN];exact k7 (GK ha)),Heap.get?_push_ne _ _ _ (by rw[GN];exact k7 ha)]
  exact Z
 have hold : ∀b o,b≠a->s.heap.get? b=some o->(((s.heap.update a (n_ λ_=>(#[]:Array Value))).push (y6 "tuple" vs.toArray 0)).push (y6 "list" #[] 0)).get? b=some o:=λb o hb e =>
  d_ _ (d_ _ (by rw[Heap.get?_update_ne _ _ _ _ hb];exact e))
 show wpAny (model prog w) A _ P E { s with heap:=((s.heap.update a (n_ λ_=>(#[]:Array Value))).push (y6 "tuple" vs.toArray 0)).push (y6 "list" #[] 0) }
 dsimp only
 by_cases h2:vs.toArray.size < 2
 .rw[if_pos h2,if_pos h2]
  refine a_ (ei ?_)
  rw[StateT.run_pure];refine a_ (ei ?_)
  dsimp only;refine a_ (seqEpoch_at B rfl ?_)
  refine a_ (listUpdate_at B rfl ?_ (hsz2:=by rw[Array.size_map];show(pairsOf vs).size<=_;rw[pairsOf_size,GQ];omega))
  simp only[bne_self_eq_false,gt,if_false];refine ei (h _ ?_)
  have e:(Array.map (λ(x:Value × Value)=>x.2) (vs.toArray.zip vs.toArray)).toList=vs:=by
   rw[Array.toList_map,Array.toList_zip];exact List.map_snd_zip (i6 _)
  show(Array.map (λ(x:Value × Value)=>x.2) (vs.toArray.zip vs.toArray)).toList.Perm vs
  rw[e]
 .rw[if_neg h2,if_neg h2]
  have aa:2<=vs.length:=by rw[j9] at h2;omega
  refine a_ (x8 (hk aa _ (λab s'=>ab=κ/\s'={ s with heap:=((s.heap.update a (n_ λ_=>(#[]:Array Value))).push (y6 "tuple" vs.toArray 0)).push (y6 "list" #[] 0) }) hold ⟨rfl,rfl⟩) (λab s0 ac=>?_) λ_ _ x=>x.elim)
  obtain⟨rfl,rfl⟩:=ac;refine a_ (x8 (kat_run (ks:=vs) (vs:=vs) (Q:=λF s'=>∃p:Array Nat,p.size=vs.length/\arrOf F=p.map (kas_item (vs.toArray.zip vs.toArray))/\failedOf F=none/\cQ vs.length p/\s'={ s with heap:=((s.heap.update a (n_ λ_=>(#[]:Array Value))).push (y6 "tuple" vs.toArray 0)).push (y6 "list" #[] 0) })
   (G:=λp s'=>cQ vs.length p/\s'={ s with heap:=((s.heap.update a (n_ λ_=>(#[]:Array Value))).push (y6 "tuple" vs.toArray 0)).push (y6 "list" #[] 0) })
   rfl aa ad (λp' F s' a1 a2 a3 a4=>⟨p',a1,a2,a3,a4⟩) (KasT.All.wp (n:=vs.length) (P:=cQ vs.length) (λi j C hi hj hC=>?_) (λp hp=>⟨hp,rfl⟩) (sf ()))) ?_ λ_ _ e=>e)
  .unfold kas_ask
   have e1:vs.getD i p9∈vs:=by simp[hi]
   have e2:vs.getD j p9∈vs:=by simp[hj]
   exact hc _ _ _ _ hold e1 e2 hC
  .rintro⟨⟨⟩,F⟩ s' ⟨p,hp,har,hf,hperm,rfl⟩
   dsimp only;have L:=kat_snds (ks:=vs) (vs:=vs) rfl har;have hsz:(List.toArray (p.toList.map λi=>vs.getD i p9)).size=vs.length:=by rw[j9,c_,y4,hp]
   rw[L];refine a_ (seqEpoch_at B rfl ?_)
   refine a_ (listUpdate_at B rfl ?_ (x6 _) (gr (GX hsz) (by rw[GQ];omega)))
   rw[hf];simp only[bne_self_eq_false,gt,if_false];exact ei (h _ (by simpa using uw hperm))
theorem sorted_some {vs:List Value} {κ:SortKind} (hl:s.heap.IsList l vs.toArray) (Z:vs.length < 64)
  (hk:2<=vs.length->∀(h':Heap) (Q:SortKind->Shared->Prop),(∀b o,s.heap.get? b=some o->h'.get? b=some o)->Q κ { s with heap:=h' }->wpAny (model prog w) A.in1.in1 (keyKind' vs.toArray) Q (λ_ _=>False) { s with heap:=h' })
  (hc : ∀(h':Heap) (x y:Value) (Q:Bool->Shared->Prop),(∀b o,s.heap.get? b=some o->h'.get? b=some o)->x∈vs->y∈vs->(∀b,Q b { s with heap:=h' })->wpAny (model prog w) A.in1.in1 (keyLt' κ x y) Q (λ_ _=>False) { s with heap:=h' })
  (h : ∀(B:Array Value),B.toList.Perm vs->Q (.ref (s.heap.objs.size+1)) { s with heap:=sortedAll s.heap vs B }) :
  wpAny (model prog w) A (call (.builtin "sorted") [.ref l]) Q E s:=by
 refine Calls.call_function_entry kind_sorted plain_sorted entry_sorted (args_sorted1 _) ?_
 unfold Builtin.«sorted»;refine a_ (m:=checkCount "sorted" 1 1 _) (ei ?_)
 refine a_ (collect_list hl ?_ (by rw[GQ];omega))
 refine a_ (wpAny_newList ?_ (by rw[GQ];omega))
 have hsz:((s.heap.push (y6 "list" #[] 0)).update s.heap.objs.size (n_ (· ++ vs.toArray))).objs.size=s.heap.objs.size+1:=by
  rw[GN,size_push']
 have L:(((s.heap.push (y6 "list" #[] 0)).update s.heap.objs.size (n_ (· ++ vs.toArray))).push (y6 "list" vs.toArray 0)).get? (s.heap.objs.size+1)=some (y6 "list" vs.toArray 0):=by
  rw[<- hsz];exact f_ _ rfl
 have keep : ∀b o,s.heap.get? b=some o->(((s.heap.push (y6 "list" #[] 0)).update s.heap.objs.size (n_ (· ++ vs.toArray))).push (y6 "list" vs.toArray 0)).get? b=some o:=λb o q=>by
  have F:b < s.heap.objs.size:=e8 q
  rw[Heap.get?_push_ne _ _ _ (by rw[hsz];exact k7 (GK F)),Heap.get?_update_ne _ _ _ _ (k7 F),Heap.get?_push_ne _ _ _ (k7 F)]
  exact q
 show wpAny _ _ _ _ _ { s with heap:=((s.heap.push (y6 "list" #[] 0)).update s.heap.objs.size (n_ (· ++ vs.toArray))).push (y6 "list" vs.toArray 0) }
 rw[hsz];refine a_ (t4 (m7 slot_list_sort ⟨_,L,rfl⟩ entry_list_sort (oQ (κ:=κ) L Z (λh2 h' Q hold Y=>hk h2 h' Q (λb o e=>hold b o (k7 (GK (e8 e))) (keep b o e)) Y)
  (λh' x y Q hold hx hy Y=>hc h' x y Q (λb o e=>hold b o (k7 (GK (e8 e))) (keep b o e)) hx hy Y) λB a1=>⟨_,rfl,?_⟩) (args_list_sort _)))
 exact ei ⟨_,rfl,h B a1⟩
end PySem.W
namespace L2
open PySem PySem.Spec PyProof.Rows
def wb (h:Heap) (a:Addr):Prop:=∃o x y z L B F n,h.get? a=some o/\o.cls = .type "tuple" /\ o.data = .seq #[.str x L,.str y B,.int z F] n
theorem wb.keep (r:wb h a) (k : ∀b o,h.get? b=some o->h'.get? b=some o):wb h' a:=by
 obtain⟨o,x,y,z,L,B,F,n,e,c,d⟩:=r;exact⟨o,x,y,z,L,B,F,n,k _ _ e,c,d⟩
theorem BW {Q:Bool->Shared->Prop} (L:wb s.heap a) (rb:wb s.heap b) (h : ∀c,Q c s) :
  wpAny (model prog w) A (keyLt' (tuples' true) (.ref a) (.ref b)) Q E s:=by
 obtain⟨o,x,y,z,t1,t2,t3,n,e,c,d⟩:=L;obtain⟨o',x',y',z',Y,F,B,n',Z,c',d'⟩:=rb;refine PySem.W.kat_lt e d Z d' ?_
 refine kat_cons (wpAny_eqBool_str (kat_go (λ_=>kat_yes ?_) (λ_=>kat_no ?_)))
 .refine kat_cons (wpAny_eqBool_str (kat_go (λ_=>kat_yes ?_) (λ_=>kat_no ?_)))
  .refine kat_cons (wpAny_eqBool_int (kat_go (λ_=>kat_yes (PySem.W.kat_nil (h _))) (λ_=>kat_no ?_)))
   exact kat_one _ _ (lt_int (h _))
  .exact kat_one _ _ (PyProof.Rows.lt_str (h _))
 .exact oneLt_str (h _)
theorem rE {h:Heap} : ∀{as:List Addr},(∀a∈as,wb h a)->∃fs:List Value,fs.length=as.length/\PySem.W.KatTups h (as.map h_) fs/\∀f∈fs,∃x t,f = .str x t
 | [],_=>⟨[],rfl,PySem.W.KatTups.nil,λf B=>by simp at B⟩
 | a :: as,hr=>by
  obtain⟨fs,hl,Z,B⟩:=rE (as:=as) λb Y=>hr b (j6 _ Y)
  obtain⟨o,x,y,z,L,t2,t3,n,e,c,d⟩:=hr a k6;refine⟨.str x L :: fs,by simp[hl],PySem.W.KatTups.cons e c d rfl Z,λf F=>?_⟩
  rcases i4.mp F with q | q
  .exact⟨x,L,q⟩
  .exact B f q
def adr:Value->Addr | .ref a=>a | _=>0
theorem yI {as:List Addr} (h:us.Perm (as.map h_)) : ∃bs:List Addr,us=bs.map h_/\bs.Perm as:=by
 refine⟨us.map adr,?_,?_⟩
 .rw[lb]
  have : ∀u∈us,(h_ ∘ adr) u=u:=λu hu=>by
   obtain⟨a,_,e⟩:=hB.mp (h.mem_iff.mp hu);rw[<- e];rfl
  rw[m4 this];simp
 .have:=h.map adr
  rw[lb] at this;have e:(adr ∘ h_)=id:=by funext a;rfl
  rwa [e,map_id] at this
theorem tM : ∀(as:List Addr),be (as.map V.ref) (as.map h_)
 | []=>.nil
 | a :: as=>.cons rfl (tM as)
theorem nj : ∀{as:List Addr} {us:List Value},be (as.map V.ref) us->us=as.map h_
 | [],us,r=>by cases r;rfl
 | a :: as,us,r=>by
  cases r with
  | cons F B =>
   have e1:_=h_ a:=F
   rw[e1,nj B];rfl
def ph:List V->Hp->VK->Prop:=λxs H Q=>∃p,xs=[.ref p]/\∃as:List Addr,H p*>(as.map V.ref)/\as.length < 64/\(∀a∈as,∃x y z,H a>>[.str x,.str y,.int z])/\∀(q:Addr) (bs:List Addr),H q=none->bs.Perm as->Q (.ref q) (upd H q (.lst (bs.map V.ref)))
theorem kQ:bY X (.builtin "sorted") ph:=by
 intro pins s σ H xs us Q I r h;obtain⟨p,rfl,as,hp,hl,hr,q⟩:=h;obtain⟨u,rfl,ru⟩:=dA r;cases ru;obtain⟨its,rv,pl,hz⟩:=I.list (SqL.of hp);have L:=nj rv;subst L;have rows : ∀a∈as,wb s.heap a:=λa ha=>by
  obtain⟨x,y,z,e⟩:=hr a ha;obtain⟨ws,aa,⟨o,eo,ec,n,ed⟩,_⟩:=I.tuple (SqT.of e);cases aa with
  | cons r1 r2=>cases r2 with
   | cons r2 r3=>cases r3 with
    | cons r3 r4 =>
     cases r4;obtain⟨t1,rfl⟩:=r1;obtain⟨t2,rfl⟩:=r2;obtain⟨t3,rfl⟩:=r3;exact⟨o,x,y,z,t1,t2,t3,n,eo,ec,ed⟩
 refine PySem.W.sorted_some (κ:=tuples' true) pl.isList (by simpa using hl) (λh2 h' Q' Z hq=>?_) (λh' x y Q' Z hx hy hq=>?_) λF B=>?_
 .obtain⟨fs,hfl,ht,hf⟩:=rE (h:=h') λa ha=>(rows a ha).keep Z
  refine PySem.W.kat_kind (T:=.type "str") ht (by rw[hfl];rw[c_] at h2;omega) (λv hv=>?_) ∅ hq
  obtain⟨x,t,rfl⟩:=hf v hv;exact PySem.W.Looks.of_pure rfl
 .obtain⟨a,ha,rfl⟩:=hB.mp hx
  obtain⟨b,hb,rfl⟩:=hB.mp hy;exact BW ((rows a ha).keep Z) ((rows b hb).keep Z) hq
 .obtain⟨e,he⟩:=sortedAll_at s.heap (as.map h_) F
  obtain⟨bs,ab,Y⟩:=yI B;refine⟨.ref (s.heap.objs.size+1),_,I.laid (a:=s.heap.objs.size+1) (o:=.lst (bs.map V.ref)) (t':=s.toks) (λb o e=>sortedAll_old e) (le_succ _) ⟨?_,F.toList,e,by rw[ab];exact tM bs,?_⟩,rfl,q _ bs (I.hok.fresh (le_succ _)) Y⟩
  .rw[c_,Y.length_eq];exact GY (aN ())
  .rw[he]
abbrev L3:=Str × Str × Int
def l3V (x:L3):List V:=[.str x.1,.str x.2.1,.int x.2.2]
def l3D (x:L3):Is:=.tuple [.str x.1,.str x.2.1,.int x.2.2]
def bU (H:Hp) (vs:List V) (ls:List L3):Prop:=∃as:List (Addr × L3),vs=as.map (λx=>V.ref x.1)/\ls=as.map (·.2)/\∀x∈as,H x.1>>(l3V x.2)
theorem bU.nil:bU H [] []:=⟨[],rfl,rfl,λx B=>by simp at B⟩
theorem bU.keep {ls:List L3} (h:bU H vs ls) (k : ∀a xs,H a>>xs->H' a>>xs):bU H' vs ls:=by
 obtain⟨as,h1,h2,B⟩:=h;exact⟨as,h1,h2,λx F=>k _ _ (B x F)⟩
theorem bU.snoc {ls:List L3} {t:Addr} {l:L3} (h:bU H vs ls) (L:H t>>(l3V l)):bU H (vs++[.ref t]) (ls++[l]):=by
 obtain⟨as,h1,h2,B⟩:=h;refine⟨as++[(t,l)],by simp[h1],by simp[h2],λx F=>?_⟩
 rcases i9.mp F with z | z
 .exact B x z
 .rw[e7.mp z];exact L
theorem bU.length {H:Hp} {vs:List V} {ls:List L3} (h:bU H vs ls):vs.length=ls.length:=by
 obtain⟨as,h1,h2,B⟩:=h;rw[h1,h2,c_,c_]
theorem bU.get {ls:List L3} (h:bU H vs ls) {i:Nat} {v:V} (B:vs[i]? = some v) : ∃t l,v = .ref t/\ls[i]? = some l/\H t>>(l3V l):=by
 obtain⟨as,h1,h2,F⟩:=h;rw[h1,e9] at B;cases e:as[i]? with
 | none=>rw[e] at B;cases B
 | some x =>
  rw[e] at B;cases B;exact⟨x.1,x.2,rfl,by rw[h2,e9,e];rfl,F x (fy e)⟩
theorem bU.perm {ls:List L3} {as bs:List Addr} (h:bU H (as.map V.ref) ls) (hp:bs.Perm as) : ∃ms,ms.Perm ls/\bU H (bs.map V.ref) ms:=by
 obtain⟨xs,h1,h2,h3⟩:=h;have e:as=xs.map (·.1):=by
  have:=congrArg (List.map λv=>match v with | V.ref a=>a | _=>0) h1
  simpa [Function.comp_def] using this
 have L : ∀{bs cs:List Addr},bs.Perm cs->∀xs:List (Addr × L3),cs=xs.map (·.1)->∃ys:List (Addr × L3),ys.Perm xs/\bs=ys.map (·.1):=by
  intro bs cs hp
  induction hp with
  | nil=>intro xs e;exact⟨[],by cases xs with | nil=>exact .refl _ | cons x xs=>simp at e,rfl⟩
  | cons a _ ih =>
   intro xs e;cases xs with
   | nil=>simp at e
   | cons x xs =>
    rw[i8] at e
    injection e with e1 e2
    obtain⟨ys,B,F⟩:=ih xs e2;exact⟨x :: ys,B.cons x,by rw[i8,F,e1]⟩
  | swap a b l =>
   intro xs e
   match xs,e with
   | x :: y :: xs,e =>
    simp only[i8,List.cons.injEq] at e;exact⟨y :: x :: xs,.swap _ _ _,by simp only[i8];rw[e.1,e.2.1,e.2.2]⟩
   | [x],e=>simp at e
   | [],e=>simp at e
  | trans _ _ Y i2 =>
   intro xs e;obtain⟨ys,B,F⟩:=i2 xs e;obtain⟨zs,z1,z2⟩:=Y ys F;exact⟨zs,z1.trans B,z2⟩
 obtain⟨ys,B,F⟩:=L hp xs e;exact⟨ys.map (·.2),by rw[h2];exact B.map _,ys,by rw[F,lb];rfl,rfl,λx Z=>h3 x (B.mem_iff.mp Z)⟩
theorem bU.reps {ls:List L3} (h:bU H vs ls):gz K H vs (ls.map l3D):=by
 obtain⟨as,rfl,rfl,B⟩:=h
 induction as with
 | nil=>exact .nil
 | cons x as F=>exact .cons (.tup (.of (B x (by simp))) (.cons (.str _) (.cons (.str _) (.cons (.int _) .nil)))) (F λy L=>B y (by simp[L]))
def yL (x:L3):Prop:=HU x.1=true/\HU x.2.1=true
theorem A5 {x:L3} (h:yL x):(l3D x).canLay0=true:=by simp[l3D,HS,pc];exact h
theorem xb : ∀ls:List L3,(∀x∈ls,yL x)->pc (ls.map l3D)=true
 | [],_=>rfl
 | x :: ls,h=>by
  rw[i8];unfold pc;rw[xb ls λy B=>h y (j6 _ B),A5 (h x k6)]
  rfl
theorem Av (x:L3):(l3D x).depth<=1:=by simp[l3D,Iu,GW]
theorem wF {t w:Addr} {l:L3} {ls:List L3} {Q:VK} (Y:H t>>(l3V l)) (L:H w*>vs) (F:bU H vs ls) (B:yL l) (h1 : ∀x∈ls,yL x) (q : ∀b,Q (.bl b) H):zQ K true (.ref t) (.ref w) H Q :=
 ⟨l3D l,ls.map l3D,.tup (.of Y) (.cons (.str _) (.cons (.str _) (.cons (.int _) .nil))),.lst (.of L) F.reps,A5 B,xb ls h1,gr (Av l) ∅,q _⟩
end L2
variable {ls:List L2.L3}
namespace PySem
open L2 PyProof.Rows PySem.Calls
def jt:Int:=0xFCA86420
theorem tJ {Q:Int->Shared->Prop} (h:Q jt { s with toks:=s.toks+1 }):wpAny (model prog w) A (pyHash .none) Q E s:=by
 have B:s.TypeIs p9 "NoneType" := rfl
 show wpAny _ _ (pyHashByItsType .none) Q E s
 unfold pyHashByItsType;refine a_ ?_
 rw[cRoomFor,if_neg (by rw[show[p9].any Value.onHeap=false from rfl];exact i_)]
 refine ei (a_ (x_ B G1.lookup ?_))
 refine wpAny_ite_split (λz=>by cases z) λ_=>?_
 refine a_ (x_ B G1.lookup ?_)
 refine wpAny_ite_split (λz=>by cases z) λ_=>?_
 refine a_ (wpAny_callSpecialIfBoundUnlessNone?_slot B G1 (m7 G1 B PySem.F.entry_NoneType_hash (show wpAny _ _ (do ret (<- mkInt jt)) _ _ s from wpAny_ret_mkInt ?_) (PySem.F.args_NoneType_hash_1 _)))
 show wpAny _ _ (if (decide (-(2:Int) ^ 63<=jt) && decide (jt < 2 ^ 63))=true then _ else _) Q E _
 rw[if_pos ∅]
 exact ei h
theorem tT {Q:Bool->Shared->Prop} (h:Q true s):wpAny (model prog w) A (eqBool .none .none) Q E s:=by
 unfold eqBool;refine t4 ?_
 rw[if_pos ∅]
 exact a_ (wpAny_rule (ei h))
def uT:Option Int->Value->Bool
 | none,.none=>true
 | some i,v=>v.isInt i
 | _,_=>false
theorem cj {k:Option Int} {v:Value} (h:uT k v=true):(k=none/\v = .none)\/∃i t,k=some i/\v = .int i t:=by
 cases k with
 | none=>cases v <;> first | exact .inl ⟨rfl,rfl⟩ | cases h
 | some i =>
  obtain⟨t,e⟩:=Value.isInt_shape (show Value.isInt i v=true by cases v <;> first | exact h | cases h)
  exact .inr ⟨i,t,rfl,e⟩
theorem EA {a b:Option Int} {v:Value} {Q:Bool->Shared->Prop} (hu:uT a u=true) (B:uT b v=true) (h:Q (decide (a=b)) s):wpAny (model prog w) A (eqBool u v) Q E s:=by
 rcases cj hu with⟨rfl,rfl⟩ | ⟨i,t,rfl,rfl⟩
 .rcases cj B with⟨rfl,rfl⟩ | ⟨j,u,rfl,rfl⟩
  .exact tT (by simpa using h)
  .exact SeqAt.EqAt.none_int j u _ _ _ _ (by simpa using h)
 .rcases cj B with⟨rfl,rfl⟩ | ⟨j,u,rfl,rfl⟩
  .exact SeqAt.EqAt.int_none i t _ _ _ _ (by simpa using h)
  .refine wpAny_eqBool_int ?_
   have e:(i == j)=decide (some i=some j):=by rw[o8];simp
   rw[e];exact h
def GI:Option Int->Int | none=>jt | some i=>hashInt i
def cq (prog:Program) (w:World):KeyKind prog w (Option Int) where
 is:=uT
 hash:=GI
 inj := λv a b ha L=>by
  rcases cj ha with⟨rfl,rfl⟩ | ⟨i,t,rfl,rfl⟩
  .rcases cj L with⟨rfl,_⟩ | ⟨j,u,rfl,e⟩
   .rfl
   .cases e
  .rcases cj L with⟨rfl,e⟩ | ⟨j,u,rfl,e⟩
   .cases e
   .cases e;rfl
 byValue:=λk v h=>by
  rcases cj h with⟨rfl,rfl⟩ | ⟨i,t,rfl,rfl⟩ <;> rfl
 pyHash:=λF h=>by
  rcases cj F with⟨rfl,rfl⟩ | ⟨i,t,rfl,rfl⟩
  .exact tJ h
  .exact wpAny_pyHash_int h
 eqBool:=λhu F h=>EA hu F h
 «strs» := λk x t v h=>absurd (cj h) (λz=>z.elim (λz=>nomatch z.2) λB=>by obtain⟨_,_,_,e⟩:=B;exact(nomatch e))
end PySem
namespace L2
open PySem PySem.Spec PyProof.Rows
def oV:Option Int->V | none=>.non | some i=>.int i
theorem AR {k:Option Int} (h:bg (oV k) u):(cq P w).is k u=true:=by
 cases k with
 | none=>cases (show u=p9 from h);rfl
 | some i=>obtain⟨t,rfl⟩:=(show ∃t,u=Value.int i t from h);exact intKind_is P w i t
theorem E8 {k:Option Int} (h:(cq P w).is k u=true):bg (oV k) u:=by
 rcases cj (show uT k u=true from h) with⟨rfl,rfl⟩ | ⟨i,t,rfl,rfl⟩
 .rfl
 .exact⟨t,rfl⟩
def dB (ks:List (Option Int)):List (Option Int × Value):=ks.map λk=>(k,Hq true)
def uB (P:Program) (w:World) (a:Addr) (o:Obj) (ks:List (Option Int)) (h:Heap):Prop:=h.get? a=some o/\(a == Gt)=false/\ks.length<=1000/\h.DictOf (cq P w) a (dB ks)
def eN (P:Program) (w:World) (a:Addr) (o:Obj) (ks:List (Option Int)):HO:=.ext (uB P w a o ks)
section
variable {o:Obj}
theorem uB.ok (x:uB P w a o ks h):bF P w H h a (eN P w a o ks) :=
 ⟨x,⟨o,x.1⟩,λh1 h2 z k=>⟨k _ z.1,z.2.1,z.2.2.1,z.2.2.2.at k⟩⟩
def qw (ks:List (Option Int)) (k:Option Int):List (Option Int):=if k∈ks then ks else ks++[k]
theorem sA (ks:List (Option Int)) (k:Option Int):stored (dB ks) k (.bool true)=dB (qw ks k):=by
 unfold stored qw
 by_cases B:k∈ks
 .have e:(dB ks).any (λF=>decide (F.1=k))=true:=sn.mpr ⟨(k,.bool true),hB.mpr ⟨k,B,rfl⟩,by simp⟩
  rw[if_pos e,if_pos B];unfold dB;rw[lb]
  apply m4
  intro x _
  show(if x=k then(x,Hq true) else(x,Hq true))=_
  split <;> rfl
 .have e : ¬ (dB ks).any (λF=>decide (F.1=k))=true:=λz=>by
   obtain⟨y,L,e⟩:=sn.mp z;obtain⟨x,Y,rfl⟩:=hB.mp L;exact B (of_decide_eq_true e ▸ Y)
  rw[if_neg e,if_neg B];unfold dB;rw[v_];rfl
theorem A4 (ks:List (Option Int)) (k:Option Int):(qw ks k).length<=ks.length+1:=by unfold qw;split <;> simp
end
section
variable {ie:Expr}
def AA (P:Program) (w:World) (td ty tv:TE):TS:=λD σ H=>tv σ H λv H1=>td σ H1 λx H2=>ty σ H2 λy B=>v = .bl true/\∃a,x = .ref a/\∃k,y=oV k/\∃o ks,B a=some (eN P w a o ks)/\ks.length < 1000/\∀o',D.nx σ (upd B a (eN P w a o' (qw ks k)))
theorem Bx (hu:X.A.units+1 < cLine) (ho:PE X oe td) (hi:PE X ie ty) (Z:PE X value tv) (hs:Ir value (some (.Subscript oe ie pos')) pos.line X.env=pure false) :
  PS X (.Assign [.Subscript oe ie pos'] value pos) (AA X.prog X.w td ty tv):=by
 intro pins s σ H D I h;refine wpAny_Assign_Subscript (thn (Z pins s σ H _ I h) λr s1 ⟨v,H1,I1,rv,q1⟩=>thn (ho pins s1 σ H1 _ I1 q1) λu s2 ⟨x,H2,I2,rx,q2⟩=>thn (hi pins s2 σ H2 _ I2 q2) λiv s3 B=>?_) hs
 obtain⟨y,H3,Y,ry,ev,a,ex,k,ey,o,ks,ha,hl,q3⟩:=B;subst ex ey ev;obtain rfl:u=h_ a:=rx
 obtain rfl:r=Hq true:=rv
 obtain⟨⟨g,hd,hz,dd⟩,_⟩:=(show bF X.prog X.w H3 s3.heap a (eN X.prog X.w a o ks) from Y.hok a _ ha)
 refine wpAny_setItem_pairs (knd:=cq X.prog X.w) (k:=k) (hsz:=by unfold dB;rw[c_];exact gr hz ∅) (AR ry) dd λh' F L=>?_
 rw[sA] at F;obtain⟨o',es,ep,g',r'⟩:=id F;have aa:=A4 ks k;exact⟨σ,_,oA (ob:=eN X.prog X.w a o' (qw ks k)) Y (by rw[ha];exact nl) L ⟨o',g'⟩ (uB.ok ⟨g',hd,(),F⟩),q3 o'⟩
end
def qd (is:List Int):List (Key × V):=is.map λi=>(i7 i,V.bl true)
theorem xa {P:Program} {w:World} : ∀{is:List Int} {es:List DictEntry} {vs:List (Key × Value)},KV (qd is) vs->Pairs (bp P w) es vs->(∀e∈es,∃k,(bp P w).is k e.key=true/\e.hash=(bp P w).hash k) ->
  Pairs (cq P w) es (dB (is.map some))/\∀e∈es,∃k,(cq P w).is k e.key=true/\e.hash=(cq P w).hash k
 | [],es,vs,r,p,_=>by
  unfold qd KV at r;cases r;cases p;exact⟨.nil,λe he=>by simp at he⟩
 | i :: is,es,vs,r,p,hk=>by
  unfold qd KV at r;rw[i8] at r;cases r with
  | @cons p0 q0 ps qs h0 hr =>
   obtain⟨k0,u0⟩:=q0;obtain⟨e0,ru⟩:=h0;dsimp only at e0 ru;subst e0;obtain rfl:u0=Hq true:=ru
   cases p with
   | @cons e kv es' kvs' h1 h2 h3 =>
    obtain⟨aa,Y⟩:=xa (is:=is) hr h3 λe he=>hk e (j6 _ he)
    have Z : ∃t,e.key=Value.int i t:=by
     rcases bM (k:=i7 i) (v:=e.key) h1 with⟨j,t,ej,L⟩ | ⟨x,t,ej,L⟩
     .cases ej;exact⟨t,L⟩
     .cases ej
    obtain⟨t,et⟩:=Z;have F:(cq P w).is (some i) e.key=true:=by rw[et];exact intKind_is P w i t
    refine⟨.cons F h2 aa,λe' B=>?_⟩
    rcases i4.mp B with rfl | B
    .obtain⟨k,k1,k2⟩:=hk e' (k6)
     have L:k=i7 i:=(bp P w).inj _ _ _ k1 h1
     subst L;exact⟨some i,F,k2⟩
    .exact Y e' B
def Ci (P:Program) (w:World) (te:TE):TE:=λσ H Q=>te σ H λx H1=>∃a,x = .ref a/\∃is:List Int,H1 a<*(qd is)/\is.length<=1000/\∀o,Q x (upd H1 a (eN P w a o (is.map some)))
theorem DS (Z:PE X e te):PE X e (Ci X.prog X.w te):=by
 intro pins s σ H Q I h;refine thn (Z pins s σ H _ I h) λv s1 B=>?_
 obtain⟨x,H1,I1,r1,a,ex,is,ha,hl,q⟩:=B;subst ex;obtain⟨hz,hd,vs,L,o,es,ep,ho,hx,Y,hk,hp,hn⟩:=pj I1.hok ha;have aa : ∀ob u,X.H₀ a≠some (.frz ob u):=λob u e=>by have:=I1.base.frzs a ob u e;rw[ha] at this;cases this
 obtain⟨p1,p2⟩:=xa L hp λe Z=>hk e (by simpa using Z)
 have F:((dB (is.map some)).map (·.1)).Nodup:=by
  have e1:(dB (is.map some)).map (·.1)=is.map some:=by unfold dB;rw[lb];simp
  have e2 : ∀{is:List Int} {vs:List (Key × Value)},KV (qd is) vs->vs.map (·.1)=is.map i7:=by
   intro is
   induction is with
   | nil=>intro vs r;unfold qd KV at r;cases r;rfl
   | cons i is ih =>
    intro vs r;unfold qd KV at r;rw[i8] at r;cases r with
    | cons h0 hr =>
     rw[i8,i8,ih hr];rw[<- h0.1]
  rw[e2 L] at hn;rw[e1];have F:is.Nodup:=(E_.mp hn).imp λh z=>h (by rw[z])
  exact E_.mpr (F.imp λh z=>h (fx z))
 have nd:uB X.prog X.w a o (is.map some) s1.heap:=⟨ho,hd,by rw[c_];exact hl,o,es,ep,ho,hx,Y,λe Z=>p2 e (by simpa using Z),p1,F⟩
 exact⟨.ref a,_,I1.retag ha (by intro y z;cases z) (by intro y z;cases z) aa (by intro y z;cases z) nd.ok,r1,q o⟩
def ItN (P:Program) (w:World) (a:Addr) (o:Obj) (ks:List (Option Int)):It :=
 ⟨λi H=>H a=some (eN P w a o ks)/\i < ks.length,λi H x H'=>H'=H/\∃k,ks[i]? = some k/\x=oV k,λi H=>H a=some (eN P w a o ks)/\ks.length<=i⟩
theorem DY (a it:Addr) (o:Obj) (ks:List (Option Int)) (ep:Nat) (ac : ∃es,o.data = .dict es ep):rR P w K tg (ItN P w a o ks) [it] it (λi h=>h.IsKeyIter it a i ks.length ep) where
 mem:=by simp
 obj:=λi h st b Z=>by
  obtain rfl:b=it:=by simpa using Z
  obtain⟨ob,e,c,d⟩:=st;exact⟨ob,e,λv z=>by rw[d] at z;cases z⟩
 keep:=λi h h' st k=>st.at λob e=>k it (by simp) ob e
 item:=by
  intro X hP hw hK hc i pins s σ H E I hf st ⟨ha,hi⟩;subst hP hw hK;obtain⟨⟨ho,hd,hz,od,es,F,L,hr⟩,_⟩:=(show bF X.prog X.w H s.heap a (eN X.prog X.w a o ks) from I.hok a _ ha)
  obtain rfl:o=od:=fx (ho.symm.trans L)
  obtain⟨af,aa⟩:=ac;obtain rfl:F=ep:=by
   have:=hr.2.1
   rw[aa] at this;cases this;rfl
  have B:(dB ks).length=ks.length:=by unfold dB;simp
  obtain⟨k,hk⟩ : ∃k,ks[i]? = some k:=⟨ks[i],by simp[hi]⟩
  obtain⟨f0,f1,f2,f3,f4,f5⟩:=hf it (by simp)
  have Y:s.heap.IsKeyIter it a i (dB ks).length F:=by rw[B];exact st
  refine wpAny_pyNext_dict_item (knd:=cq X.prog X.w) (k:=k) (v:=.bool true) Y ⟨o,es,ho,hr⟩ (by unfold dB;rw[e9,hk];rfl) λag h' ad ab sb=>?_
  have I1:Inv X pins σ H { s with heap:=h' }:=I.turned (t':=s.toks) (λb ob Z e=>(sb.2 b Z).trans e) f0 f1 f3 f4 f5
  rw[B] at ab;obtain⟨ob,e,c,d⟩:=id ab;exact⟨ag,rfl,qP (s:={ s with heap:=h' }) e c d ∅ ⟨oV k,H,I1,E8 ad,⟨rfl,k,hk,rfl⟩,ab,λb Z=>(hf b Z).1⟩⟩
 done:=by
  intro X hP hw hK hc i pins s σ H E I hf st ⟨ha,hi⟩;subst hP hw hK;obtain⟨⟨ho,hd,hz,od,es,F,L,hr⟩,_⟩:=(show bF X.prog X.w H s.heap a (eN X.prog X.w a o ks) from I.hok a _ ha)
  obtain rfl:o=od:=fx (ho.symm.trans L)
  obtain⟨af,aa⟩:=ac;obtain rfl:F=ep:=by
   have:=hr.2.1
   rw[aa] at this;cases this;rfl
  have B:(dB ks).length=ks.length:=by unfold dB;simp
  obtain⟨f0,f1,f2,f3,f4,f5⟩:=hf it (by simp)
  have Y:s.heap.IsKeyIter it a i (dB ks).length F:=by rw[B];exact st
  exact wpAny_pyNext_dict_end (knd:=cq X.prog X.w) (I.ok.hd hc) Y ⟨o,es,ho,hr⟩ (D_.mpr ()) λh' eb=>⟨rfl,I.turned (t':=s.toks) (λb ob Z e=>eb b ob Z e) f0 f1 f3 f4 f5⟩
 self:=λ_ _ _ _ _ st h=>wpAny_pyIter_keyiter st h
theorem Ax {o:Obj}:Wlk (ItN P w a o ks) (ks.map oV) (λH=>H a=some (eN P w a o ks)) :=
 ⟨λi H h hi=>⟨h,by simpa using hi⟩,λi H x H' h _ y=>by
  obtain⟨e,k,B,rfl⟩:=y;exact⟨by rw[e9,B];rfl,e⟩,λi H h hi=>⟨h,by simpa using hi⟩⟩
def iN (P:Program) (w:World) (tl:TE):TI:=λσ H R=>tl σ H λx H1=>∃a,x = .ref a/\∃o ks,H1 a=some (eN P w a o ks)/\R (ItN P w a o ks) H1
theorem GB {l:Expr} {tl:TE} (hl:PE X l tl):PI X tg l (iN X.prog X.w tl):=by
 intro pins s σ H R I h;refine thn (hl pins s σ H _ I h) λv F B=>?_
 obtain⟨x,H1,Z,r1,a,e,o,ks,hq,q⟩:=B;subst e;cases r1;obtain⟨⟨ho,hd,hz,od,es,ep,aa,hr⟩,_⟩:=(show bF X.prog X.w H1 F.heap a (eN X.prog X.w a o ks) from Z.hok a _ hq)
 obtain rfl:o=od:=fx (ho.symm.trans aa)
 refine wpAny_pyIter_dict (knd:=cq X.prog X.w) hd ⟨o,es,ho,hr⟩ ?_
 have L:(dB ks).length=ks.length:=by unfold dB;simp
 have I2:Inv X pins σ H1 { F with heap:=F.heap.push { cls:=.type "dict_keyiterator",data:=.fields #[.ref a,.int 0 0,.int (dB ks).length 0,.int ep 0] } }:=Z.kept (t':=F.toks) λb o e=>d_ _ e
 refine⟨F.heap.objs.size,[F.heap.objs.size],_,_,_,rfl,I2,DY a _ o ks ep ⟨es,hr.2.1⟩,⟨_,f_ _ rfl,rfl,by rw[L];rfl⟩,λb hb=>?_,q⟩
 obtain rfl:b=F.heap.objs.size:=by simpa using hb
 have Y:H1 F.heap.objs.size=none:=Z.hok.fresh (i6 _)
 exact⟨Y,(Z.fpOk (i6 _) Y).2⟩
def dC (ps:List (Int × Int × Int)):List (List Key × V):=ps.map λx=>([.inl x.1,.inl x.2.1],.int x.2.2)
def toO:Key->Option Int | .inl i=>some i | .inr _=>none
theorem isO {i j:Int} (x:(G9 (bp P w)).is h [i7 i,i7 j] b):(G9 (cq P w)).is h [some i,some j] b:=by
 obtain⟨o,items,n,h1,h2,h3,F⟩:=(show IsTupleKey (bp P w) h [i7 i,i7 j] b from x)
 refine(show IsTupleKey (cq P w) h [some i,some j] b from⟨o,items,n,h1,h2,h3,?_⟩)
 generalize items.toList=l at F;have Y : ∀{i:Int} {v:Value},(bp P w).is (i7 i) v=true->(cq P w).is (some i) v=true:=λ{i v} z=>by
  rcases bM (k:=i7 i) (v:=v) z with⟨j,t,B,L⟩ | ⟨x,t,B,L⟩
  .cases B;rw[L];exact intKind_is P w i t
  .cases B
 cases F with
 | cons k1 r1 =>
  cases r1 with
  | cons k2 Z =>
   cases Z;exact .cons (Y k1) (.cons (Y k2) .nil)
theorem yX {ps:List (Int × Int × Int)} (hu:A.units+1 < cLine) (I:Inv X pins σ H s) (ha:H a=some (.dT (dC ps))) (hb:H b>>[.non,.int v]) (h : ∀s',Inv X pins σ H s'->Q .none s') :
  wpAny (model X.prog X.w) A (call (.builtin "dict.get") [.ref a,.ref b]) Q E s:=by
 obtain⟨z,hd,xs,ac,o,es,ep,ho,hx,Z,he,ab,aa⟩:=nh I.hok (.inl ha);have af:s.TypeIs (.ref a) "dict" :=⟨o,ho,hx.1⟩
 have B : ∀q∈xs,∃i j:Int,q.1=[i7 i,i7 j]:=by
  have : ∀{ps:List (Int × Int × Int)} {xs:List (List Key × Addr × Value)},KT H (dC ps) xs->∀q∈xs,∃i j:Int,q.1=[i7 i,i7 j]:=by
   intro ps
   induction ps with
   | nil=>intro xs r;unfold dC KT at r;cases r;intro q L;simp at L
   | cons p ps ih =>
    intro xs r;unfold dC KT at r;rw[i8] at r;cases r with
    | cons h0 hr =>
     intro q L;rcases i4.mp L with rfl | L
     .exact⟨p.1,p.2.1,h0.1.symm⟩
     .exact ih hr q L
  exact this ac
 have dd:s.heap.DictOfH (G9 (cq X.prog X.w)) a (xs.map λq=>(q.1.map toO,q.2)):=by
  refine⟨o,es,ep,ho,hx,Z,?_,λx Y=>?_,?_⟩
  .rw[he,lb]
   apply m4
   intro q L;obtain⟨i,j,e⟩:=B q L;obtain⟨k,ad,u⟩:=q;dsimp only at e;subst e;rfl
  .obtain⟨q,L,rfl⟩:=hB.mp Y
   obtain⟨i,j,e⟩:=B q L;have:=ab q L
   rw[e] at this;dsimp only;rw[e];exact isO this
  .rw[lb]
   rw[List.Nodup,E_] at aa;rw[List.Nodup,E_];refine GJ (λ{p q} hp L hne z=>hne ?_) aa
   obtain⟨i,j,e⟩:=B p hp;obtain⟨i',j',e'⟩:=B q L;simp only[Function.comp,e,e',i8,map_nil,toO] at z;rw[e,e'];cases z;rfl
 have ag:(G9 (cq X.prog X.w)).is s.heap [none,some v] b:=by
  obtain⟨_,its,r,ot,h1,h2,n,h3⟩:=(show bF X.prog X.w H s.heap b (.tup [.non,.int v]) from I.hok b _ hb)
  refine(show IsTupleKey (cq X.prog X.w) s.heap [none,some v] b from⟨ot,its.toArray,n,h1,h2,h3,?_⟩)
  cases r with
  | cons r1 r2 =>
   cases r2 with
   | cons r3 r4 =>
    cases r4;exact .cons (AR (k:=none) r1) (.cons (AR (k:=some v) r3) .nil)
 refine call_meetsIn HN af PySem.F.entry_dict_get (PySem.F.args_dict_get_2 _ _) (meetsH_dict_get (G9 (cq X.prog X.w)) a b hd) ⟨GT hu,[none,some v],_,ag,dd,?_⟩
 have ah:atKey (xs.map λq=>(q.1.map toO,q.2)) [none,some v]=none:=by
  unfold atKey;rw[Option.map_eq_none_iff,List.find?_eq_none];intro x Y e;obtain⟨q,L,rfl⟩:=hB.mp Y;obtain⟨i,j,eq⟩:=B q L;have e:=of_decide_eq_true e;dsimp only at e;rw[eq] at e;cases e
 rw[ah];exact h _ (I.tok _)
def lx (ps:List (Int × Int × Int)):Option Int->Int->Option Int
 | none,_=>none
 | some s,v=>(ps.find? λx=>decide (x.1=s/\x.2.1=v)).map λx=>x.2.2
theorem pL (s v:Int) : ∀ps:List (Int × Int × Int),(bO (dC ps) [i7 s,i7 v]).getD .non=oV (lx ps (some s) v)
 | []=>rfl
 | p :: ps=>by
  have F:=pL s v ps;unfold dC lx at F ⊢;dsimp only at F ⊢;rw[i8,Hm]
  by_cases h:p.1=s/\p.2.1=v
  .rw[decide_eq_true h]
   obtain⟨rfl,rfl⟩:=h;simp[bO,oV]
  .rw[decide_eq_false h]
   have B:([i7 p.1,i7 p.2.1]:List Key)≠[i7 s,i7 v]:=λz=>h (by cases z;exact⟨rfl,rfl⟩)
   simpa [bO,B] using F
def Ah (td ty:TE):TE:=λσ H Q=>td σ H λx H1=>∃a,x = .ref a/\∃ps,H1 a=some (.dT (dC ps))/\ty σ H1 λy H2=>H2 a=some (.dT (dC ps))/\∃b,y = .ref b/\∃st v,H2 b>>[oV st,.int v]/\Q (oV (lx ps st v)) H2
theorem AW (hu:X.A.units+1 < cLine) (ho:PE X oe td) (he:PE X e ty) (m:M1 X oe "get" apos e cpos):PE X (.Call (.Attribute oe "get" apos) [e] [] cpos) (Ah td ty):=by
 intro pins s σ H Q I h;refine wpAny_Call_method m.base m.few m.line PySem.F.plainAttrs_dict HN PySem.F.type_dict_get (thn (ho pins s σ H _ I h) λu s1 B=>?_)
 obtain⟨x,H1,Z,rx,a,ex,ps,d,q1⟩:=B;subst ex;obtain rfl:u=h_ a:=rx
 obtain⟨t1,t2,_⟩:=Dy Z (.inr ⟨_,.inl d⟩);refine⟨t1,t2,?_⟩
 rw[m.trees];refine Hz rfl (Calls.evalArgs_plain (Hs (thn (he pins s1 σ H1 _ Z q1) λiv s2 ⟨y,H2,I2,ry,d2,b,ey,st,v,hb,q2⟩=>HE ?_)))
 subst ey;obtain rfl:iv=h_ b:=ry
 cases st with
 | none=>exact yX hu I2 d2 hb λs3 Y=>⟨.non,H2,Y,rfl,q2⟩
 | some st=>exact DR hu I2 (oR.t (k:=[i7 st,i7 v]) d2 hb) rfl λw' s3 Y L=>⟨_,H2,Y,by rw[pL] at L;exact L,q2⟩
section
variable {ie l:Expr} {tl:TE}
theorem yQ (Z:X.prog=P) (F:X.w=w) (hu:X.A.units+1 < cLine) (L:PE X oe td) (hi:PE X ie ty) (B:PE X value tv) (Y:Ir value (some (.Subscript oe ie pos')) pos.line X.env=pure false) :
  PS X (.Assign [.Subscript oe ie pos'] value pos) (AA P w td ty tv):=by
 subst Z F;exact Bx hu L hi B Y
theorem xr (F:X.prog=P) (L:X.w=w) (B:PE X e te):PE X e (Ci P w te):=by
 subst F L;exact DS B
theorem zR (B:X.prog=P) (F:X.w=w) (hl:PE X l tl):PI X tg l (iN P w tl):=by
 subst B F;exact GB hl
end
theorem BB (hK:X.K=K) (hu:X.A.units+100 < cLine):OpR X (p_ .Eq) (C9 K):=by
 subst hK;exact sM hu
noncomputable def eO (i:Nat):TE:=λσ H Q=>match σ[i]? with | some (some v)=>Q v H | _=>False
theorem zH {Q:VK} (h:eO i σ H Q):Ce i σ H Q:=by
 unfold eO at h
 split at h
 .exact⟨_,by assumption,h⟩
 .exact h.elim
theorem pvM (i:Nat) {x:Str} {pos:Pos} (L:X.N[i]? = some x:=by rfl) (F:Vis X.env.scope x:=by first | exact Or.inl rfl | exact Or.inr (Or.inl rfl) | exact Or.inr (Or.inr rfl)) (Y:(x ==("__debug__" : Str))=false:=by decide)
  (B:(x ==("__classdict__" : Str))=false:=by decide):PE X (.Name x pos) (eO i):=λpins s σ H Q I h=>Ek L F Y B pins s σ H Q I (zH h)
section
variable {g:TG}
theorem qL {Q:VK}
  (a7:X.calm=true) (S:lG X scope N nt js) (hi:PI X tg iter wi)
  (hg : ∀{cl C fp s H xe},PG (dg X scope N cl C fp s H xe) tg g) (aG:zw g nt)
  (hc : ∀{cl C fp s H xe},PTs (dg X scope N cl C fp s H xe) ifs tc)
  (he : ∀{cl C fp s H xe},PE (dg X scope N cl C fp s H xe) elt te)
  (hs : ∀x,foldedSetIterable iter X.env x=pure x) (I:Inv X pins σ H s) (h:xl nt js wi g tc te σ H Q)
  (aF : ∀{cl C fp F H2 xe H3 s4 D},Inv X pins σ H2 F->(∀b∈fp,oM X pins H2 b)->F.heap.objs.size < C->Inv (dg X scope N cl C fp F H2 xe) [] (ff nt js σ) H3 s4->Q (.ref D) H3 ->
   compPost (model X.prog X.w) X.A X.xe use Qf (.ref D) C (.ok .next) s4) :
  wpAny (model X.prog X.w) X.A (comprehension (.ListComp elt [⟨tg,iter,ifs,0⟩] scope pos) scope X.env pos' (newList []) false (eval iter X.env) use) Qf X.xe s:=by
 obtain⟨cl,a1,a3,_,a9⟩:=jU (env:=X.env) scope.names [] (λx hx hk=>I.ok.has x.1 (S.free x hx hk))
 have a5 : ∀x c,cl.lookup x=some c->X.env.cells.lookup x=some c:=λx c e=>(a3 x c e).elim (λz=>by simp at z) λz=>z
 have ao:closureFor scope X.env=pure cl:=by
  unfold closureFor;simp only[];rw[a1];rfl
 refine wpAny_comprehension_free rfl hs ao S.kind S.loc (thn (hi pins s σ H _ I h) λv s1 h1=>thn h1 λaN F h2=>?_)
 obtain⟨it,fp,tn,J,H2,e,I2,T,a0,f2,q2⟩:=h2;subst e;have aa:H2 F.heap.objs.size=none:=I2.hok.fresh (i6 _)
 obtain⟨W,⟨m0,w0⟩,a4⟩:=q2 F.heap.objs.size aa;refine w5 (fR (λB=>?_))
 dsimp only at B ⊢;generalize hG:F.heap.push { cls:=.type "list",dict:=none,data:=.seq ([]:List Value).toArray }=G at B ⊢;have aH:G.objs.size=F.heap.objs.size+1:=by rw[<- hG,m9]
 have ac:=cellsFrom_ok scope.names (G.push { cls:=.type "dict",data:=.dict #[] }) (G.objs.size+1) [] ⟨λ_ _ hm=>(nomatch hm),List.Pairwise.nil⟩ (by rw[m9];exact i6 _)
 rw[m9] at ac;have kp : ∀b o,G.get? b=some o->(pushCells (G.push { cls:=.type "dict",data:=.dict #[] }) scope.names).get? b=some o:=λb o e=>pushCells_keeps _ _ _ _ (d_ _ e)
 generalize aI:pushCells (G.push { cls:=.type "dict",data:=.dict #[] }) scope.names=ad at B ac kp ⊢;have Z : ∀b o,F.heap.get? b=some o->ad.get? b=some o:=λb o e=>kp b o (hG ▸ d_ _ e)
 have aB:HOk X.prog X.w (upd H2 F.heap.objs.size (.lst [])) ad:=I2.hok.laid Z (i6 _) ⟨x6 _,[],0,.nil,kp _ _ (hG ▸ f_ _ rfl)⟩
 have ab : ∀b∈fp,b < F.heap.objs.size:=λb L=>by
  obtain⟨o,e,_⟩:=T.obj _ _ a0 b L;exact e8 e
 have aC : ∀c,G.objs.size<=c->(upd H2 F.heap.objs.size (.lst [])) c=none:=λc hc=>by
  rw[ah (o_ ())]
  exact I2.hok.fresh ()
 have ay:=λxe H3 s4=>@aF (m_ (G.objs.size+1) scope.names cl) G.objs.size fp F H2 xe H3 s4 F.heap.objs.size I2 f2 (by rw[aH];exact GS _)
 generalize aD:compPost (model X.prog X.w) X.A X.xe use Qf (.ref F.heap.objs.size) G.objs.size=RR at ay
 let Y:=dg X scope N (m_ (G.objs.size+1) scope.names cl) G.objs.size fp F H2 (notedBy (model X.prog X.w) X.A (compEnvC scope (m_ (G.objs.size+1) scope.names cl) G.objs.size X.env) λe s'=>RR (.error e) s')
 have af : ∀{H':Hp},(∀b∈fp,H' b=none)->∀b∈fp,oM Y [] H' b:=λ{H'} hn b L=>by
  obtain⟨f0,f1,aM,f3,f4,f5⟩:=f2 b L;have h1:=ab b L;refine⟨hn b L,k7 (g7 h1 (by show _<=G.objs.size;omega)),λz=>?_,.inl L,λx c e=>?_,λp hp=>absurd (show p∈([]:List (Addr × Obj)) from hp) (by simp)⟩
  .rcases i4.mp (I2.stkSub b z) with q | q
   .exact f1 q
   .exact aM q
  .have e:(m_ (G.objs.size+1) scope.names cl).lookup x=some c:=e
   rw[bI] at e;rcases qi e with q | q
   .have:=(ac.empty x c (mem_of_lookup q)).2
    exact o_ (g7 h1 ())
   .exact f4 x c (a5 x c q.2)
 have az:HM (model X.prog X.w) X.A (.compLoop (.ListComp elt [⟨tg,iter,ifs,0⟩] scope pos) 0 (.ref it) (.ref F.heap.objs.size) (compEnvC scope (m_ (G.objs.size+1) scope.names cl) G.objs.size X.env)) RR { F with heap:=ad,toks:=F.toks }:=by
  refine rN (λn s'=>∃i ys H',Inv Y [] (ff nt js σ) H' s'/\tn i s'.heap/\(∀b∈fp,H' b=none)/\W i n ys H') ?_ m0
   ⟨0,[],_,uW S I2 f2 a5 a9 (λx c hm=>ac.empty x c hm) ac.apart aC ab () Z (λb o e=>by rw[ah (au e aa)];exact e) (λb n L=>by rw[ah (k7 L)];exact n) aB B (λ_=>rfl),T.keep _ _ _ a0 λb L o e=>Z b o e,λb L=>by rw[ah (k7 (ab b L))];exact(f2 b L).1,w0⟩
  rintro n s3 ⟨i,ys,H3,J3,aA,a6,w3⟩
  rcases a4 i n ys H3 w3 with⟨a8,qn⟩ | ⟨go,NN,hN,step⟩
  .refine thn (T.done Y rfl rfl rfl a7 i [] s3 (ff nt js σ) H3 _ J3 (af a6) aA a8) λr s4 am=>?_
   obtain⟨hr,I4⟩:=am;subst hr;exact ay _ _ _ I4 qn
  .refine thn (T.item Y rfl rfl rfl a7 i [] s3 (ff nt js σ) H3 _ J3 (af a6) aA go) λr s4 ax=>?_
   obtain⟨u,hr,h4⟩:=ax;subst hr;refine thn h4 λ_ s5 ap=>?_
   obtain⟨x,H5,I5,r5,y5,a2,aE⟩:=ap;have g5:=aG x (ff nt js σ) H5 _ pS (step x H5 y5);refine thn (hg _ s5 _ H5 x u _ (I5.pinned (af aE) (T.obj _ _ a2)) r5 g5) λ_ s6 aj=>?_
   obtain⟨ai,H6,I6,aK,q6⟩:=aj;refine thn (hc _ s6 ai H6 _ I6 q6) λok s7 ar=>?_
   obtain⟨H7,I7,q7⟩:=ar;have ag : ∀{s8:Shared} {H8:Hp} {an:List V},Inv Y ([]++qa fp s5.heap) ai H8 s8->NN an H8 ->
     ∃m,m < n/\∃i ys H',Inv Y [] (ff nt js σ) H' s8/\tn i s8.heap/\(∀b∈fp,H' b=none)/\W i m ys H':=λ{s8 H8 an} I8 n8=>by
    obtain⟨m',hm,w8⟩:=hN an H8 n8;have k8:=λb L o e=>I8.pin (b,o) (n9 _ (n9 _ (jV L e)))
    refine⟨m',hm,i+1,an,H8,(I8.unpinned).wk aK,T.keep _ _ _ a2 λb L o e=>(k8 b L o e).1,λb L=>?_,w8⟩
    obtain⟨o,e,d⟩:=T.obj _ _ a2 b L;exact(k8 b L o e).2.1
   cases ok with
   | false =>
    rw[if_neg i_] at q7 ⊢;exact ag I7 q7
   | true =>
    rw[if_pos rfl] at q7 ⊢;refine thn (he _ s7 ai H7 _ I7 q7) λy s8 ak=>?_
    obtain⟨yv,H8,I8,r8,aJ,aL,q8⟩:=ak;refine thn (rM (X:=Y) _ s8 ai H8 (.ref F.heap.objs.size) [yv] (.ref F.heap.objs.size) [y] (λ_ H9=>NN (ys++[yv]) H9) I8 rfl (.cons r8 .nil) ⟨_,ys,yv,rfl,rfl,aJ,aL,q8⟩) λv9 s9 aq=>?_
    obtain⟨x9,H9,I9,r9,q9⟩:=aq;exact ag I9 q9
 subst aD;exact codeAny_compStart_list az (T.self _ 0 _ _ _ (T.keep _ _ _ a0 λb L o e=>Z b o e) az)
theorem br (S:lG X scope N nt js) (hi:PI X tg iter wi)
  (hg : ∀{cl C fp s H xe},PG (dg X scope N cl C fp s H xe) tg g) (ad:zw g nt)
  (hc : ∀{cl C fp s H xe},PTs (dg X scope N cl C fp s H xe) ifs tc)
  (he : ∀{cl C fp s H xe},PE (dg X scope N cl C fp s H xe) elt te)
  (hs : ∀x,foldedSetIterable iter X.env x=pure x:=by intro _;rfl) (ac:X.calm=true:=by exact rfl) :
  PE X (.ListComp elt [⟨tg,iter,ifs,0⟩] scope pos) (xl nt js wi g tc te):=by
 intro pins s σ H Q I h;rw[eval_ListComp];refine qL ac S hi hg ad hc he hs I h λ{cl C fp s2 H2 xe H3 s4 D} I2 f2 hC I4 qn=>?_
 obtain⟨mC,ab,_⟩:=id I4.loc;refine⟨mC,ab,λF aa=>?_⟩
 have B : ∀b o,b≠C->s4.heap.get? b=some o->F.get? b=some o:=λb o L e=>aa.extBut b o L e
 have lC : ∀{b o},s2.heap.get? b=some o->b≠C:=λe=>k7 (lt_trans (e8 e) hC)
 have un:Un (frs X.stack) fp H2 H3 s2.heap F:=by
  have u:=I4.base;refine⟨λb o e n L Y=>B b o (lC e) (u.keep b o e n L Y),λb o e n L Y=>?_,u.free,λb o e Y=>?_,u.tups,u.frzs,u.tbls⟩
  .obtain⟨sl,e1⟩:=u.slot b o e n L Y
   exact⟨sl,B b _ (lC e) e1⟩
  .obtain⟨o',e1⟩:=u.there b o e Y
   exact⟨o',B b _ (lC e) e1⟩
 have Z:HOk X.prog X.w H3 F:=λb u e=>(I4.hok b u e).stay (λc v hc q=>B c v (by
   have cf:H3 C=none:=I4.free
   rintro rfl
   rcases hc with z | z
   .rw[z] at cf;rw[cf] at e;cases e
   .rw[cf] at z;cases z) q) (λ_ q=>q) λ_ _ q=>q
 exact⟨.ref D,H3,I2.call' (s':={ s4 with heap:=F }) I4.os un Z I4.bare (λb L=>by
  obtain⟨f0,f1,af,f3,f4,f5⟩:=f2 b L;exact⟨f3,f1,f4,f5⟩),rfl,qn⟩
theorem gg (i:Nat) {y:Str} {py F:Pos} (S:lG X scope N nt js) (hi:PI X tg iter wi)
  (hg : ∀{cl C fp s H xe},PG (dg X scope N cl C fp s H xe) tg g) (ag:zw g nt)
  (hc : ∀{cl C fp s H xe},PTs (dg X scope N cl C fp s H xe) ifs tc)
  (he : ∀{cl C fp s H xe},PE (dg X scope N cl C fp s H xe) elt te)
  (hs : ∀x,foldedSetIterable iter X.env x=pure x:=by intro _;rfl) (ah:X.calm=true:=by exact rfl) (hN:X.N.Nodup:=by assumption) (ac:X.N[i]? = some y:=by exact rfl) (hy:Loc X.env.scope y:=by first | exact Or.inl rfl | exact Or.inr rfl)
  (ai:Ir (.ListComp elt [⟨tg,iter,ifs,0⟩] scope pos) (some (.Name y py)) F.line X.env=pure true:=by rfl)
  (hf:X.fn y=true\/X.env.scope.names.lookup y=some .local:=by first | exact .inl rfl | exact .inr rfl | assumption) :
  PS X (.Assign [.Name y py] (.ListComp elt [⟨tg,iter,ifs,0⟩] scope pos) F) (xG (xl nt js wi g tc te) (fI i)):=by
 intro pins s σ H D I h;rw[exec_Assign_Name_used _ _ _ _ ai];refine a_ (wpAny_standAt (a_ ?_))
 show wpAny _ X.A (do let _ <- comprehension (.ListComp elt [⟨tg,iter,ifs,0⟩] scope pos) scope X.env _ (newList []) false (eval iter X.env) (some (assign (.Name y py) X.env))) _ _ s
 refine a_ (x8 (qL (Qf:=λ_ s'=>SP X pins D .next s') ah S hi hg ag hc he hs I h λ{cl C fp s2 H2 xe H3 s4 D'} I2 f2 hC I4 qn=>?_) (λ_ s' hq=>ei (ei hq)) λ_ _ e=>e)
 obtain⟨mC,ab,_⟩:=id I4.loc;have I5:Inv X pins σ H3 s4:=I2.call' (s':=s4) I4.os I4.base I4.hok I4.bare (λb hb=>by
  obtain⟨f0,f1,ak,f3,f4,f5⟩:=f2 b hb;exact⟨f3,f1,f4,f5⟩)
 show wpAny _ X.A (assign (.Name y py) X.env (.ref D')) _ _ s4
 have Z:C≠X.env.locals:=o_ (lt_trans I2.lt hC)
 have L : ∀x c,X.env.cells.lookup x=some c->c≠C:=λx c e z=>by
  obtain⟨v,q⟩:=I2.cell x c e;exact o7 _ (lt_trans (z ▸ q.lt) hC)
 refine wpAny_assign_Name (qM I5 hN ac hy (v:=.ref D') rfl (λs6 I6 B=>?_) hf)
 obtain⟨ad,sb,af⟩:=B;have Y:C≠ad:=by
  rcases af with z | z
  .rw[z];exact Z
  .exact λe=>L _ _ z e.symm
 refine⟨mC,ab.sameBut sb Y,λaj aa=>⟨_,H3,Inv.turned (t':=s6.toks) (it:=C) I6 (λb o hb e=>aa.extBut b o hb e) I4.free Z (.inr (gr I2.sz (GY hC))) L (λp hp z=>?_),qn⟩⟩
 exact o7 _ (lt_trans (z ▸ e8 (I2.pin p hp).1) hC)
end
end L2
namespace Lw
open PySem L2
local macro_rules | `(tactic| ctx_has c) => `(tactic| exact ⟨rfl, rfl, rfl, by decide +kernel, rfl, by decide +kernel, by decide +kernel⟩)
local macro_rules | `(tactic| ctx_has z $S:ident) => do
  let i:=Lean.mkIdent
  let nd:=i `nd
  let hu:=i `hu
  let L:=i `L
  let vs:=i `vs
  let H:=i `H
  let Q:=i `Q
  let E:=i `E
  let h:=i `h
  let f:=i `f
  let cdv:=i `cdv
  let A:=i `A
  let outer:=i `outer
  let s:=i `s
  let hr:=i `hr
  `(tactic| (have $nd:ident:=aC.nd $S;refine($L).ok $S (λ$vs $H $Q $E $h=>?_) (λ$f $cdv $A $outer $s $H $vs $Q $E $hr $h=>?_);rotate_left;have $hu:ident:=CW $hr;rotate_left))
local macro_rules
 | `(tactic| ctx_has v $ids*) => do
  let ns := "true_and eO wP cxK F4 zP Cr El DU Dw Dv Option.join_some um ze Dt IsB DL Er BD mQ AM Eb Dk AE xG fI Ce tC tOp tUn rB tB DT tOr DV AZ En zG vi tCB qN jR vX Bj CG tDG sDP EH EZ rI0 rI rU rEq rNe Bq Bm Bh Bw BZ Ca yO AQ rIL rIT rIS rSL rSQ rST CO iL iT tML tMS wH oB CL Aq yZ vT wj wQ An rS sN yR wr rO iZ pH zD zM AN A6 vR ipM Eg iE iV iD wg tDI Eo uG pE zS Gs GC Gi Gv Gq fP pI zh rCL Aa By yT rCS A8 pY yN oU HO.dK.injEq HO.lst.injEq HO.tup.injEq HO.ins.injEq zE yU tSl lI uM L2.iM List.map_cons List.map_nil List.length_cons List.length_nil List.replicate List.cons_append List.nil_append List.append_nil List.getElem?_cons_zero List.getElem?_cons_succ List.set_cons_zero List.set_cons_succ Option.some.injEq V.int.injEq V.ref.injEq V.str.injEq V.bl.injEq V.ty.injEq List.cons.injEq and_assoc and_true and_self exists_eq_left exists_eq_left' exists_eq_right exists_eq_right' exists_and_left exists_eq exists_eq' reduceCtorEq false_and and_false false_or or_false exists_false decide_eq_true_eq String.reduceEq String.reduceBEq Bool.or_true Bool.true_or Bool.or_false Bool.false_or or_true true_or if_true if_false Bool.not_eq_true' Nat.reduceAdd Nat.reduceSub Nat.zero_add List.map List.append_eq List.set Nat.add_zero".splitOn " "
  let xs : Array Lean.Ident := (ns.map fun x => Lean.mkIdent x.toName).toArray ++ ids
  let s ← `(tactic| simp only [$[$xs:ident],*])
  let d : Lean.TSyntax `tactic := ⟨((s.raw.setKind `Lean.Parser.Tactic.dsimp).setArg 0 (Lean.mkAtom "dsimp")).modifyArg 4 fun o => o.modifyArg 0 fun a => a.modifyArg 1 fun l => Lean.mkNullNode (l.getArgs.extract 0 (2 * ns.length - 1))⟩
  `(tactic| ((try $d:tactic); (try $s:tactic)))
 | `(tactic| kpf_say ($H:ident, $q:ident, $hq:ident, $hh:ident, $ss:ident) al $G:ident $o) => `(tactic| (refine ⟨by decide, λ$q $hq => ?_⟩; have $hh : upd $H $q $o $q = some $o := ae; have $ss : aw $H (upd $H $q $o) := aw.upd0 $hq; generalize upd $H $q $o = $G at $hh:ident $ss:ident ⊢))
local macro_rules | `(tactic| ctx_has o) => `(tactic| first | exact Or.inl rfl | exact Or.inr rfl)
local macro_rules | `(tactic| ctx_has m) => `(tactic| first | decide | omega)
variable {P:Program} {w:World} {K:e_} {mg:Str->Option Value} {base:Heap}
abbrev ik:Stmt:=top 2
abbrev bC:Stmt:=bc (top 4) 0
abbrev eC:Stmt:=bc (top 6) 0
abbrev df:Stmt:=bc (top 6) 2
abbrev cT:Stmt:=bc (top 6) 3
abbrev ft:Stmt:=bc (top 8) 0
abbrev cX:Stmt:=bc (top 8) 2
abbrev dY:Stmt:=bc (top 8) 3
abbrev fF:Stmt:=bc (top 8) 4
abbrev eR:Stmt:=bc (top 8) 5
abbrev gv:Stmt:=bc (top 10) 0
abbrev dD:Stmt:=bc (top 10) 2
abbrev eK:Stmt:=bc (top 10) 3
abbrev eu:Stmt:=bc (top 10) 4
abbrev dJ:Stmt:=bc (top 10) 5
abbrev iB:Stmt:=top 12
abbrev kC:Stmt:=top 13
abbrev gh:Stmt:=bc (top 14) 0
abbrev dP:Stmt:=bc (top 14) 2
abbrev fE:Stmt:=bc (top 14) 3
abbrev fv:Stmt:=bc (top 14) 4
abbrev gp:Stmt:=bc (top 14) 5
abbrev fz:Stmt:=bc (top 14) 6
abbrev eZ:Stmt:=bc (top 16) 0
abbrev dv:Stmt:=bc (top 16) 2
abbrev dL:Stmt:=bc (top 16) 3
abbrev eY:Stmt:=bc (top 16) 4
abbrev eA:Stmt:=bc (top 16) 5
abbrev cY:Stmt:=top 18
abbrev eL:Stmt:=bc (top 19) 0
abbrev eF:Stmt:=bc (top 19) 2
abbrev dU:Stmt:=bc (top 19) 3
abbrev fD:Stmt:=top 21
abbrev fB:Stmt:=bc (top 22) 0
abbrev cJ:Stmt:=bc (top 22) 2
abbrev bJ:Stmt:=bc (top 22) 3
abbrev fC:Stmt:=bc (top 22) 4
abbrev mv:Stmt:=top 24
abbrev gS:Stmt:=top 25
abbrev dn:Stmt:=top 27
abbrev gT:Stmt:=top 28
abbrev gw:Stmt:=top 29
abbrev gD:Stmt:=top 31
abbrev jr:Stmt:=top 32
abbrev fM:Stmt:=top 33
abbrev jz:Stmt:=top 34
abbrev fT:Stmt:=top 35
abbrev jb:Stmt:=top 36
abbrev gQ:Stmt:=top 37
abbrev gn:Stmt:=top 38
abbrev gE:Stmt:=top 39
abbrev iq:Stmt:=top 40
abbrev fm:Stmt:=top 41
abbrev ci:Stmt:=top 42
abbrev fH:Stmt:=top 43
abbrev gP:Stmt:=top 44
abbrev jn:Stmt:=top 45
abbrev gJ:Stmt:=top 46
abbrev gc:Stmt:=top 47
abbrev pQ:Stmt:=top 48
theorem qp:aC ["number","low","high"] ["number","low","high"] (ao ik):=by ctx_has c
theorem bP:aC ["self","wish"] ["self","wish"] (ao bC):=by ctx_has c
theorem kD:aC ["self","wish"] ["self","wish"] (ao eC):=by ctx_has c
theorem kK:aC ["self","rooms","least","cell","enough"] ["self","rooms"] (ao df):=by ctx_has c
theorem jN:aC ["self","rooms","pairs"] ["self","rooms"] (ao cT):=by ctx_has c
theorem lV:aC ["self","wish"] ["self","wish"] (ao ft):=by ctx_has c
theorem oO:aC ["self","rooms"] ["self","rooms"] (ao cX):=by ctx_has c
theorem tm:aC ["self","rooms"] ["self","rooms"] (ao dY):=by ctx_has c
theorem mK:aC ["self","rooms"] ["self","rooms"] (ao fF):=by ctx_has c
theorem lu:aC ["self","rooms"] ["self","rooms"] (ao eR):=by ctx_has c
theorem on:aC ["self","wish","step"] ["self","wish"] (ao gv):=by ctx_has c
theorem ja:aC ["self","states","room","behind","state","value"] ["self","states","room"] (ao dD):=by ctx_has c
theorem kM:aC ["self","rooms","states","cell"] ["self","rooms"] (ao eK):=by ctx_has c
theorem nY:aC ["self","rooms"] ["self","rooms"] (ao eu):=by ctx_has c
theorem mV:aC ["self","rooms"] ["self","rooms"] (ao dJ):=by ctx_has c
theorem tK:aC ["term","rooms"] ["term","rooms"] (ao iB):=by ctx_has c
theorem tQ:aC ["terms","rooms","spans","term","parts"] ["terms","rooms"] (ao kC):=by ctx_has c
theorem oh:aC ["self","wish"] ["self","wish"] (ao gh):=by ctx_has c
theorem jH:aC ["self","reached","behind","may_rise_to_low","may_fall_to_high"] ["self","reached","behind"] (ao dP):=by ctx_has c
theorem lS:aC ["self","reached","parts","behind","further","part","earlier"] ["self","reached","parts","behind"] (ao fE):=by ctx_has c
theorem mR:aC ["self","rooms","spans","reached","number","term"] ["self","rooms"] (ao fv):=by ctx_has c
theorem oq:aC ["self","rooms"] ["self","rooms"] (ao gp):=by ctx_has c
theorem ma:aC ["self","rooms","span"] ["self","rooms"] (ao fz):=by ctx_has c
theorem kY:aC ["self","wish"] ["self","wish"] (ao eZ):=by ctx_has c
theorem lm:aC ["self","row","rooms"] ["self","row","rooms"] (ao dv):=by ctx_has c
theorem mj:aC ["self","rooms"] ["self","rooms"] (ao dL):=by ctx_has c
theorem ln:aC ["self","rooms"] ["self","rooms"] (ao eY):=by ctx_has c
theorem kB:aC ["self","rooms","fillings","cell"] ["self","rooms"] (ao eA):=by ctx_has c
theorem jo:aC ["cell","rooms","holders","tried","value"] ["cell","rooms","holders","tried"] (ao cY):=by ctx_has c
theorem kN:aC ["self","wish"] ["self","wish"] (ao eL):=by ctx_has c
theorem kG:aC ["self","rooms","holders","cell"] ["self","rooms"] (ao eF):=by ctx_has c
theorem jK:aC ["self","rooms","seen","cell","value"] ["self","rooms"] (ao dU):=by ctx_has c
theorem mw:aC ["wish"] ["wish"] (ao fD):=by ctx_has c
theorem mT:aC ["self","wish"] ["self","wish"] (ao fB):=by ctx_has c
theorem je:aC ["self","rooms"] ["self","rooms"] (ao cJ):=by ctx_has c
theorem fN:aC ["self","rooms"] ["self","rooms"] (ao bJ):=by ctx_has c
theorem mH:aC ["self","rooms"] ["self","rooms"] (ao fC):=by ctx_has c
theorem vM:aC ["wish"] ["wish"] (ao mv):=by ctx_has c
theorem pT:aC ["wish","rooms"] ["wish","rooms"] (ao gS):=by ctx_has c
theorem nQ:aC ["literal","room"] ["literal","room"] (ao dn):=by ctx_has c
theorem ql:aC ["rooms","clause","narrowed","literal","cell"] ["rooms","clause"] (ao gT):=by ctx_has c
theorem nX:aC ["wish","clause","rooms","narrowed"] ["wish","clause","rooms"] (ao gw):=by ctx_has c
theorem tD:aC ["_law_script","_law_start","_law_cells","_law_number","_law_cell"] ["_law_script","_law_start"] (ao gD):=by ctx_has c
theorem rT:aC ["_law_deal_here","_law_many","_law_number","_law_one","_law_other"] ["_law_deal_here","_law_many"] (ao jr):=by ctx_has c
theorem qC:aC ["_law_deal_here","_law_many","_law_letters","_law_names_here","_law_k","_law_word","_law_place"] ["_law_deal_here","_law_many"] (ao fM):=by ctx_has c
theorem rZ:aC ["_law_deal_here","_law_value","_law_pool_here","_law_k"] ["_law_deal_here"] (ao jz):=by ctx_has c
theorem qD:aC ["_law_deal_here","_law_names_here","_law_pool_here","_law_most","_law_rooms_here","_law_name","_law_some_here"] ["_law_deal_here","_law_names_here","_law_pool_here","_law_most"] (ao fT):=by ctx_has c
theorem sk:aC ["_law_deal_here","_law_things","_law_least","_law_left","_law_found","_law_k"] ["_law_deal_here","_law_things","_law_least"] (ao jb):=by ctx_has c
theorem oZ:aC ["_law_deal_here","_law_low","_law_high","_law_one","_law_other"] ["_law_deal_here","_law_low","_law_high"] (ao gQ):=by ctx_has c
theorem uP:aC ["_law_deal_here","_law_some_here","_law_rooms_here","_law_terms","_law_low","_law_high","_law_name","_law_a"] ["_law_deal_here","_law_some_here","_law_rooms_here"] (ao gn):=by ctx_has c
theorem sK:aC ["_law_deal_here","_law_some_here","_law_pool_here","_law_rows_here","_law_k","_law_row"] ["_law_deal_here","_law_some_here","_law_pool_here"] (ao gE):=by ctx_has c
theorem uf:aC ["_law_deal_here","_law_some_here","_law_pool_here","_law_many","_law_steps","_law_state","_law_value","_law_ends"] ["_law_deal_here","_law_some_here","_law_pool_here"] (ao iq):=by ctx_has c
theorem sj:aC ["_law_deal_here","_law_names_here","_law_rooms_here","_law_pool_here","_law_sorts","_law_sort","_law_some_here","_law_low","_law_rest","_law_inner"] ["_law_deal_here","_law_names_here","_law_rooms_here","_law_pool_here","_law_sorts"] (ao fm):=by ctx_has c
theorem lj:aC ["_law_wish_here","_law_filling","_law_total","_law_values","_law_state","_law_value","_law_after"] ["_law_wish_here","_law_filling"] (ao ci):=by ctx_has c
theorem mN:aC ["_law_names_here","_law_rooms_here","_law_fillings_here","_law_name","_law_more","_law_filling","_law_value","_law_other"] ["_law_names_here","_law_rooms_here"] (ao fH):=by ctx_has c
theorem qe:aC ["_law_deal_here","_law_names_here","_law_pool_here","_law_most","_law_found","_law_k","_law_literal"] ["_law_deal_here","_law_names_here","_law_pool_here","_law_most"] (ao gP):=by ctx_has c
theorem sy:aC ["_law_clause_here","_law_filling","_law_cell","_law_word","_law_value"] ["_law_clause_here","_law_filling"] (ao jn):=by ctx_has c
theorem sI:aC ["_law_deal_here","_law_wish_here","_law_names_here","_law_rooms_here","_law_some_here","_law_filling","_law_found","_law_name","_law_way_here"] ["_law_deal_here","_law_wish_here","_law_names_here","_law_rooms_here"] (ao gJ):=by ctx_has c
theorem nZ:aC ["_law_wish_here","_law_clause_here","_law_names_here","_law_rooms_here","_law_filling"] ["_law_wish_here","_law_clause_here","_law_names_here","_law_rooms_here"] (ao gc):=by ctx_has c
theorem zY:aC ["_law_script","_law_deal_here","_law_names_here","_law_pool_here","_law_rooms_here","_law_wish_here","_law_clauses","_law_less","_law_name","_law_clause_here","_law_some_here","_law_handed","_law_told"] ["_law_script"] (ao pQ):=by ctx_has c
structure Txt (w:World) (K:e_) (mg:Str->Option Value):Prop where
 b_len:mg "len" = none
 b_max:mg "max" = none
 b_min:mg "min" = none
 b_sum:mg "sum" = none
 b_list:mg "list" = none
 b_reversed:mg "reversed" = none
 b_range:mg "range" = none
 b_isinstance:mg "isinstance" = none
 b_all:mg "all" = none
 b_any:mg "any" = none
 b_sorted:mg "sorted" = none
 b_dict:mg "dict" = none
 b_tuple:mg "tuple" = none
 b_bool:mg "bool" = none
 b_zip:mg "zip" = none
 b_set:mg "set" = none
 b_int:mg "int" = none
 b_enumerate:mg "enumerate" = none
 at_Unlike:mg "Unlike" = some (.ref (ap mg "Unlike"))
 cl_Unlike:Cls K (ap mg "Unlike")
 no_Unlike_wish:aP K (ap mg "Unlike") "wish"
 no_Unlike_cells:aP K (ap mg "Unlike") "cells"
 at_Many:mg "Many" = some (.ref (ap mg "Many"))
 cl_Many:Cls K (ap mg "Many")
 no_Many_wish:aP K (ap mg "Many") "wish"
 no_Many_among:aP K (ap mg "Many") "among"
 no_Many_cells:aP K (ap mg "Many") "cells"
 no_Many_low:aP K (ap mg "Many") "low"
 no_Many_high:aP K (ap mg "Many") "high"
 at_Sum:mg "Sum" = some (.ref (ap mg "Sum"))
 cl_Sum:Cls K (ap mg "Sum")
 no_Sum_wish:aP K (ap mg "Sum") "wish"
 no_Sum_terms:aP K (ap mg "Sum") "terms"
 no_Sum_low:aP K (ap mg "Sum") "low"
 no_Sum_high:aP K (ap mg "Sum") "high"
 at_Table:mg "Table" = some (.ref (ap mg "Table"))
 cl_Table:Cls K (ap mg "Table")
 no_Table_wish:aP K (ap mg "Table") "wish"
 no_Table_cells:aP K (ap mg "Table") "cells"
 no_Table_rows:aP K (ap mg "Table") "rows"
 at_Way:mg "Way" = some (.ref (ap mg "Way"))
 cl_Way:Cls K (ap mg "Way")
 no_Way_wish:aP K (ap mg "Way") "wish"
 no_Way_cells:aP K (ap mg "Way") "cells"
 no_Way_ends:aP K (ap mg "Way") "ends"
 no_Way_leads:aP K (ap mg "Way") "leads"
 at_Behind:mg "Behind" = some (.ref (ap mg "Behind"))
 cl_Behind:Cls K (ap mg "Behind")
 no_Behind_wish:aP K (ap mg "Behind") "wish"
 no_Behind_cells:aP K (ap mg "Behind") "cells"
 no_Behind_gap:aP K (ap mg "Behind") "gap"
 at_Same:mg "Same" = some (.ref (ap mg "Same"))
 cl_Same:Cls K (ap mg "Same")
 no_Same_wish:aP K (ap mg "Same") "wish"
 no_Same_cell:aP K (ap mg "Same") "cell"
 no_Same_among:aP K (ap mg "Same") "among"
 no_Same_inner:aP K (ap mg "Same") "inner"
 at_Wish:mg "Wish" = some (.ref (ap mg "Wish"))
def bx (m B n:Int) (l:Addr):List (Key × V):=[(ge "mixed",.int m),(ge "seed",.int B),(ge "number",.int n),(ge "left",.ref l)]
structure aI (H:Hp) (d l:Addr):Prop where
 ex : ∃(m sd n:Int) (xs:List Int),H d<*(bx m sd n l)/\H l*>(xs.map V.int)/\0<=n/\(∀x∈xs,0<=x)/\0<=sd/\sd < 2147483648/\xs.length<=63
def But (d l:Addr) (H H':Hp):Prop:=∀b o,b≠d->b≠l->H b=some o->H' b=some o
theorem Ed : ¬ ((ge (b_ "mixed"):Key)=ge (b_ "seed")):=by decide+kernel
theorem Dg : ¬ ((ge (b_ "mixed"):Key)=ge (b_ "number")):=by decide+kernel
theorem FZ : ¬ ((ge (b_ "mixed"):Key)=ge (b_ "left")):=by decide+kernel
theorem Bn : ¬ ((ge (b_ "seed"):Key)=ge (b_ "number")):=by decide+kernel
theorem Ei : ¬ ((ge (b_ "seed"):Key)=ge (b_ "left")):=by decide+kernel
theorem Dr : ¬ ((ge (b_ "number"):Key)=ge (b_ "left")):=by decide+kernel
theorem rC (m B n:Int) (l:Addr):bO (bx m B n l) (ge "mixed")=some (.int m):=by unfold bx;rw[bz rfl]
theorem tY (m B n:Int) (l:Addr):bO (bx m B n l) (ge "seed")=some (.int B):=by unfold bx;rw[aS Ed,bz rfl]
theorem jW (m B n:Int) (l:Addr):bO (bx m B n l) (ge "number")=some (.int n):=by unfold bx;rw[aS Dg,aS Bn,bz rfl]
theorem uY (m B n:Int) (l:Addr):bO (bx m B n l) (ge "left")=some (.ref l):=by unfold bx;rw[aS FZ,aS Ei,aS Dr,bz rfl]
theorem pk (m B n y:Int) (l:Addr):bm (bx m B n l) (ge "number") (.int y)=bx m B y l:=by
 unfold bm;rw[gj,jW];simp only[isSome_some,if_true,bx,i8,map_nil,if_neg Dg,if_neg Bn,if_neg (tj Dr)]
theorem Ap (m B n y:Int) (l:Addr):bm (bx m B n l) (ge "seed") (.int y)=bx m y n l:=by
 unfold bm;rw[gj,tY];simp only[isSome_some,if_true,bx,i8,map_nil,if_neg Ed,if_neg (tj Bn),if_neg (tj Ei)]
theorem tR (m B n:Int) (l:Addr):(bx m B n l).length < g9:=by show 4 < g9;decide
theorem eT {i j:Int} (B:0<=i) (h1:i < 4294967296):xM i j:=.inl ⟨(),()⟩
def vQ:Sp:=λvs H Q _=>∃(d l:Addr) (m:Int),vs=[.ref d,.int m]/\aI H d l/\0 < m/\m < 18446744073709551616/\∀(r:Int) (H':Hp),0<=r->r < m->aI H' d l->But d l H H'->Q (.int r) H'
theorem vN (m B n:Int) (l:Addr):iS [] (bx m B n l)=bx m B n l:=by
 have e1:bm ([]:List (Key × V)) (ge (b_ "mixed")) (.int m)=[(ge (b_ "mixed"),.int m)]:=fh _ dH
 have e2:bm [((ge (b_ "mixed"):Key),V.int m)] (ge (b_ "seed")) (.int B)=[(ge (b_ "mixed"),.int m),(ge (b_ "seed"),.int B)]:=fh _ (by rw[aS Ed,dH])
 have L:bm [((ge (b_ "mixed"):Key),V.int m),(ge (b_ "seed"),.int B)] (ge (b_ "number")) (.int n)=[(ge (b_ "mixed"),.int m),(ge (b_ "seed"),.int B),(ge (b_ "number"),.int n)]:=fh _ (by rw[aS Dg,aS Bn,dH])
 have F:bm [((ge (b_ "mixed"):Key),V.int m),(ge (b_ "seed"),.int B),(ge (b_ "number"),.int n)] (ge (b_ "left")) (.ref l)=bx m B n l:=fh _ (by rw[aS FZ,aS Ei,aS Dr,dH])
 show bm (bm (bm (bm ([]:List (Key × V)) (ge (b_ "mixed")) (.int m)) (ge (b_ "seed")) (.int B)) (ge (b_ "number")) (.int n)) (ge (b_ "left")) (.ref l)=_
 rw[e1,e2,L,F]
theorem uV (ns:List Int) (lo hi:Option Int) : ∃ms:List Int,fG (ns.map V.int) lo hi=ms.map V.int/\ms.length<=ns.length:=by
 unfold fG;refine⟨(ns.drop (HT.sIx (ns.map V.int).length 0 lo)).take (HT.sIx (ns.map V.int).length (ns.map V.int).length hi - HT.sIx (ns.map V.int).length 0 lo),by simp[map_take,map_drop],?_⟩
 rw[G7,Hu];omega
theorem AO {x:V} (h:(ms.map V.int)[i]? = some x) : ∃v,x = .int v:=by
 rw[e9] at h;cases e:ms[i]? with
 | none=>rw[e] at h;cases h
 | some z=>rw[e] at h;exact⟨z,(fx h).symm⟩
def DA (K:e_):Sp:=λvs H Q _=>∃(a:Addr) (ns:List Int) (st:Int),vs=[.ref a,.int st]/\SqL K H a (ns.map V.int)/\ns.length<=63/\0<=st/\st<=63/\∀(d l:Addr) (H':Hp),H d=none->H l=none->aI H' d l->aw H H'->Q (.ref d) H'
theorem ba {Q:VK} {E:XK} (D:aI H d l) (B:0 < m) (F:m < 18446744073709551616) (h : ∀(r:Int) (H':Hp),0<=r->r < m->aI H' d l->But d l H H'->Q (.int r) H'):vQ [.ref d,.int m] H Q E:=⟨d,l,m,rfl,D,B,F,h⟩
theorem But.refl (H:Hp):But d l H H:=λ_ _ _ _ e=>e
theorem But.trans (a:But d l H H1) (b:But d l H1 H2):But d l H H2:=λc o h1 h2 e=>b c o h1 h2 (a c o h1 h2 e)
theorem But.new (a:But d l H H1) (hp:H1 p=none):But d l H (upd H1 p o):=λc u h1 h2 e=>by
 have e1:=a c u h1 h2 e;rw[ah (au e1 hp)];exact e1
theorem But.same (a:But d l H H1) (s:aw H1 H2):But d l H H2:=λc u h1 h2 e=>s c u (a c u h1 h2 e)
theorem aI.ne (D:aI H d l) (hp:H p=none):p≠d/\p≠l:=by
 obtain⟨m,F,n,xs,B,hl,_⟩:=D.ex;exact⟨(au B hp).symm,(au hl hp).symm⟩
theorem aI.same (D:aI H d l) (s:aw H H'):aI H' d l:=by
 obtain⟨m,B,n,xs,F,hl,r⟩:=D.ex;exact⟨m,B,n,xs,s _ _ F,s _ _ hl,r⟩
theorem aI.new (D:aI H d l) (hp:H p=none):aI (upd H p o) d l:=D.same (aw.upd0 hp)
theorem aI.put (D:aI H d l) (h1:p≠d) (h2:p≠l):aI (upd H p o) d l:=by
 obtain⟨m,B,n,xs,F,hl,r⟩:=D.ex;exact⟨m,B,n,xs,by rw[ah h1.symm];exact F,by rw[ah h2.symm];exact hl,r⟩
theorem But.put (a:But d l H H1) (hp:H p=none):But d l H (upd H1 p o):=λc u h1 h2 e=>by
 rw[ah (au e hp)];exact a c u h1 h2 e
theorem But.free (a:But d l H H1) (D:aI H1 d l) (hp:H1 p=none):H p=none:=by
 obtain⟨h1,h2⟩:=D.ne hp;cases e:H p with
 | none=>rfl
 | some o=>rw[a p o h1 h2 e] at hp;cases hp
theorem lE {xs:List α} {i:Int} (B:0<=i) (h1:i < (xs.length:Int)) : ∃v,atI xs i=some v/\v∈xs:=by
 obtain⟨n,rfl⟩:=o6 B;have hn:n < xs.length:=()
 exact⟨xs[n],bA (by simp[hn]),He hn⟩
theorem jC {Q:VK} {E:XK} (D:aI H d l) (hp:H p=none) (L:0 < m) (Y:m < 18446744073709551616) (hm:m=(vs.length:Int)) (h : ∀(r:Int) (v:V) (H':Hp),v∈vs->atI vs r=some v->aI H' d l->But d l H H'->H' p*>vs->Q (.int r) H'):vQ [.ref d,.int m] (upd H p (.lst vs)) Q E :=
 ba (D.new hp) L Y λr H' Z r1 D' B=>by
  obtain⟨v,e,F⟩:=lE (xs:=vs) Z ()
  exact h r v H' F e D' (((But.refl H).new hp).trans B) (B p _ (D.ne hp).1 (D.ne hp).2 ae)
abbrev Dz0:=Fn P w K mg base "_law_draw" 1 ["_law_deal_here","_law_many"] (vQ)
theorem sY (T:Txt w K mg) (L:FnL K mg "_law_draw" jr ["_law_deal_here","_law_many"]) : @Dz0 P w K mg base:=by
 ctx_has z rT <;> obtain⟨d,l,m,rfl,D,m0,m1,k⟩:=h
 .rfl
 refine⟨_,(af (uD PassesOwn.never (PW.pt (rQ (aL bR (bH hu (pvM 0) aH) aj) (rQ (aL nJ (aE bK T.b_len (ac (bH hu (pvM 0) aH) ai)) aj) (si (aL bR (bH hu (pvM 0) aH) aj))))) (ak (gK hu (pvM 0) aH (DJ PySem.F.slot_list_pop PySem.F.type_list_pop Df (bH hu (pvM 0) aH)) rfl)))
  (af (aD 2 (bH hu (pvM 0) aH))
  (af (bv (aL nJ (pvM 2) aj) (af (gK hu (pvM 0) aH (aT Af (pvM 2) (pvM 1)) rfl)
  (ak (aB (aT iH (pvM 2) (pvM 1))))) aO)
  (af (aD 3 (aT iH (aT bj (aT gU (bH hu (pvM 0) aH) aj) aj) aj))
  (af (gK hu (pvM 0) aH (aT iH (aT bj (aT gU (pvM 3) aj) aj) aj) rfl)
  (af (aD 4 (aT iH (aT gU (bH hu (pvM 0) aH) (bH hu (pvM 0) aH)) aj))
  (ak (aB (aT iH (aT bj (aT gU (aT iH (aT gU (pvM 3) (pvM 3)) aj) aj) (pvM 4)) (pvM 1)))))))))),?_⟩
 obtain⟨Y,sd,n,xs,hd,hl,n0,hx,s0,s1,Z⟩:=D.ex;have dl:d≠l:=aX hd hl (by intro z;cases z)
 refine uF (λμ σ H'=>∃(n:Int) (xs:List Int),σ=[-d,some (.int m),none,none,none]/\H' d<*(bx Y sd n l)/\H' l*>(xs.map V.int)/\0<=n/\(∀x∈xs,0<=x)/\xs.length<=63/\But d l H H'/\μ=xs.length)
  (λσ H'=>∃(n:Int) (xs:List Int),σ=[-d,some (.int m),none,none,none]/\H' d<*(bx Y sd n l)/\H' l*>(xs.map V.int)/\0<=n/\(∀x∈xs,0<=x)/\xs.length<=63/\But d l H H')
  ⟨_,n,xs,rfl,hd,hl,n0,hx,Z,λb o _ _ e=>e,rfl⟩ ?_ ?_
 .rintro R hR μ σ H1 ⟨n1,xs1,rfl,hd1,hl1,n01,hx1,hlen1,bt,rfl⟩
  have hr:=hR _ _ ⟨n1,xs1,rfl,hd1,hl1,n01,hx1,hlen1,bt⟩;ctx_has v hd1 hl1 jW uY rC
  refine cV (λh1=>?_) (λ_=>hr)
  refine cV (λh2=>?_) (λ_=>hr)
  refine cV (λh3=>?_) (λ_=>hr)
  rcases HY xs1 with rfl | ⟨ys,z,rfl⟩
  .simp at h2
  refine⟨λσ' H'=>σ'=[-d,some (.int m),none,none,none]/\H'=upd (upd H1 l (.lst (ys.map V.int))) d (.dK (bx Y sd z l)),?_,V.int z,by simp,bx Y sd n1 l,by rw[ah dl];exact hd1,tR _ _ _ _,by rw[pk];simp⟩
  rintro _ _ ⟨rfl,rfl⟩
  refine⟨ys.length,by simp,rfl,z,ae,ys,by rw[ah dl.symm,ae],hx1 z (by simp),λx hx=>hx1 x (by simp[hx]),by simp at hlen1;omega,λb o h1 h2 e=>?_,rfl⟩
  rw[ah h1,ah h2];exact bt b o h1 h2 e
 .rintro σ H1 ⟨n1,xs1,rfl,hd1,hl1,n01,hx1,hlen1,bt⟩
  ctx_has v hd1 hl1 jW uY rC tY tR pk Ap ae
  have ab : ∀(r B n':Int),0<=r->r < m->0<=n'->0<=B->B < 2147483648->Q (.int r) (upd H1 d (HO.dK (bx Y B n' l))):=λr B n' r0 r1 ad h0 h1 =>
   k r _ r0 r1 ⟨Y,B,n',xs1,ae,by rw[ah dl.symm];exact hl1,ad,hx1,h0,h1,hlen1⟩ λb o h1 h2 e=>by rw[ah h1];exact bt b o h1 h2 e
  refine cV (λh1=>?_) (λh1=>?_)
  .exact⟨⟨m0,m1⟩,m0,ab _ _ _ (Int.emod_nonneg _ ()) (Int.emod_lt_of_pos _ m0) (Int.ediv_nonneg () ()) s0 s1⟩
  .generalize hone:(sd * 48271+7919) % 2147483647=one
   have o0:0<=one:=()
   have o1:one < 2147483647:=()
   generalize ag:(one * 40692+104729) % 2147483399=aa;have p0:0<=aa:=()
   have p1:aa < 2147483399:=()
   have q0:=Int.emod_nonneg (one * one) (show(2147483629:Int)≠0 by decide)
   have q1:=Int.emod_lt_of_pos (one * one) (show(0:Int) < 2147483629 by decide)
   exact⟨eT s0 (),∅,eT o0 (),∅,eT p0 (),∅,eT o0 (),∅,eT q0 (),m0,
    ab _ _ _ (Int.emod_nonneg _ ()) (Int.emod_lt_of_pos _ m0) n01 p0 ()⟩
abbrev Dz1:=Fn P w K mg base "_law_deal" 1 ["_law_script","_law_start"] (DA K)
theorem sH (T:Txt w K mg) (L:FnL K mg "_law_deal" gD ["_law_script","_law_start"]) : @Dz1 P w K mg base:=by
 ctx_has z tD <;> obtain⟨a,ns,st,rfl,hS,ar,ay,az,k⟩:=h
 .rfl
 refine⟨_,(af (gg 2 (N:=["_law_cell"]) (nt:=1) (js:=[]) (aM ["_law_script","_law_start","_law_cells","_law_number","_law_cell"] (ao gD).names) (gl K (cP FN (pvM 0) (db (pvM 1)) (db aj))) (aA 0) aV cy (aE (rG rfl) T.b_max (ac (pvM 0) (ac (aT jc aj (pvM 0)) ai))))
  (af (aD 3 (aT bj aj (pvM 1)))
  (af (bq (gl K (pvM 2)) (aA 4) (ak (aD 3 (aT iH (aT bj (aT gU (pvM 3) aj) (pvM 4)) aj))))
  (ak (aB (rY (gW aH (aT iH (aE (qb rfl) T.b_sum (ac (cP FN (pvM 0) dN (db aj)) ai)) aj) (gW aH (pvM 3) (gW aH aj (gW aH (pi rfl rfl T.b_list rfl T.b_reversed (pvM 2)) sQ)))) rfl rfl (by nofun) ∅)))))),?_⟩
 ctx_has v
 refine⟨_,hS,λp hp=>⟨_,ae,λD hD=>?_⟩⟩
 have pD:D≠p:=by rintro rfl;rw[ae] at hD;cases hD
 obtain⟨ms,am,ax⟩:=uV ns (some st) (some 63);rw[am] at hD ⊢;rw[ah pD] at hD;refine eI cm (λi ys H2=>∃cs:List Int,ys=cs.map V.int/\cs.length=i/\(∀x∈cs,0<=x)/\H2 p*>(ms.map V.int)/\H2 D*>ys/\aw H H2)
  ⟨[],rfl,rfl,by simp,by rw[ah pD.symm,ae],ae,(aw.upd0 hp).upd_new (by rw[ah pD];exact hD)⟩ (λi ys H2 ad=>by obtain⟨_,_,_,_,h,_⟩:=ad;exact(.of h)) ?_ ?_
 .rintro i x ys H2 hi F ⟨cs,rfl,rfl,hc,h1,h2,sm⟩
  obtain⟨v,rfl⟩:=AO F;ctx_has v h2
  have hi:cs.length < 63:=by simp at hi;omega
  refine⟨by simp;exact aN (),cs++[if 0 - v > v then 0 - v else v],by simp,by simp,λx F=>?_,by rw[ah pD.symm];exact h1,ae,λb o e=>?_⟩
  .rcases i9.mp F with q | q
   .exact hc x q
   .rw[e7.mp q];split <;> omega
  .rw[ah (au e hD)];exact sm b o e
 .rintro ys H2 ⟨cs,rfl,hc,hpos,h1,h2,sm⟩
  have ap:cs.length<=63:=by simp at hc;omega
  ctx_has v h2
  refine bS cm (λi σ H3=>∃(z:Int) (v:Option V),σ=[-a,some (.int st),-D,some (.int z),v]/\0<=z/\z < 2147483648/\H3=H2)
   ⟨_,_,rfl,(),(),rfl⟩ (λi σ H3 aa=>by obtain⟨_,_,_,_,_,h⟩:=aa;exact(by rw[h];exact .of h2)) ?_ ?_
  .rintro i x σ H3 hi F ⟨z,v,rfl,z0,z1,rfl⟩
   obtain⟨y,rfl⟩:=AO F;ctx_has v
   exact⟨eT z0 (),∅,(),()⟩
  .rintro σ H3 ⟨z,v,rfl,z0,z1,rfl⟩
   ctx_has v h2 BD
   intro d hd;refine⟨_,(sm.upd_new hd).seq hS,λp2 Y=>?_⟩
   have Z:p2≠d:=by rintro rfl;rw[ae] at Y;cases Y
   have B:H3 p2=none:=by rwa [ah Z] at Y
   obtain⟨xs,an,_⟩:=uV ns none (some 1);rw[an];have aq:D≠p2:=au h2 B
   have ag:D≠d:=au h2 hd
   refine⟨xs,.of ae,∅,_,by rw[ah aq,ah ag];exact h2,λl hl=>?_⟩
   have l1:l≠p2:=by rintro rfl;rw[ae] at hl;cases hl
   have l2:l≠d:=by rintro rfl;rw[ah Z.symm,ae] at hl;cases hl
   have ab:H3 l=none:=by rwa [ah l1,ah l2] at hl
   refine⟨by rw[ah l2.symm,ah Z.symm,ae],bx (xs.sum % 2) z 0 l,rfl,by show 4<=15;decide,?_⟩
   rw[vN];refine k d l _ (sm.free hd) (sm.free ab) ⟨_,z,0,cs.reverse,ae,by rw[ah l2,ae,List.map_reverse],(),λx F=>hpos x (List.mem_reverse.mp F),z0,z1,by simpa using ap⟩ λb o e=>?_
   have e3:=sm b o e;rw[ah (au e3 hd),ah (au e3 ab),ah (au e3 B),ah (au e3 hd)];exact e3
def Bu:Sp:=λvs H Q _=>∃(d l:Addr) (m:Int),vs=[.ref d,.int m]/\aI H d l/\0<=m/\m<=20/\∀(p:Addr) (ws:List Str) (H':Hp),H p=none->gH ws->ws.length=m.toNat->H' p*>(ws.map V.str)->aI H' d l->But d l H H'->Q (.ref p) H'
theorem zB {B:Str} (Z:fo B) {P:Str->Prop} (h:P (pG B)):B.length<=g9/\∃c,atI B.cps.toList 0=some c/\∃i rest,Hj (b_ "abcdefghijklmnopqrstuvwxyz") { cps := #[c] } 0 (b_ "abcdefghijklmnopqrstuvwxyz").length 1=i :: rest/\(0:Int) < 26 /\
  (b_ "abcdefghijklmnopqrstuvwxyz").length<=g9/\∃c,atI (b_ "abcdefghijklmnopqrstuvwxyz").cps.toList (((i:Nat)+1:Int) % 26)=some c/\B.length<=g9/\(Str.mk #[c]).length+(GL B (some 1) none).length<=g9/\P ((Str.mk #[c])++GL B (some 1) none):=by
 obtain⟨c,cs,e,hc,ab,hl⟩:=Z.cons;have F:B.length<=g9:=GY (aN (gr Z.le ∅))
 have hs:=HR B (some 1) none;have hw:=Z.le;refine⟨F,c,by rw[e];exact uq _ _,_,_,qo hc,∅,nF,_,pP () (),F,GY (aN (by show 1+_<=1000;omega)),?_⟩
 have Y:=hc;simp only[dj,k9,decide_eq_true_eq] at Y;have L:B.length=cs.length+1:=by rw[<- ld,e];rfl
 have aa:(Str.mk #[97+((((c - 97:Nat):Int)+1) % 26).toNat])++GL B (some 1) none=pG B:=by
  apply CA
  rw[kr,mm,e,L];have e1:97+((((c - 97:Nat):Int)+1) % 26).toNat=tN c:=by unfold tN;omega
  have e2:HT.sIx (cs.length+1) 0 (some 1)=1:=by
   show(if (1:Int) < 0 then((1:Int)+((cs.length+1:Nat):Int)).toNat else min (1:Int).toNat (cs.length+1))=1
   rw[if_neg ∅]
   show min 1 (cs.length+1)=1
   omega
  rw[e1,e2,HT.sIx_none];simp[pG,e,BM]
 rw[aa];exact h
theorem jw {Dn:og} {L Y Z:Option V} {wd:Str} (hw:fo wd) (ag:ws.length<=20) (hp:H p*>(ws.map V.str))
  (af : ∀(B:Str) (H':Hp),fo B->B∉ws->B∉fA->aw H H'->Dn.nx [-d,L,some (.str (b_ "abcdefghijklmnopqrstuvwxyz")),-p,Y,some (.str B),Z] H') :
  wE
   (tOr (rB (tOp (Aa false) (eO 5) (eO 3)))
    (rB (tOp (Aa false) (eO 5) (Bj (jR (tC (V.str "in")) (jR (tC (V.str "from")) (jR (tC (V.str "to")) (jR (tC (V.str "end")) vX))))))))
   (xG (tOp rCS (tOp rIS (eO 2) (tOp (rI (λx j=>0 < j) λi j=>V.int (i % j)) (tOp (rI0 λi j=>V.int (i+j)) (tMS oB (eO 2) (jR (tOp rIS (eO 5) (tC (V.int 0))) vX)) (tC (V.int 1))) (tC (V.int 26))))
     (tSl CO (eO 5) (uM (tC (V.int 1))) lI)) (fI 5))
   Dn [-d,L,some (.str (b_ "abcdefghijklmnopqrstuvwxyz")),-p,Y,some (.str wd),Z] H:=by
 obtain⟨ab,h0⟩:=yl hw (F:=ws++fA) (by simp[fA];omega)
 refine uF (λμ σ H'=>∃B:Str,σ=[-d,L,some (.str (b_ "abcdefghijklmnopqrstuvwxyz")),-p,Y,some (.str B),Z]/\fo B/\pe μ B∉ws++fA/\aw H H')
  (λσ H'=>∃B:Str,σ=[-d,L,some (.str (b_ "abcdefghijklmnopqrstuvwxyz")),-p,Y,some (.str B),Z]/\fo B/\B∉ws/\B∉fA/\aw H H')
  ⟨ab,wd,rfl,hw,h0,aw.refl _⟩ ?_ ?_
 .rintro R hR μ σ H1 ⟨w1,rfl,n1,f1,sm⟩
  have ac:=sm _ _ hp;have step : ∀H2,aw H H2->w1∈ws++fA->∀ σ' H',(σ'=[-d,L,some (.str (b_ "abcdefghijklmnopqrstuvwxyz")),-p,Y,some (.str (pG w1)),Z]/\H'=H2)->∃m',m' < μ/\∃B:Str,σ'=[-d,L,some (.str (b_ "abcdefghijklmnopqrstuvwxyz")),-p,Y,some (.str B),Z]/\fo B/\pe m' B∉ws++fA/\aw H H':=λH2 aa ad=>by
   rintro _ _ ⟨rfl,rfl⟩
   cases μ with
   | zero=>exact absurd ad f1
   | succ μ=>exact⟨μ,GS _,pG w1,rfl,Cg n1,f1,aa⟩
  ctx_has v ac
  refine⟨rfl,yr _,?_⟩
  rw[uN];refine cV (λh=>?_) (λh=>?_)
  .exact⟨_,step H1 sm (ki _ (by simpa using h)),zB n1 (P:=λz=>[some (V.ref d),L,some (.str (b_ "abcdefghijklmnopqrstuvwxyz")),-p,Y,some (.str z),Z]=[some (V.ref d),L,some (.str (b_ "abcdefghijklmnopqrstuvwxyz")),-p,Y,some (.str (pG w1)),Z]/\H1=H1) ⟨rfl,rfl⟩⟩
  .refine⟨∅,λq hq=>⟨_,ae,rfl,by decide+kernel,?_⟩⟩
   have aa:aw H (upd H1 q (.lst (fA.map V.str))):=sm.upd_new hq
   show(if inV (V.str w1) (fA.map V.str)=true then _ else _)
   rw[uN];refine cV (λh2=>?_) (λh2=>?_)
   .exact⟨_,step _ aa (n9 _ (by simpa using h2)),zB n1 (P:=λz=>[some (V.ref d),L,some (.str (b_ "abcdefghijklmnopqrstuvwxyz")),-p,Y,some (.str z),Z]=[some (V.ref d),L,some (.str (b_ "abcdefghijklmnopqrstuvwxyz")),-p,Y,some (.str (pG w1)),Z]/\_=_) ⟨rfl,rfl⟩⟩
   .exact hR _ _ ⟨w1,rfl,n1,by simpa using h,by simpa using h2,aa⟩
 .rintro σ H1 ⟨w1,rfl,n1,f1,f2,sm⟩
  exact af w1 H1 n1 f1 f2 sm
abbrev Dz2:=Fn P w K mg base "_law_names" 2 ["_law_deal_here","_law_many"] (Bu)
theorem qm (T:Txt w K mg) (L:FnL K mg "_law_names" fM ["_law_deal_here","_law_many"]) (Fa : @Dz0 P w K mg base) : @Dz2 P w K mg base:=by
 ctx_has z qC <;> obtain⟨d,l,m,rfl,D,m0,m1,k⟩:=h
 .rfl
 refine⟨_,(af (aD 2 aH)
  (af (aD 3 (cg ai))
  (af (bq (cZ rfl T.b_range (ac (pvM 1) ai)) (aA 4) (af (aD 5 (CU PySem.F.slot_str_join PySem.F.type_str_join BF aH (ac (br (N:=["_law_j","_law_letters","_law_deal_here"]) (nt:=1) (js:=[2,0]) (aM ["_law_deal_here","_law_many","_law_letters","_law_names_here","_law_k","_law_word","_law_place"] (ao fM).names) (cZ rfl T.b_range (ac (aT bj aj (az Fa (ac (pvM 0) (ac aj ai)))) ai)) (aA 0) aV cy (aG BQ (pvM 1) (az Fa (ac (pvM 2) (ac aj ai))))) ai)))
  (af (bv (PW.pt (rQ (aL nJ (pvM 4) aj) (si (aL bR (az Fa (ac (pvM 0) (ac aj ai))) aj)))) (af (aD 6 (az Fa (ac (pvM 0) (ac (aE yx T.b_len (ac (aG fS (pvM 3) (no jv aj)) ai)) ai))))
  (ak (aD 5 (aT rP (aT rP (cP we (aG fS (pvM 3) (no jv aj)) dN (db (pvM 6))) (aG BQ (pvM 5) aj)) (cP we (aG fS (pvM 3) (no jv aj)) (db (aT bj (pvM 6) aj)) dN))))) aO)
  (af (uD PassesOwn.never (PW.pt (ux (aL AD (pvM 5) (pvM 3)) (sU (aL AD (pvM 5) (cg (ac aH (ac aH (ac aH (ac aH ai))))))))) (ak (aD 5 (aT rP (aG BQ (pvM 2) (aT iH (aT bj (CU PySem.F.slot_str_index PySem.F.type_str_index zX (pvM 2) (ac (aG BQ (pvM 5) aj) ai)) aj) aj)) (cP we (pvM 5) (db aj) dN)))))
  (ak (cz (iJ m5 m6 cK (pvM 3) (ac (pvM 5) ai))))))))
  (ak (aB (pvM 3)))))),?_⟩
 ctx_has v
 refine⟨∅,λp hp=>⟨(),(),?_⟩⟩
 have Y:=D.ne hp;refine bS cN (λi σ H'=>∃(ws:List Str) (vk vw vp:Option V),σ=[-d,some (.int m),some (.str (b_ "abcdefghijklmnopqrstuvwxyz")),-p,vk,vw,vp]/\gH ws/\ws.length=i/\H' p*>(ws.map V.str)/\aI H' d l/\But d l H H')
  ⟨[],_,_,_,rfl,.nil,rfl,ae,D.new hp,(But.refl H).new hp⟩ (λ_ _ _ _=>nl) ?_ ?_
 .rintro i x σ H2 hi hx ⟨ws,vk,vw,vp,rfl,ok,hlen,h2,D2,B2⟩
  rw[aQ] at hi;rw[lJ hi] at hx;obtain rfl:=fx hx
  ctx_has v
  refine ba D2 ∅ ∅ λr H3 r0 r1 D3 B3=>?_
  ctx_has v
  refine⟨(),(),λq hq=>?_⟩
  have h3:=B3 p _ Y.1 Y.2 h2;have nq:=D3.ne hq;have aq:p≠q:=au h3 hq
  refine eI cN (λj ys H4=>∃cs:List Nat,ys=cs.map (λc=>V.str ⟨#[c]⟩)/\cs.length=j/\(∀c∈cs,dj c=true)/\H4 q*>ys/\H4 p*>(ws.map V.str)/\aI H4 d l/\But d l H H4)
   ⟨[],rfl,rfl,by simp,ae,by rw[ah aq];exact h3,D3.new hq,(B2.trans B3).new hq⟩ (λ_ _ _ _=>nl) ?_ ?_
  .rintro j x ys H4 hj hx ⟨cs,rfl,hcl,hcs,h4,h4p,D4,B4⟩
   ctx_has v
   rw[aQ] at hj;refine ba D4 ∅ ∅ λr5 H5 an ap D5 B5=>?_
   have h5:=B5 q _ nq.1 nq.2 h4;have ax:=B5 p _ Y.1 Y.2 h4p;refine⟨r5,rfl,nF,_,pP an ap,h5,by simp;exact aN (),cs++[97+r5.toNat],by simp,by simp;omega,λc hc=>?_,ae,by rw[ah aq];exact ax,D5.put nq.1 nq.2,(B4.trans B5).put (B2.free D2 ((B3.free D3 hq)))⟩
   rcases i9.mp hc with z | z
   .exact hcs c z
   .rw[e7.mp z]
    unfold dj;rw[k9,decide_eq_true_eq,decide_eq_true_eq];omega
  .rintro ys H4 ⟨cs,rfl,hcl,hcs,h4,h4p,D4,B4⟩
   rw[aQ] at hcl;ctx_has v
   refine⟨cs.map λc=>⟨#[c]⟩,by rw[h4];simp,by rw[yP,show(b_ "").length=0 by decide+kernel];omega,?_⟩
   have hj:=vU cs;generalize Txt.join (b_ "") (cs.map λc=>Str.mk #[c])=wd at hj ⊢
   obtain⟨c0,cs',rfl⟩ : ∃c0 cs',cs=c0 :: cs':=by
    cases cs with
    | nil=>simp at hcl;omega
    | cons a b=>exact⟨a,b,rfl⟩
   have ab:fo wd:=.of hj (hcs c0 (by simp)) (λx hx=>hcs x (by simp[hx])) (by simp at hcl;omega)
   have aa : ∀{w:Str},fo w->w.length<=g9:=λh=>GY (aN (gr h.le ∅))
   have ag:ws.length<=20:=()
   have ad : ∀(B:Str) (H5 Z:Hp),aI H5 d l->But d l H H5->aw H5 Z->fo B->B∉ws->B∉fA->∃am,gH am/\am.length=i+1/\upd Z p (HO.lst (ws.map V.str++[V.str B])) p=some (HO.lst (am.map V.str))/\aI (upd Z p (HO.lst (ws.map V.str++[V.str B]))) d l/\But d l H (upd Z p (HO.lst (ws.map V.str++[V.str B]))) :=
    λB H5 Z D5 B5 sm n f1 f2=>⟨ws++[B],ok.snoc n f1 f2,by simp[hlen],by rw[ae];simp,(D5.same sm).put Y.1 Y.2,(B5.same sm).put hp⟩
   refine cV (λh=>?_) (λh=>?_)
   .refine ba D4 ∅ ∅ λr5 H5 an ap D5 B5=>?_
    ctx_has v
    have h5:=B5 p _ Y.1 Y.2 h4p;refine cV (λh6=>?_) (λh6=>?_)
    .rcases HY ws with rfl | ⟨ws0,z,rfl⟩
     .simp at hlen;omega
     have nz:fo z:=ok.nm z (by simp)
     refine⟨_,h5,_,by rw[G_,v_];exact pz _ _,z,rfl,aa nz,?_⟩
     refine ba D5 (by have:=nz.pos;omega) (by have:=nz.le;omega) λr7 H7 a0 ay D7 B7=>?_
     have h7:=B7 p _ Y.1 Y.2 h5;ctx_has v h7
     have ar:atI (List.map V.str (ws0.concat z)) (-1)=some (V.str z):=by rw[G_,v_];exact pz _ _
     have l1:=HR z none (some r7);have l2:=HR z (some (r7+1)) none;have l3:=nz.le;refine⟨_,ar,z,rfl,aa nz,aa ab,c0,by rw[hj];exact uq _ _,GY (aN (by show _+1<=1000;omega)),_,ar,z,rfl,aa nz,GY (aN (by rw[oK];show _+1+_<=1000;omega)),?_⟩
     refine jw (BJ nz (hcs c0 (by simp)) a0 ay) ag h7 λB H8 n f1 f2 sm=>?_
     have h8:=sm _ _ h7;ctx_has v h8
     exact⟨by simp only[c_];exact aN (),ad B H7 H8 D7 ((B4.trans B5).trans B7) sm n f1 f2⟩
    .refine jw ab ag h5 λB Z n f1 f2 sm=>?_
     have h6:=sm _ _ h5;ctx_has v h6
     exact⟨by simp;exact aN (),ad B H5 Z D5 (B4.trans B5) sm n f1 f2⟩
   .refine jw ab ag h4p λB Z n f1 f2 sm=>?_
    have h6:=sm _ _ h4p;ctx_has v h6
    exact⟨by simp;exact aN (),ad B H4 Z D4 B4 sm n f1 f2⟩
 .rintro σ H2 ⟨ws,vk,vw,vp,rfl,ok,hlen,h2,D2,B2⟩
  ctx_has v
  rw[aQ] at hlen;exact k p ws H2 hp ok hlen h2 D2 B2
def fX (p:Addr) (H H':Hp):Prop:=∀b o,b≠p->H b=some o->H' b=some o
def aZ (H:Hp) (kvs:List (Key × V)) (cs:List Str) (rm:Str->List Int):Prop:=∀c∈cs,∃a,bO kvs (ge c)=some (.ref a)/\H a>>((rm c).map V.int)
structure fY (H H':Hp):Prop where
 tup : ∀a vs,H a>>vs->H' a>>vs
 ins : ∀a C dx fs,H a=some (.ins C dx fs)->H' a=some (.ins C dx fs)
 dt : ∀a ks,H a=some (.dT ks)->H' a=some (.dT ks)
theorem aw.keepTI (s:aw H H'):fY H H':=⟨λa vs e=>s _ _ e,λa C dx fs e=>s _ _ e,λa ks e=>s _ _ e⟩
theorem But.keepTI (B:But d l H H') (D:aI H d l):fY H H':=by
 obtain⟨m,L,n,xs,F,hl,_⟩:=D.ex;exact⟨λa vs e=>B a _ (aX e F (by intro z;cases z)) (aX e hl (by intro z;cases z)) e,λa C dx fs e=>B a _ (aX e F (by intro z;cases z)) (aX e hl (by intro z;cases z)) e,λa ks e=>B a _ (aX e F (by intro z;cases z)) (aX e hl (by intro z;cases z)) e⟩
theorem jE {k:Key} {v:V} (h : ∀x∈kvs,eP x.2=true) (F:eP v=true) : ∀x∈bm kvs k v,eP x.2=true:=by
 intro x B;unfold bm at B
 split at B
 .obtain⟨y,hy,rfl⟩:=hB.mp B
  split
  .exact F
  .exact h y hy
 .rcases i9.mp B with q | q
  .exact h x q
  .rw[e7.mp q];exact F
theorem aZ.same (h:aZ H kvs cs rm) (s : ∀a vs,H a>>vs->H' a>>vs):aZ H' kvs cs rm:=λc B=>by
 obtain⟨a,e1,e2⟩:=h c B;exact⟨a,e1,s _ _ e2⟩
def bN {α:Type} (f:Str->α) (c:Str) (v:α):Str->α:=λx=>if x=c then v else f x
def okF (rm:Str->List Int) (cs:List Str) (g:Str->Int):Prop:=∀c∈cs,g c∈rm c
def bQ (H:Hp) (x:V) (cs:List Str) (g:Str->Int):Prop:=∃a kvs,x = .ref a/\H a<*kvs/\(∀c∈cs,bO kvs (ge c)=some (.int (g c)))/\kvs.length<=cs.length/\∀x∈kvs,eP x.2=true
theorem bQ.keep {x:V} (h:bQ H x cs g) (k : ∀a kvs,H a<*kvs->H' a<*kvs):bQ H' x cs g:=by
 obtain⟨a,kvs,e,h1,h2⟩:=h;exact⟨a,kvs,e,k _ _ h1,h2⟩
structure xm (H:Hp) (xs:List V) (cs:List Str) (rm:Str->List Int):Prop where
 sound : ∀x∈xs,∃g,okF rm cs g/\bQ H x cs g
 comp : ∀g,okF rm cs g->∃x∈xs,bQ H x cs g
def BU:Sp:=λvs H Q _=>∃(a r:Addr) (cs:List Str) (kvs:List (Key × V)) (rm:Str->List Int),vs=[.ref a,.ref r]/\H a*>(cs.map V.str)/\H r<*kvs/\aZ H kvs cs rm/\cs.Nodup/\cs.length<=5/\(∀c∈cs,(rm c).length<=4) /\
 ∀(p:Addr) (xs:List V) (H':Hp),H p=none->H' p*>xs->xm H' xs cs rm->xs.length<=1024->aw H H'->Q (.ref p) H'
theorem ET (h:i<=5):4 ^ i<=1024:=gr (Nat.pow_le_pow_right ∅ h) ∅
theorem bo (g:Str->α) (c:Str) (v:α):bN g c v c=v:=by unfold bN;rw[if_pos rfl]
theorem cE (g:Str->α) {c x:Str} (v:α) (h:x≠c):bN g c v x=g x:=by unfold bN;rw[if_neg h]
theorem yb (g:Str->α) (c:Str):bN g c (g c)=g:=by
 funext x
 by_cases h:x=c
 .subst h;rw[bo]
 .rw[cE _ _ h]
theorem bQ.put {q:Addr} (h : ∀x∈cs,bO kvs (ge x)=some (.int (g x))) (B:kvs.length<=cs.length/\∀x∈kvs,eP x.2=true) (Y:c∉cs) (F:H' q<*(bm kvs (ge c) (.int v))):bQ H' (.ref q) (cs++[c]) (bN g c v):=by
 refine⟨q,_,rfl,F,λx L=>?_,gr (cR _ _ _) (by have:=B.1;simp;omega),jE B.2 rfl⟩
 rw[hZ]
 by_cases e:x=c
 .subst e;rw[if_pos rfl,bo]
 .rw[if_neg (λz=>e (Hw z)),cE _ _ e]
  rcases i9.mp L with z | z
  .exact h x z
  .exact absurd (e7.mp z) e
def kH (kvs:List (Key × V)) (cs:List Str):Prop:=(kvs.map (·.1)).Nodup/\∀x∈kvs,∃c∈cs,x.1=ge c
theorem kH.put {v:V} (h:kH kvs cs) (hc:c∈cs') (sub : ∀x∈cs,x∈cs'):kH (bm kvs (ge c) v) cs':=by
 unfold bm
 by_cases ha:(kvs.any λF=>decide (F.1=ge c))=true
 .rw[if_pos ha]
  have e:(kvs.map λF=>if F.1=ge c then(F.1,v) else F).map (·.1)=kvs.map (·.1):=by
   rw[lb];refine m4 λy _=>?_
   show(if y.1=ge c then(y.1,v) else y).1=y.1
   split <;> rfl
  refine⟨by rw[e];exact h.1,λx Y=>?_⟩
  have aa:x.1∈kvs.map (·.1):=by rw[<- e];exact hB.mpr ⟨x,Y,rfl⟩
  obtain⟨y,hy,ey⟩:=hB.mp aa;obtain⟨B,h1,h2⟩:=h.2 y hy;exact⟨B,sub B h1,by rw[<- ey];exact h2⟩
 .rw[if_neg ha]
  refine⟨?_,λx Y=>?_⟩
  .rw[v_]
   refine t7.mpr ⟨h.1,by simp,λa L b hb e=>?_⟩
   obtain⟨y,hy,ey⟩:=hB.mp L;have Z:b=ge c:=by simpa using hb
   exact ha (sn.mpr ⟨y,hy,by simp[ey,e,Z]⟩)
  .rcases i9.mp Y with q | q
   .obtain⟨B,h1,h2⟩:=h.2 x q
    exact⟨B,sub B h1,h2⟩
   .rw[e7.mp q];exact⟨c,hc,rfl⟩
def xw:Sp:=λvs H Q _=>∃(d l:Addr),vs=[.ref d]/\aI H d l/\∀(p:Addr) (ns:List Int) (H':Hp),H p=none->ns.length=5->ns.Pairwise (· < ·)->(∀x∈ns,-1000000<=x/\x<=1000000)->H' p*>(ns.map V.int)->aI H' d l->But d l H H'->Q (.ref p) H'
def zr:Sp:=λvs H Q _=>∃(d l a p:Addr) (ws:List Str) (ns:List Int) (m:Int),vs=[.ref d,.ref a,.ref p,.int m]/\aI H d l/\(a≠d/\a≠l)/\(p≠d/\p≠l)/\H a*>(ws.map V.str)/\ws.length<=45/\H p*>(ns.map V.int)/\ns.length=5/\ns.Pairwise (· < ·)/\1<=m/\m<=20 /\
 ∀(r:Addr) (kvs:List (Key × V)) (rm:Str->List Int) (H':Hp),H r=none->H' r<*kvs->aZ H' kvs ws rm->(∀c∈ws,rm c≠[]/\((rm c).length:Int)<=m/\(rm c).Pairwise (· < ·)/\∀v∈rm c,v∈ns)->(∀x∈kvs,eP x.2=true)->(kvs.length<=2 * ws.length/\kH kvs ws)->aI H' d l->But d l H H'->Q (.ref r) H'
def Dc:Sp:=λvs H Q _=>∃(d l a:Addr) (m:Int) (xs:List V),vs=[.ref d,.ref a,.int m]/\aI H d l/\FM H a xs/\0<=m/\m<=xs.length/\xs.length<=60 /\
 ∀(p:Addr) (B rest:List V) (H':Hp),H p=none->(B++rest).Perm xs->m<=B.length->H' p>>B->aI H' d l->But d l H H'->Q (.ref p) H'
theorem lay_ints : ∀ns:List Int,pc (ns.map z_)=true
 | []=>rfl
 | n :: ns=>by
  rw[i8];unfold pc;rw[lay_ints ns];rfl
theorem depth_ints : ∀ns:List Int,GW (ns.map z_)=0
 | []=>rfl
 | n :: ns=>by
  rw[i8];unfold GW;rw[depth_ints ns];rfl
theorem tH (ns:List Int):A_ (.list (ns.map z_)) (.list [])=decide (ns=[]):=by
 cases ns with
 | nil=>rfl
 | cons n ns=>simp[A_,Hk]
theorem aZ.putG {t:Addr} (h:aZ H kvs cs rm) (s : ∀a vs,H a>>vs->H' a>>vs) (F:H' t>>(ns.map V.int)) (sub : ∀x∈cs',x=c\/x∈cs) :
  aZ H' (bm kvs (ge c) (.ref t)) cs' (bN rm c ns):=λx B=>by
 by_cases e:x=c
 .subst e
  exact⟨t,by rw[hZ,if_pos rfl],by unfold bN;rw[if_pos rfl];exact F⟩
 .obtain⟨a,e1,e2⟩:=h x ((sub x B).resolve_left e)
  exact⟨a,by rw[hZ,if_neg (λz=>e (Hw z))];exact e1,by unfold bN;rw[if_neg e];exact s _ _ e2⟩
theorem oP (f:α->V) (B:V->α) (hi : ∀x,B (f x)=x) {F rest:List V} {xs:List α} (h:(F++rest).Perm (xs.map f)) : ∃ys zs:List α,F=ys.map f/\(ys++zs).Perm xs:=by
 refine⟨F.map B,rest.map B,?_,?_⟩
 .rw[lb]
  have : ∀v∈F,f (B v)=v:=λv L=>by
   obtain⟨x,_,rfl⟩:=hB.mp (h.mem_iff.mp (ki _ L));rw[hi]
  conv=>lhs;rw[<- map_id F]
  exact m4 λv L=>(this v L).symm
 .have:=h.map B
  rw[v_,lb] at this;have e:xs.map (B ∘ f)=xs:=by
   conv=>rhs;rw[<- map_id xs]
   exact m4 λx _=>hi x
  rw[e] at this;exact this
def F1:V->Str | .str s=>s | _ => ""
def B0:V->Int | .int i=>i | _=>0
theorem sr (T:Txt w K mg) (L:FnL K mg "_law_pool" jz ["_law_deal_here"]) (Fa : @Dz0 P w K mg base):Fn P w K mg base "_law_pool" 2 ["_law_deal_here"] (xw):=by
 ctx_has z rZ <;> obtain⟨d,l,rfl,D,k⟩:=h
 .rfl
 refine⟨_,(af (aD 1 (aT jc (az Fa (ac (pvM 0) (ac aj ai))) aj))
  (af (bv (aL bR (az Fa (ac (pvM 0) (ac aj ai))) aj) (ak (aD 1 (aT jc (az Fa (ac (pvM 0) (ac aj ai))) aj))) aO)
  (af (aD 2 (cg ai))
  (af (bq (cZ rfl T.b_range (ac aj ai)) (aA 3) (af (cz (iJ m5 m6 cK (pvM 2) (ac (pvM 1) ai)))
  (ak (aD 1 (aT bj (aT bj (pvM 1) aj) (aG fS (cg (ac aj (ac (az Fa (ac (pvM 0) (ac aj ai))) (ac aj ai)))) (az Fa (ac (pvM 0) (ac aj ai)))))))))
  (ak (aB (pvM 2))))))),?_⟩
 ctx_has v
 refine ba D ∅ ∅ λr H1 r0 r1 D1 B1=>?_
 ctx_has v
 refine ba D1 ∅ ∅ λr2 H2 am an D2 Y=>?_
 ctx_has v
 refine cV (λh=>?_) (λh=>?_)
 .refine ba D2 ∅ ∅ λr3 H3 aa ag D3 B3=>?_
  have B3:=(B1.trans Y).trans B3;refine⟨_,rfl,∅,λp hp=>?_⟩
  have Z:=D3.ne hp;have fp:H p=none:=B3.free D3 hp
  refine⟨∅,∅,?_⟩
  refine bS cN (λi σ H'=>∃(ns:List Int) (B:Int) (vk:Option V),σ=[-d,some (.int B),-p,vk]/\ns.length=i/\ns.Pairwise (· < ·)/\(∀x∈ns,x < B/\-1000000<=x/\x<=1000000)/\-999500<=B/\B<=999500+98 * (i:Int)/\H' p*>(ns.map V.int)/\aI H' d l/\But d l H H')
   ⟨[],_,_,rfl,rfl,.nil,by simp,(),(),ae,D3.new hp,B3.new hp⟩ (λ_ _ _ _=>nl) ?_ ?_
  .rintro i x σ H2 hi hx ⟨ns,B,vk,rfl,hlen,hpw,hall,lo0,lo1,h2,D2,Y⟩
   rw[aQ] at hi;have ah:i < 5:=hi
   ctx_has v h2
   refine⟨by rw[c_];exact aN (),?_⟩
   refine ba (D2.put Z.1 Z.2) ∅ ∅ λr3 H3 aa ag D3 B3=>?_
   refine⟨∅,λp2 ab=>?_⟩
   refine jC D3 ab ∅ ∅ rfl λr5 v H5 hv ha D5 B5 h5=>?_
   have ad:=B5 p _ Z.1 Z.2 (B3 p _ Z.1 Z.2 ae);obtain⟨y,rfl,y0,y1⟩ : ∃y:Int,v = .int y/\0<=y/\y<=97:=by
    simp only[i4,m8,or_false] at hv;rcases hv with rfl | rfl | rfl
    .exact⟨0,rfl,∅,∅⟩
    .exact⟨r3,rfl,aa,()⟩
    .exact⟨97,rfl,∅,∅⟩
   ctx_has v h5 ha
   refine⟨ns++[B],by simp;omega,?_,λz hz=>?_,(),(),by rw[ad];simp,D5,((Y.put fp).trans B3).trans B5⟩
   .rw[List.pairwise_append]
    exact⟨hpw,List.pairwise_singleton _ _,λx hx y hy=>by rw[e7.mp hy];exact(hall x hx).1⟩
   .rcases i9.mp hz with q | q
    .have:=hall z q;omega
    .rw[e7.mp q];omega
  .rintro σ H2 ⟨ns,B,vk,rfl,hlen,hpw,hall,lo0,lo1,h2,D2,Y⟩
   rw[aQ] at hlen;ctx_has v
   exact k p ns H2 fp hlen hpw (λx hx=>(hall x hx).2) h2 D2 Y
 .have Y:=B1.trans Y
  refine⟨∅,λp hp=>?_⟩
  have Z:=D2.ne hp;have fp:H p=none:=Y.free D2 hp
  refine⟨∅,∅,?_⟩
  refine bS cN (λi σ H'=>∃(ns:List Int) (B:Int) (vk:Option V),σ=[-d,some (.int B),-p,vk]/\ns.length=i/\ns.Pairwise (· < ·)/\(∀x∈ns,x < B/\-1000000<=x/\x<=1000000)/\-999500<=B/\B<=999500+98 * (i:Int)/\H' p*>(ns.map V.int)/\aI H' d l/\But d l H H')
   ⟨[],_,_,rfl,rfl,.nil,by simp,(),(),ae,D2.new hp,Y.new hp⟩ (λ_ _ _ _=>nl) ?_ ?_
  .rintro i x σ H2 hi hx ⟨ns,B,vk,rfl,hlen,hpw,hall,lo0,lo1,h2,D2,Y⟩
   rw[aQ] at hi;have ah:i < 5:=hi
   ctx_has v h2
   refine⟨by rw[c_];exact aN (),?_⟩
   refine ba (D2.put Z.1 Z.2) ∅ ∅ λr3 H3 aa ag D3 B3=>?_
   refine⟨∅,λp2 ab=>?_⟩
   refine jC D3 ab ∅ ∅ rfl λr5 v H5 hv ha D5 B5 h5=>?_
   have ad:=B5 p _ Z.1 Z.2 (B3 p _ Z.1 Z.2 ae);obtain⟨y,rfl,y0,y1⟩ : ∃y:Int,v = .int y/\0<=y/\y<=97:=by
    simp only[i4,m8,or_false] at hv;rcases hv with rfl | rfl | rfl
    .exact⟨0,rfl,∅,∅⟩
    .exact⟨r3,rfl,aa,()⟩
    .exact⟨97,rfl,∅,∅⟩
   ctx_has v h5 ha
   refine⟨ns++[B],by simp;omega,?_,λz hz=>?_,(),(),by rw[ad];simp,D5,((Y.put fp).trans B3).trans B5⟩
   .rw[List.pairwise_append]
    exact⟨hpw,List.pairwise_singleton _ _,λx hx y hy=>by rw[e7.mp hy];exact(hall x hx).1⟩
   .rcases i9.mp hz with q | q
    .have:=hall z q;omega
    .rw[e7.mp q];omega
  .rintro σ H2 ⟨ns,B,vk,rfl,hlen,hpw,hall,lo0,lo1,h2,D2,Y⟩
   rw[aQ] at hlen;ctx_has v
   exact k p ns H2 fp hlen hpw (λx hx=>(hall x hx).2) h2 D2 Y
abbrev Dz3:=Fn P w K mg base "_law_rooms" 2 ["_law_deal_here","_law_names_here","_law_pool_here","_law_most"] (zr)
theorem qE (T : Txt w K mg) (L:FnL K mg "_law_rooms" fT ["_law_deal_here","_law_names_here","_law_pool_here","_law_most"]) (Fa : @Dz0 P w K mg base) : @Dz3 P w K mg base:=by
  ctx_has z qD <;> obtain⟨d,l,a,p,ws,ns,m,rfl,D,na,np,ha,bw,hp,bt,bf,m0,m1,k⟩:=h
  . rfl
  refine⟨_,(af (aD 4 gm)
    (af (bq (gl K (pvM 1)) (aA 5) (af (gg 6 (N:=["_law_value","_law_deal_here"]) (nt:=1) (js:=[0]) (aM ["_law_deal_here","_law_names_here","_law_pool_here","_law_most","_law_rooms_here","_law_name","_law_some_here"] (ao fT).names) (gl K (pvM 2)) (aA 0) aV (dM (aL bR (az Fa (ac (pvM 1) (ac aj ai))) aj)) (pvM 0))
    (af (gK hu (pvM 4) (pvM 5) (bu cC T.b_tuple (ac (cP E2 (pvM 6) dN (db (pvM 3))) ai)) rfl)
    (ak (bv (aL (sM (xf hr)) (pvM 6) (cg ai)) (ak (gK hu (pvM 4) (pvM 5) (bW (ac (aG fS (pvM 2) (az Fa (ac (pvM 0) (ac aj ai)))) ai)) rfl)) aO)))))
    (ak (aB (pvM 4))))),?_⟩
  ctx_has v
  intro q hq;have nq:=D.ne hq;have aq:a≠q:=au ha hq
  have pq:p≠q:=au hp hq
  refine⟨_,by rw[ah aq];exact ha,?_⟩
  refine bS cm (λi σ H'=>∃(kvs:List (Key × V)) (rm:Str->List Int) (v5 v6:Option V),σ=[-d,-a,-p,some (.int m),-q,v5,v6]/\H' q<*kvs/\aZ H' kvs (ws.take i) rm /\
      (∀c∈ws.take i,rm c≠[]/\((rm c).length:Int)<=m/\(rm c).Pairwise (· < ·)/\∀v∈rm c,v∈ns)/\(∀x∈kvs,eP x.2=true)/\(kvs.length<=2 * i/\kH kvs (ws.take i))/\H' a*>(ws.map V.str)/\H' p*>(ns.map V.int)/\aI H' d l/\But d l H H')
    ⟨[],λ_=>[],_,_,rfl,ae,λc hc=>by simp at hc,λc hc=>by simp at hc,by simp,⟨x6 _,by simp,λx F=>by simp at F⟩,by rw[ah aq];exact ha,by rw[ah pq];exact hp,D.new hq,(But.refl H).new hq⟩ (λi σ H' aP=>by obtain⟨_,_,_,_,_,_,_,_,_,_,h,_⟩:=aP;exact(.of h)) ?_ ?_
  . rintro i x σ H2 hi F ⟨kvs,rm,v5,v6,rfl,h2,ay,an,a3,⟨a7,a0⟩,aH,ab,D2,B2⟩
    rw[c_] at hi;obtain⟨c,bd,rfl⟩ : ∃c,ws[i]? = some c/\V.str c=x:=by
      rw[e9] at F;cases e:ws[i]? with
      | none=>rw[e] at F;cases F
      | some nm=>rw[e] at F;exact⟨nm,rfl,fx F⟩
    have a6:ws.take (i+1)=ws.take i++[c]:=by rw[j_,bd];rfl
    have am : ∀x∈ws.take (i+1),x=c\/x∈ws.take i:=λx F=>by
      rw[a6] at F;rcases i9.mp F with z | z
      . exact .inr z
      . exact .inl (e7.mp z)
    ctx_has v ab
    intro g hg;have ng:=D2.ne hg;have fg:H g=none:=B2.free D2 hg
    refine eI cm (λj ys Z=>∃B:List Int,ys=B.map V.int/\B.Sublist (ns.take j)/\Z g*>ys/\Z p*>(ns.map V.int)/\(∀b o,b≠d->b≠l->H2 b=some o->Z b=some o)/\aI Z d l)
      ⟨[],rfl,by simp,ae,by rw[ah (au ab hg)];exact ab,λb o _ _ e=>by rw[ah (au e hg)];exact e,D2.new hg⟩ (λj ys Z aW=>by obtain⟨_,_,_,_,h,_⟩:=aW;exact(.of h)) ?_ ?_
    . rintro j y ys Z hj hy ⟨B,rfl,Y,ax,a5,k5,D5⟩
      rw[c_] at hj;obtain⟨z,hz,rfl⟩ : ∃z,ns[j]? = some z/\V.int z=y:=by
        rw[e9] at hy;cases e:ns[j]? with
        | none=>rw[e] at hy;cases hy
        | some nm=>rw[e] at hy;exact⟨nm,rfl,fx hy⟩
      have en:ns.take (j+1)=ns.take j++[z]:=by rw[j_,hz];rfl
      have bp:B.length<=5:=gr Y.length_le (by simp;omega)
      ctx_has v
      refine ba D5 ∅ ∅ λr6 H6 bo br D6 B6=>?_
      have ad:=B6 g _ ng.1 ng.2 ax;have aa:=B6 p _ np.1 np.2 a5;ctx_has v
      refine cV (λbk=>?_) (λbk=>?_)
      . refine⟨ad,by rw[c_];exact aN (),B++[z],by simp,by rw[en];exact Y.append_right [z],ae,by rw[ah (au ab hg)];exact aa,λb o h1 h2 e=>by rw[ah (au e hg)];exact B6 b o h1 h2 (k5 b o h1 h2 e),D6.put ng.1 ng.2⟩
      . exact⟨B,rfl,by rw[en];exact Y.trans (List.sublist_append_left _ _),ad,aa,λb o h1 h2 e=>B6 b o h1 h2 (k5 b o h1 h2 e),D6⟩
    . rintro ys Z ⟨B,rfl,Y,ax,a5,k5,D5⟩
      rw[c_] at Y;rw[l_] at Y;ctx_has v ax
      intro u bj;refine⟨_,ae,λt ht=>?_⟩
      obtain⟨mn,rfl⟩:=o6 (show 0<=m by omega)
      rw[sV] at ht ⊢;have ut:u≠t:=by rintro rfl;rw[ae] at ht;cases ht
      have bc:Z t=none:=by rwa [ah ut.symm] at ht
      have s5:aw Z (upd (upd Z u (.lst ((B.take mn).map V.int))) t (.tup ((B.take mn).map V.int))):=(aw.upd0 bj).upd_new ht
      have aR:=k5 q _ nq.1 nq.2 h2;have bg:=k5 a _ na.1 na.2 aH;refine⟨kvs,s5 _ _ aR,aN (),?_⟩
      have tq:t≠q:=(au aR bc).symm
      have aJ : ∀b vs,H2 b>>vs->upd (upd (upd Z u (.lst ((B.take mn).map V.int))) t (.tup ((B.take mn).map V.int))) q (.dK (bm kvs (ge c) (.ref t))) b>>vs:=λb vs e=>by
        obtain⟨m',sd,n',be,a8,aE,_⟩:=D2.ex;rw[ah (aX e h2 (by intro z;cases z))]
        exact s5 _ _ (k5 b _ (aX e a8 (by intro z;cases z)) (aX e aE (by intro z;cases z)) e)
      have a4 : ∀b o,b≠q->Z b=some o->upd (upd (upd Z u (.lst ((B.take mn).map V.int))) t (.tup ((B.take mn).map V.int))) q (.dK (bm kvs (ge c) (.ref t))) b=some o:=λb o hb e=>by rw[ah hb];exact s5 _ _ e
      have gq:g≠q:=(au h2 hg).symm
      have ad:=a4 g _ gq ax;have a2:=a4 a _ aq bg;have aa:=a4 p _ pq a5;have D6:=(D5.same s5).put (o:=.dK (bm kvs (ge c) (.ref t))) nq.1 nq.2;have B5:But d l H Z:=λb o h1 h2 e=>k5 b o h1 h2 (B2 b o h1 h2 e)
      have B6:=(B5.same s5).put (o:=.dK (bm kvs (ge c) (.ref t))) hq;have r6:aZ (upd (upd (upd Z u (.lst ((B.take mn).map V.int))) t (.tup ((B.take mn).map V.int))) q (.dK (bm kvs (ge c) (.ref t)))) (bm kvs (ge c) (.ref t)) (ws.take (i+1)) (bN rm c (B.take mn)):=ay.putG aJ (by rw[ah tq];exact ae) am
      have ap:upd (upd (upd Z u (.lst ((B.take mn).map V.int))) t (.tup ((B.take mn).map V.int))) q (.dK (bm kvs (ge c) (.ref t))) q<*(bm kvs (ge c) (.ref t)):=ae
      have aY:=cR kvs (ge c) (.ref t);have a9 : ∀x∈ws.take i,x∈ws.take (i+1):=λx F=>by rw[a6];exact ki _ F
      have a1:c∈ws.take (i+1):=by rw[a6];simp
      have ag:kH (bm kvs (ge c) (V.ref t)) (ws.take (i+1)):=a0.put a1 a9
      have aF:=jE (k:=ge c) (v:=V.ref t) a3 rfl;generalize bn:upd (upd (upd Z u (.lst ((B.take mn).map V.int))) t (.tup ((B.take mn).map V.int))) q (.dK (bm kvs (ge c) (.ref t)))=H6 at ad a2 aa D6 B6 r6 ap ⊢;generalize bm kvs (ge c) (.ref t)=aT at r6 ap aY ag aF ⊢;refine⟨∅,λe0 aC=>?_⟩
      have s7:aw H6 (upd H6 e0 (.lst [])):=aw.upd0 aC
      refine⟨.list (B.map z_),.list [],.lst (.of (s7 _ _ ad)) (gz.ints B),.lst (.of ae) .nil,by unfold HS;exact lay_ints B,rfl,by unfold Iu;rw[depth_ints];decide,?_⟩
      rw[tH];have D7:=D6.new (o:=.lst []) aC;have B7:=B6.new (o:=.lst []) aC;refine⟨_,rfl,cV (λaS=>?_) (λaS=>?_)⟩
      . refine ba D7 ∅ ∅ λr8 H8 aQ bs D8 B8=>?_
        obtain⟨z,aK,bb⟩:=lE (xs:=ns) aQ ()
        have bi:atI (ns.map V.int) r8=some (V.int z):=by
          obtain⟨n,rfl⟩:=o6 aQ;have hn:n < ns.length:=()
          have e1:ns[n]? = some z:=by
            have:=bA (xs:=ns) (j:=n) (v:=ns[n]) (by simp)
            rw[this] at aK;rw[<- aK];simp
          exact bA (by rw[e9,e1];rfl)
        refine⟨r8,rfl,_,B8 p _ np.1 np.2 (s7 _ _ aa),_,bi,∅,λt2 ar=>?_⟩
        have aU:=B8 q _ nq.1 nq.2 (s7 _ _ ap);have q2:t2≠q:=(au aU ar).symm
        have s9:aw H8 (upd H8 t2 (.tup [V.int z])):=aw.upd0 ar
        refine⟨aT,s9 _ _ aU,aN (),?_⟩
        have kt : ∀b vs,H6 b>>vs->upd (upd H8 t2 (.tup [V.int z])) q (.dK (bm aT (ge c) (.ref t2))) b>>vs:=λb vs e=>by
          rw[ah (aX e ap (by intro z;cases z))]
          obtain⟨m',sd,n',be,a8,aE,_⟩:=D6.ex;exact s9 _ _ (B8 b _ (aX e a8 (by intro z;cases z)) (aX e aE (by intro z;cases z)) (s7 _ _ e))
        refine⟨_,ae,bN (bN rm c (B.take mn)) c [z],r6.putG (ns:=[z]) kt (by rw[ah q2];exact ae) (λx F=>.inr F),λx F=>?_,jE aF rfl,gr (cR _ _ _) (),ag.put a1 λ_ h=>h,?_,?_,(D8.new ar).put nq.1 nq.2,((B7.trans B8).new ar).put hq⟩
        . by_cases e:x=c
          . subst e
            unfold bN;rw[if_pos rfl];exact⟨by simp,by simp;omega,by simp,λv hv=>by rw[e7.mp hv];exact bb⟩
          . unfold bN
            rw[if_neg e,if_neg e];exact an x ((am x F).resolve_left e)
        . rw[ah aq];exact s9 _ _ (B8 a _ na.1 na.2 (s7 _ _ a2))
        . rw[ah pq];exact s9 _ _ (B8 p _ np.1 np.2 (s7 _ _ aa))
      . refine⟨_,s7 _ _ ap,bN rm c (B.take mn),r6.same (λa vs e=>s7 _ _ e),λx F=>?_,aF,(),ag,s7 _ _ a2,s7 _ _ aa,D7,B7⟩
        by_cases e:x=c
        . subst e
          unfold bN;rw[if_pos rfl];have bh:B≠[]:=by simpa using aS
          refine⟨?_,by simp;omega,?_,λv hv=>Y.subset (GU hv)⟩
          . cases B with
            | nil=>exact absurd rfl bh
            | cons y ys =>
              obtain⟨k',rfl⟩ : ∃k',mn=k'+1:=⟨mn - 1,()⟩
              simp
          . exact(bf.sublist Y).sublist (HH _ _)
        . unfold bN
          rw[if_neg e];exact an x ((am x F).resolve_left e)
  . rintro σ H2 ⟨kvs,rm,v5,v6,rfl,h2,ay,an,a3,⟨a7,a0⟩,aH,ab,D2,B2⟩
    rw[c_,l_] at ay an;rw[c_] at a7;rw[c_,l_] at a0;ctx_has v
    exact k q kvs rm H2 hq h2 ay an a3 ⟨a7,a0⟩ D2 B2
abbrev Dz4:=Fn P w K mg base "_law_some" 2 ["_law_deal_here","_law_things","_law_least"] (Dc)
theorem sg (T:Txt w K mg) (L:FnL K mg "_law_some" jb ["_law_deal_here","_law_things","_law_least"]) (Fa : @Dz0 P w K mg base) : @Dz4 P w K mg base:=by
 ctx_has z sk <;> obtain⟨d,l,a,m,xs,rfl,D,ha,m0,m1,aq,k⟩:=h
 .rfl
 refine⟨_,(af (aD 3 (bu vL T.b_list (ac (pvM 1) ai)))
  (af (aD 4 (cg ai))
  (af (bq (cZ rfl T.b_range (ac (aT bj (pvM 2) (az Fa (ac (pvM 0) (ac (aT bj (aT jc (aE bK T.b_len (ac (pvM 3) ai)) (pvM 2)) aj) ai)))) ai)) (aA 5) (ak (cz (iJ m5 m6 cK (pvM 4) (ac (iJ PySem.F.slot_list_pop PySem.F.type_list_pop AI (pvM 3) (ac (az Fa (ac (pvM 0) (ac (aE bK T.b_len (ac (pvM 3) ai)) ai))) ai)) ai)))))
  (ak (aB (bu cC T.b_tuple (ac (pvM 4) ai))))))),?_⟩
 ctx_has v
 refine⟨xs,ha,λu Y=>?_⟩
 have nu:=D.ne Y;refine⟨∅,λg hg=>?_⟩
 have ug:u≠g:=by rintro rfl;rw[ae] at hg;cases hg
 have ab:H g=none:=by rwa [ah ug.symm] at hg
 have ng:=D.ne ab;have D1:=(D.new (o:=.lst xs) Y).new (o:=.lst []) hg;have Z:upd (upd H u (.lst xs)) g (.lst []) u*>xs:=by rw[ah ug];exact ae
 have aa:upd (upd H u (.lst xs)) g (.lst []) g*>[]:=ae
 have B1:But d l H (upd (upd H u (.lst xs)) g (.lst [])):=((But.refl H).new Y).new hg
 generalize upd (upd H u (.lst xs)) g (.lst [])=H1 at D1 Z aa B1 ⊢;ctx_has v Z
 refine ba D1 () () λr H2 r0 r1 D2 B2=>?_
 refine⟨_,rfl,(),(),?_⟩
 refine bS cN (λi σ H'=>∃(B rest:List V) (v5:Option V),σ=[-d,-a,some (.int m),-u,-g,v5]/\B.length=i/\(B++rest).Perm xs/\H' g*>B/\H' u*>rest/\aI H' d l/\But d l H H')
  ⟨[],xs,_,rfl,rfl,.refl _,B2 g _ ng.1 ng.2 aa,B2 u _ nu.1 nu.2 Z,D2,B1.trans B2⟩ (λ_ _ _ _=>nl) ?_ ?_
 .rintro j y σ H5 hj hy ⟨B,rest,v5,rfl,hgl,hperm,h5g,h5u,D5,B5⟩
  rw[aQ] at hj;have ap:B.length+rest.length=xs.length:=by rw[<- u9];exact hperm.length_eq
  ctx_has v h5g h5u
  refine ba D5 () () λr6 H6 ag ad D6 B6=>?_
  have ao:=B6 u _ nu.1 nu.2 h5u;have am:=B6 g _ ng.1 ng.2 h5g;ctx_has v ao
  refine⟨ag,ad,(),λz hz=>?_⟩
  have an:r6.toNat < rest.length:=(g_.mp hz).1
  refine⟨_,by rw[ah ug.symm];exact am,aN (),B++[z],by simp;omega,rest.eraseIdx r6.toNat,?_,ae,by rw[ah ug];exact ae,(D6.put nu.1 nu.2).put ng.1 ng.2,((B5.trans B6).put Y).put ab⟩
  refine List.Perm.trans ?_ hperm
  rw[append_assoc];refine List.Perm.append_left B ?_
  rw[(g_.mp hz).2.symm];exact pC an
 .rintro σ H5 ⟨B,rest,v5,rfl,hgl,hperm,h5g,h5u,D5,B5⟩
  rw[aQ] at hgl;ctx_has v h5g
  intro t ht;exact k t B rest _ (B5.free D5 ht) hperm () ae (D5.new ht) (B5.new ht)
def chB (gap:Int) (vs:List Int):Bool:=(zipWith (λa b=>decide (a+gap<=b)) vs (vs.drop 1)).all id
theorem gf (gap a b:Int) (r:List Int):chB gap (a :: b :: r)=(decide (a+gap<=b) && chB gap (b :: r)):=by simp[chB]
theorem uL {a B:Int} {r:List Int} (h:B<=a) (F:chB gap (a :: r)=true):chB gap (B :: r)=true:=by
 cases r with
 | nil=>rfl
 | cons b r =>
  rw[gf,k9,decide_eq_true_eq] at F ⊢;exact⟨(),F.2⟩
theorem xK (gap:Int) (vs:List Int):((range (vs.length - 1)).map λk=>decide (vs.getD k 0+gap<=vs.getD (k+1) 0)).all id=chB gap vs:=by
 unfold chB
 congr 1
 apply List.ext_getElem
 .simp
 .intro i h1 h2
  simp at h1 h2 ⊢
  have F:i < vs.length:=()
  have B:i+1 < vs.length:=()
  rw[k4 F,k4 B];simp[Nat.add_comm]
def bV:Option Int->V | none=>.non | some i=>.int i
def dG (n:Int) (lo hi:Option Int):Bool:=(match lo with | none=>true | some a=>decide (a<=n)) && (match hi with | none=>true | some b=>decide (n<=b))
structure jZ (H:Hp) (f:Addr) (cs:List Str) (g:Str->Int):Prop where
 ex : ∃kvs,H f<*kvs/\(∀c∈cs,bO kvs (ge c)=some (.int (g c)))/\(∀x∈kvs,eP x.2=true)/\kvs.length<=40
 bd : ∀c∈cs,-2000000<=g c/\g c<=2000000
theorem jZ.sub {ds:List Str} (h:jZ H f cs g) (s : ∀c∈ds,c∈cs):jZ H f ds g:=by
 obtain⟨kvs,h1,h2,r⟩:=h.ex;exact⟨⟨kvs,h1,λc B=>h2 c (s c B),r⟩,λc B=>h.bd c (s c B)⟩
def CZ:Sp:=λvs H Q _=>∃(n:Int) (lo hi:Option Int),vs=[.int n,bV lo,bV hi]/\∀H',aw H H'->Q (.bl (dG n lo hi)) H'
def iF (H:Hp) (t:Addr) (ts:List (Int × Str)):Prop:=∃as:List (Addr × Int × Str),H t>>(as.map λx=>V.ref x.1)/\as.map (·.2)=ts/\∀x∈as,H x.1>>[.int x.2.1,.str x.2.2]
theorem iF.keep {t:Addr} (h:iF H t ts) (k : ∀a xs,H a>>xs->H' a>>xs):iF H' t ts:=by
 obtain⟨as,h1,h2,B⟩:=h;exact⟨as,k _ _ h1,h2,λx F=>k _ _ (B x F)⟩
def lv (H:Hp) (vs:List V) (ps:List (Int × Int × Int)):Prop:=∃as:List (Addr × Int × Int × Int),vs=as.map (λx=>V.ref x.1)/\as.map (·.2)=ps/\∀x∈as,H x.1>>[.int x.2.1,.int x.2.2.1,.int x.2.2.2]
theorem lv.keep {ps:List (Int × Int × Int)} (h:lv H vs ps) (k : ∀a xs,H a>>xs->H' a>>xs):lv H' vs ps:=by
 obtain⟨as,h1,h2,B⟩:=h;exact⟨as,h1,h2,λx F=>k _ _ (B x F)⟩
def gN (ps:List (Int × Int × Int)) (st:Option Int) (vs:List Int):Option Int:=vs.foldl (λst v=>lx ps st v) st
def sD (es:List Int):Option Int->Bool | none=>false | some s=>decide (s∈es)
inductive Wi | un (cs:List Str) | mn (av:List Int) (cs:List Str) (lo hi:Int) | sm (ts:List (Int × Str)) (lo hi:Option Int) | tb (cs:List Str) (rows:List (List Int)) | wy (cs:List Str) (ps:List (Int × Int × Int)) (es:List Int) | bh (cs:List Str) (gap:Int)
inductive Wx | pl (W:Wi) | sa (c:Str) (vs:List Int) (W:Wi)
def WS (H:Hp) (w:Addr):Wi->Prop
 | .un cs=>∃c,H w>>[.str "unlike",.ref c]/\H c>>(cs.map V.str)
 | .mn av cs lo hi=>∃a c,H w>>[.str "many",.ref a,.ref c,.int lo,.int hi]/\H a>>(av.map V.int)/\H c>>(cs.map V.str)
 | .sm ts lo hi=>∃t,H w>>[.str "sum",.ref t,bV lo,bV hi]/\iF H t ts
 | .tb cs rows=>∃c t vs,H w>>[.str "table",.ref c,.ref t]/\H c>>(cs.map V.str)/\H t>>vs/\dW H vs rows
 | .wy cs ps es=>∃c t e vs,H w>>[.str "way",.ref c,.ref t,.ref e]/\H c>>(cs.map V.str)/\H t>>vs/\lv H vs ps/\H e>>(es.map V.int)
 | .bh cs gap=>∃c,H w>>[.str "behind",.ref c,.int gap]/\H c>>(cs.map V.str)
def WX (H:Hp) (w:Addr):Wx->Prop
 | .pl W=>WS H w W
 | .sa c vs W=>∃t u,H w>>[.str "same",.str c,.ref t,.ref u]/\H t>>(vs.map V.int)/\WS H u W
theorem dq {w:Addr} {W:Wi} (h:WS H w W) (k : ∀a xs,H a>>xs->H' a>>xs):WS H' w W:=by
 cases W with
 | un cs=>obtain⟨c,h1,h2⟩:=h;exact⟨c,k _ _ h1,k _ _ h2⟩
 | mn av cs lo hi=>obtain⟨a,c,h1,h2,B⟩:=h;exact⟨a,c,k _ _ h1,k _ _ h2,k _ _ B⟩
 | sm ts lo hi=>obtain⟨t,h1,h2⟩:=h;exact⟨t,k _ _ h1,h2.keep k⟩
 | tb cs rows=>obtain⟨c,t,vs,h1,h2,B,F⟩:=h;exact⟨c,t,vs,k _ _ h1,k _ _ h2,k _ _ B,F.keep k⟩
 | wy cs ps es=>obtain⟨c,t,e,vs,h1,h2,B,F,L⟩:=h;exact⟨c,t,e,vs,k _ _ h1,k _ _ h2,k _ _ B,F.keep k,k _ _ L⟩
 | bh cs gap=>obtain⟨c,h1,h2⟩:=h;exact⟨c,k _ _ h1,k _ _ h2⟩
theorem du {w:Addr} {W:Wx} (h:WX H w W) (k : ∀a xs,H a>>xs->H' a>>xs):WX H' w W:=by
 cases W with
 | pl W=>exact dq h k
 | sa c vs W=>obtain⟨t,u,h1,h2,B⟩:=h;exact⟨t,u,k _ _ h1,k _ _ h2,dq B k⟩
def bX:Wi->List Str
 | .un cs=>cs
 | .mn _ cs _ _=>cs
 | .sm ts _ _=>ts.map (·.2)
 | .tb cs _=>cs
 | .wy cs _ _=>cs
 | .bh cs _=>cs
def dR:Wx->List Str
 | .pl W=>bX W
 | .sa c _ W=>c :: bX W
def szW:Wi->Prop
 | .un cs=>cs.length<=12
 | .mn av cs _ _=>av.length<=20/\cs.length<=12
 | .sm ts _ _=>ts.length<=12
 | .tb cs _=>cs.length<=12
 | .wy cs ps es=>cs.length<=12/\(ps.map λx=>(x.1,x.2.1)).Nodup/\ps.length<=60
 | .bh cs _=>cs≠[]/\cs.length<=12
def szX:Wx->Prop
 | .pl W=>szW W
 | .sa _ _ W=>szW W
def cA (W:Wi) (g:Str->Int):Bool:=match W with
 | .un cs=>decide (cs.map g).Nodup
 | .mn av cs lo hi=>dG ((cs.filter λc=>decide (g c∈av)).length:Nat) (some lo) (some hi)
 | .sm ts lo hi=>dG ((ts.map λx=>x.1 * g x.2).sum) lo hi
 | .tb cs rows=>decide (cs.map g∈rows)
 | .wy cs ps es=>sD es (gN ps (some 0) (cs.map g))
 | .bh cs gap=>chB gap (cs.map g)
def fk (W:Wx) (g:Str->Int):Bool:=match W with
 | .pl W=>cA W g
 | .sa c vs W=>decide (decide (g c∈vs)=cA W g)
def wf:Sp:=λvs H Q _=>∃(w f:Addr) (c:Str) (us:List Int) (W:Wi) (g:Str->Int),vs=[.ref w,.ref f]/\WX H w (.sa c us W)/\szW W/\jZ H f (c :: bX W) g/\∀H',aw H H'->Q (.bl (fk (.sa c us W) g)) H'
def sE:Sp:=λvs H Q _=>∃(w f:Addr) (W:Wi) (g:Str->Int),vs=[.ref w,.ref f]/\WS H w W/\szW W/\jZ H f (bX W) g/\∀H',aw H H'->Q (.bl (cA W g)) H'
theorem qG (T:Txt w K mg) (L:FnL K mg "is_between" ik ["number","low","high"]):Fn P w K mg base "is_between" 1 ["number","low","high"] (CZ):=by
 ctx_has z qp <;> obtain⟨n,lo,hi,rfl,k⟩:=h
 .rfl
 refine⟨_,(ak (aB (pv (jT (kJ (kI (pvM 1))) (dS (bf jP (pvM 1) (pvM 0)))) (dS (jT (kJ (kI (pvM 2))) (dS (bf jP (pvM 0) (pvM 2)))))))),?_⟩
 have B:=k H (aw.refl _);cases lo with
 | none =>
  cases hi with
  | none=>ctx_has v wg bV decide_true decide_false gt;exact B
  | some b=>ctx_has v wg bV decide_true decide_false gt;simpa [dG] using B
 | some a =>
  cases hi with
  | none =>
   ctx_has v wg bV decide_true decide_false gt
   refine cV (λh=>?_) (λh=>?_)
   .simpa [dG,h] using B
   .simpa [dG,h] using B
  | some b =>
   ctx_has v wg bV decide_true decide_false gt
   refine cV (λh=>?_) (λh=>?_)
   .simpa [dG,h] using B
   .simpa [dG,h] using B
theorem xk {s v:Int} : ∀{ps:List (Int × Int × Int)},(∀y∈ps,(y.1,y.2.1)≠(s,v))->bO (dC ps) [i7 s,i7 v]=none
 | [],_=>rfl
 | p :: ps,h=>by
  have F:=xk (ps:=ps) λy L=>h y (j6 _ L)
  have B:([i7 p.1,i7 p.2.1]:List Key)≠[i7 s,i7 v]:=λz=>h p (k6) (by cases z;rfl)
  unfold dC at F ⊢;rw[i8];simpa [bO,B] using F
theorem rA (ps:List (Int × Int × Int)) : ∀l:List Int,gN ps none l=none
 | []=>rfl
 | v :: l=>rA ps l
theorem kW (ps:List (Int × Int × Int)) (st:Option Int) (a b:List Int):gN ps st (a++b)=gN ps (gN ps st a) b:=by unfold gN;rw[foldl_append]
theorem yw {ps:List (Int × Int × Int)} {l:List Int} {st:Int} (B:l[i]? = some v) (h:gN ps (some 0) (l.take i)=some st):gN ps (some 0) (l.take (i+1))=lx ps (some st) v:=by
 rw[j_,B,kW,h];rfl
theorem yA {ps:List (Int × Int × Int)} {l:List Int} (h:gN ps (some 0) (l.take i)=none):gN ps (some 0) l=none:=by
 rw[<- List.take_append_drop i l,kW,h,rA]
theorem vo {ps:List (Int × Int × Int)} {x:Int × Int × Int} (hn:(ps.map λx=>(x.1,x.2.1)).Nodup) (L:ps[i]? = some x):bm (dC (ps.take i)) [i7 x.1,i7 x.2.1] (.int x.2.2)=dC (ps.take (i+1)):=by
 have B:ps.take (i+1)=ps.take i++[x]:=by rw[j_,L];rfl
 have F:((ps.take i++[x]).map λx=>(x.1,x.2.1)).Nodup:=by
  rw[<- B,map_take];exact hn.sublist (HH _ _)
 rw[v_,t7] at F;rw[fh _ (xk λy Y e=>F.2.2 _ (hB.mpr ⟨y,Y,rfl⟩) _ (by simp) e),B]
 unfold dC;rw[v_];rfl
def pd (st v:Int) (x:Int × Int × Int):Option Int:=if x.1=st/\x.2.1=v then some x.2.2 else none
theorem uc (st v:Int) : ∀ps:List (Int × Int × Int),(ps.filterMap (pd st v)).head? = lx ps (some st) v
 | []=>rfl
 | p :: ps=>by
  have B:=uc st v ps;unfold lx at B ⊢;dsimp only at B ⊢;rw[Hm]
  by_cases h:p.1=st/\p.2.1=v
  .rw[List.filterMap_cons_some (b:=p.2.2) (by simp[pd,h]),decide_eq_true h]
   rfl
  .rw[List.filterMap_cons_none (by simp[pd,h]),decide_eq_false h]
   exact B
theorem Ck {t D:Addr} {st:Int} {Qf:VK} (h3:H' t>>(as.map λx=>V.ref x.1)) (Y : ∀x∈as,H' x.1>>[.int x.2.1,.int x.2.2.1,.int x.2.2.2]) (hl:as.length<=60) (Z:H' D=none)
  (hQ : ∀H1 (zs:List Int),aw H' H1->H1 D*>(zs.map V.int)->zs.head? = lx (as.map (·.2)) (some st) v->Qf (.ref D) H1) :
  nL (Itt K t) [none,some (V.int st),some (V.int v)] (fI 0) (rB (tOp (C9 K) (tSl CL (eO 0) lI (uM (tC (V.int 2)))) (CG (jR (eO 1) (jR (eO 2) vX))))) (tOp rIT (eO 0) (tC (V.int 2))) Qf H' D:=by
 refine eI aW (λj zs H1=>zs=(((as.map (·.2)).take j).filterMap (pd st v)).map V.int/\aw H' H1/\H1 D*>zs) ⟨rfl,aw.upd0 Z,ae⟩ (λi ys H1 h=>.of (h.2.1 _ _ h3)) ?_ ?_
 .rintro j x ys H1 hj hx ⟨rfl,sm,hd⟩
  obtain⟨y,hy,rfl⟩ : ∃y,as[j]? = some y/\V.ref y.1=x:=by
   rw[e9] at hx;cases e:as[j]? with
   | none=>rw[e] at hx;cases hx
   | some nm=>rw[e] at hx;exact⟨nm,rfl,fx hx⟩
  have hc:=sm _ _ (Y y (fy hy));have et:(as.map (·.2)).take (j+1)=(as.map (·.2)).take j++[y.2]:=by rw[j_,e9,hy];rfl
  rw[et,List.filterMap_append,v_];have L:((((as.map (·.2)).take j).filterMap (pd st v)).map V.int).length < g9:=by
   rw[c_];refine o9 (List.length_filterMap_le _ _) (o9 (List.length_take_le' _ _) ?_)
   exact g7 (show(as.map (·.2)).length < 1000 by simp;omega) ∅
  ctx_has v hc
  intro p H2 hp s2;refine⟨∅,λp2 F=>?_⟩
  have B:=s2.trans (aw.upd0 (o:=.tup [.int st,.int v]) F);refine⟨ju [y.2.1,y.2.2.1],ju [st,v],.tup (.of ((aw.upd0 F) _ _ hp)) (gz.ints [y.2.1,y.2.2.1]),.tup (.of ae) (gz.ints [st,v]),kR _,kR _,gr (mU _) ∅,?_⟩
  rw[wU];refine⟨_,rfl,?_⟩
  by_cases h:y.2.1=st/\y.2.2.1=v
  .rw[decide_eq_true (show[y.2.1,y.2.2.1]=[st,v] by rw[h.1,h.2]),if_pos rfl]
   refine⟨_,B _ _ hc,_,rfl,B _ _ hd,L,by simp[pd,h],λb o e=>?_,ae⟩
   rw[ah (au e Z)];exact B _ _ (sm b o e)
  .rw[decide_eq_false (show ¬ [y.2.1,y.2.2.1]=[st,v] from λz=>h (by cases z;exact⟨rfl,rfl⟩)),if_neg i_]
   exact⟨by simp[pd,h],sm.trans B,B _ _ hd⟩
 .rintro zs H1 ⟨rfl,sm,hd⟩
  rw[c_,show(as.map (·.2)).take as.length=as.map (·.2) from pb (by simp)] at hd
  exact hQ H1 _ sm hd (uc st v _)
abbrev Dz5:=Fn P w K mg base "_law_kept" 3 ["_law_wish_here","_law_filling"] (sE)
abbrev nz0:List Str:=["_law_wish_here","_law_filling","_law_total","_law_values","_law_state","_law_value","_law_after"]
theorem qu (T:Txt w K mg) (L:FnL K mg "_law_kept" ci ["_law_wish_here","_law_filling"]) : @Dz5 P w K mg base:=by
 ctx_has z lj <;> obtain⟨w,f,W,g,rfl,hW,B,F,k⟩:=h
 .rfl
 refine⟨_,(af (bv (aL bR (aG bw (pvM 0) aj) aH) (ak dF) aO)
  (af (bv (aL bR (aG bw (pvM 0) aj) aH) (af (aD 2 (aE (qb rfl) T.b_sum (ac (br (N:=["_law_a","_law_name","_law_filling"]) (nt:=2) (js:=[1]) (aM nz0 (ao ci).names) (bZ K (aG bw (pvM 0) aj)) (jF (n:=2) rfl (cL (aA 0) (cL (aA 1) jD))) kF cy (aT gU (pvM 0) (bH hu (pvM 2) (pvM 1)))) ai)))
  (ak (aB (pv (jT (kJ (kI (aG bw (pvM 0) aj))) (dS (bf FV (pvM 2) (aG bw (pvM 0) aj)))) (dS (jT (kJ (kI (aG bw (pvM 0) aj))) (dS (bf jP (pvM 2) (aG bw (pvM 0) aj))))))))) aO)
  (af (bv (aL bR (aG bw (pvM 0) aj) aH) (ak (aB (zL jP jP (aG bw (pvM 0) aj) (aE bK T.b_len (ac (br (N:=["_law_name","_law_filling","_law_wish_here"]) (nt:=1) (js:=[1,0]) (aM nz0 (ao ci).names) (bZ K (aG bw (pvM 0) aj)) (aA 0) aV (dM (aL jh (bH hu (pvM 1) (pvM 0)) (aG bw (pvM 2) aj))) (pvM 0)) ai)) (aG bw (pvM 0) aj)))) aO)
  (af (aD 3 (br (N:=["_law_name","_law_filling"]) (nt:=1) (js:=[1]) (aM nz0 (ao ci).names) (bZ K (aG bw (pvM 0) aj)) (aA 0) aV cy (bH hu (pvM 1) (pvM 0))))
  (af (bv (aL bR (aG bw (pvM 0) aj) aH) (ak (aB (bf bR (aE tG T.b_len (ac (bu (yc rfl) T.b_set (ac (pvM 3) ai)) ai)) (aE bK T.b_len (ac (pvM 3) ai))))) aO)
  (af (bv (aL bR (aG bw (pvM 0) aj) aH) (ak (aB (bf (BO (Ac hr)) (bu cC T.b_tuple (ac (pvM 3) ai)) (aG bw (pvM 0) aj)))) aO)
  (af (bv (aL bR (aG bw (pvM 0) aj) aH) (ak (aB (aE (mW rfl) T.b_all (ac (br (N:=["_law_k","_law_values","_law_wish_here"]) (nt:=1) (js:=[3,0]) (aM nz0 (ao ci).names) (cZ rfl T.b_range (ac (aT jc (aE bK T.b_len (ac (pvM 3) ai)) aj) ai)) (aA 0) aV cy (bf jP (aT bj (aG fS (pvM 1) (pvM 0)) (aG bw (pvM 2) aj)) (aG fS (pvM 1) (aT bj (pvM 0) aj)))) ai)))) aO)
  (af (aD 4 aj)
  (af (bq (gl K (pvM 3)) (aA 5) (af (gg 6 (N:=["_law_step","_law_state","_law_value"]) (nt:=1) (js:=[4,5]) (aM nz0 (ao ci).names) (bZ K (aG bw (pvM 0) aj)) (aA 0) aV (dM (aL (BB (K:=K) rfl (xf hr)) (cP qT (pvM 0) dN (db aj)) (bW (ac (pvM 1) (ac (pvM 2) ai))))) (aG bw (pvM 0) aj))
  (af (bv (aL (sM (xf hr)) (pvM 6) (cg ai)) (ak (aB de)) aO)
  (ak (aD 4 (aG fS (pvM 6) aj))))))
  (ak (aB (bf jh (pvM 4) (aG bw (pvM 0) aj))))))))))))),?_⟩
 obtain⟨kvs,f1,f2,f3,f4⟩:=F.ex;cases W with
 | un cs =>
  obtain⟨c,h1,h2⟩:=hW;have a8:cs.length<=12:=B
  ctx_has v h1 h2
  intro q hq;refine cM aW (λv=>match v with | .str c=>.int (g c) | _=>.non) hq (λH' s=>.of (s _ _ h2)) (by simp;omega) ?_ ?_
  .intro x H2 Q2 Y sm q2
   obtain⟨y,hy,rfl⟩:=hB.mp Y;have e2:=sm _ _ f1;have e3:=f2 y hy;ctx_has v e2 e3
   exact q2 H2 (aw.refl _)
  .intro H2 sm e2
   have Z:H2 q*>((cs.map g).map V.int):=by rw[e2,lb,lb];rfl
   have aa:=sm _ _ h1;ctx_has v aa
   refine⟨cs.map g,Z,by simp;omega,λy S hy=>?_⟩
   refine⟨S,_,ae,_,by rw[ah (au Z hy)];exact Z,?_⟩
   have B:=k _ (sm.upd_new (o:=.set S (lO (cs.map g))) hy);have e3:cA (.un cs) g=decide ((lO (cs.map g):Int)=(((cs.map g).map V.int).length:Int)):=by
    unfold cA;dsimp only;rw[o8,decide_eq_true_eq,decide_eq_true_eq,<- yn,c_ (as:=cs.map g)];omega
   rw[e3] at B;exact B
 | mn av cs lo hi =>
  obtain⟨am,ce,ad,a4,a0⟩:=hW;have a3:cs.length<=12:=B.2
  ctx_has v ad a0
  intro q hq;refine cD aW (λv=>match v with | .str c=>decide (g c∈av) | _=>false) id hq (λH' s=>.of (s _ _ a0)) (by simp;omega) ?_ ?_ ?_
  .intro x H2 Q2 Y sm q2
   obtain⟨c,a5,rfl⟩:=hB.mp Y;have ab:=sm _ _ ad;have aJ:=sm _ _ f1;have aI:=sm _ _ a4;have hv:=f2 c a5;ctx_has v aJ hv ab aI
   refine⟨rfl,cW _,?_⟩
   rw[eE];exact q2 H2 (aw.refl _)
  .intro x H2 Q2 Y _ sm q2
   ctx_has v
   exact q2 H2 (aw.refl _)
  .intro H2 sm h2
   have ab:=sm _ _ ad;ctx_has v h2 ab
   have B:=k H2 sm;unfold cA dG at B;dsimp only at B;have el:(List.map id (List.filter (λv=>match v with | .str c=>decide (g c∈av) | _=>false) (cs.map V.str))).length=(cs.filter λc=>decide (g c∈av)).length:=by
    rw[c_,HZ,c_];rfl
   rw[el];refine cV (λh=>?_) (λh=>?_)
   .rw[decide_eq_true h,Bool.true_and] at B;exact B
   .rw[decide_eq_false h,Bool.false_and] at B;exact B
 | sm ts lo hi =>
  obtain⟨t,ad,as,az,rfl,an⟩:=hW;have a3:as.length<=12:=by have:(as.map (·.2)).length<=12:=B;simpa using this
  ctx_has v ad az
  intro q hq;refine eI aW (λj ys H2=>ys=((as.take j).map λx=>x.2.1 * g x.2.2).map V.int/\H2 q*>ys/\aw H H2) ⟨by simp,ae,aw.upd0 hq⟩ (λj ys H2 ax=>by obtain⟨_,_,sm⟩:=ax;exact(.of (sm _ _ az))) ?_ ?_
  .rintro j x ys H2 hj Y ⟨rfl,h2,sm⟩
   rw[c_] at hj;obtain⟨y,hy,rfl⟩ : ∃y,as[j]? = some y/\V.ref y.1=x:=by
    rw[e9] at Y;cases e:as[j]? with
    | none=>rw[e] at Y;cases Y
    | some nm=>rw[e] at Y;exact⟨nm,rfl,fx Y⟩
   have aq:y∈as:=fy hy
   have e3:=sm _ _ (an y aq);have e4:=sm _ _ f1;have e5:=f2 y.2.2 (hB.mpr ⟨y.2,hB.mpr ⟨y,aq,rfl⟩,rfl⟩);have e6:=F.bd y.2.2 (hB.mpr ⟨y.2,hB.mpr ⟨y,aq,rfl⟩,rfl⟩);ctx_has v e3 e4 e5
   refine⟨.inr ⟨(),()⟩,h2,by simp;exact aN (),?_,ae,λb o e=>?_⟩
   .rw[j_,hy];simp
   .rw[ah (au e hq)];exact sm _ _ e
  .rintro ys H2 ⟨rfl,h2,sm⟩
   rw[c_,l_] at h2;have ab:=sm _ _ ad;have ek:(((as.map (·.2)).map λx=>x.1 * g x.2).sum)=(as.map λx=>x.2.1 * g x.2.2).sum:=by rw[lb];rfl
   have B:=k H2 sm;unfold cA at B;dsimp only at B;rw[ek] at B;ctx_has v
   refine⟨as.map λx=>x.2.1 * g x.2.2,.of h2,?_⟩
   generalize (as.map λx=>x.2.1 * g x.2.2).sum=aR at B ⊢
   cases lo with
   | none =>
    cases hi with
    | none=>ctx_has v ab bV decide_true decide_false gt;exact B
    | some b=>ctx_has v ab bV decide_true decide_false gt;simpa [dG] using B
   | some a =>
    cases hi with
    | none =>
     ctx_has v ab bV decide_true decide_false gt
     refine cV (λh=>?_) (λh=>?_)
     .simpa [dG,h] using B
     .simpa [dG,h] using B
    | some b =>
     ctx_has v ab bV decide_true decide_false gt
     refine cV (λh=>?_) (λh=>?_)
     .simpa [dG,h] using B
     .simpa [dG,h] using B
 | tb cs rows =>
  obtain⟨c,tr,vs,h1,h2,h3,h4⟩:=hW;have a8:cs.length<=12:=B
  ctx_has v h1 h2
  intro q hq;refine cM aW (λv=>match v with | .str c=>.int (g c) | _=>.non) hq (λH' s=>.of (s _ _ h2)) (by simp;omega) ?_ ?_
  .intro x H2 Q2 Y sm q2
   obtain⟨y,hy,rfl⟩:=hB.mp Y;have e2:=sm _ _ f1;have e3:=f2 y hy;ctx_has v e2 e3
   exact q2 H2 (aw.refl _)
  .intro H2 sm e2
   have Z:H2 q*>((cs.map g).map V.int):=by rw[e2,lb,lb];rfl
   have aa:=sm _ _ h1;ctx_has v Z aa
   intro tt aF;have s3:aw H2 (upd H2 tt (.tup ((cs.map g).map V.int))):=aw.upd0 aF
   refine⟨_,s3 _ _ aa,?_⟩
   ctx_has v
   exact Bi ae (s3 _ _ (sm _ _ h3)) (h4.keep λa xs e=>s3 _ _ (sm _ _ e)) (k _ (sm.trans s3))
 | wy cs ps es =>
  obtain⟨c,t,e,vs,h1,h2,h3,h4,h5⟩:=hW;obtain⟨as,rfl,rfl,an⟩:=h4;ctx_has v h1 h2
  intro q hq;refine cM aW (λv=>match v with | .str c=>.int (g c) | _=>.non) hq (λH' s=>.of (s _ _ h2)) (by have:=B.1;simp;omega) ?_ ?_
  .intro x H2 Q2 Y sm q2
   obtain⟨y,hy,rfl⟩:=hB.mp Y;have e2:=sm _ _ f1;have e3:=f2 y hy;ctx_has v e2 e3
   exact q2 H2 (aw.refl _)
  .intro H2 sm e2
   have Z:H2 q*>((cs.map g).map V.int):=by rw[e2,lb,lb];rfl
   have aa:=sm _ _ h1;ctx_has v Z aa
   have a9:=B.2.2;refine bS cm (λi σ H3=>∃v5 v6 st,σ=[-w,-f,none,-q,some (.int st),v5,v6]/\gN (as.map (·.2)) (some 0) ((cs.map g).take i)=some st/\aw H2 H3) ⟨_,_,0,rfl,rfl,aw.refl _⟩ (λi σ H' ar=>by obtain⟨_,_,_,_,_,s3⟩:=ar;exact(.of (s3 _ _ Z))) ?_ ?_
   .rintro i x σ H3 hi Y ⟨v5,v6,st,rfl,hrun,s3⟩
    obtain⟨v,hv,rfl⟩ : ∃v,(cs.map g)[i]? = some v/\V.int v=x:=by
     rw[e9] at Y;cases e:(cs.map g)[i]? with
     | none=>rw[e] at Y;cases Y
     | some nm=>rw[e] at Y;exact⟨nm,rfl,fx Y⟩
    have ap:=s3 _ _ aa;have ay:=s3 _ _ (sm _ _ h3);ctx_has v ap ay
    intro D hD;refine Ck ay (λx Y=>s3 _ _ (sm _ _ (an x Y))) (by simpa using a9) hD λH4 zs s4 hz hh=>?_
    have ag:=yw hv hrun;refine⟨∅,λp5 aP=>?_⟩
    have s5:=aw.upd0 (o:=.lst []) aP;refine⟨.list (zs.map z_),.list [],.lst (.of (s5 _ _ hz)) (gz.ints zs),.lst (.of ae) .nil,by unfold HS;exact lay_ints zs,rfl,by unfold Iu;rw[depth_ints];decide,_,rfl,?_⟩
    cases zs with
    | nil =>
     rw[show A_ (.list (([]:List Int).map z_)) (.list [])=true by rfl,if_pos rfl]
     rw[<- hh] at ag;have a7:cA (.wy cs (as.map (·.2)) es) g=false:=by unfold cA;dsimp only;rw[show gN (as.map (·.2)) (some 0) (cs.map g)=none from yA ag];rfl
     have:=k _ (sm.trans (s3.trans (s4.trans s5)))
     rw[a7] at this;exact this
    | cons n zs =>
     rw[show A_ (.list ((n :: zs).map z_)) (.list [])=false by simp[A_,Hk],if_neg i_]
     rw[<- hh] at ag;exact⟨D,rfl,_,s5 _ _ hz,V.int n,bA (j:=0) (by simp),_,_,n,rfl,rfl,rfl,ag,s3.trans (s4.trans s5)⟩
   .rintro σ H3 ⟨v5,v6,st,rfl,hrun,s3⟩
    have ap:=s3 _ _ aa;ctx_has v ap
    rw[show(cs.map g).take ((cs.map g).map V.int).length=cs.map g from pb (by simp)] at hrun
    refine⟨_,s3 _ _ (sm _ _ h5),rfl,cW es,?_⟩
    have aC:cA (.wy cs (as.map (·.2)) es) g=decide (st∈es):=by unfold cA;dsimp only;rw[show gN (as.map (·.2)) (some 0) (cs.map g)=some st from hrun];rfl
    rw[show inV (V.int st) (es.map V.int)=decide (st∈es) from eE st es,<- aC]
    exact k _ (sm.trans s3)
 | bh cs gap =>
  obtain⟨c,h1,h2⟩:=hW;have hl:cs≠[]/\cs.length<=12:=B
  ctx_has v h1 h2
  intro q hq;refine cM aW (λv=>match v with | .str c=>.int (g c) | _=>.non) hq (λH' s=>.of (s _ _ h2)) (by have:=hl.2;simp;omega) ?_ ?_
  .intro x H2 Q2 Y sm q2
   obtain⟨y,hy,rfl⟩:=hB.mp Y;have e2:=sm _ _ f1;have e3:=f2 y hy;ctx_has v e2 e3
   exact q2 H2 (aw.refl _)
  .intro H2 sm e2
   have Z:H2 q*>((cs.map g).map V.int):=by rw[e2,lb,lb];rfl
   have aa:=sm _ _ h1;have lp:=B_.mpr hl.1;ctx_has v Z aa
   refine⟨by simp;omega,by simp;omega,λq2 a6=>?_⟩
   refine cM cN (λv=>match v with | .int i=>.bl (decide ((cs.map g).getD i.toNat 0+gap<=(cs.map g).getD (i.toNat+1) 0)) | _=>.non) a6 (λ_ _=>nl) (by rw[aQ];simp;omega) ?_ ?_
   .intro x H3 Q3 Y sm3 q3
    obtain⟨i,hi,rfl⟩ : ∃i:Nat,i < cs.length - 1/\x=V.int i:=by
     simp only[wx,hB,HW] at Y;obtain⟨i,hi,e⟩:=Y;refine⟨i,by simp at hi;omega,by rw[<- e];simp⟩
    have h3:=sm3 _ _ Z;have aK:=sm3 _ _ aa;have a1:atI ((cs.map g).map V.int) (i:Int)=some (.int ((cs.map g).getD i 0)):=bA (by simp[show i < cs.length by omega])
    have a2:atI ((cs.map g).map V.int) ((i:Int)+1)=some (.int ((cs.map g).getD (i+1) 0)):=bA (j:=i+1) (by simp[show i+1 < cs.length by omega])
    ctx_has v h3 aK a1 a2
    exact q3 H3 (aw.refl _)
   .intro H3 sm3 h3
    ctx_has v
    refine⟨(range ((cs.map g).length - 1)).map λk=>decide ((cs.map g).getD k 0+gap<=(cs.map g).getD (k+1) 0),?_,?_⟩
    .rw[h3]
     congr 2
     simp only[wx,lb];rw[show(((cs.map (V.int ∘ g)).length:Int) - 1).toNat=(cs.map g).length - 1 by simp]
     refine m4 λi _=>?_
     simp
    .rw[xK]
     exact k H3 (sm.trans sm3)
section
variable {k2:Nat} {ps2:List Str} {sp2:Sp} {p:Pos} {t:TA}
theorem qR (F:Fn X.prog X.w X.K X.mg X.base x k ps sp) (G:Fn X.prog X.w X.K X.mg X.base x k2 ps2 sp2) (ha:PA X (e :: es) t) (hr:cU k X.A:=by exact cU.mono (by assumption) (by ctx_has m)) (Y:cU k2 X.A:=by exact cU.mono (by assumption) (by ctx_has m)) (hg:Gl X x:=by exact rfl) (B:(x ==("__debug__" : Str))=false:=by decide)
  (he:j8 (e :: es) X.env=(false,eval e X.env) :: j8 es X.env:=by rfl) (L:(y9 pos (j8 es X.env)).any (·.1)=false:=by rfl) :
  PE X (.Call (.Name x p) (e :: es) [] pos) (qN (λvs H Q E=>sp vs H Q E\/sp2 vs H Q E) [] E0 t):=by
 obtain⟨f,fd,F,m,kp,b⟩:=F;obtain⟨f2,ab,G,Z,aa,b2⟩:=G;have ef:f2=f:=by rw[m] at Z;cases Z;rfl
 subst ef;intro pins s σ H Q I h;refine x0 (ox I hg m ?_ B)
 refine callWith_K (h₀:=X.base) I.ok.mod.kin kp (thn (ha pos pins s σ H _ I h) λus s1 ⟨vs,H1,I1,r,q⟩=>⟨I1.kIn,?_⟩) he L
 rcases q with q | q
 .exact lW F hr b .nil oY I1 r q
 .exact lW G Y b2 .nil oY I1 r q
theorem Am (L:FnL K mg x st ps):Fn P w K mg base x k ps (λ_ _ _ _=>False):=by
 obtain⟨f,fd,F,m,b⟩:=L;exact⟨f,fd,⟨λ_ _ _ _ h=>h.elim,λ_ _ _ _ _ _ _ _ _ _ _ _ _ h=>h.elim⟩,m,F.kp,b⟩
end
abbrev Dz6:=Fn P w K mg base "_law_kept" 4 ["_law_wish_here","_law_filling"] (wf)
theorem qA (T:Txt w K mg) (L:FnL K mg "_law_kept" ci ["_law_wish_here","_law_filling"]) (FE : @Dz5 P w K mg base) : @Dz6 P w K mg base:=by
 ctx_has z lj <;> obtain⟨w,f,c,us,W,g,rfl,hW,Y,F,k⟩:=h
 .rfl
 refine⟨_,(af (bv (aL bR (aG bw (pvM 0) aj) aH) (ak (aB (bf bR (bf jh (bH hu (pvM 1) (aG bw (pvM 0) aj)) (aG bw (pvM 0) aj)) (az FE (ac (aG bw (pvM 0) aj) (ac (pvM 1) ai)))))) aO)
  (af dF
  (af dF
  (af dF
  (af dF
  (af dF
  (af dF
  (af dF
  (af dF
  (ak dF)))))))))),?_⟩
 obtain⟨t,u,h1,h2,Z⟩:=hW;obtain⟨kvs,f1,B,f3,f4⟩:=F.ex;have e2:=B c k6;ctx_has v h1 f1 e2 h2
 refine⟨rfl,cW _,?_⟩
 rw[eE];refine⟨u,f,W,g,rfl,Z,Y,F.sub λc hc=>j6 _ hc,λH' s=>⟨rfl,by rw[show decide (V.bl (decide (g c∈us))=V.bl (cA W g))=fk (.sa c us W) g by simp[fk]];exact k H' s⟩⟩
def Be:Sp:=λvs H Q _=>∃(d l:Addr) (lo hi:Int),vs=[.ref d,.int lo,.int hi]/\aI H d l/\lo<=hi/\-10000000000000<=lo/\hi<=10000000000000/\∀(p:Addr) (a b:Option Int) (H':Hp),H p=none->H' p>>[bV a,bV b]->aI H' d l->But d l H H'->Q (.ref p) H'
theorem Cu {a:Int} (Y : -1000000<=a) (Z:a<=1000000) (F : -1000000<=v) (L:v<=1000000) : -1000000000000<=a * v:=by
 have h1:a.natAbs<=1000000:=()
 have h2:v.natAbs<=1000000:=()
 have B:(a * v).natAbs<=1000000 * 1000000:=by rw[Int.natAbs_mul];exact Nat.mul_le_mul h1 h2
 omega
theorem zm {a:Int} (Y : -1000000<=a) (Z:a<=1000000) (F : -1000000<=v) (L:v<=1000000):a * v<=1000000000000:=by
 have h1:a.natAbs<=1000000:=()
 have h2:v.natAbs<=1000000:=()
 have B:(a * v).natAbs<=1000000 * 1000000:=by rw[Int.natAbs_mul];exact Nat.mul_le_mul h1 h2
 omega
theorem pK {D:Addr} {x:Int} {Q:VK} (h:H a>>(ns.map V.int)) (B : -1000000<=x) (L:x<=1000000) (hl:ns.length<=20) (F:H D=none) (q : ∀H',aw H H'->H' D*>((ns.map λv=>x * v).map V.int)->Q (.ref D) H') :
  nL (Itt K a) [none,some (V.int x)] (fI 0) um (tOp (rI xM λi j=>V.int (i * j)) (eO 1) (eO 0)) Q H D:=by
 refine cM aW (λv=>match v with | .int i=>.int (x * i) | _=>.non) F (λH' s=>.of (s _ _ h)) (by simp;omega) ?_ ?_
 .intro y H2 Q2 hy sm q2
  obtain⟨z,Y,rfl⟩:=hB.mp hy;ctx_has v
  exact⟨.inl ⟨(),()⟩,q2 H2 (aw.refl _)⟩
 .intro H2 sm e2
  refine q H2 sm ?_
  rw[e2,lb,lb];rfl
def DI:Sp:=λvs H Q _=>∃(d l sa B:Addr) (cs:List Str) (kvs:List (Key × V)) (rm:Str->List Int),vs=[.ref d,.ref sa,.ref B]/\aI H d l/\(B≠d/\B≠l)/\H sa>>(cs.map V.str)/\H B<*kvs/\aZ H kvs cs rm/\cs.length<=12/\(∀c∈cs,rm c≠[]/\(rm c).length<=20/\∀v∈rm c,-1000000<=v/\v<=1000000) /\
 ∀(w:Addr) (ts:List (Int × Str)) (lo hi:Option Int) (H':Hp),H w=none->WS H' w (.sm ts lo hi)->ts.map (·.2)=cs.take 4->(∀x∈ts,-1000000<=x.1/\x.1<=1000000/\x.1≠0)->aI H' d l->But d l H H'->Q (.ref w) H'
theorem aI.tupN (D:aI H d l) (h:H a>>vs):a≠d/\a≠l:=by
 obtain⟨m',Y,Z,L,B,F,_⟩:=D.ex;exact⟨aX h B (by intro z;cases z),aX h F (by intro z;cases z)⟩
theorem But.tup {H H':Hp} {d l a:Addr} {vs:List V} (B:But d l H H') (D:aI H d l) (h:H a>>vs):H' a>>vs:=B a _ (D.tupN h).1 (D.tupN h).2 h
abbrev Dz7:=Fn P w K mg base "_law_bounds" 2 ["_law_deal_here","_law_low","_law_high"] (Be)
theorem oH (T:Txt w K mg) (L:FnL K mg "_law_bounds" gQ ["_law_deal_here","_law_low","_law_high"]) (Fa : @Dz0 P w K mg base) : @Dz7 P w K mg base:=by
 ctx_has z oZ <;> obtain⟨d,l,lo,hi,rfl,D,au,a0,ar,k⟩:=h
 .rfl
 refine⟨_,(af (aD 3 (aT bj (pvM 1) (az Fa (ac (pvM 0) (ac (aT bj (aT jc (pvM 2) (pvM 1)) aj) ai)))))
  (af (aD 4 (aT bj (pvM 3) (az Fa (ac (pvM 0) (ac (aT bj (aT jc (pvM 2) (pvM 3)) aj) ai)))))
  (ak (aB (aG fS (cg (ac (bW (ac (pvM 3) (ac (pvM 4) ai))) (ac (bW (ac (pvM 3) (ac (pvM 3) ai))) (ac (bW (ac (pvM 3) (ac wI ai))) (ac (bW (ac wI (ac (pvM 4) ai))) ai))))) (az Fa (ac (pvM 0) (ac aj ai)))))))),?_⟩
 ctx_has v
 refine ba D () () λB H1 ay ap D1 B1=>?_
 ctx_has v
 refine ba D1 () () λF H2 aq ax D2 B2=>?_
 ctx_has v
 refine⟨∅,λp1 g1=>⟨∅,λp2 g2=>⟨∅,λZ g3=>⟨∅,λY g4=>⟨∅,λq gq=>?_⟩⟩⟩⟩⟩
 have s4:=(((aw.upd0 (o:=.tup [.int (lo+B),.int (lo+B+F)]) g1).upd_new (o:=.tup [.int (lo+B),.int (lo+B)]) g2).upd_new (o:=.tup [.int (lo+B),.non]) g3).upd_new (o:=.tup [.non,.int (lo+B+F)]) g4;have ab:p1≠p2:=λz=>by rw[z,ae] at g2;cases g2
 have ag:p1≠Z:=λz=>by rw[<- z,ah ab,ae] at g3;cases g3
 have ad:p2≠Z:=λz=>by rw[<- z,ae] at g3;cases g3
 have am:p1≠Y:=λz=>by rw[<- z,ah ag,ah ab,ae] at g4;cases g4
 have an:p2≠Y:=λz=>by rw[<- z,ah ad,ae] at g4;cases g4
 have ao:Z≠Y:=λz=>by rw[<- z,ae] at g4;cases g4
 have h1:upd (upd (upd (upd H2 p1 (.tup [.int (lo+B),.int (lo+B+F)])) p2 (.tup [.int (lo+B),.int (lo+B)])) Z (.tup [.int (lo+B),.non])) Y (.tup [.non,.int (lo+B+F)]) p1>>[.int (lo+B),.int (lo+B+F)]:=by rw[ah am,ah ag,ah ab,ae]
 have h2:upd (upd (upd (upd H2 p1 (.tup [.int (lo+B),.int (lo+B+F)])) p2 (.tup [.int (lo+B),.int (lo+B)])) Z (.tup [.int (lo+B),.non])) Y (.tup [.non,.int (lo+B+F)]) p2>>[.int (lo+B),.int (lo+B)]:=by rw[ah an,ah ad,ae]
 have h3:upd (upd (upd (upd H2 p1 (.tup [.int (lo+B),.int (lo+B+F)])) p2 (.tup [.int (lo+B),.int (lo+B)])) Z (.tup [.int (lo+B),.non])) Y (.tup [.non,.int (lo+B+F)]) Z>>[.int (lo+B),.non]:=by rw[ah ao,ae]
 have h4:upd (upd (upd (upd H2 p1 (.tup [.int (lo+B),.int (lo+B+F)])) p2 (.tup [.int (lo+B),.int (lo+B)])) Z (.tup [.int (lo+B),.non])) Y (.tup [.non,.int (lo+B+F)]) Y>>[.non,.int (lo+B+F)]:=ae
 have f1:H p1=none:=(B1.trans B2).free D2 g1
 have f2:H p2=none:=((B1.trans B2).new g1).free (D2.new g1) g2
 have f3:H Z=none:=(((B1.trans B2).new g1).new g2).free ((D2.new g1).new g2) g3
 have f4:H Y=none:=((((B1.trans B2).new g1).new g2).new g3).free (((D2.new g1).new g2).new g3) g4
 have D4:=D2.same s4;have B4:=(B1.trans B2).same s4;generalize upd (upd (upd (upd H2 p1 (.tup [.int (lo+B),.int (lo+B+F)])) p2 (.tup [.int (lo+B),.int (lo+B)])) Z (.tup [.int (lo+B),.non])) Y (.tup [.non,.int (lo+B+F)])=H4 at gq h1 h2 h3 h4 D4 B4 ⊢;refine jC D4 gq ∅ ∅ rfl λr5 v H5 hv ha D5 B5 h5=>?_
 ctx_has v h5 ha
 have nt : ∀{p:Addr} {vs:List V},H4 p>>vs->H5 p>>vs:=λh=>B5 _ _ (D4.tupN h).1 (D4.tupN h).2 h
 have aa:=B4.trans B5;simp only[i4,m8,or_false] at hv;rcases hv with rfl | rfl | rfl | rfl
 .exact k p1 (some _) (some _) H5 f1 (nt h1) D5 aa
 .exact k p2 (some _) (some _) H5 f2 (nt h2) D5 aa
 .exact k Z (some _) none H5 f3 (nt h3) D5 aa
 .exact k Y none (some _) H5 f4 (nt h4) D5 aa
abbrev Dz8:=Fn P w K mg base "_law_sum" 3 ["_law_deal_here","_law_some_here","_law_rooms_here"] (DI)
abbrev nz1:List Str:=["_law_deal_here","_law_some_here","_law_rooms_here","_law_terms","_law_low","_law_high","_law_name","_law_a"]
theorem uI (T:Txt w K mg) (L:FnL K mg "_law_sum" gn ["_law_deal_here","_law_some_here","_law_rooms_here"]) (Fa : @Dz0 P w K mg base) (Fs : @Dz7 P w K mg base) : @Dz8 P w K mg base:=by
  ctx_has z uP <;> obtain⟨d,l,sa,ra,cs,kvs,rm,rfl,D,a4,aJ,aF,aY,bd,aZ,k⟩:=h
  . rfl
  refine⟨_,(af (aD 3 (cg ai))
    (af (aD 4 aj)
    (af (aD 5 aj)
    (af (bq (bZ K (cP qT (pvM 1) dN (db aj))) (aA 6) (af (aD 7 (aG fS (cg (ac aj (ac aj (ac (no jv aj) (ac aj (ac (no jv aj) (ac aj ai))))))) (az Fa (ac (pvM 0) (ac aj ai)))))
    (af (cz (iJ m5 m6 cK (pvM 3) (ac (bW (ac (pvM 7) (ac (pvM 6) ai))) ai)))
    (af (aD 4 (aT bj (pvM 4) (aE (mP rfl) T.b_min (ac (br (N:=["_law_value","_law_a"]) (nt:=1) (js:=[7]) (aM nz1 (ao gn).names) (bZ K (bH hu (pvM 2) (pvM 6))) (aA 0) aV cy (aT gU (pvM 1) (pvM 0))) ai))))
    (ak (aD 5 (aT bj (pvM 5) (aE (rn rfl) T.b_max (ac (br (N:=["_law_value","_law_a"]) (nt:=1) (js:=[7]) (aM nz1 (ao gn).names) (bZ K (bH hu (pvM 2) (pvM 6))) (aA 0) aV cy (aT gU (pvM 1) (pvM 0))) ai)))))))))
    (af (Ep (az Fs (ac (pvM 0) (ac (pvM 4) (ac (pvM 5) ai)))) (jF (n:=2) rfl (cL (aA 4) (cL (aA 5) jD))))
    (ak (aB (bW (ac aH (ac (bu cC T.b_tuple (ac (pvM 3) ai)) (ac (pvM 4) (ac (pvM 5) ai)))))))))))),?_⟩
  ctx_has v
  refine⟨∅,λp hp=>?_⟩
  have np:=D.ne hp;refine⟨_,by rw[ah (au aJ hp)];exact aJ,λq H1 hq s1=>⟨_,hq,?_⟩⟩
  rw[show fG (cs.map V.str) none (some 4)=(cs.take 4).map V.str from sV V.str cs 4] at hq
  have ay:=(aw.upd0 (o:=.lst []) hp).trans s1;have D1:=D.same ay;refine bS aW (λi σ H'=>∃(as:List (Addr × Int × Str)) (lo hi:Int) (v6 v7:Option V),σ=[-d,-sa,-ra,-p,some (.int lo),some (.int hi),v6,v7]/\H' p*>(as.map λx=>V.ref x.1)/\(∀x∈as,H' x.1>>[.int x.2.1,.str x.2.2])/\as.map (·.2.2)=(cs.take 4).take i/\(∀x∈as,-1000000<=x.2.1/\x.2.1<=1000000/\x.2.1≠0)/\lo<=hi/\-(1000000000000 * (i:Int))<=lo/\hi<=1000000000000 * (i:Int)/\H' q>>((cs.take 4).map V.str)/\aI H' d l/\But d l H H')
    ⟨[],0,0,_,_,rfl,s1 _ _ ae,by simp,by simp,by simp,∅,∅,∅,hq,D1,(But.refl H).same ay⟩ (λi σ H' a7=>by obtain⟨_,_,_,_,_,_,_,_,_,_,_,_,_,h,_⟩:=a7;exact(.of h)) ?_ ?_
  . rintro i x σ H2 hi hx ⟨as,lo,a5,v6,v7,rfl,am,aq,ad,ax,a3,aO,aP,aC,D2,B2⟩
    rw[c_] at hi;obtain⟨c,a6,rfl⟩ : ∃c,(cs.take 4)[i]? = some c/\V.str c=x:=by
      rw[e9] at hx;cases e:(cs.take 4)[i]? with
      | none=>rw[e] at hx;cases hx
      | some nm=>rw[e] at hx;exact⟨nm,rfl,fx hx⟩
    have a2:c∈cs:=GU (fy a6)
    have bc  : i < 4 := by have:(cs.take 4).length<=4:=by simp;omega
                           omega
    have be:as.length<=i:=by
      have:=congrArg List.length ad
      rw[c_] at this;rw[this];exact List.length_take_le _ _
    ctx_has v
    refine⟨∅,λt ht=>?_⟩
    refine jC D2 ht ∅ ∅ rfl λr v H3 hv ha D3 B3 h3=>?_
    obtain⟨a,rfl,a0,a1,an⟩ : ∃a:Int,v = .int a/\-1000000<=a/\a<=1000000/\a≠0:=by
      simp only[i4,m8,or_false] at hv;rcases hv with rfl | rfl | rfl | rfl | rfl | rfl
      . exact⟨1,rfl,∅,∅,∅⟩
      . exact⟨1,rfl,∅,∅,∅⟩
      . exact⟨-1,rfl,∅,∅,∅⟩
      . exact⟨2,rfl,∅,∅,∅⟩
      . exact⟨-3,rfl,∅,∅,∅⟩
      . exact⟨1000000,rfl,∅,∅,∅⟩
    have ag:=B3 p _ np.1 np.2 am;ctx_has v h3 ha
    obtain⟨ar,aK,aS⟩:=aY c a2;have hg:=aZ c a2;have rp:ra≠p:=au aF hp
    refine⟨⟨_,ag⟩,∅,λY ab=>⟨_,(aw.upd0 ab) _ _ ag,by rw[c_];exact aN (),?_⟩⟩
    have pt:p≠Y:=au ag ab
    have aR:=(B2.trans B3).new (o:=.tup [.int a,.str c]) ab;have B4:=aR.put (o:=.lst (as.map (λx=>V.ref x.1)++[.ref Y])) hp
    have D4:=(D3.new (o:=.tup [.int a,.str c]) ab).put (o:=.lst (as.map (λx=>V.ref x.1)++[.ref Y])) np.1 np.2
    have kt : ∀b xs,H2 b>>xs->upd (upd H3 Y (.tup [.int a,.str c])) p (.lst (as.map (λx=>V.ref x.1)++[.ref Y])) b>>xs:=λb xs e=>by
      rw[ah (aX e am (by intro z;cases z))]
      exact(aw.upd0 ab) _ _ (B3.tup D2 e)
    have ap:upd (upd H3 Y (.tup [.int a,.str c])) p (.lst (as.map (λx=>V.ref x.1)++[.ref Y])) Y>>[.int a,.str c]:=by rw[ah pt.symm];exact ae
    have a9:upd (upd H3 Y (.tup [.int a,.str c])) p (.lst (as.map (λx=>V.ref x.1)++[.ref Y])) p*>(as.map (λx=>V.ref x.1)++[.ref Y]):=ae
    have aa:=B4 ra _ a4.1 a4.2 aF;have B:=B4.tup D aS;generalize upd (upd H3 Y (.tup [.int a,.str c])) p (.lst (as.map (λx=>V.ref x.1)++[.ref Y]))=H4 at B4 D4 kt ap a9 aa B ⊢
    have a8:(rm c).map (λv=>a * v)≠[]:=by simp;exact hg.1
    refine⟨kvs,aa,_,aK,ar,rfl,_,B,λD5 g5=>pK B a0 a1 hg.2.1 g5 λH5 s5 e5=>⟨D5,rfl,_,e5,a8,λm hm aL=>⟨kvs,s5 _ _ aa,_,aK,ar,rfl,_,s5 _ _ B,λD6 g6=>pK (s5 _ _ B) a0 a1 hg.2.1 g6 λH6 s6 e6=>⟨D6,rfl,_,e6,a8,λM hM bb=>?_⟩⟩⟩⟩
    have Z:=s5.trans s6;obtain⟨v1,aQ,em⟩:=hB.mp hm;obtain⟨v2,aU,eM⟩:=hB.mp hM;have b1:=hg.2.2 v1 aQ;have b2:=hg.2.2 v2 aU;have bf : -1000000000000<=m:=by rw[<- em];exact Cu a0 a1 b1.1 b1.2
    have bi:M<=1000000000000:=by rw[<- eM];exact zm a0 a1 b2.1 b2.2
    have bh:=aL M hM;refine⟨as++[(Y,a,c)],by rw[Z _ _ a9];simp,λx hx=>?_,?_,λx hx=>?_,(),by push_cast;omega,by push_cast;omega,Z _ _ (kt _ _ aC),D4.same Z,B4.same Z⟩
    . rcases i9.mp hx with z | z
      . exact Z _ _ (kt _ _ (aq x z))
      . rw[e7.mp z];exact Z _ _ ap
    . rw[j_,a6,v_,ad];rfl
    . rcases i9.mp hx with z | z
      . exact ax x z
      . rw[e7.mp z];exact⟨a0,a1,an⟩
  . rintro σ H2 ⟨as,lo,a5,v6,v7,rfl,am,aq,ad,ax,a3,aO,aP,aC,D2,B2⟩
    have bg:((cs.take 4).map V.str).length<=4:=by simp;omega
    rw[pb (GX (by simp):(cs.take 4).length<=((cs.take 4).map V.str).length)] at ad
    ctx_has v
    refine⟨d,l,lo,a5,rfl,D2,a3,(),(),λu b1 b2 H3 fu ba D3 B3=>?_⟩
    have ag:=B3 p _ np.1 np.2 am;ctx_has v ba ag
    intro t ht;have s4:=aw.upd0 (o:=.tup (as.map λx=>V.ref x.1)) ht
    refine⟨∅,λw hw=>?_⟩
    have s5:=s4.upd_new (o:=.tup [.str "sum",.ref t,bV b1,bV b2]) hw;have tw:t≠w:=λz=>by rw[<- z,ae] at hw;cases hw
    refine k w (as.map (·.2)) b1 b2 _ ?_ ⟨t,ae,as,by rw[ah tw,ae],rfl,λx hx=>s5 _ _ (B3.tup D2 (aq x hx))⟩ ?_ (λx hx=>?_) (D3.same s5) ((B2.trans B3).same s5)
    . exact((B2.trans B3).same s4).free (D3.same s4) hw
    . rw[lb];exact ad
    . obtain⟨y,hy,rfl⟩:=hB.mp hx
      exact ax y hy
def BC:Sp:=λvs H Q _=>∃(d l sa B:Addr) (cs:List Str) (ns:List Int),vs=[.ref d,.ref sa,.ref B]/\aI H d l/\(B≠d/\B≠l)/\H sa>>(cs.map V.str)/\H B*>(ns.map V.int)/\ns.length=5/\cs.length<=12 /\
 ∀(p:Addr) (us:List V) (rows:List (List Int)) (H':Hp),H p=none->H' p>>us->dW H' us rows->rows.Nodup->(∀r∈rows,r.length=cs.length)->rows.length<=7->aI H' d l->But d l H H'->Q (.ref p) H'
theorem xn {xs:List α} {r:Int} (B:0<=r) (F:r < (xs.length:Int)) (f:α->V) : ∃x∈xs,atI (xs.map f) r=some (f x):=by
 obtain⟨n,rfl⟩:=o6 B;have hn:n < xs.length:=()
 exact⟨xs[n],He hn,bA (by simp[hn])⟩
abbrev Dz9:=Fn P w K mg base "_law_rows" 2 ["_law_deal_here","_law_some_here","_law_pool_here"] (BC)
theorem sX (T:Txt w K mg) (L:FnL K mg "_law_rows" gE ["_law_deal_here","_law_some_here","_law_pool_here"]) (Fa : @Dz0 P w K mg base) : @Dz9 P w K mg base:=by
 ctx_has z sK <;> obtain⟨d,l,sa,pa,cs,ns,rfl,D,B,ar,ag,a3,a0,k⟩:=h
 .rfl
 refine⟨_,(af (aD 3 (cg ai))
  (af (bq (cZ rfl T.b_range (ac (az Fa (ac (pvM 0) (ac aj ai))) ai)) (aA 4) (af (aD 5 (bu cC T.b_tuple (ac (br (N:=["_law_name","_law_pool_here","_law_deal_here"]) (nt:=1) (js:=[2,0]) (aM ["_law_deal_here","_law_some_here","_law_pool_here","_law_rows_here","_law_k","_law_row"] (ao gE).names) (bZ K (pvM 1)) (aA 0) aV cy (aG fS (pvM 1) (az Fa (ac (pvM 2) (ac aj ai))))) ai)))
  (ak (bv (aL (pJ (Ac hr)) (pvM 5) (pvM 3)) (ak (cz (iJ m5 m6 cK (pvM 3) (ac (pvM 5) ai)))) aO))))
  (ak (aB (bu cC T.b_tuple (ac (pvM 3) ai)))))),?_⟩
 ctx_has v
 refine⟨∅,λg hg=>?_⟩
 have ng:=D.ne hg;refine ba (D.new hg) ∅ ∅ λn H1 n0 n1 D1 B1=>⟨_,rfl,(),(),?_⟩
 have ay:=((But.refl H).new (o:=.lst []) hg).trans B1;refine bS cN (λi σ H'=>∃(us:List V) (rows:List (List Int)) (v4 v5:Option V),σ=[-d,-sa,-pa,-g,v4,v5]/\H' g*>us/\dW H' us rows/\rows.Nodup/\(∀r∈rows,r.length=cs.length)/\rows.length<=i/\aI H' d l/\But d l H H')
  ⟨[],[],_,_,rfl,B1 g _ ng.1 ng.2 ae,dW.nil,by simp,by simp,by simp,D1,ay⟩ (λ_ _ _ _=>nl) ?_ ?_
 .rintro i x σ H2 hi hx ⟨us,rows,v4,v5,rfl,h2,hrv,hnd,hrl,hlen,D2,B2⟩
  rw[aQ] at hi;have aa:=(But.keepTI B2 D).tup _ _ ar;ctx_has v aa
  intro q hq;have nq:=D2.ne hq;refine eI aW (λj ys Y=>∃vs:List Int,ys=vs.map V.int/\vs.length=j/\Y q*>ys/\(∀b o,b≠d->b≠l->b≠q->H2 b=some o->Y b=some o)/\aI Y d l)
   ⟨[],rfl,rfl,ae,λb o _ _ hb e=>by rw[ah hb];exact e,D2.new hq⟩ (λj ys Y ⟨_,_,_,h,kk,_⟩=>.of (by
    obtain⟨m',sd,n',a1,aq,ax,_⟩:=D2.ex;exact kk sa _ (aX aa aq (by intro z;cases z)) (aX aa ax (by intro z;cases z)) (au aa hq) aa)) ?_ ?_
  .rintro j y ys Y hj hy ⟨vs,rfl,hvl,h3,k3,D3⟩
   rw[c_] at hj;ctx_has v
   refine ba D3 ∅ ∅ λr4 H4 an a2 D4 B4=>?_
   have ap:=B4 pa _ B.1 B.2 (k3 pa _ B.1 B.2 (au (B2 pa _ B.1 B.2 ag) hq) (B2 pa _ B.1 B.2 ag));obtain⟨z,_,hz⟩:=xn (xs:=ns) an () V.int
   refine⟨r4,rfl,_,ap,_,hz,B4 q _ nq.1 nq.2 h3,by rw[c_];exact aN (),vs++[z],by simp,by simp;omega,ae,λb o h1 h2 h3 e=>by rw[ah h3];exact B4 b o h1 h2 (k3 b o h1 h2 h3 e),D4.put nq.1 nq.2⟩
  .rintro ys Y ⟨vs,rfl,hvl,h3,k3,D3⟩
   rw[c_] at hvl;ctx_has v h3
   intro t ht;have s4:aw Y (upd Y t (.tup (vs.map V.int))):=aw.upd0 ht
   have B3:But d l H2 Y:=λb o h1 h2 e=>k3 b o h1 h2 (au e hq) e
   have am:=(B2.trans B3).same s4;have D4:=D3.same s4;have Z:=s4 _ _ (B3 g _ ng.1 ng.2 h2);have ab:=hrv.keep λa xs e=>s4 _ _ ((But.keepTI B3 D2).tup _ _ e)
   refine vI ae Z ab ⟨_,rfl,?_⟩
   refine cV (λad=>?_) (λad=>?_)
   .have hni:vs∉rows:=by simpa using ad
    have hk : ∀a xs,upd Y t (.tup (vs.map V.int)) a>>xs->upd (upd Y t (.tup (vs.map V.int))) g (.lst (us++[.ref t])) a>>xs:=λa xs e=>by rw[ah (aX e Z (by intro z;cases z))];exact e
    refine⟨⟨_,Z⟩,us,Z,by rw[hrv.length];exact aN (),us++[.ref t],ae,rows++[vs],(ab.keep hk).snoc (hk _ _ ae),t7.mpr ⟨hnd,by simp,λa ha b hb e=>hni (by rw[e7.mp hb] at e;exact e ▸ ha)⟩,λr hr=>?_,by simp;omega,D4.put ng.1 ng.2,am.put hg⟩
    rcases i9.mp hr with z | z
    .exact hrl r z
    .rw[e7.mp z];exact hvl
   .exact⟨us,Z,rows,ab,hnd,hrl,(),D4,am⟩
 .rintro σ H2 ⟨us,rows,v4,v5,rfl,h2,hrv,hnd,hrl,hlen,D2,B2⟩
  rw[aQ] at hlen;ctx_has v h2
  intro t ht;have s3:aw H2 (upd H2 t (.tup us)):=aw.upd0 ht
  exact k t us rows _ (B2.free D2 ht) ae (hrv.keep λa xs e=>s3 _ _ e) hnd hrl () (D2.same s3) (B2.same s3)
def jf (pool:List Int) (n:Nat):List (Int × Int):=List.flatMap (λs:Nat=>pool.map λv=>((s:Int),v)) (range n)
theorem ke (pool:List Int) (n:Nat):jf pool (n+1)=jf pool n++pool.map λv=>((n:Int),v):=by
 unfold jf;rw[List.range_succ,List.flatMap_append];simp
theorem Ag {x:Int × Int} (h:x∈jf pool n):x.1 < (n:Int):=by
 unfold jf at h;obtain⟨s,F,B⟩:=mem_flatMap.mp h;obtain⟨v,_,rfl⟩:=hB.mp B;have:=HW.mp F
 show(s:Int) < n
 omega
theorem nv {pool:List Int} (h:pool.Nodup) : ∀n,(jf pool n).Nodup
 | 0=>by simp[jf]
 | n+1=>by
  rw[ke,t7];refine⟨nv h n,E_.mpr (h.imp λB z=>B (by cases z;rfl)),λa ha b F e=>?_⟩
  subst e;obtain⟨v,_,rfl⟩:=hB.mp F;have:=Ag ha
  simp at this
theorem lX (pool:List Int) : ∀n,(jf pool n).length=n * pool.length
 | 0=>by simp[jf]
 | n+1=>by rw[ke,u9,lX pool n,c_,Nat.succ_mul]
def CV (x:Addr × Int × Int × Int):Int × Int:=(x.2.1,x.2.2.1)
def zU (H:Hp) (as:List (Addr × Int × Int × Int)):Prop:=∀x∈as,H x.1>>[.int x.2.1,.int x.2.2.1,.int x.2.2.2]
def EV:Sp:=λvs H Q _=>∃(d l sa B:Addr) (cs:List Str) (pool:List Int),vs=[.ref d,.ref sa,.ref B]/\aI H d l/\H sa>>(cs.map V.str)/\(B≠d/\B≠l)/\H B*>(pool.map V.int)/\pool.length=5/\pool.Nodup /\
 ∀(wa:Addr) (ps:List (Int × Int × Int)) (es:List Int) H',H wa=none->(ps.map λx=>(x.1,x.2.1)).Nodup->ps.length<=60->es.length<=60->WS H' wa (.wy cs ps es)->aI H' d l->But d l H H'->Q (.ref wa) H'
abbrev EW:=Fn P w K mg base "_law_way" 2 ["_law_deal_here","_law_some_here","_law_pool_here"] (EV)
theorem tV (T:Txt w K mg) (L:FnL K mg "_law_way" iq ["_law_deal_here","_law_some_here","_law_pool_here"]) (Fa : @Dz0 P w K mg base) : @EW P w K mg base:=by
  ctx_has z uf <;> obtain⟨d,l,sa,pa,cs,pool,rfl,D,aR,ar,a8,ax,aF,k⟩:=h
  . rfl
  refine⟨_,(af (aD 3 (aT bj aj (az Fa (ac (pvM 0) (ac aj ai)))))
    (af (aD 4 (cg ai))
    (af (bq (cZ rfl T.b_range (ac (pvM 3) ai)) (aA 5) (ak (bq (gl K (pvM 2)) (aA 6) (ak (bv (aL nJ (az Fa (ac (pvM 0) (ac aj ai))) aj) (ak (cz (iJ m5 m6 cK (pvM 4) (ac (bW (ac (pvM 5) (ac (pvM 6) (ac (az Fa (ac (pvM 0) (ac (pvM 3) ai))) ai)))) ai)))) aO)))))
    (af (gg 7 (N:=["_law_state","_law_deal_here"]) (nt:=1) (js:=[0]) (aM ["_law_deal_here","_law_some_here","_law_pool_here","_law_many","_law_steps","_law_state","_law_value","_law_ends"] (ao iq).names) (cZ rfl T.b_range (ac (pvM 3) ai)) (aA 0) aV (dM (aL bR (az Fa (ac (pvM 1) (ac aj ai))) aj)) (pvM 0))
    (ak (aB (bW (ac aH (ac (pvM 1) (ac (bu cC T.b_tuple (ac (pvM 4) ai)) (ac (bu cC T.b_tuple (ac (pvM 7) ai)) ai))))))))))),?_⟩
  ctx_has v
  refine ba D ∅ ∅ λr1 H1 aZ aY D1 B1=>?_
  ctx_has v
  refine⟨∅,λp hp=>⟨(),(),?_⟩⟩
  have np:=D1.ne hp;have a6:H p=none:=by
    cases e:H p with
    | none=>rfl
    | some o=>rw[B1 p o np.1 np.2 e] at hp;cases hp
  obtain⟨n,hn⟩ : ∃n:Nat,(1+r1).toNat=n:=⟨_,rfl⟩;have aU:n<=3:=()
  rw[hn];refine bS cN (λi σ H2=>∃as v5 v6,σ=[-d,-sa,-pa,some (.int (1+r1)),-p,v5,v6,none]/\aI H2 d l/\But d l H H2/\H2 p*>(as.map λx=>V.ref x.1)/\zU H2 as/\(as.map CV).Sublist (jf pool i)) ⟨[],_,_,rfl,D1.put np.1 np.2,B1.put a6,ae,(λx Y=>by simp at Y),by simp⟩ (λi σ H' h=>nl) ?_ ?_
  . rintro i x σ H2 hi Y ⟨as,v5,v6,rfl,D2,B2,aa,hA,ap⟩
    rw[aQ] at hi;rw[lJ hi] at Y;cases Y;have a0:=B2 pa _ ar.1 ar.2 a8;ctx_has v a0
    refine bS cm (λj σ H3=>∃as v6,σ=[-d,-sa,-pa,some (.int (1+r1)),-p,some (.int (0+(i:Int))),v6,none]/\aI H3 d l/\But d l H H3/\H3 p*>(as.map λx=>V.ref x.1)/\zU H3 as/\(as.map CV).Sublist (jf pool i++(pool.take j).map λv=>((i:Int),v))) ⟨as,_,rfl,D2,B2,aa,hA,by simpa using ap⟩ (λj σ H' a9=>by obtain⟨_,_,_,_,B,_⟩:=a9;exact(.of (B pa _ ar.1 ar.2 a8))) ?_ ?_
    . rintro j x σ H3 hj Y ⟨as,v6,rfl,D3,B3,an,ad,Z⟩
      obtain⟨v,hv,rfl⟩ : ∃v,pool[j]? = some v/\V.int v=x:=by
        rw[e9] at Y;cases e:pool[j]? with
        | none=>rw[e] at Y;cases Y
        | some nm=>rw[e] at Y;exact⟨nm,rfl,fx Y⟩
      ctx_has v
      refine ba D3 ∅ ∅ λr4 H4 aG aJ D4 B4=>?_
      ctx_has v
      have ab:=B4 p _ np.1 np.2 an;have a2:zU H4 as:=λx Y=>(But.keepTI B4 D3).tup _ _ (ad x Y)
      have ek:pool.take (j+1)=pool.take j++[v]:=by rw[j_,hv];rfl
      have aP:(as.map λx=>V.ref x.1).length < g9:=by
        have h1:=Z.length_le;rw[c_,u9,lX,ax,c_] at h1;have h2:(pool.take j).length<=5:=by rw[<- ax];exact List.length_take_le' _ _
        exact g7 (show(as.map λx=>V.ref x.1).length < 1000 by rw[c_];omega) ∅
      refine cV (λh=>?_) (λh=>?_)
      . refine⟨⟨_,ab⟩,ba D4 () () λr5 H5 aW bb D5 B5=>⟨∅,λtp ag=>?_⟩⟩
        have am:=B5 p _ np.1 np.2 ab;have aC:zU H5 as:=λx Y=>(But.keepTI B5 D4).tup _ _ (a2 x Y)
        refine⟨_,(aw.upd0 ag) _ _ am,aP,(D5.new ag).put np.1 np.2,(((B3.trans B4).trans B5).new ag).put a6,as++[(tp,(i:Int),v,r5)],by rw[ae];simp,λx Y=>?_,?_⟩
        . rcases i9.mp Y with Y | Y
          . rw[ah (aX (aC x Y) am (by intro z;cases z))]
            exact(aw.upd0 ag) _ _ (aC x Y)
          . rw[e7.mp Y]
            show upd (upd H5 tp _) p _ tp=_
            rw[ah (tj (au am ag)),ae,Int.zero_add]
        . rw[ek,v_,v_,<- append_assoc]
          exact Z.append (List.Sublist.refl _)
      . refine⟨D4,B3.trans B4,as,ab,a2,Z.trans ?_⟩
        rw[ek,v_,<- append_assoc];exact List.sublist_append_left _ _
    . rintro σ H3 ⟨as,v6,rfl,D3,B3,an,ad,Z⟩
      rw[c_,l_] at Z;exact⟨as,_,_,rfl,D3,B3,an,ad,by rw[ke];exact Z⟩
  . rintro σ H2 ⟨as,v5,v6,rfl,D2,B2,aa,hA,ap⟩
    rw[aQ] at ap;ctx_has v
    refine⟨(),(),λDd aq=>?_⟩
    have nD:=D2.ne aq;rw[hn];refine eI cN (λi ys H'=>∃zs:List Int,ys=zs.map V.int/\zs.length<=i/\aI H' d l/\But d l H2 H'/\H' Dd*>ys) ⟨[],rfl,by simp,D2.new aq,(But.refl H2).new aq,ae⟩ (λi ys H' h=>nl) ?_ ?_
    . rintro i x ys H3 hi Y ⟨zs,rfl,a4,D3,B3,ay⟩
      rw[aQ] at hi;rw[lJ hi] at Y;cases Y;ctx_has v
      refine ba D3 ∅ ∅ λr4 H4 aG aJ D4 B4=>?_
      ctx_has v
      have a1:=B4 Dd _ nD.1 nD.2 ay;refine cV (λh=>?_) (λh=>?_)
      . exact⟨a1,g7 (show(zs.map V.int).length < 1000 by rw[c_];omega) ∅,zs++[0+(i:Int)],by simp,by simp;omega,D4.put nD.1 nD.2,(B3.trans B4).put aq,ae⟩
      . exact⟨zs,rfl,(),D4,B3.trans B4,a1⟩
    . rintro ys H3 ⟨zs,rfl,a4,D3,B3,ay⟩
      rw[aQ] at a4;have aE:=B3 p _ np.1 np.2 aa;refine⟨_,aE,λl1 g1=>⟨Dd,rfl,_,(aw.upd0 g1) _ _ ay,λl2 g2=>⟨∅,λwa g3=>?_⟩⟩⟩
      have s4:aw H3 (upd (upd (upd H3 l1 (.tup (as.map λx=>V.ref x.1))) l2 (.tup (zs.map V.int))) wa (.tup [.str "way",.ref sa,.ref l1,.ref l2])):=((aw.upd0 g1).upd_new g2).upd_new g3
      have B4:=(B2.trans B3).same s4;have a7:=((D3.new g1).new g2).ne g3;have a3:=B2.trans B3;have aK:=ap.length_le;rw[c_,lX,ax] at aK;have a5:l1≠l2:=λz=>by rw[z,ae] at g2;cases g2
      have aN:l1≠wa:=λz=>by rw[<- z,ah a5,ae] at g3;cases g3
      have aS:l2≠wa:=λz=>by rw[<- z,ae] at g3;cases g3
      have ad:zU H3 as:=λx Y=>(But.keepTI B3 D2).tup _ _ (hA x Y)
      refine k wa (as.map (·.2)) zs _ ?_ ?_ (by show(as.map (·.2)).length<=60;rw[c_];omega) (by show zs.length<=60;omega) ⟨sa,l1,l2,_,ae,s4 _ _ ((But.keepTI a3 D).tup _ _ aR),by rw[ah aN,ah a5];exact ae,⟨as,rfl,rfl,λx Y=>s4 _ _ (ad x Y)⟩,by rw[ah aS];exact ae⟩ (D3.same s4) B4
      . cases e:H wa with
        | none=>rfl
        | some o =>
          have z:=((aw.upd0 (o:=.tup (as.map λx=>V.ref x.1)) g1).upd_new (o:=.tup (zs.map V.int)) g2) _ _ (a3 wa o a7.1 a7.2 e)
          rw[z] at g3;cases g3
      . show((as.map (·.2)).map λx=>(x.1,x.2.1)).Nodup
        rw[lb];exact(nv aF n).sublist ap
def jl (h:Bool):List Str:=("unlike" : Str) :: "many" :: "sum" :: "table" :: "way" :: "behind" ::(if h then[("same" : Str)] else[])
theorem vn (h:Bool):6<=(jl h).length/\(jl h).length<=7:=by cases h <;> exact⟨∅,∅⟩
theorem uE (ns:List Str):A_ (.list (ns.map PyData.str)) (.list [])=decide (ns=[]):=by
 cases ns with
 | nil=>rfl
 | cons n ns=>simp[A_,Hk]
def okC (ws cs:List Str):Prop:=cs≠[]/\cs.Nodup/\(∀c∈cs,c∈ws)/\cs.length<=12
def okV (ns vs:List Int):Prop:=vs.Nodup/\(∀v∈vs,v∈ns)/\vs.length<=20
def okW (ws:List Str) (ns:List Int):Wi->Prop
 | .un cs=>okC ws cs
 | .mn av cs _ _=>okC ws cs/\okV ns av
 | .sm ts _ _=>okC ws (ts.map (·.2))/\∀x∈ts,-1000000<=x.1/\x.1<=1000000/\x.1≠0
 | .tb cs rows=>okC ws cs/\rows.Nodup/\(∀r∈rows,r.length=cs.length)/\rows.length<=7
 | .wy cs ps es=>okC ws cs/\(ps.map λx=>(x.1,x.2.1)).Nodup/\ps.length<=60/\es.length<=60
 | .bh cs _=>okC ws cs
def okX (ws:List Str) (ns:List Int):Wx->Prop
 | .pl W=>okW ws ns W
 | .sa c vs W=>c∈ws/\okV ns vs/\okW ws ns W/\c∉bX W
theorem Aj {F:List Str} (h : ∀c∈ws,c∈F) : ∀{W:Wi},okW ws ns W->okW F ns W
 | .un _,⟨a,b,c,d⟩=>⟨a,b,λx B=>h x (c x B),d⟩
 | .mn _ _ _ _,⟨⟨a,b,c,d⟩,r⟩=>⟨⟨a,b,λx B=>h x (c x B),d⟩,r⟩
 | .sm _ _ _,⟨⟨a,b,c,d⟩,r⟩=>⟨⟨a,b,λx B=>h x (c x B),d⟩,r⟩
 | .tb _ _,⟨⟨a,b,c,d⟩,r⟩=>⟨⟨a,b,λx B=>h x (c x B),d⟩,r⟩
 | .wy _ _ _,⟨⟨a,b,c,d⟩,r⟩=>⟨⟨a,b,λx B=>h x (c x B),d⟩,r⟩
 | .bh _ _,⟨a,b,c,d⟩=>⟨a,b,λx B=>h x (c x B),d⟩
theorem lP : ∀{W:Wi},okW ws ns W->∀c∈bX W,c∈ws
 | .un _,⟨_,_,c,_⟩=>c
 | .mn _ _ _ _,⟨⟨_,_,c,_⟩,_⟩=>c
 | .sm _ _ _,⟨⟨_,_,c,_⟩,_⟩=>c
 | .tb _ _,⟨⟨_,_,c,_⟩,_⟩=>c
 | .wy _ _ _,⟨⟨_,_,c,_⟩,_⟩=>c
 | .bh _ _,⟨_,_,c,_⟩=>c
theorem zi : ∀{W:Wi},okW ws ns W->szW W
 | .un _,⟨_,_,_,d⟩=>d
 | .mn _ _ _ _,⟨⟨_,_,_,d⟩,_,_,e⟩=>⟨e,d⟩
 | .sm ts _ _,⟨⟨_,_,_,d⟩,_⟩=>by simpa [szW] using d
 | .tb _ _,⟨⟨_,_,_,d⟩,_⟩=>d
 | .wy _ _ _,⟨⟨_,_,_,d⟩,e,f,_⟩=>⟨d,e,f⟩
 | .bh _ _,⟨a,_,_,d⟩=>⟨a,d⟩
theorem xI : ∀{W:Wx},okX ws ns W->∀c∈dR W,c∈ws
 | .pl _,h=>lP h
 | .sa _ _ _,h=>λc B=>by
  rcases i4.mp B with rfl | z
  .exact h.1
  .exact lP h.2.2.1 c z
structure iX (H:Hp) (d l a ra pa:Addr) (ws:List Str) (ns:List Int) (kvs:List (Key × V)) (rm:Str->List Int):Prop where
 D:aI H d l
 na:a≠d/\a≠l
 nr:ra≠d/\ra≠l
 np:pa≠d/\pa≠l
 ha:H a*>(ws.map V.str)
 hr:H ra<*kvs
 hp:H pa*>(ns.map V.int)
 rf:aZ H kvs ws rm
 wn:ws≠[]
 nd:ws.Nodup
 wl:ws.length<=12
 n5:ns.length=5
 nn:ns.Nodup
 nm : ∀c∈ws,fo c
 gd : ∀c∈ws,rm c≠[]/\(rm c).length<=20/\∀v∈rm c,-1000000<=v/\v<=1000000
theorem iX.but {Y L:Addr} (F:iX H d l a Y L ws ns kvs rm) (D:aI H' d l) (B:But d l H H'):iX H' d l a Y L ws ns kvs rm :=
 ⟨D,F.na,F.nr,F.np,B _ _ F.na.1 F.na.2 F.ha,B _ _ F.nr.1 F.nr.2 F.hr,B _ _ F.np.1 F.np.2 F.hp,F.rf.same λx vs e=>B.tup F.D e,F.wn,F.nd,F.wl,F.n5,F.nn,F.nm,F.gd⟩
theorem iX.same {H H':Hp} {d l a L B:Addr} {ws:List Str} {ns:List Int} {kvs:List (Key × V)} {rm:Str->List Int} (F:iX H d l a L B ws ns kvs rm) (s:aw H H'):iX H' d l a L B ws ns kvs rm :=
 F.but (F.D.same s) ((But.refl H).same s)
def oC (h:Bool):Sp:=λvs H Q _=>∃(d l a L F B:Addr) (ws:List Str) (ns:List Int) (kvs:List (Key × V)) (rm:Str->List Int),vs=[.ref d,.ref a,.ref L,.ref F,.ref B]/\iX H d l a L F ws ns kvs rm/\(B≠d/\B≠l)/\H B*>((jl h).map V.str) /\
 ∀(w:Addr) (W:Wx) (H':Hp),WX H' w W->okX ws ns W->(h=false->∃Y,W = .pl Y)->aI H' d l->But d l H H'->Q (.ref w) H'
def oF (h:Bool):Sp:=if h then oC false else λ_ _ _ _=>False
theorem tW {h:Bool} {s:Str} (B:s∈jl h):s = "unlike" \/ s = "many" \/ s = "sum" \/ s = "table" \/ s = "way" \/ s = "behind" \/(h=true/\s = "same"):=by
 unfold jl at B;cases h
 .simpa using B
 .simpa using B
theorem DG {zs:List Str} (hp:(cs++zs).Perm ws) (h1:1<=cs.length) (B:ws.Nodup) (L:ws.length<=12):okC ws cs:=by
 have hn:=hp.nodup_iff.mpr B;refine⟨λe=>by rw[e] at h1;simp at h1,(t7.mp hn).1,λc F=>hp.mem_iff.mp (ki _ F),?_⟩
 have:=hp.length_eq
 rw[u9] at this;omega
theorem AV {vs zs:List Int} (hp:(vs++zs).Perm ns) (B:ns.Nodup) (L:ns.length=5):okV ns vs:=by
 have hn:=hp.nodup_iff.mpr B;refine⟨(t7.mp hn).1,λc F=>hp.mem_iff.mp (ki _ F),?_⟩
 have:=hp.length_eq
 rw[u9] at this;omega
theorem kZ {h:Bool} (T:Txt w K mg) (L:FnL K mg "_law_wish" fm ["_law_deal_here","_law_names_here","_law_rooms_here","_law_pool_here","_law_sorts"]) (Fa : @Dz0 P w K mg base) (Fg : @Dz4 P w K mg base) (Ft : @Dz8 P w K mg base) (Fp : @Dz9 P w K mg base) (Fu : @EW P w K mg base) (FD:Fn P w K mg base "_law_wish" (n+1) ["_law_deal_here","_law_names_here","_law_rooms_here","_law_pool_here","_law_sorts"] (oF h)):Fn P w K mg base "_law_wish" (n+5) ["_law_deal_here","_law_names_here","_law_rooms_here","_law_pool_here","_law_sorts"] (oC h):=by
 ctx_has z sj <;> obtain⟨d,l,a,ra,pa,so,ws,ns,kvs,rm,rfl,M,a2,a7,k⟩:=h
 .rfl
 refine⟨_,(af (aD 5 (aG fS (pvM 4) (az Fa (ac (pvM 0) (ac (aE bK T.b_len (ac (pvM 4) ai)) ai)))))
  (af (aD 6 (az Fg (ac (pvM 0) (ac (pvM 1) (ac (aE (qU rfl) T.b_min (ac (aE bK T.b_len (ac (pvM 1) ai)) (ac (aT bj aj (bu yf T.b_int (ac (bf bR (pvM 5) aH) ai))) ai))) ai)))))
  (af (bv (aL bR (pvM 5) aH) (ak (aB (bW (ac aH (ac (pvM 6) ai))))) aO)
  (af (bv (aL bR (pvM 5) aH) (af (aD 7 (az Fa (ac (pvM 0) (ac (aT bj (aE fW T.b_len (ac (pvM 6) ai)) aj) ai))))
  (ak (aB (bW (ac aH (ac (az Fg (ac (pvM 0) (ac (pvM 3) (ac aj ai)))) (ac (pvM 6) (ac (pvM 7) (ac (aT bj (pvM 7) (az Fa (ac (pvM 0) (ac (aT bj (aT jc (aE fW T.b_len (ac (pvM 6) ai)) (pvM 7)) aj) ai)))) ai))))))))) aO)
  (af (bv (aL bR (pvM 5) aH) (ak (aB (az Ft (ac (pvM 0) (ac (pvM 6) (ac (pvM 2) ai)))))) aO)
  (af (bv (aL bR (pvM 5) aH) (ak (aB (bW (ac aH (ac (pvM 6) (ac (az Fp (ac (pvM 0) (ac (pvM 6) (ac (pvM 3) ai)))) ai)))))) aO)
  (af (bv (aL bR (pvM 5) aH) (ak (aB (az Fu (ac (pvM 0) (ac (pvM 6) (ac (pvM 3) ai)))))) aO)
  (af (bv (aL bR (pvM 5) aH) (ak (aB (bW (ac aH (ac (pvM 6) (ac (aG fS (cg (ac aj (ac aj (ac (no jv aj) (ac aj (ac aj ai)))))) (az Fa (ac (pvM 0) (ac aj ai)))) ai)))))) aO)
  (af (gg 8 (N:=["_law_name","_law_some_here"]) (nt:=1) (js:=[6]) (aM ["_law_deal_here","_law_names_here","_law_rooms_here","_law_pool_here","_law_sorts","_law_sort","_law_some_here","_law_low","_law_rest","_law_inner"] (ao fm).names) (gl K (pvM 1)) (aA 0) aV (dM (aL AS (pvM 0) (aG bw (pvM 1) aj))) (pvM 0))
  (af (bv (aL (sM (xf hr)) (pvM 8) (cg ai)) (ak (aB (bW (ac aH (ac (pvM 6) ai))))) aO)
  (af (aD 9 (az FD (ac (pvM 0) (ac (pvM 8) (ac (pvM 2) (ac (pvM 3) (ac (cg (ac aH (ac aH (ac aH (ac aH (ac aH (ac aH ai))))))) ai)))))))
  (ak (aB (bW (ac aH (ac (aG bw (pvM 6) aj) (ac (az Fg (ac (pvM 0) (ac (pvM 3) (ac aj ai)))) (ac (pvM 9) ai)))))))))))))))))),?_⟩
 ctx_has v a7
 have bk:=vn h;refine ba M.D (by rw[c_];omega) (by rw[c_];omega) λr H1 r0 r1 D1 B1=>?_
 rw[c_] at r1;obtain⟨s,hs,aW⟩:=xn (xs:=jl h) r0 r1 V.str;have a5:=B1 so _ a2.1 a2.2 a7;have M1:=M.but D1 B1;have a1:=M1.ha;have w1:=B_.mpr M.wn;have wl:=M.wl;have n5:=M.n5;ctx_has v a5 aW a1
 obtain⟨m,hm,m1,m2⟩ : ∃m:Int,(if (1+if s=b_ "unlike" then 1 else 0) < ((ws.map V.str).length:Int) then 1+(if s=b_ "unlike" then 1 else 0) else((ws.map V.str).length:Int))=m/\1<=m/\m<=ws.length:=by
  refine⟨_,rfl,?_⟩
  rw[c_]
  split <;> split <;> constructor <;> omega
 rw[hm];refine⟨d,l,a,m,ws.map V.str,rfl,D1,.inl a1,(),by rw[c_];omega,by rw[c_];omega,λsa a3 rest H2 bg aJ aK B D2 B2=>?_⟩
 obtain⟨cs,zs,rfl,an⟩:=oP V.str F1 (λ_=>rfl) aJ
 rw[c_] at aK;have F:okC ws cs:=DG an () M.nd M.wl
 have M2:=M1.but D2 B2;have aa:=B1.trans B2;have cl:=F.2.2.2;rcases tW hs with rfl | rfl | rfl | rfl | rfl | rfl | ⟨rfl,rfl⟩
 .ctx_has v
  refine⟨∅,λw Z=>k w (.pl (.un cs)) _ ⟨sa,ae,(aw.upd0 Z) _ _ B⟩ F (λ_=>⟨_,rfl⟩) (D2.new Z) (aa.new Z)⟩
 .ctx_has v B
  rw[c_];refine ba D2 () () λr3 H3 bm be D3 B3=>?_
  have M3:=M2.but D3 B3;refine⟨d,l,pa,0,ns.map V.int,rfl,D3,.inl M3.hp,∅,by rw[c_];omega,by rw[c_];omega,λq a3 rest H4 fq a4 _ aQ D4 B4=>?_⟩
  obtain⟨av,zv,rfl,aq⟩:=oP V.int B0 (λ_=>rfl) a4
  have ab:=B4.tup D3 (B3.tup D2 B);ctx_has v ab
  rw[c_];refine ba D4 () () λr5 H5 bi bn D5 B5=>?_
  ctx_has v
  refine⟨∅,λw Z=>k w (.pl (.mn av cs r3 (r3+r5))) _ ⟨q,sa,ae,(aw.upd0 Z) _ _ (B5.tup D4 aQ),(aw.upd0 Z) _ _ (B5.tup D4 ab)⟩ ⟨F,AV aq M.nn M.n5⟩ (λ_=>⟨_,rfl⟩) (D5.new Z) ((((aa.trans B3).trans B4).trans B5).new Z)⟩
 .ctx_has v
  refine⟨d,l,sa,ra,cs,kvs,rm,rfl,D2,M.nr,B,M2.hr,λc Y=>M2.rf c (F.2.2.1 c Y),cl,λc Y=>M.gd c (F.2.2.1 c Y),λw ts lo hi H3 fw hW aP hb D3 B3=>?_⟩
  refine k w (.pl (.sm ts lo hi)) H3 hW ⟨?_,hb⟩ (λ_=>⟨_,rfl⟩) D3 (aa.trans B3)
  rw[aP];refine⟨?_,F.2.1.sublist (HH _ _),λc Y=>F.2.2.1 c (GU Y),by simp;omega⟩
  intro e;have:=F.1
  cases cs with
  | nil=>exact this rfl
  | cons x xs=>simp at e
 .ctx_has v
  refine⟨d,l,sa,pa,cs,ns,rfl,D2,M.np,B,M2.hp,M.n5,cl,λp us rows H3 fp bc aY ar aI ay D3 B3=>⟨∅,λw Z=>?_⟩⟩
  have s4:=aw.upd0 (o:=.tup [.str "table",.ref sa,.ref p]) Z;exact k w (.pl (.tb cs rows)) _ ⟨sa,p,us,ae,s4 _ _ (B3.tup D2 B),s4 _ _ bc,aY.keep λb xs e=>s4 _ _ e⟩ ⟨F,ar,aI,ay⟩ (λ_=>⟨_,rfl⟩) (D3.same s4) ((aa.trans B3).same s4)
 .ctx_has v
  exact⟨d,l,sa,pa,cs,ns,rfl,D2,B,M.np,M2.hp,M.n5,M.nn,λwa ps es H3 fw ar ap aZ hW D3 B3=>k wa (.pl (.wy cs ps es)) H3 hW ⟨F,ar,ap,aZ⟩ (λ_=>⟨_,rfl⟩) D3 (aa.trans B3)⟩
 .ctx_has v
  refine⟨∅,λt ht=>jC D2 ht ∅ ∅ rfl λr3 v H3 hv bb D3 B3 h3=>?_⟩
  obtain⟨gap,rfl⟩ : ∃gap:Int,v = .int gap:=by
   simp only[i4,m8,or_false] at hv;rcases hv with rfl | rfl | rfl | rfl | rfl
   .exact⟨_,rfl⟩
   .exact⟨_,rfl⟩
   .exact⟨_,rfl⟩
   .exact⟨_,rfl⟩
   .exact⟨_,rfl⟩
  ctx_has v h3 bb
  refine⟨∅,λw Z=>?_⟩
  have s4:=aw.upd0 (o:=.tup [.str "behind",.ref sa,.int gap]) Z;exact k w (.pl (.bh cs gap)) _ ⟨sa,ae,s4 _ _ (B3.tup D2 B)⟩ F (λ_=>⟨_,rfl⟩) (D3.same s4) ((aa.trans B3).same s4)
 .have h2a:=M2.ha
  obtain⟨c0,cr,a9⟩ : ∃c0 cr,cs=c0 :: cr:=by
   cases cs with
   | nil=>exact absurd rfl F.1
   | cons x xs=>exact⟨x,xs,rfl⟩
  have e0:atI (cs.map V.str) 0=some (.str c0):=by rw[a9];exact bA (j:=0) (by simp)
  have aN:c0∈cs:=by rw[a9];exact k6
  ctx_has v h2a
  intro R hR;have nR:=D2.ne hR;refine cD cm (λv=>match v with | .str c=>!decide (c=c0) | _=>false) id hR (λH' s=>.of (s _ _ h2a)) (by simp;omega) ?_ ?_ ?_
  .intro x H3 Q3 hx sm q3
   obtain⟨y,hy,rfl⟩:=hB.mp hx;have e1:=sm _ _ B;ctx_has v e1 e0
   exact q3 H3 (aw.refl _)
  .intro x H3 Q3 hx _ sm q3
   ctx_has v
   exact q3 H3 (aw.refl _)
  .intro H3 sm h3
   obtain⟨rs,ag⟩ : ∃rs,ws.filter (λc=>!decide (c=c0))=rs:=⟨_,rfl⟩
   have a6:H3 R*>(rs.map V.str):=by rw[h3,map_id,HZ,<- ag];rfl
   have ad : ∀c∈rs,c∈ws/\c≠c0:=λc Y=>by
    rw[<- ag] at Y;have:=x4.mp Y
    exact⟨this.1,by simpa using this.2⟩
   have aR:rs.length<=12:=by rw[<- ag];exact gr (Ha _ _) M.wl
   have aX:rs.Nodup:=by rw[<- ag];exact M.nd.sublist List.filter_sublist
   refine⟨∅,λe he=>?_⟩
   have s4:=aw.upd0 (o:=.lst []) he;refine⟨.list (rs.map PyData.str),.list [],.lst (.of (s4 _ _ a6)) (gz.strs rs),.lst (.of ae) .nil,by unfold HS;exact tP λc Y=>M.nm c (ad c Y).1,rfl,by unfold Iu;rw[pR];decide,_,rfl,?_⟩
   rw[uE];have au:=sm.trans s4;have D4:=D2.same au;have B4:=aa.same au;have ab:=au _ _ B;refine cV (λh0=>?_) (λh0=>?_)
   .exact⟨∅,λw Z=>k w (.pl (.un cs)) _ ⟨sa,ae,(aw.upd0 Z) _ _ ab⟩ F (λ_=>⟨_,rfl⟩) (D4.new Z) (B4.new Z)⟩
   .refine⟨∅,λaC am=>?_⟩
    have a8:=D4.ne am;have aS:rs≠[]:=by simpa using h0
    have s5:=s4.upd_new (o:=.lst ((jl false).map V.str)) am;have M5:=(M2.same sm).same s5;unfold oF;rw[if_pos rfl];refine⟨d,l,R,ra,pa,aC,rs,ns,kvs,rm,rfl,⟨M5.D,nR,M.nr,M.np,s5 _ _ a6,M5.hr,M5.hp,λc Y=>M5.rf c (ad c Y).1,aS,aX,aR,M.n5,M.nn,λc Y=>M.nm c (ad c Y).1,λc Y=>M.gd c (ad c Y).1⟩,a8,ae,λu W H6 hW aF ap D6 B6=>?_⟩
    obtain⟨W0,rfl⟩:=ap rfl;have ax:=B6.tup M5.D (s5 _ _ (sm _ _ B));have aU:=(aa.same (sm.trans s5)).trans B6;have M6:=M5.but D6 B6;refine⟨_,ax,_,e0,d,l,pa,0,ns.map V.int,rfl,D6,.inl M6.hp,∅,by rw[c_];omega,by rw[c_];omega,λq a3 rest H7 fq a0 _ bd D7 B7=>⟨∅,λw Z=>?_⟩⟩
    obtain⟨vs,zv,rfl,aq⟩:=oP V.int B0 (λ_=>rfl) a0
    have s8:=aw.upd0 (o:=.tup [.str "same",.str c0,.ref q,.ref u]) Z;have ah:okW rs ns W0:=aF
    refine k w (.sa c0 vs W0) _ ⟨q,u,ae,s8 _ _ bd,dq hW λb xs e=>s8 _ _ (B7.tup D6 e)⟩ ⟨F.2.2.1 c0 aN,AV aq M.nn M.n5,Aj (λc Y=>(ad c Y).1) ah,λY=>(ad c0 (lP ah c0 Y)).2 rfl⟩ (λz=>by cases z) (D7.same s8) ((aU.trans B7).same s8)
abbrev DB:=Fn P w K mg base "_law_fillings" 1 ["_law_names_here","_law_rooms_here"] (BU)
theorem lU (T : Txt w K mg) (L:FnL K mg "_law_fillings" fH ["_law_names_here","_law_rooms_here"]) : @DB P w K mg base:=by
  ctx_has z mN <;> obtain⟨a,r,cs,kvs,rm,rfl,ha,aP,aQ,aV,aJ,a4,k⟩:=h
  . rfl
  refine⟨_,(af (aD 2 (cg (ac gm ai)))
    (af (bq (gl K (pvM 0)) (aA 3) (af (aD 4 (cg ai))
    (af (bq (gl K (pvM 2)) (aA 5) (ak (bq (bZ K (bH hu (pvM 1) (pvM 3))) (aA 6) (af (aD 7 (bu iy T.b_dict (ac (pvM 5) ai)))
    (af (gK hu (pvM 7) (pvM 3) (pvM 6) rfl)
    (ak (cz (iJ m5 m6 cK (pvM 4) (ac (pvM 7) ai)))))))))
    (ak (aD 2 (pvM 4))))))
    (ak (aB (pvM 2))))),?_⟩
  ctx_has v
  intro p0 aG;refine⟨∅,λp1 ao=>?_⟩
  have s1:aw H (upd (upd H p0 (HO.dK [])) p1 (HO.lst [V.ref p0])):=(aw.upd0 aG).upd_new ao
  have aE:p0≠p1:=by rintro rfl;rw[ae] at ao;cases ao
  refine⟨_,s1 _ _ ha,?_⟩
  refine bS cm (λi σ H'=>∃(p:Addr) (xs:List V) (v3 v4 v5 v6 v7:Option V),σ=[-a,-r,-p,v3,v4,v5,v6,v7]/\H p=none/\H' p*>xs/\xm H' xs (cs.take i) rm/\xs.length<=4 ^ i/\aw H H')
    ⟨p1,[.ref p0],_,_,_,_,_,rfl,(aw.upd0 aG).free ao,ae,⟨λx hx=>?_,λg _=>?_⟩,by simp,s1⟩ (λi σ H' a9=>by obtain⟨_,_,_,_,_,_,_,_,_,_,_,_,sm⟩:=a9;exact(.of (sm _ _ ha))) ?_ ?_
  . rw[e7.mp hx]
    exact⟨λ_=>0,λc hc=>by simp at hc,p0,[],rfl,by rw[ah aE];exact ae,λc hc=>by simp at hc,by simp⟩
  . exact⟨.ref p0,by simp,p0,[],rfl,by rw[ah aE];exact ae,λc hc=>by simp at hc,by simp⟩
  . rintro i x σ H2 hi hx ⟨p,xs,v3,v4,v5,v6,v7,rfl,fp,h2,fa,a3,Z⟩
    rw[c_] at hi;obtain⟨c,a0,rfl⟩ : ∃c,cs[i]? = some c/\V.str c=x:=by
      rw[e9] at hx;cases e:cs[i]? with
      | none=>rw[e] at hx;cases hx
      | some nm=>rw[e] at hx;exact⟨nm,rfl,fx hx⟩
    have az:c∈cs:=fy a0
    have ay:cs.take (i+1)=cs.take i++[c]:=by rw[j_,a0];rfl
    have aK:c∉cs.take i:=λhm=>by
      obtain⟨j,hj,e⟩:=t_ hm;have ab:j < i:=by simp at hj;omega
      have e2:cs[j]? = some c:=by rw[<- e,List.getElem_take];simp
      have:=fi aV e2 a0
      omega
    obtain⟨ra,aT,a5⟩:=aQ c az;have h4:=ET (show i<=5 by omega)
    ctx_has v
    refine⟨∅,λm hm=>?_⟩
    have pm:p≠m:=au h2 hm
    refine⟨_,by rw[ah pm];exact h2,?_⟩
    refine bS cm (λj σ H3=>∃(ys:List V) (v5 v6 v7:Option V),σ=[-a,-r,-p,some (.str c),-m,v5,v6,v7]/\H3 m*>ys/\(∀y∈ys,∃g,okF rm (cs.take (i+1)) g/\bQ H3 y (cs.take (i+1)) g) /\
        (∀j',j' < j->∀z,xs[j']? = some z->∀g,bQ H2 z (cs.take i) g->∀v∈rm c,∃y∈ys,bQ H3 y (cs.take (i+1)) (bN g c v))/\ys.length<=4 * j/\aw H2 H3)
      ⟨[],_,_,_,rfl,ae,by simp,by simp,by simp,aw.upd0 hm⟩ (λj σ H' a6=>by obtain⟨_,_,_,_,_,_,_,_,_,sm⟩:=a6;exact(.of (sm _ _ h2))) ?_ ?_
    . rintro j x σ H3 hj aF ⟨ys,v5,v6,v7,rfl,h3,Y,B,ag,am⟩
      have aU:=am _ _ (Z _ _ aP);have a8:=am _ _ (Z _ _ a5);ctx_has v aU aT a8
      refine bS aW (λe σ H4=>∃(ys:List V) (v6 v7:Option V),σ=[-a,-r,-p,some (.str c),-m,some x,v6,v7]/\H4 m*>ys/\(∀y∈ys,∃g,okF rm (cs.take (i+1)) g/\bQ H4 y (cs.take (i+1)) g) /\
          (∀j',j' < j->∀z,xs[j']? = some z->∀g,bQ H2 z (cs.take i) g->∀v∈rm c,∃y∈ys,bQ H4 y (cs.take (i+1)) (bN g c v)) /\
          (∀v∈(rm c).take e,∀g,bQ H2 x (cs.take i) g->∃y∈ys,bQ H4 y (cs.take (i+1)) (bN g c v))/\ys.length<=4 * j+e/\aw H2 H4)
        ⟨ys,_,_,rfl,h3,Y,B,by simp,ag,am⟩ (λe σ H' a7=>by obtain⟨_,_,_,_,_,_,_,_,_,sm⟩:=a7;exact(.of (sm _ _ (Z _ _ a5)))) ?_ ?_
      . rintro e y σ H4 he aa ⟨ys,v6,v7,rfl,an,Y,B,aj,ag,ar⟩
        rw[c_] at he;obtain⟨v,aI,rfl⟩ : ∃v,(rm c)[e]? = some v/\V.int v=y:=by
          rw[e9] at aa;cases e1:(rm c)[e]? with
          | none=>rw[e1] at aa;cases aa
          | some nm=>rw[e1] at aa;exact⟨nm,rfl,fx aa⟩
        have aR:x∈xs:=fy aF
        obtain⟨g0,aM,ax,kx,rfl,a2,aS,a1⟩:=fa.sound x aR;have aH:=ar _ _ a2;have aY:kx.length<=20:=by have:=a1.1;simp at this;omega
        have aL:=a4 c az;ctx_has v aH
        intro q hq;have mq:m≠q:=au an hq
        refine⟨_,ae,aN (),?_⟩
        have hM:upd (upd H4 q (HO.dK kx)) q (HO.dK (bm kx (ge c) (V.int v))) m=some (HO.lst ys):=by rw[ah mq,ah mq];exact an
        have kk : ∀b ad,H4 b<*ad->upd (upd (upd H4 q (HO.dK kx)) q (HO.dK (bm kx (ge c) (V.int v)))) m (HO.lst (ys++[V.ref q])) b<*ad:=λb ad eb=>by
          rw[ah (aX eb an (by intro z;cases z)),ah (au eb hq),ah (au eb hq)];exact eb
        have hQ:upd (upd (upd H4 q (HO.dK kx)) q (HO.dK (bm kx (ge c) (V.int v)))) m (HO.lst (ys++[V.ref q])) q<*(bm kx (ge c) (V.int v)):=by rw[ah mq.symm];exact ae
        have nf : ∀g,bQ H2 (V.ref ax) (cs.take i) g->bQ (upd (upd (upd H4 q (HO.dK kx)) q (HO.dK (bm kx (ge c) (V.int v)))) m (HO.lst (ys++[V.ref q]))) (.ref q) (cs.take (i+1)) (bN g c v):=λg ⟨a',k',e1,e2,e3,_⟩=>by
          cases e1;rw[a2] at e2;cases e2;rw[ay];exact bQ.put e3 a1 aK hQ
        refine⟨⟨_,hM⟩,ys,hM,o9 (show ys.length<=5000 by omega) ∅,ys++[V.ref q],ae,λy hy=>?_,λj' ab z hz g hg v' aq=>?_,λv' aq g hg=>?_,by simp;omega,?_⟩
        . rcases i9.mp hy with z | z
          . obtain⟨g,h5,h6⟩:=Y y z
            exact⟨g,h5,h6.keep kk⟩
          . rw[e7.mp z]
            refine⟨bN g0 c v,λc' ap=>?_,nf g0 ⟨ax,kx,rfl,a2,aS,a1⟩⟩
            rw[ay] at ap
            by_cases ec:c'=c
            . subst ec;rw[bo];exact fy aI
            . rw[cE _ _ ec]
              rcases i9.mp ap with z | z
              . exact aM c' z
              . exact absurd (e7.mp z) ec
        . obtain⟨y,hy,hf⟩:=B j' ab z hz g hg v' aq
          exact⟨y,ki _ hy,hf.keep kk⟩
        . rw[j_,aI] at aq
          rcases i9.mp aq with z | z
          . obtain⟨y,hy,hf⟩:=aj v' z g hg
            exact⟨y,ki _ hy,hf.keep kk⟩
          . have ev:v'=v:=by simpa using z
            subst ev;exact⟨.ref q,by simp,nf g hg⟩
        . intro b o eb
          have e4:=ar b o eb;rw[ah (au eb hm),ah (au e4 hq),ah (au e4 hq)];exact e4
      . rintro σ H4 ⟨ys,v6,v7,rfl,an,Y,B,aj,ag,ar⟩
        rw[c_] at aj ag;rw[l_] at aj;have aL:=a4 c az;refine⟨ys,_,_,_,rfl,an,Y,λj' ab z hz g hg v hv=>?_,(),ar⟩
        by_cases ej:j'=j
        . subst ej
          rw[aF] at hz;cases hz;exact aj v hv g hg
        . exact B j' () z hz g hg v hv
    . rintro σ H3 ⟨ys,v5,v6,v7,rfl,h3,Y,B,ag,am⟩
      ctx_has v
      refine⟨(Z.free hm),ys,h3,⟨Y,λg hg=>?_⟩,by rw[Nat.pow_succ];omega,Z.trans am⟩
      obtain⟨x,hx,aO⟩:=fa.comp g (λc' ap=>hg c' (by rw[ay];exact ki _ ap))
      obtain⟨j',ab,e'⟩:=t_ hx;obtain⟨y,hy,aC⟩:=B j' ab x (by rw[<- e'];simp) g aO (g c) (hg c (by rw[ay];simp))
      rw[yb] at aC;exact⟨y,hy,aC⟩
  . rintro σ H2 ⟨p,xs,v3,v4,v5,v6,v7,rfl,fp,h2,fa,a3,Z⟩
    rw[c_,l_] at fa;rw[c_] at a3;ctx_has v
    exact k p xs H2 fp h2 fa (gr a3 (ET aJ)) Z
theorem uy (h:okF rm cs g) (ne : ∀c∈ws,rm c≠[]) : ∃g',okF rm ws g'/\∀c∈cs,g' c=g c:=by
 refine⟨λc=>if c∈cs then g c else(rm c).headD 0,λc F=>?_,λc F=>if_pos F⟩
 by_cases B:c∈cs
 .show(if c∈cs then g c else(rm c).headD 0)∈rm c
  rw[if_pos B];exact h c B
 .show(if c∈cs then g c else(rm c).headD 0)∈rm c
  rw[if_neg B];cases e:rm c with
  | nil=>exact absurd e (ne c F)
  | cons x xs=>simp
theorem dm (h:n<=4):n < 1000:=()
theorem yz (a b c d:Str) (x y z u:V):(ck a x []).length<=4:=by have:=dI a x [];simp at this;omega
theorem yB (a b c d:Str) (x y z u:V):(ck b y (ck a x [])).length<=4:=by have:=dI a x [];have:=dI b y (ck a x []);simp at *;omega
theorem Co (a b c d:Str) (x y z u:V):(ck c z (ck b y (ck a x []))).length<=4:=by have:=dI a x [];have:=dI b y (ck a x []);have:=dI c z (ck b y (ck a x []));simp at *;omega
theorem Gy (a b c d:Str) (x y z u:V):(ck d u (ck c z (ck b y (ck a x [])))).length<=4:=by have:=dI a x [];have:=dI b y (ck a x []);have:=dI c z (ck b y (ck a x []));have:=dI d u (ck c z (ck b y (ck a x [])));simp at *;omega
def dh (mg:Str->Option Value) (C:Str):Sp:=λvs H Q _=>∃(p dx:Addr) (fs:List (Str × V)) (w:V),vs=[.ref p,w]/\H p=some (.ins (ap mg C) dx fs)/\fs.length < 1000/\Q .non (upd H p (.ins (ap mg C) dx (ck "wish" w fs)))
abbrev qy:=List Str × Int
def jB (dat:qy):List Str:=dat.1
def DP (dat:qy):Prop:=dat.1≠[]/\dat.1.Nodup/\dat.1.length<=12
def yW (dat:qy) (g:Str->Int):Bool:=chB dat.2 (dat.1.map g)
def WSB (H:Hp) (w:Addr) (dat:qy):Prop:=∃c,H w>>[.str "behind",.ref c,.int dat.2]/\H c>>(dat.1.map V.str)
def OBB (mg:Str->Option Value) (H:Hp) (p:Addr) (dat:qy):Prop:=∃dx fs w c,H p=some (.ins (ap mg "Behind") dx fs)/\WSB H w dat/\H c>>(dat.1.map V.str)/\fs.lookup (b_ "wish")=some (.ref w)/\fs.lookup (b_ "cells")=some (.ref c)/\fs.lookup (b_ "gap")=some (.int dat.2) /\
 fs.lookup (b_ "kept")=none/\fs.lookup (b_ "may_keep")=none/\fs.lookup (b_ "may_break")=none
theorem xj {dat:qy} (h:OBB mg H p dat) : ∃dx fs,H p=some (.ins (ap mg "Behind") dx fs)/\fs.lookup (b_ "kept")=none/\fs.lookup (b_ "may_keep")=none/\fs.lookup (b_ "may_break")=none:=by
 obtain⟨dx,fs,w,c,h1,h2,B,_,_,_,r⟩:=h;exact⟨dx,fs,h1,r⟩
structure Ad (mg:Str->Option Value) (H:Hp) (p r:Addr) (dat:qy) (kvs:List (Key × V)) (rm:Str->List Int):Prop where
 ob:OBB mg H p dat
 rd:H r<*kvs
 rf:aZ H kvs (jB dat) rm
 ok:DP dat
 ne : ∀c∈jB dat,rm c≠[]/\(rm c).length<=10/\(rm c).Pairwise (· < ·)
def eV (mg:Str->Option Value):Sp:=λvs H Q _=>∃(p r:Addr) (dat:qy) (kvs:List (Key × V)) (rm:Str->List Int),vs=[.ref p,.ref r]/\Ad mg H p r dat kvs rm/\∀(b:Bool) H',(b=true↔∃g,okF rm (jB dat) g/\yW dat g=true)->aw H H'->Q (.bl b) H'
def gI (mg:Str->Option Value):Sp:=λvs H Q _=>∃(p r:Addr) (dat:qy) (kvs:List (Key × V)) (rm:Str->List Int),vs=[.ref p,.ref r]/\Ad mg H p r dat kvs rm/\∀(b:Bool) H',(b=true↔∃g,okF rm (jB dat) g/\yW dat g=false)->aw H H'->Q (.bl b) H'
def wT (mg:Str->Option Value) (C:Str):Sp:=λvs H Q _=>∃(p dx w:Addr) (dat:qy),vs=[.ref p,.ref w]/\H p=some (.ins (ap mg C) dx [])/\WSB H w dat/\∀H',OBB mg H' p dat->fX p H H'->Q .non H'
theorem zW {L:Int} (F:(c :: cs).Nodup) (hm:m∈rm c) (Z:L+gap<=m) (B : ∀v∈rm c,L+gap<=v->m<=v) :
  (∃g,okF rm (c :: cs) g/\chB gap (L ::(c :: cs).map g)=true)↔∃g,okF rm cs g/\chB gap (m :: cs.map g)=true:=by
 rw[md] at F
 constructor
 .rintro⟨g,h1,h2⟩
  rw[i8,gf,k9,decide_eq_true_eq] at h2;exact⟨g,λx Y=>h1 x (j6 _ Y),uL (B _ (h1 c (by simp)) h2.1) h2.2⟩
 .rintro⟨g,h1,h2⟩
  have e:cs.map (bN g c m)=cs.map g:=m4 λx Y=>cE _ _ (λz=>F.1 (z ▸ Y))
  refine⟨bN g c m,λx Y=>?_,?_⟩
  .by_cases z:x=c
   .subst z;rw[bo];exact hm
   .rw[cE _ _ z];exact h1 x ((i4.mp Y).resolve_left z)
  .rw[i8,bo,e,gf,k9,decide_eq_true_eq]
   exact⟨Z,h2⟩
theorem yq (F:(c :: cs).Nodup) (Y:m∈rm c) (B : ∀v∈rm c,m<=v) :
  (∃g,okF rm (c :: cs) g/\chB gap ((c :: cs).map g)=true)↔∃g,okF rm cs g/\chB gap (m :: cs.map g)=true:=by
 rw[md] at F
 constructor
 .rintro⟨g,h1,h2⟩
  exact⟨g,λx L=>h1 x (j6 _ L),uL (B _ (h1 c (by simp))) h2⟩
 .rintro⟨g,h1,h2⟩
  have e:cs.map (bN g c m)=cs.map g:=m4 λx L=>cE _ _ (λz=>F.1 (z ▸ L))
  refine⟨bN g c m,λx L=>?_,?_⟩
  .by_cases z:x=c
   .subst z;rw[bo];exact Y
   .rw[cE _ _ z];exact h1 x ((i4.mp L).resolve_left z)
  .rw[i8,bo,e]
   exact h2
def Du (rm:Str->List Int) (gap:Int) (cs:List Str) (j:Nat):Prop:=∃i,i < j/\∃c B,cs[i]? = some c/\cs[i+1]? = some B/\∃M∈rm c,∃m∈rm B,m < M+gap
theorem pZ {gap:Int} : ∀{vs:List Int},chB gap vs=false->∃i,∃a b,vs[i]? = some a/\vs[i+1]? = some b/\b < a+gap
 | [],h=>by cases h
 | [a],h=>by cases h
 | a :: b :: r,h=>by
  rw[gf,HV] at h;rcases h with h | h
  .exact⟨0,a,b,rfl,rfl,by simpa using h⟩
  .obtain⟨i,x,y,h1,h2,h3⟩:=pZ h
   exact⟨i+1,x,y,by simpa using h1,by simpa using h2,h3⟩
theorem xv {gap:Int} : ∀{vs:List Int} {i:Nat} {a b:Int},vs[i]? = some a->vs[i+1]? = some b->b < a+gap->chB gap vs=false
 | [],i,a,b,h,_,_=>by simp at h
 | [x],i,a,b,_,h,_=>by simp at h
 | x :: y :: r,0,a,b,h1,h2,h3=>by
  simp at h1 h2
  subst h1;subst h2;rw[gf,HV];exact .inl (by simpa using h3)
 | x :: y :: r,i+1,a,b,h1,h2,h3=>by
  rw[gf,HV];exact .inr (xv (vs:=y :: r) (i:=i) (by simpa using h1) (by simpa using h2) h3)
theorem xR (Z:cs.Nodup) (Y : ∀c∈cs,rm c≠[]) :
  (∃i c B,cs[i]? = some c/\cs[i+1]? = some B/\∃M∈rm c,∃m∈rm B,m < M+gap)↔∃g,okF rm cs g/\chB gap (cs.map g)=false:=by
 constructor
 .rintro⟨i,c,B,h1,h2,M,hM,m,hm,hlt⟩
  have L:c≠B:=λe=>by
   subst e;have:=fi Z h1 h2
   omega
  obtain⟨g,F,_⟩:=uy (rm:=rm) (cs:=[]) (g:=λ_=>0) (λc hc=>by simp at hc) Y
  refine⟨bN (bN g c M) B m,λx hx=>?_,?_⟩
  .by_cases e:x=B
   .subst e;rw[bo];exact hm
   .rw[cE _ _ e]
    by_cases e2:x=c
    .subst e2;rw[bo];exact hM
    .rw[cE _ _ e2];exact F x hx
  .refine xv (i:=i) (a:=M) (b:=m) ?_ ?_ hlt
   .rw[e9,h1,H_,cE _ _ L,bo]
   .rw[e9,h2,H_,bo]
 .rintro⟨g,F,hb⟩
  obtain⟨i,a,b,h1,h2,h3⟩:=pZ hb;rw[e9] at h1 h2;cases e1:cs[i]? with
  | none=>rw[e1] at h1;cases h1
  | some c =>
   cases e2:cs[i+1]? with
   | none=>rw[e2] at h2;cases h2
   | some B =>
    rw[e1] at h1;rw[e2] at h2;have h1:=fx h1;have h2:=fx h2;exact⟨i,c,B,e1,e2,g c,F c (fy e1),g B,F B (fy e2),()⟩
theorem lA (T:Txt w K mg) (L:cI K (gk K (ap mg "Wish") "__init__") "__init__" "Wish.__init__" bC ["self","wish"]):FnR P w K mg base (gk K (ap mg "Wish") "__init__") 1 ["self","wish"] (dh mg "Behind"):=by
 ctx_has z bP <;> obtain⟨p,dx,fs,w,rfl,hp,B,k⟩:=h
 .rfl
 refine⟨_,(ak (bB T.cl_Behind T.no_Behind_wish (pvM 0) (pvM 1) rfl)),?_⟩
 ctx_has v hp
 exact⟨B,k⟩
theorem jX (T:Txt w K mg) (L:cI K (Mk K (ap mg "Behind")) "__init__" "Behind.__init__" eC ["self","wish"]) (B:FnR P w K mg base (gk K (ap mg "Wish") "__init__") 1 ["self","wish"] (dh mg "Behind")):FnR P w K mg base (Mk K (ap mg "Behind")) 2 ["self","wish"] (wT mg "Behind"):=by
 ctx_has z kD <;> obtain⟨p,dx,w,dat,rfl,hp,hW,k⟩:=h
 .rfl
 refine⟨_,(af (cz (iw B (hr.mono (by ctx_has m)) rfl T.at_Wish (ac (pvM 0) (ac (pvM 1) ai))))
  (af (bB T.cl_Behind T.no_Behind_cells (pvM 0) (aG bw (pvM 1) aj) rfl)
  (ak (bB T.cl_Behind T.no_Behind_gap (pvM 0) (aG bw (pvM 1) aj) rfl)))),?_⟩
 obtain⟨cs,gap⟩:=dat;obtain⟨c,Z,h2⟩:=hW;ctx_has v Z
 have F:w≠p:=aX Z hp (by intro z;cases z)
 have Y:c≠p:=aX h2 hp (by intro z;cases z)
 refine⟨p,dx,[],.ref w,rfl,hp,∅,?_⟩
 ctx_has v ae
 refine⟨_,by rw[ah F];exact Z,?_⟩
 ctx_has v
 refine⟨dm (yz _ "" "" "" _ .non .non .non),_,by rw[ah F,ah F];exact Z,?_⟩
 ctx_has v
 refine⟨dm (yB _ _ "" "" _ _ .non .non),k _ ⟨dx,_,w,c,ae,⟨c,by rw[ah F,ah F,ah F];exact Z,by rw[ah Y,ah Y,ah Y];exact h2⟩,by rw[ah Y,ah Y,ah Y];exact h2,?_⟩ ?_⟩
 .simp only[bT,fP,String.reduceEq,if_true,if_false,true_and,H0,and_self]
 .intro b o hb e
  rw[ah hb,ah hb,ah hb];exact e
theorem ko (T:Txt w K mg) (L:cI K (aR K (ap mg "Behind") "may_keep") "may_keep" "Behind.may_keep" df ["self","rooms"]):FnR P w K mg base (aR K (ap mg "Behind") "may_keep") 22 ["self","rooms"] (eV mg):=by
 ctx_has z kK <;> obtain⟨p,r,dat,kvs,rm,rfl,M,k⟩:=h
 .rfl
 refine⟨_,(af (aD 2 (aE (qW rfl) T.b_min (ac (bH hu (pvM 1) (aG bw (aU T.cl_Behind T.no_Behind_cells (pvM 0)) aj)) ai)))
  (af (bq (bZ K (cP qT (aU T.cl_Behind T.no_Behind_cells (pvM 0)) (db aj) dN)) (aA 3) (af (gg 4 (N:=["value","least","self"]) (nt:=1) (js:=[2,0]) (aM ["self","rooms","least","cell","enough"] (ao df).names) (bZ K (bH hu (pvM 1) (pvM 3))) (aA 0) aV (dM (aL jP (aT bj (pvM 1) (aU T.cl_Behind T.no_Behind_gap (pvM 2))) (pvM 0))) (pvM 0))
  (af (bv (aL bR (aE bK T.b_len (ac (pvM 4) ai)) aj) (ak (aB de)) aO)
  (ak (aD 2 (aE (mP rfl) T.b_min (ac (pvM 4) ai)))))))
  (ak (aB de)))),?_⟩
 obtain⟨dx,fs,w,c,h1,h2,h3,l1,l2,l3,l4⟩:=M.ob;obtain⟨cs,gap⟩:=dat;have F:=M.ok;have aa:=M.ne;have ad:=M.rf;simp only[jB,DP] at F aa ad h3 l2 l3 k;cases cs with
 | nil=>exact absurd rfl F.1
 | cons c0 cs =>
  obtain⟨a0,au,a4⟩:=ad c0 (by simp)
  have ab:=M.rd;ctx_has v h1 l2 l3 h3 ab au a4
  refine⟨rm c0,rfl,(aa c0 (by simp)).1,λm0 ay Y=>?_⟩
  ctx_has v h1 l2 l3 h3 ab
  intro p2 H2 e2 s2
  replace e2:H2 p2>>(cs.map V.str):=by
   rw[e2];exact congrArg (λz=>some (HO.tup z)) (iz V.str (c0 :: cs) 1)
  ctx_has v e2
  refine bS aW (λi σ H3=>∃(L:Int) (v3 v4:Option V),σ=[-p,-r,some (.int L),v3,v4]/\aw H2 H3/\((∃g,okF rm (c0 :: cs) g/\chB gap ((c0 :: cs).map g)=true)↔∃g,okF rm (cs.drop i) g/\chB gap (L ::(cs.drop i).map g)=true))
   ⟨m0,_,_,rfl,aw.refl _,yq F.2.1 ay Y⟩ (λi σ H' ag=>by obtain⟨_,_,_,_,sm,_⟩:=ag;exact(.of (sm _ _ e2))) ?_ ?_
  .rintro i x σ H3 hi hx ⟨L,v3,v4,rfl,sm3,hiff⟩
   rw[c_] at hi;obtain⟨B,Z,rfl⟩ : ∃B,cs[i]? = some B/\V.str B=x:=by
    rw[e9] at hx;cases e:cs[i]? with
    | none=>rw[e] at hx;cases hx
    | some nm=>rw[e] at hx;exact⟨nm,rfl,fx hx⟩
   have am:B∈c0 :: cs:=j6 _ (fy Z)
   have ed:cs.drop i=B :: cs.drop (i+1):=by
    rw[List.drop_eq_getElem_cons hi];rw[k4 hi] at Z;rw[fx Z]
   have an:(B :: cs.drop (i+1)).Nodup:=by rw[<- ed];exact(md.mp F.2.1).2.sublist (List.drop_sublist _ _)
   obtain⟨a1,a6,ax⟩:=ad B am;have a3:=sm3 _ _ (s2 _ _ h1);have a5:=sm3 _ _ (s2 _ _ ab);have ah:=sm3 _ _ (s2 _ _ ax);ctx_has v a5 a6 ah
   intro q hq;refine cD aW (λv=>match v with | .int v=>decide (L+gap<=v) | _=>false) id hq (λH' s=>.of (s _ _ ah)) (by have:=aa B am;simp;omega) ?_ ?_ ?_
   .intro x H4 Q4 hx sm q4
    obtain⟨y,hy,rfl⟩:=hB.mp hx;have e1:=sm _ _ a3;ctx_has v e1 l3
    exact q4 H4 (aw.refl _)
   .intro x H4 Q4 hx _ sm q4
    ctx_has v
    exact q4 H4 (aw.refl _)
   .intro H4 sm4 h4
    have ar:H4 q*>(((rm B).filter λv=>decide (L+gap<=v)).map V.int):=by
     rw[h4,HZ,lb];rfl
    ctx_has v ar
    refine cV (λh0=>?_) (λh0=>?_)
    .refine k false H4 ?_ ((s2.trans sm3).trans sm4)
     simp only[gt,false_iff];intro hg;obtain⟨g,g1,g2⟩:=hiff.mp hg;rw[ed,i8,gf,k9,decide_eq_true_eq] at g2;have:g B∈(rm B).filter λv=>decide (L+gap<=v):=x4.mpr ⟨g1 B (by rw[ed];simp),by simpa using g2.1⟩
     have:=G2 this
     simp only[c_] at h0;omega
    .refine⟨_,rfl,λhn=>h0 (by rw[hn];rfl),λm hm aq=>?_⟩
     obtain⟨a2,a7⟩:=x4.mp hm;refine⟨sm3.trans sm4,?_⟩
     refine Iff.trans hiff ?_
     rw[ed];exact zW an a2 (by simpa using a7) λv hv az=>aq v (x4.mpr ⟨hv,by simpa using az⟩)
  .rintro σ H3 ⟨L,v3,v4,rfl,sm3,hiff⟩
   rw[c_,List.drop_length] at hiff;ctx_has v
   refine k true H3 ?_ (s2.trans sm3)
   simp only[true_iff];exact hiff.mpr ⟨λ_=>0,λc hc=>by simp at hc,rfl⟩
theorem jM (T:Txt w K mg) (L:cI K (aR K (ap mg "Behind") "may_break") "may_break" "Behind.may_break" cT ["self","rooms"]):FnR P w K mg base (aR K (ap mg "Behind") "may_break") 22 ["self","rooms"] (gI mg):=by
 ctx_has z jN <;> obtain⟨p,r,dat,kvs,rm,rfl,M,k⟩:=h
 .rfl
 refine⟨_,(af (aD 2 (vz rfl rfl T.b_list rfl T.b_zip (ac (aU T.cl_Behind T.no_Behind_cells (pvM 0)) (ac (cP qT (aU T.cl_Behind T.no_Behind_cells (pvM 0)) (db aj) dN) ai))))
  (ak (aB (aE (fU rfl) T.b_any (ac (br (N:=["ahead","later","rooms","self"]) (nt:=2) (js:=[1,0]) (aM ["self","rooms","pairs"] (ao cT).names) (gl K (pvM 2)) (jF (n:=2) rfl (cL (aA 0) (cL (aA 1) jD))) kF cy (bf nJ (aT bj (aE (xV rfl) T.b_max (ac (bH hu (pvM 2) (pvM 0)) ai)) (aU T.cl_Behind T.no_Behind_gap (pvM 3))) (aE (qW rfl) T.b_min (ac (bH hu (pvM 2) (pvM 1)) ai)))) ai))))),?_⟩
 obtain⟨dx,fs,w,c,h1,h2,h3,l1,l2,l3,l4⟩:=M.ob;obtain⟨cs,gap⟩:=dat;have ag:=M.ok;have Z:=M.ne;have ad:=M.rf;have a9:=M.rd;simp only[jB,DP] at ag Z ad h3 l2 l3 k;ctx_has v h1 l2 h3
 intro p2 H2 e2 s2;rw[show fG (cs.map V.str) (some 1) none=(cs.drop 1).map V.str from iz V.str cs 1] at e2
 have a1:=s2 _ _ h3;ctx_has v a1 e2
 refine⟨by rw[c_];omega,λpl ts H3 s3 aK aq hp=>?_⟩
 have B:=s2.trans s3;have a4:=B _ _ h1;have a7:=B _ _ a9;ctx_has v aq
 intro q hq;have aJ:ts.length=cs.length - 1:=by rw[hp.1];simp
 refine eI cm (λj ys H4=>∃bs:List Bool,ys=bs.map V.bl/\bs.length=j/\(true∈bs↔Du rm gap cs j)/\H4 q*>ys/\aw H3 H4)
  ⟨[],rfl,rfl,⟨λh=>by simp at h,λax=>by obtain⟨i,hi,_⟩:=ax;exact(absurd hi ())⟩,ae,aw.upd0 hq⟩ (λj ys H' ar=>by obtain⟨_,_,_,_,_,sm⟩:=ar;exact(.of (sm _ _ aq))) ?_ ?_
 .rintro j x ys H4 hj hx ⟨bs,rfl,hbl,hiff,h4,sm4⟩
  rw[c_] at hj;obtain⟨t,aI,rfl⟩ : ∃t,ts[j]? = some t/\V.ref t=x:=by
   rw[e9] at hx;cases e:ts[j]? with
   | none=>rw[e] at hx;cases hx
   | some nm=>rw[e] at hx;exact⟨nm,rfl,fx hx⟩
  obtain⟨ca,Y⟩ : ∃ca,cs[j]? = some ca:=⟨cs[j]'(),by simp⟩
  obtain⟨cb,F⟩ : ∃cb,cs[j+1]? = some cb:=⟨cs[j+1]'(),by simp⟩
  have ht:=hp.2 j t (.str ca) (.str cb) aI (by rw[e9,Y];rfl) (by rw[e9,List.getElem?_drop,Nat.add_comm,F];rfl)
  have aF:=sm4 _ _ ht;have am:ca∈cs:=fy Y
  have an:cb∈cs:=fy F
  obtain⟨aa,a6,a0⟩:=ad ca am;obtain⟨ab,aG,aH⟩:=ad cb an;have a8:=sm4 _ _ a7;have a2:=sm4 _ _ (B _ _ a0);have aC:=sm4 _ _ (B _ _ aH);have a5:=sm4 _ _ a4;ctx_has v aF a8 a6 aG a2 aC a5 l3
  refine⟨rm ca,rfl,(Z ca am).1,λM hM ay=>⟨rm cb,rfl,(Z cb an).1,λm hm az=>?_⟩⟩
  refine⟨h4,by rw[c_];exact aN (),bs++[decide (M+gap > m)],by simp,by simp;omega,?_,ae,λb o e=>by rw[ah (au e hq)];exact sm4 _ _ e⟩
  constructor
  .intro hb
   rcases i9.mp hb with z | z
   .obtain⟨i,hi,r⟩:=hiff.mp z
    exact⟨i,(),r⟩
   .exact⟨j,(),ca,cb,Y,F,M,hM,m,hm,by simpa using (e7.mp z).symm⟩
  .rintro⟨i,hi,c1,c2,e1,e2,M',hM',m',hm',hlt⟩
   by_cases a3:i=j
   .subst a3
    rw[Y] at e1;rw[F] at e2;cases e1;cases e2;have:=ay M' hM'
    have:=az m' hm'
    exact n9 _ (e7.mpr (by simp;omega))
   .exact ki _ (hiff.mpr ⟨i,(),c1,c2,e1,e2,M',hM',m',hm',hlt⟩)
 .rintro ys H4 ⟨bs,rfl,hbl,hiff,h4,sm4⟩
  rw[c_] at hbl hiff;ctx_has v
  refine⟨bs,h4,k _ H4 ?_ (B.trans sm4)⟩
  refine Iff.trans ?_ (xR (gap:=gap) ag.2.1 λc hc=>(Z c hc).1)
  have:bs.any id=true↔true∈bs:=by simp
  rw[this,hiff]
  constructor
  .rintro⟨i,hi,r⟩
   exact⟨i,r⟩
  .rintro⟨i,c1,c2,e1,e2,r⟩
   refine⟨i,?_,c1,c2,e1,e2,r⟩
   have:=(g_.mp e2).1
   omega
def dk (rm:Str->List Int) (cs:List Str):List (List Int):=cs.foldl (λps c=>ps.flatMap λp=>(rm c).map λv=>p++[v]) [[]]
theorem pX (rm:Str->List Int):dk rm []=[[]]:=rfl
theorem jy (rm:Str->List Int) (cs:List Str) (c:Str):dk rm (cs++[c])=(dk rm cs).flatMap λp=>(rm c).map λv=>p++[v]:=by simp[dk,foldl_append]
def yh (rm:Str->List Int) (cs:List Str) (p:List Int):Prop:=p.length=cs.length/\∀(i:Nat) c v,cs[i]? = some c->p[i]? = some v->v∈rm c
theorem lZ {P:List α->Prop} (B:P []) (F : ∀l a,P l->P (l++[a])) (l:List α):P l:=by
 rw[<- List.reverse_reverse l]
 induction l.reverse with
 | nil=>exact B
 | cons a r L=>rw[List.reverse_cons];exact F _ _ L
theorem ka (cs:List Str) : ∀{p:List Int},p∈dk rm cs↔yh rm cs p:=by
 refine lZ (P:=λcs=>∀{p:List Int},p∈dk rm cs↔yh rm cs p) ?_ ?_ cs
 .intro p
  rw[pX,e7]
  constructor
  .rintro rfl;exact⟨rfl,λi c v e=>by simp at e⟩
  .intro h;exact List.length_eq_zero_iff.mp h.1
 .intro cs c ih p
  rw[jy,mem_flatMap]
  constructor
  .rintro⟨q,hq,hp⟩
   obtain⟨v,F,rfl⟩:=hB.mp hp;obtain⟨h1,h2⟩:=ih.mp hq;refine⟨by simp[h1],λi x u e1 e2=>?_⟩
   by_cases hi:i < cs.length
   .rw[r_ hi] at e1
    rw[r_ (by rw[h1];exact hi)] at e2
    exact h2 i x u e1 e2
   .have hl:=(g_.mp e1).1
    have B:i=cs.length:=by simp at hl;omega
    subst B;rw[u_ (i6 _),sub_self] at e1;rw[<- h1,u_ (i6 _),sub_self] at e2;cases e1;cases e2;exact F
  .rintro⟨h1,h2⟩
   rcases HY p with rfl | ⟨q,v,rfl⟩
   .simp at h1
   .have hql:q.length=cs.length:=by simpa using h1
    refine⟨q,ih.mpr ⟨hql,λi x u e1 e2=>h2 i x u ?_ ?_⟩,hB.mpr ⟨v,?_,by simp⟩⟩
    .rw[r_ (g_.mp e1).1];exact e1
    .rw[G_,r_ (g_.mp e2).1];exact e2
    .exact h2 cs.length c v (by simp) (by rw[G_,<- hql];simp)
theorem lh (cs:List Str):(dk rm cs).length=(cs.map λc=>(rm c).length).foldl (· * ·) 1:=by
 refine lZ (P:=λcs=>(dk rm cs).length=(cs.map λc=>(rm c).length).foldl (· * ·) 1) ?_ ?_ cs
 .rfl
 .intro cs c ih
  rw[jy,v_,foldl_append,<- ih];have F : ∀ps:List (List Int),(ps.flatMap λp=>(rm c).map λv=>p++[v]).length=ps.length * (rm c).length:=λps=>by
   induction ps with
   | nil=>simp
   | cons p ps B=>rw[List.flatMap_cons,u9,c_,w_,Nat.succ_mul,B];omega
  rw[F];rfl
theorem sL (cs:List Str):(∀c∈cs,(rm c).Nodup)->(dk rm cs).Nodup:=by
 refine lZ (P:=λcs=>(∀c∈cs,(rm c).Nodup)->(dk rm cs).Nodup) ?_ ?_ cs
 .intro _;rw[pX];simp
 .intro cs c ih h
  rw[jy];have h1:=ih λx Z=>h x (ki _ Z)
  have h2:=h c (by simp)
  generalize dk rm cs=ps at h1
  induction ps with
  | nil=>simp
  | cons p ps B =>
   rw[md] at h1;rw[List.flatMap_cons,t7];refine⟨?_,B h1.2,λa ha b L e=>?_⟩
   .clear B
    generalize rm c=vs at h2
    induction vs with
    | nil=>simp
    | cons v vs F =>
     rw[md] at h2;rw[i8,md];refine⟨λhm=>?_,F h2.2⟩
     obtain⟨u,hu,e⟩:=hB.mp hm;have:=List.append_inj_right' e rfl
     simp at this
     exact h2.1 (this ▸ hu)
   .obtain⟨v,_,rfl⟩:=hB.mp ha
    obtain⟨q,Y,L⟩:=mem_flatMap.mp L;obtain⟨u,_,rfl⟩:=hB.mp L;have:=List.append_inj_left' e rfl
    exact h1.1 (this ▸ Y)
theorem tU (h:okF rm cs g):yh rm cs (cs.map g):=⟨by simp,λi c v e1 e2=>by
 rw[e9,e1] at e2;cases e2;exact h c (fy e1)⟩
theorem vd {p:List Int} (hn:cs.Nodup) (h:yh rm cs p) : ∃g,okF rm cs g/\cs.map g=p:=by
 refine⟨λc=>p.getD (cs.idxOf c) 0,λc F=>?_,?_⟩
 .have hl:=List.idxOf_lt_length_iff.mpr F
  have hp:cs.idxOf c < p.length:=by rw[h.1];exact hl
  have e1:cs[cs.idxOf c]? = some c:=by rw[k4 hl];simp
  have e2:p[cs.idxOf c]? = some (p.getD (cs.idxOf c) 0):=by simp[k4 hp]
  exact h.2 _ c _ e1 e2
 .apply List.ext_getElem?
  intro i;rw[e9]
  by_cases hi:i < cs.length
  .rw[k4 hi,H_]
   have B:cs.idxOf cs[i]=i:=by
    have hl:=List.idxOf_lt_length_iff.mpr (He hi);have e1:cs[cs.idxOf cs[i]]? = some cs[i]:=by rw[k4 hl];simp
    exact fi hn e1 (by simp)
   rw[B];have hp:i < p.length:=by rw[h.1];exact hi
   simp[k4 hp]
  .rw[List.getElem?_eq_none (),List.getElem?_eq_none (by rw[h.1];omega)]
   rfl
abbrev iP:=List Str × List (List Int)
def io (dat:iP):List Str:=dat.1
def BR (dat:iP):Prop:=dat.1≠[]/\dat.1.Nodup/\dat.1.length<=12/\dat.2.Nodup/\(∀r∈dat.2,r.length=dat.1.length)/\dat.2.length<=60
def jq (dat:iP) (g:Str->Int):Bool:=decide (dat.1.map g∈dat.2)
def WST (H:Hp) (w:Addr) (dat:iP):Prop:=∃c t vs,H w>>[.str "table",.ref c,.ref t]/\H c>>(dat.1.map V.str)/\H t>>vs/\dW H vs dat.2
theorem A0 {w:Addr} {dat:iP} (h:WST H w dat) (k:fY H H'):WST H' w dat:=by
 obtain⟨c,t,vs,h1,h2,F,B⟩:=h;exact⟨c,t,vs,k.tup _ _ h1,k.tup _ _ h2,k.tup _ _ F,B.keep k.tup⟩
def OBT (mg:Str->Option Value) (H:Hp) (p:Addr) (dat:iP):Prop:=∃dx fs w c t vs,H p=some (.ins (ap mg "Table") dx fs)/\WST H w dat/\H c>>(dat.1.map V.str)/\H t>>vs/\dW H vs dat.2/\fs.lookup (b_ "wish")=some (.ref w)/\fs.lookup (b_ "cells")=some (.ref c)/\fs.lookup (b_ "rows")=some (.ref t) /\
 fs.lookup (b_ "kept")=none/\fs.lookup (b_ "may_keep")=none/\fs.lookup (b_ "may_break")=none/\fs.lookup (b_ "has_room")=none/\fs.lookup (b_ "rows_in")=none
theorem zC {dat:iP} (h:OBT mg H p dat) (k:fY H H'):OBT mg H' p dat:=by
 obtain⟨dx,fs,w,c,t,vs,h1,h2,L,F,B,r⟩:=h;exact⟨dx,fs,w,c,t,vs,k.ins _ _ _ _ h1,A0 h2 k,k.tup _ _ L,k.tup _ _ F,B.keep k.tup,r⟩
theorem xt {dat:iP} (h:OBT mg H p dat) : ∃dx fs,H p=some (.ins (ap mg "Table") dx fs)/\fs.lookup (b_ "kept")=none/\fs.lookup (b_ "may_keep")=none/\fs.lookup (b_ "may_break")=none:=by
 obtain⟨dx,fs,w,c,t,vs,h1,h2,h3,Z,Y,_,_,_,F,B,L,_⟩:=h;exact⟨dx,fs,h1,F,B,L⟩
structure kL (mg:Str->Option Value) (H:Hp) (p r:Addr) (dat:iP) (kvs:List (Key × V)) (rm:Str->List Int):Prop where
 ob:OBT mg H p dat
 rd:H r<*kvs
 rf:aZ H kvs (io dat) rm
 ok:BR dat
 ne : ∀c∈io dat,rm c≠[]/\(rm c).length<=10/\(rm c).Pairwise (· < ·)
theorem kL.same {mg:Str->Option Value} {H H':Hp} {p r:Addr} {dat:iP} {kvs:List (Key × V)} {rm:Str->List Int} (h:kL mg H p r dat kvs rm) (s:aw H H'):kL mg H' p r dat kvs rm :=
 ⟨zC h.ob (aw.keepTI s),s _ _ h.rd,h.rf.same (λa vs e=>s _ _ e),h.ok,h.ne⟩
def eW (mg:Str->Option Value):Sp:=λvs H Q _=>∃(p r:Addr) (dat:iP) (kvs:List (Key × V)) (rm:Str->List Int),vs=[.ref p,.ref r]/\kL mg H p r dat kvs rm/\∀(b:Bool) H',(b=true↔∃g,okF rm (io dat) g/\jq dat g=true)->aw H H'->Q (.bl b) H'
def gF (mg:Str->Option Value):Sp:=λvs H Q _=>∃(p r:Addr) (dat:iP) (kvs:List (Key × V)) (rm:Str->List Int),vs=[.ref p,.ref r]/\kL mg H p r dat kvs rm/\∀(b:Bool) H',(b=true↔∃g,okF rm (io dat) g/\jq dat g=false)->aw H H'->Q (.bl b) H'
def xC (mg:Str->Option Value) (C:Str):Sp:=λvs H Q _=>∃(p dx w:Addr) (dat:iP),vs=[.ref p,.ref w]/\H p=some (.ins (ap mg C) dx [])/\WST H w dat/\∀H',OBT mg H' p dat->fX p H H'->Q .non H'
theorem uu (l:List Int):l.map (B0 ∘ V.int)=l:=(m4 (g:=id) λ_ _=>rfl).trans (map_id l)
def gx (rm:Str->List Int) (cs:List Str) (r:List Int):Bool:=(zipWith (λc v=>decide (v∈rm c)) cs r).all id
theorem gX {rm:Str->List Int} : ∀{cs:List Str} {r:List Int},r.length=cs.length->(gx rm cs r=true↔yh rm cs r)
 | [],[],_=>by simp[gx,yh]
 | [],_ :: _,h=>by simp at h
 | _ :: _,[],h=>by simp at h
 | c :: cs,v :: r,h=>by
  have B:=gX (rm:=rm) (cs:=cs) (r:=r) (by simpa using h)
  have e:gx rm (c :: cs) (v :: r)=(decide (v∈rm c) && gx rm cs r):=by simp[gx]
  rw[e,k9,decide_eq_true_eq,B]
  constructor
  .rintro⟨h1,h2,h3⟩
   refine⟨by simp[h2],λi x u e1 e2=>?_⟩
   cases i with
   | zero=>simp at e1 e2;subst e1;subst e2;exact h1
   | succ i=>exact h3 i x u (by simpa using e1) (by simpa using e2)
  .rintro⟨h2,h3⟩
   exact⟨h3 0 c v rfl rfl,by simpa using h2,λi x u e1 e2=>h3 (i+1) x u (by simpa using e1) (by simpa using e2)⟩
def AC (mg:Str->Option Value):Sp:=λvs H Q _=>∃(p t r:Addr) (dat:iP) (kvs:List (Key × V)) (rm:Str->List Int) (B:List Int),vs=[.ref p,.ref t,.ref r]/\kL mg H p r dat kvs rm/\H t>>(B.map V.int)/\∀H',aw H H'->Q (.bl (gx rm (io dat) B)) H'
def mD (mg:Str->Option Value):Sp:=λvs H Q _=>∃(p r:Addr) (dat:iP) (kvs:List (Key × V)) (rm:Str->List Int),vs=[.ref p,.ref r]/\kL mg H p r dat kvs rm/\∀(l:Addr) (vs:List V) H',aw H H'->H' l*>vs->vs.length=(dat.2.filter (gx rm dat.1)).length->Q (.ref l) H'
theorem wN {dat:iP} (B:BR dat):0 < (dat.2.filter (gx rm dat.1)).length↔∃g,okF rm dat.1 g/\jq dat g=true:=by
 constructor
 .intro h
  obtain⟨r,Y⟩:=List.exists_mem_of_length_pos h;obtain⟨h1,h2⟩:=x4.mp Y;obtain⟨g,F,L⟩:=vd B.2.1 ((gX (B.2.2.2.2.1 r h1)).mp h2);exact⟨g,F,by unfold jq;rw[L];simpa using h1⟩
 .rintro⟨g,F,L⟩
  have Z:dat.1.map g∈dat.2:=by simpa [jq] using L
  exact G2 (x4.mpr ⟨Z,(gX (by simp)).mpr (tU F)⟩)
theorem uC {dat:iP} (F:BR dat) (ad : ∀c∈dat.1,(rm c).Nodup):(dat.2.filter (gx rm dat.1)).length < (dk rm dat.1).length↔∃g,okF rm dat.1 g/\jq dat g=false:=by
 have ac:(dat.2.filter (gx rm dat.1)).Nodup:=F.2.2.2.1.sublist List.filter_sublist
 have ab : ∀r∈dat.2.filter (gx rm dat.1),r∈dk rm dat.1:=λr Z=>by
  obtain⟨h1,h2⟩:=x4.mp Z;exact(ka dat.1).mpr ((gX (F.2.2.2.2.1 r h1)).mp h2)
 constructor
 .intro h
  have : ∃p∈dk rm dat.1,p∉dat.2.filter (gx rm dat.1):=by
   refine nH λaa=>?_
   have L : ∀p∈dk rm dat.1,p∈dat.2.filter (gx rm dat.1):=λp hp=>nH λhn=>aa ⟨p,hp,hn⟩
   have:=eB (sL dat.1 ad) L
   omega
  obtain⟨p,hp,af⟩:=this;have B:=(ka dat.1).mp hp;obtain⟨g,g1,g2⟩:=vd F.2.1 B;refine⟨g,g1,?_⟩
  unfold jq;rw[g2,decide_eq_false_iff_not];exact λhm=>af (x4.mpr ⟨hm,(gX B.1).mpr B⟩)
 .rintro⟨g,g1,g2⟩
  have hm:dat.1.map g∉dat.2:=by simpa [jq] using g2
  have hp:dat.1.map g∈dk rm dat.1:=(ka dat.1).mpr (tU g1)
  have Y:(dat.1.map g :: dat.2.filter (gx rm dat.1)).Nodup:=md.mpr ⟨λhx=>hm (x4.mp hx).1,ac⟩
  have:=eB Y (λr Z=>by
   rcases i4.mp Z with rfl | Z
   .exact hp
   .exact ab r Z)
  simp at this
  omega
theorem ly (T:Txt w K mg) (L:cI K (gk K (ap mg "Wish") "__init__") "__init__" "Wish.__init__" bC ["self","wish"]):FnR P w K mg base (gk K (ap mg "Wish") "__init__") 1 ["self","wish"] (dh mg "Table"):=by
 ctx_has z bP <;> obtain⟨p,dx,fs,w,rfl,hp,B,k⟩:=h
 .rfl
 refine⟨_,(ak (bB T.cl_Table T.no_Table_wish (pvM 0) (pvM 1) rfl)),?_⟩
 ctx_has v hp
 exact⟨B,k⟩
theorem lg (T:Txt w K mg) (L:cI K (Mk K (ap mg "Table")) "__init__" "Table.__init__" eZ ["self","wish"]) (B:FnR P w K mg base (gk K (ap mg "Wish") "__init__") 1 ["self","wish"] (dh mg "Table")):FnR P w K mg base (Mk K (ap mg "Table")) 2 ["self","wish"] (xC mg "Table"):=by
 ctx_has z kY <;> obtain⟨p,dx,w,dat,rfl,hp,hW,k⟩:=h
 .rfl
 refine⟨_,(af (cz (iw B (hr.mono (by ctx_has m)) rfl T.at_Wish (ac (pvM 0) (ac (pvM 1) ai))))
  (af (bB T.cl_Table T.no_Table_cells (pvM 0) (aG bw (pvM 1) aj) rfl)
  (ak (bB T.cl_Table T.no_Table_rows (pvM 0) (aG bw (pvM 1) aj) rfl)))),?_⟩
 obtain⟨cs,rows⟩:=dat;obtain⟨c,tr,vs,Y,h2,h3,h4⟩:=hW;ctx_has v Y
 have Z:w≠p:=aX Y hp (by intro z;cases z)
 have pt : ∀b xs,H b>>xs->b≠p:=λb xs e=>aX e hp (by intro z;cases z)
 refine⟨p,dx,[],.ref w,rfl,hp,∅,?_⟩
 ctx_has v ae
 refine⟨_,by rw[ah Z];exact Y,?_⟩
 ctx_has v
 refine⟨dm (yz _ "" "" "" _ .non .non .non),_,by rw[ah Z,ah Z];exact Y,?_⟩
 ctx_has v
 have F : ∀b xs o1 o2 o3,H b>>xs->upd (upd (upd H p o1) p o2) p o3 b>>xs:=λb xs o1 o2 o3 e=>by rw[ah (pt b xs e),ah (pt b xs e),ah (pt b xs e)];exact e
 refine⟨dm (yB _ _ "" "" _ _ .non .non),k _ ⟨dx,_,w,c,tr,vs,ae,⟨c,tr,vs,F _ _ _ _ _ Y,F _ _ _ _ _ h2,F _ _ _ _ _ h3,h4.keep λa xs e=>F _ _ _ _ _ e⟩,F _ _ _ _ _ h2,F _ _ _ _ _ h3,h4.keep λa xs e=>F _ _ _ _ _ e,?_⟩ ?_⟩
 .simp only[bT,fP,String.reduceEq,if_true,if_false,true_and,H0,and_self]
 .intro b o hb e
  rw[ah hb,ah hb,ah hb];exact e
theorem lM (T:Txt w K mg) (L:cI K (aR K (ap mg "Table") "has_room") "has_room" "Table.has_room" dv ["self","row","rooms"]):FnR P w K mg base (aR K (ap mg "Table") "has_room") 1 ["self","row","rooms"] (AC mg):=by
 ctx_has z lm <;> obtain⟨p,t,r,dat,kvs,rm,Y,rfl,M,ht,k⟩:=h
 .rfl
 refine⟨_,(ak (aB (aE (mW rfl) T.b_all (ac (br (N:=["cell","value","rooms"]) (nt:=2) (js:=[2]) (aM ["self","row","rooms"] (ao dv).names) (Eh (K:=K) rfl rfl T.b_zip (ac (aU T.cl_Table T.no_Table_cells (pvM 0)) (ac (pvM 1) ai))) (jF (n:=2) rfl (cL (aA 0) (cL (aA 1) jD))) kF cy (bf jh (pvM 1) (bH hu (pvM 2) (pvM 0)))) ai)))),?_⟩
 obtain⟨dx,fs,w,c,tr,vs,h1,h2,h3,h4,h5,l1,l2,l3,l4⟩:=M.ob;obtain⟨cs,rows⟩:=dat;have B:=M.rf;have ab:=M.rd;have F:=M.ok;simp only[io,BR] at F B h3 l2 k;ctx_has v h1 l2 h3 ht
 intro q hq;refine xW (λx y=>match x,y with | .str c,.int v=>.bl (decide (v∈rm c)) | _,_=>.non) hq h3 ht (by rw[c_];omega) ?_ ?_
 .intro x y H3 Q3 hx hy sm q3
  obtain⟨cx,aa,rfl⟩:=hB.mp hx;obtain⟨y,_,rfl⟩:=hB.mp hy;obtain⟨a1,ad,Z⟩:=B cx aa;have e1:=sm _ _ ab;have e2:=sm _ _ Z;ctx_has v e1 ad e2
  refine⟨rfl,cW _,?_⟩
  rw[eE];exact q3 H3 (aw.refl _)
 .intro H3 sm h3'
  ctx_has v
  refine⟨zipWith (λc v=>decide (v∈rm c)) cs Y,?_,k H3 sm⟩
  rw[h3',List.map_zipWith,List.zipWith_map]
theorem mI (T:Txt w K mg) (L:cI K (aR K (ap mg "Table") "rows_in") "rows_in" "Table.rows_in" dL ["self","rooms"]) (B:FnR P w K mg base (aR K (ap mg "Table") "has_room") 1 ["self","row","rooms"] (AC mg)):FnR P w K mg base (aR K (ap mg "Table") "rows_in") 2 ["self","rooms"] (mD mg):=by
 ctx_has z mj <;> obtain⟨p,r,dat,kvs,rm,rfl,M,k⟩:=h
 .rfl
 refine⟨_,(ak (aB (br (N:=["row","self","rooms"]) (nt:=1) (js:=[0,1]) (aM ["self","rooms"] (ao dL).names) (bZ K (aU T.cl_Table T.no_Table_rows (pvM 0))) (aA 0) aV (dM (gi (cp T.cl_Table B (hr.mono (by ctx_has m)) (pvM 1) (ac (pvM 0) (ac (pvM 2) ai))))) (pvM 0)))),?_⟩
 obtain⟨dx,fs,w,c,tr,vs,h1,h2,h3,h4,h5,l1,l2,l3,l4,l5,l6,l7,l8⟩:=M.ob;have Z:=M.ok;ctx_has v h1 l3 h4
 intro q hq;obtain⟨as,rfl,e2,Y⟩:=h5;refine cD aW (λv=>match v with | .ref a=>(match H a with | some (.tup xs)=>gx rm dat.1 (xs.map B0) | _=>false) | _=>false) id hq (λH' s=>.of (s _ _ h4)) (by have:=Z.2.2.2.2.2;rw[e2] at this;simp at this ⊢;omega) ?_ ?_ ?_
 .intro x H4 Q4 F sm q4
  obtain⟨y,hy,rfl⟩:=hB.mp F;have g1:=sm _ _ h1;ctx_has v g1 l7
  refine⟨p,y.1,r,dat,kvs,rm,y.2,rfl,M.same sm,sm _ _ (Y y hy),λH5 s5=>?_⟩
  have:=q4 H5 s5
  simp only[Y y hy,lb] at this;rw[uu] at this;exact⟨_,rfl,this⟩
 .intro x H4 Q4 F _ sm q4
  ctx_has v
  exact q4 H4 (aw.refl _)
 .intro H4 sm h4'
  refine k q _ H4 sm h4' ?_
  rw[c_,HZ,c_,e2,HZ,c_]
  congr 1
  refine List.filter_congr λx F=>?_
  simp only[Function.comp_apply,Y x F,lb];rw[uu]
theorem kS (T:Txt w K mg) (L:cI K (aR K (ap mg "Table") "may_keep") "may_keep" "Table.may_keep" eY ["self","rooms"]) (B:FnR P w K mg base (aR K (ap mg "Table") "rows_in") 2 ["self","rooms"] (mD mg)):FnR P w K mg base (aR K (ap mg "Table") "may_keep") 22 ["self","rooms"] (eW mg):=by
 ctx_has z ln <;> obtain⟨p,r,dat,kvs,rm,rfl,M,k⟩:=h
 .rfl
 refine⟨_,(ak (aB (bf nJ (aE bK T.b_len (ac (cp T.cl_Table B (hr.mono (by ctx_has m)) (pvM 0) (ac (pvM 1) ai)) ai)) aj))),?_⟩
 obtain⟨dx,fs,w,c,Z,vs,h1,h2,h3,h4,h5,l1,l2,l3,l4,l5,l6,l7,Y⟩:=M.ob;ctx_has v h1 Y
 refine⟨p,r,dat,kvs,rm,rfl,M,λl vs H1 F e1 hl=>?_⟩
 ctx_has v e1
 refine k _ H1 ?_ F
 refine Iff.trans ?_ (wN M.ok)
 rw[decide_eq_true_eq,hl];omega
theorem kE (T:Txt w K mg) (L:cI K (aR K (ap mg "Table") "may_break") "may_break" "Table.may_break" eA ["self","rooms"]) (B:FnR P w K mg base (aR K (ap mg "Table") "rows_in") 2 ["self","rooms"] (mD mg)):FnR P w K mg base (aR K (ap mg "Table") "may_break") 22 ["self","rooms"] (gF mg):=by
 ctx_has z kB <;> obtain⟨p,r,dat,kvs,rm,rfl,M,k⟩:=h
 .rfl
 refine⟨_,(af (aD 2 aj)
  (af (bq (bZ K (aU T.cl_Table T.no_Table_cells (pvM 0))) (aA 3) (ak (DX 2 (aE fW T.b_len (ac (bH hu (pvM 1) (pvM 3)) ai)) C8)))
  (ak (aB (bf wY (aE bK T.b_len (ac (cp T.cl_Table B (hr.mono (by ctx_has m)) (pvM 0) (ac (pvM 1) ai)) ai)) (pvM 2)))))),?_⟩
 obtain⟨dx,fs,w,c,tr,vs,h1,h2,h3,h4,h5,l1,l2,l3,l4,l5,l6,l7,l8⟩:=M.ob;have ao:=M.ok;have Y:=M.ne;have ab:=M.rf;have am:=M.rd;simp only[io] at Y ab;ctx_has v h1 l2 h3
 refine bS aW (λi σ H2=>∃(v3:Option V),σ=[-p,-r,some (.int ((dk rm (dat.1.take i)).length:Int)),v3]/\H2=H) ⟨_,by rfl,rfl⟩ (λi σ H2 Z=>by obtain⟨_,_,e⟩:=Z;exact(by rw[e];exact .of h3)) ?_ ?_
 .rintro i x σ H2 hi hx ⟨v3,rfl,rfl⟩
  obtain⟨F,aa,rfl⟩ : ∃F,dat.1[i]? = some F/\V.str F=x:=by
   rw[e9] at hx;cases e:dat.1[i]? with
   | none=>rw[e] at hx;cases hx
   | some nm=>rw[e] at hx;exact⟨nm,rfl,fx hx⟩
  have ad:F∈dat.1:=fy aa
  obtain⟨a1,an,ah⟩:=ab F ad;have ag:dat.1.take (i+1)=dat.1.take i++[F]:=by rw[j_,aa];rfl
  ctx_has v am an ah
  have aq:=(Y F ad).2.1;refine⟨.inr ⟨by rw[c_];omega,by rw[c_];omega⟩,?_⟩
  rw[ag,lh,lh,v_,foldl_append,c_];simp
 .rintro σ H2 ⟨v3,rfl,rfl⟩
  rw[c_,l_];ctx_has v h1 l8
  refine⟨p,r,dat,kvs,rm,rfl,M,λl vs H1 s1 e1 hl=>?_⟩
  ctx_has v e1
  refine k _ H1 ?_ s1
  refine Iff.trans ?_ (uC M.ok λc hc=>(Y c hc).2.2.imp λh=>by omega)
  rw[decide_eq_true_eq,hl];omega
abbrev li:=List Str × List (Int × Int × Int) × List Int
def gG (dat:li):List Str:=dat.1
def DW (dat:li):Prop:=dat.1≠[]/\dat.1.Nodup/\dat.1.length<=12/\(dat.2.1.map λx=>(x.1,x.2.1)).Nodup/\dat.2.1.length<=60/\dat.2.2.length<=60
def tz (dat:li) (g:Str->Int):Bool:=sD dat.2.2 (gN dat.2.1 (some 0) (dat.1.map g))
def WSW (H:Hp) (w:Addr) (dat:li):Prop:=∃c t e vs,H w>>[.str "way",.ref c,.ref t,.ref e]/\H c>>(dat.1.map V.str)/\H t>>vs/\lv H vs dat.2.1/\H e>>(dat.2.2.map V.int)
theorem AK {w:Addr} {dat:li} (h:WSW H w dat) (k:fY H H'):WSW H' w dat:=by
 obtain⟨c,t,e,vs,h1,h2,L,F,B⟩:=h;exact⟨c,t,e,vs,k.tup _ _ h1,k.tup _ _ h2,k.tup _ _ L,F.keep k.tup,k.tup _ _ B⟩
def OBW (mg:Str->Option Value) (H:Hp) (p:Addr) (dat:li):Prop:=∃dx fs w c e l,H p=some (.ins (ap mg "Way") dx fs)/\WSW H w dat/\H c>>(dat.1.map V.str)/\H e>>(dat.2.2.map V.int)/\H l=some (.dT (dC dat.2.1))/\fs.lookup (b_ "wish")=some (.ref w)/\fs.lookup (b_ "cells")=some (.ref c)/\fs.lookup (b_ "ends")=some (.ref e)/\fs.lookup (b_ "leads")=some (.ref l) /\
 fs.lookup (b_ "kept")=none/\fs.lookup (b_ "may_keep")=none/\fs.lookup (b_ "may_break")=none/\fs.lookup (b_ "states_behind")=none/\fs.lookup (b_ "last_states")=none
theorem yS {dat:li} (h:OBW mg H p dat) (k:fY H H'):OBW mg H' p dat:=by
 obtain⟨dx,fs,w,c,e,l,h1,h2,L,F,B,r⟩:=h;exact⟨dx,fs,w,c,e,l,k.ins _ _ _ _ h1,AK h2 k,k.tup _ _ L,k.tup _ _ F,k.dt _ _ B,r⟩
theorem xF {dat:li} (h:OBW mg H p dat) : ∃dx fs,H p=some (.ins (ap mg "Way") dx fs)/\fs.lookup (b_ "kept")=none/\fs.lookup (b_ "may_keep")=none/\fs.lookup (b_ "may_break")=none:=by
 obtain⟨dx,fs,w,c,e,l,h1,h2,h3,Z,Y,_,_,_,_,F,B,L,_⟩:=h;exact⟨dx,fs,h1,F,B,L⟩
structure wo (mg:Str->Option Value) (H:Hp) (p r:Addr) (dat:li) (kvs:List (Key × V)) (rm:Str->List Int):Prop where
 ob:OBW mg H p dat
 rd:H r<*kvs
 rf:aZ H kvs (gG dat) rm
 ok:DW dat
 ne : ∀c∈gG dat,rm c≠[]/\(rm c).length<=10/\(rm c).Pairwise (· < ·)
def eQ (mg:Str->Option Value):Sp:=λvs H Q _=>∃(p r:Addr) (dat:li) (kvs:List (Key × V)) (rm:Str->List Int),vs=[.ref p,.ref r]/\wo mg H p r dat kvs rm/\∀(b:Bool) H',(b=true↔∃g,okF rm (gG dat) g/\tz dat g=true)->aw H H'->Q (.bl b) H'
def gC (mg:Str->Option Value):Sp:=λvs H Q _=>∃(p r:Addr) (dat:li) (kvs:List (Key × V)) (rm:Str->List Int),vs=[.ref p,.ref r]/\wo mg H p r dat kvs rm/\∀(b:Bool) H',(b=true↔∃g,okF rm (gG dat) g/\tz dat g=false)->aw H H'->Q (.bl b) H'
def uZ (mg:Str->Option Value) (C:Str):Sp:=λvs H Q _=>∃(p dx w:Addr) (dat:li),vs=[.ref p,.ref w]/\H p=some (.ins (ap mg C) dx [])/\WSW H w dat/\DW dat/\∀H',OBW mg H' p dat->fX p H H'->Q .non H'
theorem kO (ps:List (Int × Int × Int)) (st:Option Int) (v:Int):lx ps st v∈none :: ps.map λx=>some x.2.2:=by
 cases st with
 | none=>exact k6
 | some s =>
  show(ps.find? λx=>decide (x.1=s/\x.2.1=v)).map (λx=>x.2.2)∈none :: ps.map λx=>some x.2.2
  cases e:ps.find? λx=>decide (x.1=s/\x.2.1=v) with
  | none=>exact k6
  | some x=>exact j6 _ (hB.mpr ⟨x,List.mem_of_find?_eq_some e,rfl⟩)
theorem uS {k:Option Int} (h:ks.Nodup):(qw ks k).Nodup:=by
 unfold qw
 split
 .exact h
 .rename_i hk
  rw[t7];exact⟨h,by simp,λa ha b B=>by rw[e7.mp B];rintro rfl;exact hk ha⟩
theorem yH {k x:Option Int}:x∈qw ks k↔x∈ks\/x=k:=by
 unfold qw
 split
 .rename_i hk
  exact⟨.inl,λh=>h.elim id λe=>e ▸ hk⟩
 .rw[i9,e7]
def zO (P:Program) (w:World) (mg:Str->Option Value):Sp:=λvs H Q _=>∃(p d r:Addr) (dat:li) (o:Obj) (ks:List (Option Int)) (F:List Int),vs=[.ref p,.ref d,.ref r]/\OBW mg H p dat/\DW dat/\H d=some (eN P w d o ks)/\H r>>(F.map V.int) /\
 ∀(q:Addr) (o':Obj) (B:List (Option Int)) H',aw H H'->H' q=some (eN P w q o' B)->B.length<=100->(∀L,L∈B↔∃k∈ks,∃v∈F,lx dat.2.1 k v=L)->Q (.ref q) H'
def sG (P:Program) (w:World) (mg:Str->Option Value):Sp:=λvs H Q _=>∃(p r:Addr) (dat:li) (kvs:List (Key × V)) (rm:Str->List Int),vs=[.ref p,.ref r]/\wo mg H p r dat kvs rm /\
 ∀(q:Addr) (o:Obj) (ks:List (Option Int)) H',aw H H'->H' q=some (eN P w q o ks)->ks.length<=100->(∀B,B∈ks↔∃g,okF rm (gG dat) g/\gN dat.2.1 (some 0) ((gG dat).map g)=B)->Q (.ref q) H'
theorem yg {ps:List (Int × Int × Int)} (hn:cs.Nodup) (hc:cs[i]? = some c) {ks F:List (Option Int)} (h : ∀B,B∈ks↔∃g,okF rm cs g/\gN ps (some 0) ((cs.map g).take i)=B) (h' : ∀B,B∈F↔∃k∈ks,∃v∈rm c,lx ps k v=B) :
  ∀B,B∈F↔∃g,okF rm cs g/\gN ps (some 0) ((cs.map g).take (i+1))=B:=λB=>by
 have aa:c∈cs:=fy hc
 have et : ∀g:Str->Int,(cs.map g).take (i+1)=(cs.map g).take i++[g c]:=λg=>by rw[j_,e9,hc];rfl
 have Z:c∉cs.take i:=λhm=>by
  have e2:cs.take (i+1)=cs.take i++[c]:=by rw[j_,hc];rfl
  have hd:(cs.take i++[c]).Nodup:=by rw[<- e2];exact hn.sublist (HH _ _)
  rw[t7] at hd;exact hd.2.2 _ hm _ (by simp) rfl
 rw[h']
 constructor
 .rintro⟨k,hk,v,hv,rfl⟩
  obtain⟨g,L,rfl⟩:=(h k).mp hk;refine⟨λx=>if x=c then v else g x,λx Y=>?_,?_⟩
  .by_cases e:x=c
   .subst e;simpa using hv
   .simpa [e] using L x Y
  .rw[et,kW]
   have e1:(cs.map λx=>if x=c then v else g x).take i=(cs.map g).take i:=by
    rw[<- map_take,<- map_take]
    apply m4
    intro x Y;have:x≠c:=λe=>Z (e ▸ Y)
    simp[this]
   rw[e1];simp[gN]
 .rintro⟨g,L,rfl⟩
  refine⟨_,(h _).mpr ⟨g,L,rfl⟩,g c,L c aa,?_⟩
  rw[et,kW];rfl
theorem zk (es:List Int) (k:Option Int):inV (oV k) (es.map V.int)=sD es k:=by
 cases k with
 | some s=>exact eE s es
 | none =>
  show inV .non (es.map V.int)=false
  induction es with
  | nil=>rfl
  | cons a es B=>rw[i8];unfold inV at B ⊢;rw[HX,B];rfl
theorem lF (T:Txt w K mg) (L:cI K (gk K (ap mg "Wish") "__init__") "__init__" "Wish.__init__" bC ["self","wish"]):FnR P w K mg base (gk K (ap mg "Wish") "__init__") 1 ["self","wish"] (dh mg "Way"):=by
 ctx_has z bP <;> obtain⟨p,dx,fs,w,rfl,hp,B,k⟩:=h
 .rfl
 refine⟨_,(ak (bB T.cl_Way T.no_Way_wish (pvM 0) (pvM 1) rfl)),?_⟩
 ctx_has v hp
 exact⟨B,k⟩
theorem ou (T:Txt w K mg) (L:cI K (Mk K (ap mg "Way")) "__init__" "Way.__init__" gv ["self","wish"]) (F:FnR P w K mg base (gk K (ap mg "Wish") "__init__") 1 ["self","wish"] (dh mg "Way")):FnR P w K mg base (Mk K (ap mg "Way")) 2 ["self","wish"] (uZ mg "Way"):=by
 ctx_has z on <;> obtain⟨p,dx,w,dat,rfl,hp,hW,ab,k⟩:=h
 .rfl
 refine⟨_,(af (cz (iw F (hr.mono (by ctx_has m)) rfl T.at_Wish (ac (pvM 0) (ac (pvM 1) ai))))
  (af (bB T.cl_Way T.no_Way_cells (pvM 0) (aG bw (pvM 1) aj) rfl)
  (af (bB T.cl_Way T.no_Way_ends (pvM 0) (aG bw (pvM 1) aj) rfl)
  (af (bB T.cl_Way T.no_Way_leads (pvM 0) Ae rfl)
  (ak (bq (bZ K (aG bw (pvM 1) aj)) (aA 2) (ak (CI hu (aU T.cl_Way T.no_Way_leads (pvM 0)) (cP qT (pvM 2) dN (db aj)) (aG bw (pvM 2) aj) rfl)))))))),?_⟩
 obtain⟨cs,ps,es⟩:=dat;obtain⟨c,t,e,vs,hw,h2,h3,h4,h5⟩:=hW;obtain⟨as,rfl,rfl,ag⟩:=h4;have aq:=ab.2.2.2.1;have an:=ab.2.2.2.2.1;have pt : ∀b xs,H b>>xs->b≠p:=λb xs e=>aX e hp (by intro z;cases z)
 have pw:=pt _ _ hw;ctx_has v hw
 refine⟨p,dx,[],.ref w,rfl,hp,∅,?_⟩
 ctx_has v ae
 refine⟨_,by rw[ah pw];exact hw,?_⟩
 ctx_has v
 refine⟨dm (yz _ "" "" "" _ .non .non .non),_,by rw[ah pw,ah pw];exact hw,?_⟩
 ctx_has v zx
 refine⟨dm (yB _ _ "" "" _ _ .non .non),λl hl=>?_⟩
 simp only[lH] at hl ⊢;have lp:l≠p:=λz=>by rw[z,ae] at hl;cases hl
 have Y:H l=none:=by rw[ah lp] at hl;exact hl
 refine⟨dx,_,by rw[ah (tj lp)];exact ae,dm (Co _ _ _ "" _ _ _ .non),_,by rw[ah pw,ah (au hw Y),ah pw];exact hw,_,rfl,t,rfl,_,by rw[ah (pt _ _ h3),ah (au h3 Y),ah (pt _ _ h3)];exact h3,?_⟩
 have lk:(ck "leads" (.ref l) (ck "ends" (.ref e) (ck "cells" (.ref c) (ck "wish" (.ref w) [])))).lookup (b_ "leads")=some (.ref l):=by simp only[bT,if_true]
 have B5 : ∀o1 o2,fX p H (upd (upd (upd H p o1) l (.dT [])) p o2):=λo1 o2 b o hb e=>by rw[ah hb,ah (au e Y),ah hb];exact e
 refine bS aW (λi σ H'=>∃v2,σ=[-p,-w,v2]/\fX p H H'/\H' p=some (.ins (ap mg "Way") dx (ck "leads" (.ref l) (ck "ends" (.ref e) (ck "cells" (.ref c) (ck "wish" (.ref w) [])))))/\H' l=some (.dT (dC ((as.map (·.2)).take i)))) ⟨_,rfl,B5 _ _,ae,by rw[ah lp];exact ae⟩ (λi σ H' ad=>by obtain⟨_,_,B,_⟩:=ad;exact(.of (B _ _ (pt _ _ h3) h3))) ?_ ?_
 .rintro i x σ H' hi Z ⟨v2,rfl,B,hpp,hd⟩
  obtain⟨y,hy,rfl⟩ : ∃y,as[i]? = some y/\V.ref y.1=x:=by
   rw[e9] at Z;cases e:as[i]? with
   | none=>rw[e] at Z;cases Z
   | some nm=>rw[e] at Z;exact⟨nm,rfl,fx Z⟩
  have aa:=ag y (fy hy);have am:=B _ _ (pt _ _ aa) aa;ctx_has v CQ am hpp lk
  intro q H2 hq s2;have ao:(as.map (·.2))[i]? = some y.2:=by rw[e9,hy];rfl
  refine⟨_,xL.t (k:=[i7 y.2.1,i7 y.2.2.1]) (s2 _ _ hd) hq ?_,λb o hb e=>?_,by rw[ah (tj lp)];exact s2 _ _ hpp,by rw[ae,vo aq ao]⟩
  .unfold dC
   rw[c_];exact o9 (List.length_take_le' _ _) (g7 (show(as.map (·.2)).length < 1000 by have:(as.map (·.2)).length<=60:=an;omega) ∅)
  .rw[ah (au e Y)]
   exact s2 _ _ (B b o hb e)
 .rintro σ H' ⟨v2,rfl,B,hpp,hd⟩
  rw[c_,show(as.map (·.2)).take as.length=as.map (·.2) from pb (by simp)] at hd
  have kt : ∀b xs,H b>>xs->H' b>>xs:=λb xs e=>B _ _ (pt _ _ e) e
  ctx_has v
  refine k _ ⟨dx,_,w,c,e,l,hpp,⟨c,t,e,_,kt _ _ hw,kt _ _ h2,kt _ _ h3,⟨as,rfl,rfl,λx Z=>kt _ _ (ag x Z)⟩,kt _ _ h5⟩,kt _ _ h2,kt _ _ h5,hd,?_⟩ B
  simp only[bT,fP,String.reduceEq,if_true,if_false,true_and,H0,and_self]
theorem jk (T : Txt w K mg) (L:cI K (aR K (ap mg "Way") "states_behind") "states_behind" "Way.states_behind" dD ["self","states","room"]):FnR P w K mg base (aR K (ap mg "Way") "states_behind") 1 ["self","states","room"] (zO P w mg):=by
  ctx_has z ja <;> obtain⟨p,d,r,dat,o,ks,rs,rfl,hO,ay,hd,ax,k⟩:=h
  . rfl
  refine⟨_,(af (aD 3 (xr (P:=P) (w:=w) rfl rfl gm))
    (af (bq (zR (P:=P) (w:=w) rfl rfl (pvM 1)) (aA 4) (ak (bq (bZ K (pvM 2)) (aA 5) (ak (yQ (P:=P) (w:=w) rfl rfl hu (pvM 3) (AW hu (aU T.cl_Way T.no_Way_leads (pvM 0)) (bW (ac (pvM 4) (ac (pvM 5) ai))) ⟨rfl,rfl,rfl,rfl⟩) de rfl)))))
    (ak (aB (pvM 3))))),?_⟩
  obtain⟨cs,ps,es⟩:=dat;obtain⟨dx,fs,wa,c,e,l,h1,h2,h3,h4,h5,l1,l2,l3,l4,l5⟩:=hO;have a2:ps.length<=60:=ay.2.2.2.2.1
  ctx_has v Ci sN
  intro q hq;refine⟨[],ae,∅,λo1=>?_⟩
  rw[lH];ctx_has v iN
  refine⟨o,ks,(aw.upd0 hq) _ _ hd,?_⟩
  refine bS Ax (λi σ H'=>∃o' Z v4 v5,σ=[-p,-d,-r,-q,v4,v5]/\aw H H'/\H' q=some (eN P w q o' Z)/\Z.Nodup/\(∀k',k'∈Z↔∃k∈ks.take i,∃v∈rs,lx ps k v=k')) ⟨_,[],_,_,rfl,aw.upd0 hq,ae,by simp,by simp⟩ (λi σ H' ao=>by obtain⟨_,_,_,_,_,sm,_⟩:=ao;exact(sm _ _ hd)) ?_ ?_
  . rintro i x σ H' hi hx ⟨o',Z,v4,v5,rfl,sm,ag,an,B⟩
    obtain⟨kk,a0,rfl⟩ : ∃y,ks[i]? = some y/\oV y=x:=by
      rw[e9] at hx;cases e:ks[i]? with
      | none=>rw[e] at hx;cases hx
      | some nm=>rw[e] at hx;exact⟨nm,rfl,fx hx⟩
    have a1:=sm _ _ ax;ctx_has v a1
    refine bS aW (λj σ H3=>∃o2 F v5,σ=[-p,-d,-r,-q,some (oV kk),v5]/\aw H H3/\H3 q=some (eN P w q o2 F)/\F.Nodup/\(∀k',k'∈F↔(∃k∈ks.take i,∃v∈rs,lx ps k v=k')\/∃v∈rs.take j,lx ps kk v=k')) ⟨_,_,_,rfl,sm,ag,an,λk'=>by rw[B];simp⟩ (λi σ H' aq=>by obtain⟨_,_,_,_,s3,_⟩:=aq;exact(.of (s3 _ _ ax))) ?_ ?_
    . rintro j x σ H3 hj hx ⟨o2,F,v5,rfl,s3,aj,aa,ab⟩
      obtain⟨v,hv,rfl⟩ : ∃v,rs[j]? = some v/\V.int v=x:=by
        rw[e9] at hx;cases e:rs[j]? with
        | none=>rw[e] at hx;cases hx
        | some nm=>rw[e] at hx;exact⟨nm,rfl,fx hx⟩
      have az:=s3 _ _ h1;have ar:=s3 _ _ h5;have ad:F.length < 1000:=by
        have:=eB (ys:=none :: ps.map λx=>some x.2.2) aa λk' am=>by
          rcases (ab k').mp am with⟨k0,_,v0,_,rfl⟩ | ⟨v0,_,rfl⟩
          . exact kO _ _ _
          . exact kO _ _ _
        simp at this
        omega
      ctx_has v AA Ah az l4
      refine⟨ps,ar,∅,λtp g1=>⟨(aw.upd0 g1) _ _ ar,kk,v,ae,_,rfl,o2,F,(aw.upd0 g1) _ _ aj,ad,λo'=>⟨λb o e=>?_,o',_,ae,uS aa,λk'=>?_⟩⟩⟩
      . rw[ah (au e hq)]
        exact(aw.upd0 g1) _ _ (s3 b o e)
      . rw[yH,ab,j_,hv]
        constructor
        . rintro((z | ⟨v0,Y,z⟩) | rfl)
          . exact .inl z
          . exact .inr ⟨v0,ki _ Y,z⟩
          . exact .inr ⟨v,n9 _ (by simp),rfl⟩
        . rintro(z | ⟨v0,Y,z⟩)
          . exact .inl (.inl z)
          . rcases i9.mp Y with Y | Y
            . exact .inl (.inr ⟨v0,Y,z⟩)
            . have e0:v0=v:=by simpa using Y
              subst e0;exact .inr z.symm
    . rintro σ H3 ⟨o2,F,v5,rfl,s3,aj,aa,ab⟩
      rw[c_,l_] at ab;refine⟨o2,F,_,_,rfl,s3,aj,aa,λk'=>?_⟩
      rw[ab,j_,a0]
      constructor
      . rintro(⟨k0,Y,z⟩ | z)
        . exact⟨k0,ki _ Y,z⟩
        . exact⟨kk,n9 _ (by simp),z⟩
      . rintro⟨k0,Y,z⟩
        rcases i9.mp Y with Y | Y
        . exact .inl ⟨k0,Y,z⟩
        . have e0:k0=kk:=by simpa using Y
          subst e0;exact .inr z
  . rintro σ H' ⟨o',Z,v4,v5,rfl,sm,ag,an,B⟩
    ctx_has v
    rw[c_,l_] at B;have ad:Z.length<=100:=by
      have:=eB (ys:=none :: ps.map λx=>some x.2.2) an λk' am=>by
        obtain⟨k0,_,v0,_,rfl⟩:=(B k').mp am;exact kO _ _ _
      simp at this
      omega
    exact k q o' Z H' sm ag ad B
theorem kA (T:Txt w K mg) (L:cI K (aR K (ap mg "Way") "last_states") "last_states" "Way.last_states" eK ["self","rooms"]) (B:FnR P w K mg base (aR K (ap mg "Way") "states_behind") 1 ["self","states","room"] (zO P w mg)):FnR P w K mg base (aR K (ap mg "Way") "last_states") 2 ["self","rooms"] (sG P w mg):=by
 ctx_has z kM <;> obtain⟨p,r,dat,kvs,rm,rfl,M,k⟩:=h
 .rfl
 refine⟨_,(af (aD 2 (xr (P:=P) (w:=w) rfl rfl (rY (gW aj de sQ) rfl rfl (by nofun) ∅)))
  (af (bq (bZ K (aU T.cl_Way T.no_Way_cells (pvM 0))) (aA 3) (ak (aD 2 (cp T.cl_Way B (hr.mono (by ctx_has m)) (pvM 0) (ac (pvM 2) (ac (bH hu (pvM 1) (pvM 3)) ai))))))
  (ak (aB (pvM 2))))),?_⟩
 obtain⟨dx,fs,wa,c,e,l,h1,h2,h3,h4,h5,l1,l2,l3,l4,l5,l6,l7,l8,l9⟩:=id M.ob;have F:=M.ok;have ao:=F.2.1;obtain⟨cs,ps,es⟩:=dat;ctx_has v Ci
 intro q hq;have em:iS ([]:List (Key × V)) [(i7 0,.bl true)]=[(i7 0,.bl true)]:=fh _ dH
 refine⟨ae,[(i7 0,.bl true)],rfl,∅,[0],by rw[ae,em];rfl,∅,λo=>?_⟩
 simp only[lH];refine⟨dx,fs,(aw.upd0 hq) _ _ h1,_,l2,c,rfl,_,(aw.upd0 hq) _ _ h3,?_⟩
 refine bS aW (λi σ H'=>∃q o ks v3,σ=[-p,-r,-q,v3]/\aw H H'/\H' q=some (eN P w q o ks)/\ks.length<=100/\(∀k',k'∈ks↔∃g,okF rm cs g/\gN ps (some 0) ((cs.map g).take i)=k')) ⟨q,o,[some 0],_,rfl,aw.upd0 hq,ae,∅,λk'=>?_⟩ (λi σ H' Y=>by obtain⟨_,_,_,_,_,s3,_⟩:=Y;exact(.of (s3 _ _ h3))) ?_ ?_
 .constructor
  .intro z
   refine⟨λc=>(rm c).headD 0,λc hc=>?_,(e7.mp z).symm⟩
   have:=(M.ne c hc).1
   show(rm c).headD 0∈rm c
   cases e:rm c with
   | nil=>exact absurd e this
   | cons a b=>simp
  .rintro⟨g,_,rfl⟩
   exact e7.mpr rfl
 .rintro i x σ H' hi hx ⟨q1,o1,ks,v3,rfl,sm,hq1,hkl,hmem⟩
  obtain⟨cc,Z,rfl⟩ : ∃y,cs[i]? = some y/\V.str y=x:=by
   rw[e9] at hx;cases e:cs[i]? with
   | none=>rw[e] at hx;cases hx
   | some nm=>rw[e] at hx;exact⟨nm,rfl,fx hx⟩
  have ah:=sm _ _ h1;have an:=sm _ _ M.rd;obtain⟨ad,hv,ag⟩:=M.rf cc (fy Z);ctx_has v ah an
  exact⟨l8,_,hv,p,q1,ad,(cs,ps,es),o1,ks,rm cc,rfl,yS M.ob (aw.keepTI sm),F,hq1,sm _ _ ag,λq2 o2 aq H2 s2 ab aa am=>⟨q2,rfl,sm.trans s2,o2,aq,ab,aa,yg ao Z hmem am⟩⟩
 .rintro σ H' ⟨q1,o1,ks,v3,rfl,sm,hq1,hkl,hmem⟩
  ctx_has v
  rw[c_] at hmem;refine k q1 o1 ks H' sm hq1 hkl λk'=>?_
  rw[hmem]
  constructor
  .rintro⟨g,hg,z⟩
   exact⟨g,hg,by rw[pb (by simp)] at z;exact z⟩
  .rintro⟨g,hg,z⟩
   exact⟨g,hg,by rw[pb (by simp)];exact z⟩
theorem nN (T:Txt w K mg) (L:cI K (aR K (ap mg "Way") "may_keep") "may_keep" "Way.may_keep" eu ["self","rooms"]) (B:FnR P w K mg base (aR K (ap mg "Way") "last_states") 2 ["self","rooms"] (sG P w mg)):FnR P w K mg base (aR K (ap mg "Way") "may_keep") 22 ["self","rooms"] (eQ mg):=by
 ctx_has z nY <;> obtain⟨p,r,dat,kvs,rm,rfl,M,k⟩:=h
 .rfl
 refine⟨_,(ak (aB (aE (fU rfl) T.b_any (ac (br (N:=["state","self"]) (nt:=1) (js:=[0]) (aM ["self","rooms"] (ao eu).names) (zR (P:=P) (w:=w) rfl rfl (cp T.cl_Way B (hr.mono (by ctx_has m)) (pvM 0) (ac (pvM 1) ai))) (aA 0) aV cy (bf jh (pvM 0) (aU T.cl_Way T.no_Way_ends (pvM 1)))) ai)))),?_⟩
 obtain⟨dx,fs,wa,c,e,l,h1,h2,h3,h4,h5,l1,l2,l3,l4,l5,l6,l7,l8,l9⟩:=id M.ob;obtain⟨cs,ps,es⟩:=dat;ctx_has v h1 iN
 refine⟨l9,p,r,(cs,ps,es),kvs,rm,rfl,M,λq o ks H1 s1 hq hl hm=>⟨q,rfl,o,ks,hq,λD hD=>?_⟩⟩
 refine cM Ax (λv=>.bl (inV v (es.map V.int))) hD (λH' s'=>s' _ _ hq) (by rw[c_];omega) ?_ ?_
 .intro x H2 Q2 hx s2 q2
  obtain⟨kk,_,rfl⟩:=hB.mp hx;have Y:=s2 _ _ (s1 _ _ h1);have Z:=s2 _ _ (s1 _ _ h4);ctx_has v Y l3
  exact⟨_,Z,by cases kk <;> rfl,cW es,q2 H2 (aw.refl _)⟩
 .intro H2 s2 hd2
  refine⟨D,rfl,ks.map (λk=>sD es k),?_,k _ H2 ?_ (s1.trans s2)⟩
  .rw[hd2,lb,lb]
   refine congrArg (λz=>some (HO.lst z)) (m4 λF _=>?_)
   show V.bl (inV (oV F) (es.map V.int))=V.bl (sD es F)
   rw[zk]
  .rw[sn]
   constructor
   .rintro⟨b,hb,e⟩
    obtain⟨F,aa,rfl⟩:=hB.mp hb;obtain⟨g,hg,rfl⟩:=(hm F).mp aa;exact⟨g,hg,e⟩
   .rintro⟨g,hg,e⟩
    exact⟨_,hB.mpr ⟨_,(hm _).mpr ⟨g,hg,rfl⟩,rfl⟩,e⟩
theorem mX (T:Txt w K mg) (L:cI K (aR K (ap mg "Way") "may_break") "may_break" "Way.may_break" dJ ["self","rooms"]) (B:FnR P w K mg base (aR K (ap mg "Way") "last_states") 2 ["self","rooms"] (sG P w mg)):FnR P w K mg base (aR K (ap mg "Way") "may_break") 22 ["self","rooms"] (gC mg):=by
 ctx_has z mV <;> obtain⟨p,r,dat,kvs,rm,rfl,M,k⟩:=h
 .rfl
 refine⟨_,(ak (aB (aE (fU rfl) T.b_any (ac (br (N:=["state","self"]) (nt:=1) (js:=[0]) (aM ["self","rooms"] (ao dJ).names) (zR (P:=P) (w:=w) rfl rfl (cp T.cl_Way B (hr.mono (by ctx_has m)) (pvM 0) (ac (pvM 1) ai))) (aA 0) aV cy (bf qO (pvM 0) (aU T.cl_Way T.no_Way_ends (pvM 1)))) ai)))),?_⟩
 obtain⟨dx,fs,wa,c,e,l,h1,h2,h3,h4,h5,l1,l2,l3,l4,l5,l6,l7,l8,l9⟩:=id M.ob;obtain⟨cs,ps,es⟩:=dat;ctx_has v h1 iN
 refine⟨l9,p,r,(cs,ps,es),kvs,rm,rfl,M,λq o ks H1 s1 hq hl hm=>⟨q,rfl,o,ks,hq,λD hD=>?_⟩⟩
 refine cM Ax (λv=>.bl (!inV v (es.map V.int))) hD (λH' s'=>s' _ _ hq) (by rw[c_];omega) ?_ ?_
 .intro x H2 Q2 hx s2 q2
  obtain⟨kk,_,rfl⟩:=hB.mp hx;have Y:=s2 _ _ (s1 _ _ h1);have Z:=s2 _ _ (s1 _ _ h4);ctx_has v Y l3
  exact⟨_,Z,by cases kk <;> rfl,cW es,q2 H2 (aw.refl _)⟩
 .intro H2 s2 hd2
  refine⟨D,rfl,ks.map (λk=>!sD es k),?_,k _ H2 ?_ (s1.trans s2)⟩
  .rw[hd2,lb,lb]
   refine congrArg (λz=>some (HO.lst z)) (m4 λF _=>?_)
   show V.bl (!inV (oV F) (es.map V.int))=V.bl (!sD es F)
   rw[zk]
  .rw[sn]
   constructor
   .rintro⟨b,hb,e⟩
    obtain⟨F,aa,rfl⟩:=hB.mp hb;obtain⟨g,hg,rfl⟩:=(hm F).mp aa;exact⟨g,hg,(by simpa [tz,gG] using e)⟩
   .rintro⟨g,hg,e⟩
    exact⟨_,hB.mpr ⟨_,(hm _).mpr ⟨g,hg,rfl⟩,rfl⟩,(by simpa [tz,gG] using e)⟩
abbrev mh:=List (Int × Str) × Option Int × Option Int
def WSS (H:Hp) (w:Addr) (dat:mh) (cs:List Str):Prop:=∃t,H w>>[.str "sum",.ref t,bV dat.2.1,bV dat.2.2]/\iF H t dat.1
def DN (dat:mh) (cs:List Str):Prop:=dat.1.map (·.2)=cs/\cs≠[]/\∀x∈dat.1,-1000000<=x.1/\x.1<=1000000
def OBS (mg:Str->Option Value) (H:Hp) (t:Addr) (dat:mh) (cs:List Str):Prop:=∃dx fs te,H t=some (.ins (ap mg "Sum") dx fs)/\iF H te dat.1/\fs.lookup (b_ "terms")=some (.ref te)/\fs.lookup (b_ "low")=some (bV dat.2.1)/\fs.lookup (b_ "high")=some (bV dat.2.2) /\
 fs.lookup (b_ "may_keep")=none/\fs.lookup (b_ "may_break")=none/\fs.lookup (b_ "may_end_well")=none/\fs.lookup (b_ "sums_with")=none/\fs.lookup (b_ "sums_kept")=none
theorem xh {t:Addr} {dat:mh} (h:OBS mg H t dat cs) : ∃dx fs,H t=some (.ins (ap mg "Sum") dx fs)/\fs.lookup (b_ "may_keep")=none/\fs.lookup (b_ "may_break")=none:=by
 obtain⟨dx,fs,te,h1,h2,Z,Y,L,B,F,_⟩:=h;exact⟨dx,fs,h1,B,F⟩
theorem ua {t:Addr} {dat:mh} (h:OBS mg H t dat cs) (k:fY H H'):OBS mg H' t dat cs:=by
 obtain⟨dx,fs,te,h1,h2,B⟩:=h;exact⟨dx,fs,te,k.ins _ _ _ _ h1,h2.keep k.tup,B⟩
def eU (ts:List (Int × Str)) (g:Str->Int):Int:=(ts.map λx=>x.1 * g x.2).sum
def sx (dat:mh) (cs:List Str) (g:Str->Int):Bool:=dG (eU dat.1 g) dat.2.1 dat.2.2
def xx (mg:Str->Option Value):Sp:=λvs H Q _=>∃(p dx w:Addr) (dat:mh) (cs:List Str),vs=[.ref p,.ref w]/\H p=some (.ins (ap mg "Sum") dx [])/\WSS H w dat cs/\∀H',OBS mg H' p dat cs->fX p H H'->Q .non H'
structure wJ (mg:Str->Option Value) (H:Hp) (p r:Addr) (dat:mh) (cs:List Str) (kvs:List (Key × V)) (rm:Str->List Int):Prop where
 ob:OBS mg H p dat cs
 rd:H r<*kvs
 rf:aZ H kvs cs rm
 ok:DN dat cs
 nd:cs.Nodup
 cl:cs.length<=5
 gd : ∀c∈cs,1<=(rm c).length/\(rm c).length<=4/\(rm c).Nodup
def eX (mg:Str->Option Value):Sp:=λvs H Q _=>∃(p r:Addr) (dat:mh) (cs:List Str) (kvs:List (Key × V)) (rm:Str->List Int),vs=[.ref p,.ref r]/\wJ mg H p r dat cs kvs rm/\∀(b:Bool) H',(b=true↔∃g,okF rm cs g/\sx dat cs g=true)->aw H H'->Q (.bl b) H'
def gM (mg:Str->Option Value):Sp:=λvs H Q _=>∃(p r:Addr) (dat:mh) (cs:List Str) (kvs:List (Key × V)) (rm:Str->List Int),vs=[.ref p,.ref r]/\wJ mg H p r dat cs kvs rm/\∀(b:Bool) H',(b=true↔∃g,okF rm cs g/\sx dat cs g=false)->aw H H'->Q (.bl b) H'
structure di (rm:Str->List Int) (ts:List (Int × Str)) (lo hi:Int):Prop where
 bd : ∀g,okF rm (ts.map (·.2)) g->lo<=eU ts g/\eU ts g<=hi
 lo' : ∃g,okF rm (ts.map (·.2)) g/\eU ts g=lo
 hi' : ∃g,okF rm (ts.map (·.2)) g/\eU ts g=hi
theorem di.nil (rm:Str->List Int):di rm [] 0 0:=⟨λg _=>⟨Int.le_refl _,Int.le_refl _⟩,⟨λ_=>0,λc B=>by simp at B,rfl⟩,⟨λ_=>0,λc B=>by simp at B,rfl⟩⟩
theorem di.zero {hi:Int} (h:di rm [] lo hi):lo=0/\hi=0:=by
 obtain⟨g,_,e⟩:=h.lo';obtain⟨g',_,B⟩:=h.hi';exact⟨e.symm,B.symm⟩
theorem kb (a:Int) (c:Str) (ts:List (Int × Str)) (g:Str->Int):eU ((a,c) :: ts) g=a * g c+eU ts g:=by simp[eU]
theorem jY (h:c∉ts.map (·.2)):eU ts (bN g c v)=eU ts g:=by
 unfold eU;rw[m4 (f:=λx:Int × Str=>x.1 * bN g c v x.2) (g:=λx:Int × Str=>x.1 * g x.2) λx B=>by rw[cE _ _ (λe=>h (hB.mpr ⟨x,B,e⟩))]]
theorem rL (h:okF rm cs g) (B:v∈rm c):okF rm (c :: cs) (bN g c v):=λx F=>by
 by_cases e:x=c
 .subst e;rw[bo];exact B
 .rw[cE _ _ e];exact h x ((i4.mp F).resolve_left e)
theorem di.cons {hi a M:Int} (h:di rm ts lo hi) (Z:c∉ts.map (·.2)) (hm:m∈(rm c).map (a * ·)) (F : ∀x∈(rm c).map (a * ·),m<=x) (hM:M∈(rm c).map (a * ·)) (L : ∀x∈(rm c).map (a * ·),x<=M):di rm ((a,c) :: ts) (lo+m) (hi+M):=by
 refine⟨λg Y=>?_,?_,?_⟩
 .have h1:=h.bd g λx hx=>Y x (j6 _ hx)
  have h2:a * g c∈(rm c).map (a * ·):=hB.mpr ⟨g c,Y c (by simp),rfl⟩
  have h3:=F _ h2;have h4:=L _ h2;rw[kb];omega
 .obtain⟨g,g1,g2⟩:=h.lo'
  obtain⟨v,B,e⟩:=hB.mp hm;exact⟨bN g c v,rL g1 B,by rw[kb,bo,jY Z];have e:a * v=_:=e;omega⟩
 .obtain⟨g,g1,g2⟩:=h.hi'
  obtain⟨v,B,e⟩:=hB.mp hM;exact⟨bN g c v,rL g1 B,by rw[kb,bo,jY Z];have e:a * v=_:=e;omega⟩
def Bb:Sp:=λvs H Q _=>∃(t r F:Addr) (a:Int) (c:Str) (kvs:List (Key × V)) (B:List Int),vs=[.ref t,.ref r]/\H t>>[.int a,.str c]/\H r<*kvs/\bO kvs (ge c)=some (.ref F)/\H F>>(B.map V.int)/\(-1000000<=a/\a<=1000000)/\B.length<=10/\∀l H',aw H H'->H l=none->H' l*>((B.map (a * ·)).map V.int)->Q (.ref l) H'
def Au:Sp:=λvs H Q _=>∃(t r:Addr) (ts:List (Int × Str)) (kvs:List (Key × V)) (rm:Str->List Int),vs=[.ref t,.ref r]/\iF H t ts/\H r<*kvs/\aZ H kvs (ts.map (·.2)) rm/\(ts.map (·.2)).Nodup/\ts.length<=12/\(∀x∈ts,-1000000<=x.1/\x.1<=1000000)/\(∀c∈ts.map (·.2),rm c≠[]/\(rm c).length<=10) /\
 ∀(l:Addr) (zs:List (Addr × Int × Int)) H',aw H H'->H' l*>(zs.map λx=>V.ref x.1)->zs.length=ts.length+1->(∀x∈zs,H' x.1>>[.int x.2.1,.int x.2.2])->(∀(i:Nat) z,zs[i]? = some z->di rm (ts.drop i) z.2.1 z.2.2)->Q (.ref l) H'
def fJ (s mn B:Int) (lo hi:Option Int):Bool:=(match lo with | none=>true | some a=>decide (a<=s+B)) && (match hi with | none=>true | some b=>decide (s+mn<=b))
def As (mg:Str->Option Value):Sp:=λvs H Q _=>∃(p b:Addr) (s mn B:Int) (dat:mh) (cs:List Str),vs=[.ref p,.int s,.ref b]/\OBS mg H p dat cs/\H b>>[.int mn,.int B]/\Q (.bl (fJ s mn B dat.2.1 dat.2.2)) H
def nM (kvs:List (Key × V)):Prop:=∀x∈kvs,∃i:Int,x.1=i7 i
def fK (kvs:List (Key × V)) (s:Int):Prop:=(bO kvs (i7 s)).isSome=true
def wX (mg:Str->Option Value):Sp:=λvs H Q _=>∃(p r l b:Addr) (kvs:List (Key × V)) (ps:List Int) (mn F:Int) (dat:mh) (cs:List Str),vs=[.ref p,.ref r,.ref l,.ref b]/\OBS mg H p dat cs/\H r<*kvs/\nM kvs/\H l*>(ps.map V.int)/\H b>>[.int mn,.int F]/\kvs.length * ps.length<=100000 /\
 ∀(q:Addr) (B:List (Key × V)) H',aw H H'->H' q<*B->nM B->B.length<=kvs.length * ps.length->(∀s,fK B s↔∃e,fK kvs e/\∃x∈ps,s=e+x/\fJ s mn F dat.2.1 dat.2.2=true)->Q (.ref q) H'
theorem me {s:Int} (F:(∃v,(i7 s,v)∈kvs)):fK kvs s:=by
 obtain⟨v,B⟩:=F;unfold fK
 induction kvs with
 | nil=>simp at B
 | cons x kvs L =>
  by_cases e:x.1=i7 s
  .obtain⟨x1,x2⟩:=x
   simp only at e;subst e;rw[bz rfl];rfl
  .obtain⟨x1,x2⟩:=x
   rw[aS e];exact L ((i4.mp B).resolve_left λz=>e (congrArg Prod.fst z).symm)
theorem mL {s:Int} (h:fK kvs s) : ∃v,(i7 s,v)∈kvs:=by
 unfold fK at h
 induction kvs with
 | nil=>rw[dH] at h;cases h
 | cons x kvs L =>
  obtain⟨x1,F⟩:=x
  by_cases e:x1=i7 s
  .subst e;exact⟨F,by simp⟩
  .rw[aS e] at h
   obtain⟨v,B⟩:=L h;exact⟨v,j6 _ B⟩
theorem yD {s t:Int} {v:V}:fK (bm kvs (i7 t) v) s↔s=t\/fK kvs s:=by
 unfold fK;rw[hZ]
 by_cases e:s=t
 .subst e;simp
 .rw[if_neg (λz=>e (G8 z))];simp[e]
theorem nM.put {t:Int} {v:V} (h:nM kvs):nM (bm kvs (i7 t) v):=by
 intro x B;unfold bm at B
 split at B
 .obtain⟨y,hy,rfl⟩:=hB.mp B
  split
  .rename_i e;exact⟨t,e⟩
  .exact h y hy
 .rcases i9.mp B with q | q
  .exact h x q
  .rw[e7.mp q];exact⟨t,rfl⟩
theorem ir (as bs:List (Int × Str)) (g:Str->Int):eU (as++bs) g=eU as g+eU bs g:=by simp[eU]
theorem ue (ts:List (Int × Str)) (i:Nat) (g:Str->Int):eU ts g=eU (ts.take i) g+eU (ts.drop i) g:=by rw[<- ir,List.take_append_drop]
theorem Bp {mn B:Int} {lo:Option Int} (h:di rm (ts.drop i) mn B) (Y:okF rm (ts.map (·.2)) g) (L:dG (eU ts g) lo hi=true):fJ (eU (ts.take i) g) mn B lo hi=true:=by
 have h1:=h.bd g λc F=>Y c (by rw[map_drop] at F;exact List.mem_of_mem_drop F)
 have h2:=ue ts i g;cases lo <;> cases hi <;> simp[dG,fJ] at L ⊢
 .omega
 .omega
 .omega
theorem AY {s mn B:Int} {lo:Option Int} (h:di rm [] mn B):fJ s mn B lo hi=dG s lo hi:=by
 obtain⟨rfl,rfl⟩:=h.zero;cases lo <;> cases hi <;> simp[dG,fJ]
theorem tO {a b:Int} {lo:Option Int} (h:di rm ts a b):(!dG a lo hi || !dG b lo hi)=true↔∃g,okF rm (ts.map (·.2)) g/\dG (eU ts g) lo hi=false:=by
 constructor
 .intro hb
  rw[Bool.or_eq_true,Bool.not_eq_true',Bool.not_eq_true'] at hb;rcases hb with hb | hb
  .obtain⟨g,g1,g2⟩:=h.lo'
   exact⟨g,g1,by rw[g2];exact hb⟩
  .obtain⟨g,g1,g2⟩:=h.hi'
   exact⟨g,g1,by rw[g2];exact hb⟩
 .rintro⟨g,g1,g2⟩
  have:=h.bd g g1
  refine nH λB=>?_
  have B:dG a lo hi=true/\dG b lo hi=true:=by
   cases e1:dG a lo hi <;> cases e2:dG b lo hi <;> simp[e1,e2] at B ⊢
  obtain⟨h1,h2⟩:=B;rw[Bool.eq_false_iff] at g2;refine g2 ?_
  cases lo <;> cases hi <;> simp[dG] at h1 h2 ⊢
  .omega
  .omega
  .omega
def uh (mg:Str->Option Value):Sp:=λvs H Q _=>∃(p r:Addr) (dat:mh) (cs:List Str) (kvs:List (Key × V)) (rm:Str->List Int),vs=[.ref p,.ref r]/\wJ mg H p r dat cs kvs rm/\∀(q:Addr) (B:List (Key × V)) H',H' q<*B->(0 < B.length↔∃g,okF rm cs g/\sx dat cs g=true)->aw H H'->Q (.ref q) H'
theorem Es (h:i<=5):4 ^ i<=1024:=gr (Nat.pow_le_pow_right ∅ h) ∅
theorem xZ (h : ∀c∈cs,1<=(rm c).length) : ∃g,okF rm cs g:=by
 refine⟨λc=>(rm c).headD 0,λc B=>?_⟩
 show(rm c).headD 0∈rm c
 have:=h c B
 cases e:rm c with
 | nil=>rw[e] at this;simp at this
 | cons a b=>simp
theorem Cq (h:okF rm cs g) (B:v∈rm c):okF rm cs (bN g c v):=λx F=>by
 by_cases e:x=c
 .subst e;rw[bo];exact B
 .rw[cE _ _ e];exact h x F
theorem kT (T:Txt w K mg) (L:cI K (gk K (ap mg "Wish") "__init__") "__init__" "Wish.__init__" bC ["self","wish"]):FnR P w K mg base (gk K (ap mg "Wish") "__init__") 1 ["self","wish"] (dh mg "Sum"):=by
 ctx_has z bP <;> obtain⟨p,dx,fs,w,rfl,hp,B,k⟩:=h
 .rfl
 refine⟨_,(ak (bB T.cl_Sum T.no_Sum_wish (pvM 0) (pvM 1) rfl)),?_⟩
 ctx_has v hp
 exact⟨B,k⟩
theorem nS (T:Txt w K mg) (L:cI K (Mk K (ap mg "Sum")) "__init__" "Sum.__init__" gh ["self","wish"]) (B:FnR P w K mg base (gk K (ap mg "Wish") "__init__") 1 ["self","wish"] (dh mg "Sum")):FnR P w K mg base (Mk K (ap mg "Sum")) 2 ["self","wish"] (xx mg):=by
 ctx_has z oh <;> obtain⟨p,dx,w,dat,cs,rfl,hp,W,k⟩:=h
 .rfl
 refine⟨_,(af (cz (iw B (hr.mono (by ctx_has m)) rfl T.at_Wish (ac (pvM 0) (ac (pvM 1) ai))))
  (af (bB T.cl_Sum T.no_Sum_terms (pvM 0) (aG bw (pvM 1) aj) rfl)
  (af (bB T.cl_Sum T.no_Sum_low (pvM 0) (aG bw (pvM 1) aj) rfl)
  (ak (bB T.cl_Sum T.no_Sum_high (pvM 0) (aG bw (pvM 1) aj) rfl))))),?_⟩
 obtain⟨ts,lo,hi⟩:=dat;obtain⟨t,Y,h2⟩:=W;ctx_has v Y
 have F:w≠p:=aX Y hp (by intro z;cases z)
 have pt : ∀b xs,H b>>xs->b≠p:=λb xs e=>aX e hp (by intro z;cases z)
 refine⟨p,dx,[],.ref w,rfl,hp,∅,?_⟩
 ctx_has v ae
 refine⟨_,by rw[ah F];exact Y,?_⟩
 ctx_has v
 refine⟨dm (yz _ "" "" "" _ .non .non .non),_,by rw[ah F,ah F];exact Y,?_⟩
 ctx_has v
 refine⟨dm (yB _ _ "" "" _ _ .non .non),_,by rw[ah F,ah F,ah F];exact Y,?_⟩
 ctx_has v
 refine⟨dm (Co _ _ _ "" _ _ _ .non),k _ ⟨dx,_,t,ae,h2.keep λa xs e=>by rw[ah (pt a xs e),ah (pt a xs e),ah (pt a xs e),ah (pt a xs e)];exact e,?_⟩ ?_⟩
 .simp only[bT,fP,String.reduceEq,if_true,if_false,true_and,H0,and_self]
 .intro b o hb e
  rw[ah hb,ah hb,ah hb,ah hb];exact e
abbrev DE:=Fn P w K mg base "parts_of" 1 ["term","rooms"] (Bb)
theorem va (T:Txt w K mg) (L:FnL K mg "parts_of" iB ["term","rooms"]) : @DE P w K mg base:=by
 ctx_has z tK <;> obtain⟨t,r,ad,a,c,kvs,rs,rfl,Z,F,hv,B,ha,hl,k⟩:=h
 .rfl
 refine⟨_,(ak (aB (br (N:=["value","term"]) (nt:=1) (js:=[0]) (aM ["term","rooms"] (ao iB).names) (bZ K (bH hu (pvM 1) (aG bw (pvM 0) aj))) (aA 0) aV cy (aT gU (aG bw (pvM 1) aj) (pvM 0))))),?_⟩
 ctx_has v Z F hv B
 intro q Y;refine cM aW (λv=>match v with | .int v=>.int (a * v) | _=>.non) Y (λH' s=>.of (s _ _ B)) (by rw[c_];omega) ?_ ?_
 .intro x H2 Q2 hx sm q2
  obtain⟨y,hy,rfl⟩:=hB.mp hx;have e1:=sm _ _ Z;ctx_has v e1
  exact⟨.inl ⟨(),()⟩,q2 H2 (aw.refl _)⟩
 .intro H2 sm h2
  refine k q H2 sm Y ?_
  rw[h2,lb,lb];rfl
abbrev Dz:=Fn P w K mg base "spans_of" 2 ["terms","rooms"] (Au)
theorem uR (T:Txt w K mg) (L:FnL K mg "spans_of" kC ["terms","rooms"]) (Fi : @DE P w K mg base) : @Dz P w K mg base:=by
 ctx_has z tQ <;> obtain⟨t,r,ts,kvs,rm,rfl,hT,aC,aF,aJ,hl,a7,a0,k⟩:=h
 .rfl
 refine⟨_,(af (aD 2 (cg (ac (bW (ac aj (ac aj ai))) ai)))
  (af (bq (Bz (K:=K) rfl rfl T.b_reversed (ac (pvM 0) ai)) (aA 3) (af (aD 4 (az Fi (ac (pvM 3) (ac (pvM 1) ai))))
  (ak (cz (iJ m5 m6 cK (pvM 2) (ac (bW (ac (aT bj (aG bw (aG fS (pvM 2) (no jv aj)) aj) (aE (mP rfl) T.b_min (ac (pvM 4) ai))) (ac (aT bj (aG bw (aG fS (pvM 2) (no jv aj)) aj) (aE (rn rfl) T.b_max (ac (pvM 4) ai))) ai))) ai))))))
  (ak (aB (pi rfl rfl T.b_list rfl T.b_reversed (pvM 2)))))),?_⟩
 obtain⟨as,ht,rfl,a4⟩:=hT;ctx_has v
 refine⟨∅,λz0 ar=>⟨∅,λq hq=>?_⟩⟩
 have s1:aw H (upd (upd H z0 (.tup [.int 0,.int 0])) q (.lst [.ref z0])):=(aw.upd0 ar).upd_new hq
 have zq:z0≠q:=by rintro rfl;rw[ae] at hq;cases hq
 have aH:H q=none:=(aw.upd0 ar).free hq
 refine⟨_,s1 _ _ ht,?_⟩
 have B:(as.map λx=>V.ref x.1).length=as.length:=by simp
 have aK:as.length<=12:=by simpa using hl
 refine bS Bs (λi σ H'=>∃(zs:List (Addr × Int × Int)) (v3 v4:Option V),σ=[-t,-r,-q,v3,v4]/\H' q*>(zs.map λx=>V.ref x.1)/\zs.length=i+1/\(∀x∈zs,H' x.1>>[.int x.2.1,.int x.2.2])/\(∀(j:Nat) z,zs[j]? = some z->di rm ((as.map (·.2)).drop (as.length - j)) z.2.1 z.2.2)/\aw H H')
  ⟨[(z0,0,0)],_,_,rfl,ae,rfl,λx hx=>?_,λj z Z=>?_,s1⟩ (λi σ H' ay=>by obtain⟨_,_,_,_,_,_,_,_,sm⟩:=ay;exact(.of (sm _ _ ht))) ?_ ?_
 .rw[e7.mp hx,ah zq];exact ae
 .have hj0:j=0:=by have:=(g_.mp Z).1;simp at this;omega
  subst hj0;simp at Z
  subst Z;rw[sub_zero,List.drop_of_length_le (by simp)]
  exact di.nil rm
 .rintro i x σ H2 hi hx ⟨zs,v3,v4,rfl,h2,hzl,hzt,hzo,sm2⟩
  rw[List.length_reverse,B] at hi;have Y:(as.map λx=>V.ref x.1)[as.length - 1 - i]? = some x:=by
   rw[HQ (by rw[B];exact hi),B] at hx;exact hx
  have an:as.length - 1 - i < as.length:=()
  obtain⟨y,hy,rfl⟩ : ∃y,as[as.length - 1 - i]? = some y/\V.ref y.1=x:=by
   rw[e9] at Y;cases e:as[as.length - 1 - i]? with
   | none=>rw[e] at Y;cases Y
   | some nm=>rw[e] at Y;exact⟨nm,rfl,fx Y⟩
  have ao:y∈as:=fy hy
  have ag:y.2.2∈(as.map (·.2)).map (·.2):=hB.mpr ⟨y.2,hB.mpr ⟨y,ao,rfl⟩,rfl⟩
  obtain⟨ad,hv,a5⟩:=aF _ ag;ctx_has v
  refine⟨y.1,r,ad,y.2.1,y.2.2,kvs,rm y.2.2,rfl,sm2 _ _ (a4 y ao),sm2 _ _ aC,hv,sm2 _ _ a5,a7 y.2 (hB.mpr ⟨y,ao,rfl⟩),(a0 _ ag).2,λpl H3 s3 a3 h3=>?_⟩
  have ap:=s3 _ _ h2;have aL:pl≠q:=λe=>by rw[e,h2] at a3;cases a3
  rcases HY zs with rfl | ⟨zs',zl,ezs⟩
  .simp at hzl
  rw[G_] at ezs;have am:atI (zs.map λx=>V.ref x.1) (-1)=some (V.ref zl.1):=by rw[ezs,v_];exact pz _ _
  have a1:zl∈zs:=by rw[ezs];simp
  have a2:=s3 _ _ (hzt zl a1);have ax:(rm y.2.2).map (y.2.1 * ·)≠[]:=λe=>(a0 _ ag).1 (List.map_eq_nil_iff.mp e)
  ctx_has v ap am a2 h3
  refine⟨_,rfl,ax,λm hm a8=>⟨_,rfl,ax,λM hM a6=>?_⟩⟩
  refine⟨∅,λzn a9=>?_⟩
  have s4:aw H3 (upd H3 zn (.tup [.int (zl.2.1+m),.int (zl.2.2+M)])):=aw.upd0 a9
  have aq:=s4 _ _ ap;have kt : ∀a xs,upd H3 zn (.tup [.int (zl.2.1+m),.int (zl.2.2+M)]) a>>xs->upd (upd H3 zn (.tup [.int (zl.2.1+m),.int (zl.2.2+M)])) q (.lst ((zs.map λx=>V.ref x.1)++[V.ref zn])) a>>xs:=λa xs e=>by rw[ah (aX e aq (by intro z;cases z))];exact e
  refine⟨_,aq,by rw[c_];exact aN (),zs++[(zn,zl.2.1+m,zl.2.2+M)],by rw[ae];simp,by simp[hzl],λx hx=>?_,λj z Z=>?_,λb o e=>?_⟩
  .rcases i9.mp hx with w | w
   .exact kt _ _ (s4 _ _ (s3 _ _ (hzt x w)))
   .rw[e7.mp w];exact kt _ _ ae
  .by_cases hjl:j < zs.length
   .rw[r_ hjl] at Z
    exact hzo j z Z
   .have hjn:j=zs.length:=by have:=(g_.mp Z).1;simp at this;omega
    subst hjn;rw[u_ (i6 _),sub_self] at Z;simp at Z
    subst Z;have ab:=hzo i zl (by rw[ezs,u_ (by rw[ezs] at hzl;simp at hzl;omega)];rw[ezs] at hzl;simp at hzl;simp[hzl])
    have ed:(as.map (·.2)).drop (as.length - zs.length)=(y.2.1,y.2.2) ::(as.map (·.2)).drop (as.length - i):=by
     rw[hzl,show as.length - (i+1)=as.length - 1 - i by omega,List.drop_eq_getElem_cons (by simp;omega),show as.length - 1 - i+1=as.length - i by omega]
     congr 1
     rw[List.getElem_map];rw[k4 an] at hy;rw[fx hy]
    rw[ed];refine ab.cons ?_ hm a8 hM a6
    have aa:(((as.map (·.2)).drop (as.length - zs.length)).map (·.2)).Nodup:=aJ.sublist ((List.drop_sublist _ _).map _)
    rw[ed,i8,md] at aa;exact aa.1
  .rw[ah (au e aH)];exact s4 _ _ (s3 _ _ (sm2 _ _ e))
 .rintro σ H2 ⟨zs,v3,v4,rfl,h2,hzl,hzt,hzo,sm2⟩
  rw[List.length_reverse,B] at hzl;ctx_has v h2
  intro lr aI;have s3:aw H2 (upd H2 lr (.lst (zs.map λx=>V.ref x.1).reverse)):=aw.upd0 aI
  refine k lr zs.reverse _ (sm2.trans s3) (by rw[ae,List.map_reverse]) (by simp[hzl]) (λx hx=>s3 _ _ (hzt x (List.mem_reverse.mp hx))) λi z hz=>?_
  have an:i < zs.length:=by have:=(g_.mp hz).1;simpa using this
  rw[HQ an] at hz;have:=hzo _ z hz
  rw[show as.length - (zs.length - 1 - i)=i by omega] at this
  exact this
theorem jJ (T:Txt w K mg) (L:cI K (aR K (ap mg "Sum") "may_end_well") "may_end_well" "Sum.may_end_well" dP ["self","reached","behind"]):FnR P w K mg base (aR K (ap mg "Sum") "may_end_well") 1 ["self","reached","behind"] (As mg):=by
 ctx_has z jH <;> obtain⟨p,b,s,mn,mx,dat,cs,rfl,Z,Y,k⟩:=h
 .rfl
 refine⟨_,(af (aD 3 (jT (kJ (kI (aU T.cl_Sum T.no_Sum_low (pvM 0)))) (dS (bf jP (aU T.cl_Sum T.no_Sum_low (pvM 0)) (aT bj (pvM 1) (aG bw (pvM 2) aj))))))
  (af (aD 4 (jT (kJ (kI (aU T.cl_Sum T.no_Sum_high (pvM 0)))) (dS (bf jP (aT bj (pvM 1) (aG bw (pvM 2) aj)) (aU T.cl_Sum T.no_Sum_high (pvM 0))))))
  (ak (aB (pv (pvM 3) (dS (pvM 4))))))),?_⟩
 obtain⟨dx,fs,te,h1,h2,l1,B,F,l4⟩:=Z;obtain⟨ts,lo,hi⟩:=dat;simp only at B F k;cases lo with
 | none =>
  cases hi with
  | none=>ctx_has v h1 B F Y bV decide_true decide_false gt;simpa [fJ] using k
  | some h=>ctx_has v h1 B F Y bV decide_true decide_false gt;simpa [fJ] using k
 | some a =>
  cases hi with
  | none =>
   ctx_has v h1 B F Y bV decide_true decide_false gt
   refine cV (λh=>?_) (λh=>?_)
   .simpa [fJ,h] using k
   .simpa [fJ,h] using k
  | some c =>
   ctx_has v h1 B F Y bV decide_true decide_false gt
   refine cV (λh=>?_) (λh=>?_)
   .simpa [fJ,h] using k
   .simpa [fJ,h] using k
theorem mS (T : Txt w K mg) (L:cI K (aR K (ap mg "Sum") "sums_with") "sums_with" "Sum.sums_with" fE ["self","reached","parts","behind"]) (B:FnR P w K mg base (aR K (ap mg "Sum") "may_end_well") 1 ["self","reached","behind"] (As mg)):FnR P w K mg base (aR K (ap mg "Sum") "sums_with") 2 ["self","reached","parts","behind"] (wX mg):=by
  ctx_has z lS <;> obtain⟨p,r,l,b,kvs,ps,mn,mx,dat,cs,rfl,hO,aa,a7,hl,hb,hsz,k⟩:=h
  . rfl
  refine⟨_,(af (aD 4 gm)
    (af (bq (gl K (pvM 2)) (aA 5) (ak (BA (bq (F3 (pvM 1)) (aA 6) (ak (bv (gi (cp T.cl_Sum B (hr.mono (by ctx_has m)) (pvM 0) (ac (aT bj (pvM 6) (pvM 5)) (ac (pvM 3) ai)))) (ak (gK hu (pvM 4) (aT bj (pvM 6) (pvM 5)) de rfl)) aO))))))
    (ak (aB (pvM 4))))),?_⟩
  ctx_has v
  intro q hq;have s0:aw H (upd H q (.dK [])):=aw.upd0 hq
  have rq:r≠q:=au aa hq
  refine⟨_,s0 _ _ hl,?_⟩
  have am : ∀j,j<=ps.length->kvs.length * j<=100000:=λj hj=>gr (Nat.mul_le_mul_left _ hj) hsz
  refine bS cm (λi σ H'=>∃(kv:List (Key × V)) (v5 v6:Option V),σ=[-p,-r,-l,-b,-q,v5,v6]/\H' q<*kv/\nM kv/\kv.length<=kvs.length * i/\(∀s,fK kv s↔∃e,fK kvs e/\∃x∈ps.take i,s=e+x/\fJ s mn mx dat.2.1 dat.2.2=true)/\(∀b o,b≠q->H b=some o->H' b=some o))
    ⟨[],_,_,rfl,ae,λx hx=>by simp at hx,by simp,λs=>⟨λh=>(by unfold fK at h;rw[dH] at h;exact absurd h (by simp)),λa4=>by obtain⟨e,_,x,hx,_⟩:=a4;exact((by simp at hx))⟩,λb o hb e=>by rw[ah hb];exact e⟩ (λi σ H' a5=>by obtain⟨_,_,_,_,_,_,_,_,kk⟩:=a5;exact(.of (kk _ _ (au hl hq) hl))) ?_ ?_
  . rintro i x σ H2 hi hx ⟨kv,v5,v6,rfl,h2,an,ao,Y,k2⟩
    rw[c_] at hi;obtain⟨y,hy,rfl⟩ : ∃y,ps[i]? = some y/\V.int y=x:=by
      rw[e9] at hx;cases e:ps[i]? with
      | none=>rw[e] at hx;cases hx
      | some nm=>rw[e] at hx;exact⟨nm,rfl,fx hx⟩
    have a8:ps.take (i+1)=ps.take i++[y]:=by rw[j_,hy];rfl
    have az:=k2 r _ rq aa;have aH:kvs.length * i+kvs.length<=100000:=by rw[<- Nat.mul_succ];exact am (i+1) hi
    have aG:=am i ()
    refine⟨r,kvs,az,?_⟩
    ctx_has v az
    intro ob;have a0:upd H2 r (.frz ob (.dK kvs)) r=some (.frz ob (.dK kvs)):=ae
    refine bS Ea (λj σ H'=>∃(kv:List (Key × V)) (v6:Option V),σ=[-p,-r,-l,-b,-q,some (.int y),v6]/\H' q<*kv/\nM kv/\kv.length<=kvs.length * i+j/\(∀s,fK kv s↔(∃e,fK kvs e/\∃x∈ps.take i,s=e+x/\fJ s mn mx dat.2.1 dat.2.2=true)\/∃e,(∃v,(i7 e,v)∈kvs.take j)/\s=e+y/\fJ s mn mx dat.2.1 dat.2.2=true)/\H' r=some (.frz ob (.dK kvs))/\(∀b o,b≠q->b≠r->H b=some o->H' b=some o))
      ⟨kv,_,rfl,by rw[ah rq.symm];exact h2,an,(),λs=>⟨λh=>.inl ((Y s).mp h),λh=>(Y s).mpr (h.resolve_right λa1=>by obtain⟨e,⟨v,hv⟩,_⟩:=a1;exact(by simp at hv))⟩,a0,λb o hb ab e=>by rw[ah ab];exact k2 b o hb e⟩ (λj σ H' ar=>by obtain⟨_,_,_,_,_,_,_,h,_⟩:=ar;exact(h)) ?_ ?_
    . rintro j z σ H3 hj hz ⟨kv,v6,rfl,h3,ag,ad,F,aj,k3⟩
      rw[c_] at hj;obtain⟨kx,a3,rfl⟩ : ∃kx,kvs[j]? = some kx/\kV kx.1=z:=by
        rw[e9] at hz;cases e:kvs[j]? with
        | none=>rw[e] at hz;cases hz
        | some nm=>rw[e] at hz;exact⟨nm,rfl,fx hz⟩
      obtain⟨e0,a2⟩:=a7 kx (fy a3);have aq:kx=(i7 e0,kx.2):=by rw[<- a2]
      have ay:kvs.take (j+1)=kvs.take j++[kx]:=by rw[j_,a3];rfl
      have aF:kV kx.1=V.int e0:=by rw[a2];rfl
      rw[aF];obtain⟨dx,fs,te,g1,g2,g3⟩:=hO;have pq:p≠q:=au g1 hq
      have pr:p≠r:=aX g1 aa (by intro z;cases z)
      have aE:=k3 p _ pq pr g1;have a9:=k3 b _ (au hb hq) (aX hb aa (by intro z;cases z)) hb
      have a6:fY H H3:=⟨λa vs e=>k3 a _ (au e hq) (aX e aa (by intro z;cases z)) e,λa C dx fs e=>k3 a _ (au e hq) (aX e aa (by intro z;cases z)) e,λa ks e=>k3 a _ (au e hq) (aX e aa (by intro z;cases z)) e⟩
      have aC:OBS mg H3 p dat cs:=ua ⟨dx,fs,te,g1,g2,g3⟩ a6
      ctx_has v aE
      refine⟨g3.2.2.2.2.2.1,p,b,e0+y,mn,mx,dat,cs,rfl,aC,a9,?_⟩
      refine⟨_,rfl,cV (λhm=>?_) (λhm=>?_)⟩
      . ctx_has v h3
        have qr:q≠r:=rq.symm
        refine⟨o9 (show kv.length<=200000 by omega) ∅,_,ae,ag.put,gr (cR _ _ _) (),λs=>?_,by rw[ah rq];exact aj,λb o ax ab e=>by rw[ah ax];exact k3 b o ax ab e⟩
        rw[yD,F,ay]
        constructor
        . rintro(rfl | h | ⟨e,⟨v,hv⟩,Z⟩)
          . exact .inr ⟨e0,⟨kx.2,by rw[<- aq];simp⟩,rfl,hm⟩
          . exact .inl h
          . exact .inr ⟨e,⟨v,ki _ hv⟩,Z⟩
        . rintro(h | ⟨e,⟨v,hv⟩,Z⟩)
          . exact .inr (.inl h)
          . rcases i9.mp hv with w | w
            . exact .inr (.inr ⟨e,⟨v,w⟩,Z⟩)
            . rw[e7,aq] at w
              have:e=e0:=G8 (congrArg Prod.fst w)
              subst this;exact .inl Z.1
      . refine⟨_,h3,ag,(),λs=>?_,aj,k3⟩
        rw[F,ay]
        constructor
        . rintro(h | ⟨e,⟨v,hv⟩,Z⟩)
          . exact .inl h
          . exact .inr ⟨e,⟨v,ki _ hv⟩,Z⟩
        . rintro(h | ⟨e,⟨v,hv⟩,Z⟩)
          . exact .inl h
          . rcases i9.mp hv with w | w
            . exact .inr ⟨e,⟨v,w⟩,Z⟩
            . rw[e7,aq] at w
              have:e=e0:=G8 (congrArg Prod.fst w)
              subst this;exact absurd (Z.1 ▸ Z.2) hm
    . rintro σ H3 ⟨kv,v6,rfl,h3,ag,ad,F,aj,k3⟩
      rw[c_] at ad F;rw[l_] at F;refine⟨⟨ob,aj⟩,kv,_,_,rfl,by rw[ah rq.symm];exact h3,ag,by rw[Nat.mul_succ];exact ad,λs=>?_,λb o hb e=>?_⟩
      . rw[F,a8]
        constructor
        . rintro(⟨e,he,x,hx,Z⟩ | ⟨e,hv,Z⟩)
          . exact⟨e,he,x,ki _ hx,Z⟩
          . exact⟨e,me hv,y,by simp,Z⟩
        . rintro⟨e,he,x,hx,Z⟩
          rcases i9.mp hx with w | w
          . exact .inl ⟨e,he,x,w,Z⟩
          . rw[e7.mp w] at Z
            exact .inr ⟨e,mL he,Z⟩
      . by_cases ab:b=r
        . subst ab;rw[aa] at e;rw[ae];exact e
        . rw[ah ab];exact k3 b o hb ab e
  . rintro σ H2 ⟨kv,v5,v6,rfl,h2,an,ao,Y,k2⟩
    rw[c_] at ao Y;rw[l_] at Y;ctx_has v
    exact k q kv H2 (λb o e=>k2 b o (au e hq) e) h2 an ao Y
theorem mG (T:Txt w K mg) (L:cI K (aR K (ap mg "Sum") "sums_kept") "sums_kept" "Sum.sums_kept" fv ["self","rooms"]) (Fh : @Dz P w K mg base) (Fi : @DE P w K mg base) (B:FnR P w K mg base (aR K (ap mg "Sum") "sums_with") 2 ["self","reached","parts","behind"] (wX mg)):FnR P w K mg base (aR K (ap mg "Sum") "sums_kept") 4 ["self","rooms"] (uh mg):=by
 ctx_has z mR <;> obtain⟨p,r,dat,cs,kvs,rm,rfl,M,k⟩:=h
 .rfl
 refine⟨_,(af (aD 2 (az Fh (ac (aU T.cl_Sum T.no_Sum_terms (pvM 0)) (ac (pvM 1) ai))))
  (af (aD 3 (rY (gW aj de sQ) rfl rfl (by nofun) ∅))
  (af (bq (zp (K:=K) rfl rfl T.b_enumerate (ac (aU T.cl_Sum T.no_Sum_terms (pvM 0)) ai)) (jF (n:=2) rfl (cL (aA 4) (cL (aA 5) jD))) (ak (aD 3 (cp T.cl_Sum B (hr.mono (by ctx_has m)) (pvM 0) (ac (pvM 3) (ac (az Fi (ac (pvM 5) (ac (pvM 1) ai))) (ac (aG fS (pvM 2) (aT bj (pvM 4) aj)) ai)))))))
  (ak (aB (pvM 3)))))),?_⟩
 obtain⟨dx,fs,te,h1,h2,l1,l2,l3,l4,l5,l6,l7,l8⟩:=M.ob;obtain⟨ts,lo,hi⟩:=dat;have a3:=M.ok;have aJ:=M.nd;have a9:=M.rd;simp only[DN] at a3 h2 l2 l3;obtain⟨aX,aK,a6⟩:=a3;subst aX;have a5:=M.cl;rw[c_] at a5;obtain⟨as,aE,rfl,aO⟩:=id h2;ctx_has v h1 l1
 refine⟨te,r,_,kvs,rm,rfl,h2,a9,M.rf,aJ,(),a6,λc hc=>(by have:=M.gd c hc;exact⟨λe=>by rw[e] at this;simp at this,()⟩),λsl zs H1 s1 e1 aZ aN bc=>?_⟩
 ctx_has v
 intro q hq;refine⟨ae,[(i7 0,.bl true)],rfl,∅,?_⟩
 have em:iS ([]:List (Key × V)) [(i7 0,.bl true)]=[(i7 0,.bl true)]:=fh _ dH
 rw[em];have s2:aw H1 (upd (upd H1 q (.dK [])) q (.dK [(i7 0,.bl true)])):=λb o e=>by rw[ah (au e hq),ah (au e hq)];exact e
 have aC:upd (upd H1 q (.dK [])) q (.dK [(i7 0,.bl true)]) q<*[(i7 0,.bl true)]:=ae
 generalize upd (upd H1 q (.dK [])) q (.dK [(i7 0,.bl true)])=H2 at s2 aC ⊢;have ax:=s1.trans s2;have g1:=ax _ _ h1;have g2:=ax _ _ aE;ctx_has v g1 l1 g2
 have h4:=λi (hi:i<=5)=>Es hi
 have a2 : ∀g,sx (as.map (·.2),lo,hi) (((as.map (·.2))).map (·.2)) g=dG (eU (as.map (·.2)) g) lo hi:=λg=>rfl
 simp only[a2] at k;have be:as.length<=5:=by simpa using a5
 refine Da (xs:=as.map λx=>V.ref x.1) (λi σ H'=>∃(q:Addr) (Y:List (Key × V)) (v4 v5:Option V),σ=[-p,-r,-sl,-q,v4,v5]/\H' q<*Y/\nM Y/\Y.length<=4 ^ i/\(∀s,fK Y s->∃g,okF rm ((as.map (·.2)).map (·.2)) g/\eU ((as.map (·.2)).take i) g=s/\(0 < i->∃mn mx,di rm ((as.map (·.2)).drop i) mn mx/\fJ s mn mx lo hi=true))/\(∀g,okF rm ((as.map (·.2)).map (·.2)) g->dG (eU (as.map (·.2)) g) lo hi=true->fK Y (eU ((as.map (·.2)).take i) g))/\aw H H'/\aw H1 H')
  ⟨q,_,_,_,rfl,aC,λx hx=>⟨0,by rw[e7.mp hx]⟩,by simp,λs hs=>?_,λg _ _=>?_,ax,s2⟩ (λi σ H' a4=>by obtain⟨_,_,_,_,_,_,_,_,_,_,sm,_⟩:=a4;exact(.of (sm _ _ aE))) ?_ ?_
 .obtain⟨v,hv⟩:=mL hs
  have e0:s=0:=G8 (congrArg Prod.fst (e7.mp hv))
  obtain⟨g,hg⟩:=xZ (rm:=rm) (cs:=(as.map (·.2)).map (·.2)) λc hc=>(M.gd c hc).1
  exact⟨g,hg,by rw[e0];rfl,λh=>absurd h ()⟩
 .exact me ⟨.bl true,e7.mpr rfl⟩
 .rintro i x σ H3 t hx ⟨q,Y,v4,v5,rfl,h3,hik,hkl,hso,hcm,s3,s13⟩ ht
  obtain⟨y,hy,rfl⟩ : ∃y,as[i]? = some y/\V.ref y.1=x:=by
   rw[e9] at hx;cases e:as[i]? with
   | none=>rw[e] at hx;cases hx
   | some nm=>rw[e] at hx;exact⟨nm,rfl,fx hx⟩
  have bg:i < as.length:=(g_.mp hy).1
  have a1:y∈as:=fy hy
  have F:y.2.2∈(as.map (·.2)).map (·.2):=hB.mpr ⟨y.2,hB.mpr ⟨y,a1,rfl⟩,rfl⟩
  obtain⟨ad,hv,aQ⟩:=M.rf _ F;have st:aw H3 (upd H3 t (.tup [.int (i:Nat),.ref y.1])):=aw.upd0 ht
  have am:=s3.trans st;have f1:=am _ _ h1;have ao:upd H3 t (.tup [.int (i:Nat),.ref y.1]) t>>[.int (i:Nat),.ref y.1]:=ae
  ctx_has v ao f1
  refine⟨l7,y.1,r,ad,y.2.1,y.2.2,kvs,rm y.2.2,rfl,am _ _ (aO y a1),am _ _ a9,hv,am _ _ aQ,a6 y.2 (hB.mpr ⟨y,a1,rfl⟩),by have:=(M.gd _ F).2.1;omega,λpl H4 s4 bi aL=>?_⟩
  have aq:=s13.trans st;have ba:=(aq.trans s4) _ _ e1;obtain⟨zn,ar⟩ : ∃zn,zs[i+1]? = some zn:=⟨zs[i+1]'(by rw[aZ];simp;omega),by simp⟩
  have aH:zn∈zs:=fy ar
  have a7:atI (zs.map λx=>V.ref x.1) ((i:Int)+1)=some (V.ref zn.1):=bA (j:=i+1) (by rw[e9,ar];rfl)
  ctx_has v ba a7
  have aa:=bc (i+1) zn ar;have aS:=(M.gd _ F).2.1;have bh:=h4 (i+1) ()
  have hb:Y.length * ((rm y.2.2).map (y.2.1 * ·)).length<=4 ^ (i+1):=by
   rw[c_,Nat.pow_succ];exact Nat.mul_le_mul hkl aS
  have a8:=am.trans s4;refine⟨p,q,pl,zn.1,Y,_,zn.2.1,zn.2.2,(as.map (·.2),lo,hi),(as.map (·.2)).map (·.2),rfl,ua M.ob (aw.keepTI a8),(st.trans s4) _ _ h3,hik,aL,(aq.trans s4) _ _ (aN zn aH),(),λq5 aP H5 s5 h5 aI bf ab=>?_⟩
  have a0:(as.map (·.2)).take (i+1)=(as.map (·.2)).take i++[y.2]:=by rw[j_,e9,hy];rfl
  have aV:y.2.2∉((as.map (·.2)).take i).map (·.2):=λhm=>by
   have aF:(((as.map (·.2)).take (i+1)).map (·.2)).Nodup:=aJ.sublist ((HH _ _).map _)
   rw[a0,v_,t7] at aF;exact aF.2.2 _ hm _ (by simp) rfl
  refine⟨q5,rfl,aP,h5,aI,(),λs hs=>?_,λg hg hk=>?_,a8.trans s5,(aq.trans s4).trans s5⟩
  .obtain⟨e,he,x,hx,rfl,an⟩:=(ab s).mp hs
   obtain⟨g,Z,ag,_⟩:=hso e he;obtain⟨v,aW,rfl⟩:=hB.mp hx;refine⟨bN g y.2.2 v,Cq Z aW,?_,λ_=>⟨_,_,aa,an⟩⟩
   rw[a0,ir,jY aV,ag];simp[eU,bo]
  .rw[ab]
   refine⟨_,hcm g hg hk,y.2.1 * g y.2.2,hB.mpr ⟨g y.2.2,hg _ F,rfl⟩,?_,Bp aa hg hk⟩
   rw[a0,ir];simp[eU]
 .rintro σ H3 ⟨q,Y,v4,v5,rfl,h3,hik,hkl,hso,hcm,s3,s13⟩
  rw[c_] at hso hcm;have ao:(as.map (·.2)).take as.length=as.map (·.2):=pb (by simp)
  have bd:(as.map (·.2)).drop as.length=[]:=List.drop_of_length_le (by simp)
  rw[ao] at hcm;simp only[ao,bd] at hso;ctx_has v h3
  refine k _ Y H3 h3 ?_ s3
  have ay:0 < as.length:=by
   rcases as with _ | ⟨y,as⟩
   .exact absurd rfl aK
   .simp
  constructor
  .intro hpos
   rcases Y with _ | ⟨y,Y⟩
   .simp at hpos
   obtain⟨e0,bb⟩:=hik y (by simp)
   obtain⟨g,Z,ag,aY⟩:=hso e0 (me ⟨y.2,by rw[<- bb];simp⟩)
   obtain⟨mn,mx,aM,an⟩:=aY ay;rw[AY aM] at an;exact⟨g,Z,by rw[ag];exact an⟩
  .rintro⟨g,Z,ag⟩
   obtain⟨v,hv⟩:=mL (hcm g Z ag);have:=G2 hv
   omega
theorem nT (T:Txt w K mg) (L:cI K (aR K (ap mg "Sum") "may_keep") "may_keep" "Sum.may_keep" gp ["self","rooms"]) (B:FnR P w K mg base (aR K (ap mg "Sum") "sums_kept") 4 ["self","rooms"] (uh mg)):FnR P w K mg base (aR K (ap mg "Sum") "may_keep") 22 ["self","rooms"] (eX mg):=by
 ctx_has z oq <;> obtain⟨p,r,dat,cs,kvs,rm,rfl,M,k⟩:=h
 .rfl
 refine⟨_,(ak (aB (bf nJ (aE yk T.b_len (ac (cp T.cl_Sum B (hr.mono (by ctx_has m)) (pvM 0) (ac (pvM 1) ai)) ai)) aj))),?_⟩
 obtain⟨dx,fs,te,h1,h2,l1,l2,l3,l4,l5,l6,l7,l8⟩:=id M.ob;ctx_has v h1
 refine⟨l8,p,r,dat,cs,kvs,rm,rfl,M,λq kv H3 Z F Y=>?_⟩
 ctx_has v Z
 refine k _ H3 ?_ Y
 rw[decide_eq_true_eq,<- F];omega
theorem mf (T:Txt w K mg) (L:cI K (aR K (ap mg "Sum") "may_break") "may_break" "Sum.may_break" fz ["self","rooms"]) (Fh : @Dz P w K mg base) (Fk:Fn P w K mg base "is_between" 1 ["number","low","high"] (CZ)):FnR P w K mg base (aR K (ap mg "Sum") "may_break") 22 ["self","rooms"] (gM mg):=by
 ctx_has z ma <;> obtain⟨p,r,dat,cs,kvs,rm,rfl,M,k⟩:=h
 .rfl
 refine⟨_,(af (aD 2 (aG fS (az Fh (ac (aU T.cl_Sum T.no_Sum_terms (pvM 0)) (ac (pvM 1) ai))) aj))
  (ak (aB (jT (wC (az Fk (ac (aG bw (pvM 2) aj) (ac (aU T.cl_Sum T.no_Sum_low (pvM 0)) (ac (aU T.cl_Sum T.no_Sum_high (pvM 0)) ai))))) (dS (wC (az Fk (ac (aG bw (pvM 2) aj) (ac (aU T.cl_Sum T.no_Sum_low (pvM 0)) (ac (aU T.cl_Sum T.no_Sum_high (pvM 0)) ai)))))))))),?_⟩
 obtain⟨dx,fs,te,h1,h2,l1,l2,l3,l4,l5,l6,l7,l8⟩:=M.ob;obtain⟨ts,lo,hi⟩:=dat;have Z:=M.ok;have au:=M.nd;have ar:=M.rd;simp only[DN] at Z h2 l2 l3;obtain⟨ax,ay,ao⟩:=Z;subst ax;have aq:=M.cl;rw[c_] at aq;ctx_has v h1 l1
 refine⟨te,r,ts,kvs,rm,rfl,h2,ar,M.rf,au,(),ao,λc hc=>(by have:=M.gd c hc;exact⟨λe=>by rw[e] at this;simp at this,()⟩),λsl zs H1 s1 e1 a0 an ah=>?_⟩
 obtain⟨B,F⟩ : ∃B,zs[0]? = some B:=⟨zs[0]'(),by simp⟩
 have ad:B∈zs:=fy F
 have am:atI (zs.map λx=>V.ref x.1) 0=some (V.ref B.1):=bA (j:=0) (by rw[e9,F];rfl)
 have Y:=ah 0 B F;rw[drop_zero] at Y;have aa:=an B ad;have g1:=s1 _ _ h1;ctx_has v e1 am aa g1 l2 l3
 refine⟨B.2.1,lo,hi,rfl,λH2 s2=>?_⟩
 have g2:=(s1.trans s2) _ _ h1;have ab:=s2 _ _ aa;have ag:=tO (lo:=lo) (hi:=hi) Y;cases eb:dG B.2.1 lo hi with
 | false =>
  ctx_has v Bool.not_false
  refine k true H2 ?_ (s1.trans s2)
  refine Iff.trans ?_ ag
  rw[eb];simp
 | true =>
  ctx_has v Bool.not_true gt ab g2 l2 l3
  refine⟨B.2.2,lo,hi,rfl,λH3 s3=>?_⟩
  refine⟨_,rfl,k _ H3 ?_ ((s1.trans s2).trans s3)⟩
  refine Iff.trans ?_ ag
  rw[eb];simp
abbrev tf:=List Str
def WSU (H:Hp) (w:Addr) (dat:tf) (cs:List Str):Prop:=∃B,H w>>[.str "unlike",.ref B]/\H B>>(dat.map V.str)
def F0 (dat:tf) (cs:List Str):Prop:=dat.Perm cs
def OBU (mg:Str->Option Value) (H:Hp) (t:Addr) (dat:tf) (cs:List Str):Prop:=∃dx fs B,H t=some (.ins (ap mg "Unlike") dx fs)/\fs.lookup (b_ "cells")=some (.ref B)/\H B>>(dat.map V.str)/\fs.lookup (b_ "may_keep")=none/\fs.lookup (b_ "may_break")=none
theorem xD {t:Addr} {dat:tf} (h:OBU mg H t dat cs) : ∃dx fs,H t=some (.ins (ap mg "Unlike") dx fs)/\fs.lookup (b_ "may_keep")=none/\fs.lookup (b_ "may_break")=none:=by
 obtain⟨dx,fs,Y,h1,h2,L,F,B⟩:=h;exact⟨dx,fs,h1,F,B⟩
def zg (dat:tf) (cs:List Str) (g:Str->Int):Bool:=decide ((dat.map g).Nodup)
def xo (mg:Str->Option Value):Sp:=λvs H Q _=>∃(p dx w:Addr) (dat:tf) (cs:List Str),vs=[.ref p,.ref w]/\H p=some (.ins (ap mg "Unlike") dx [])/\WSU H w dat cs/\∀H',OBU mg H' p dat cs->fX p H H'->Q .non H'
structure A3 (mg:Str->Option Value) (H:Hp) (p r:Addr) (dat:tf) (cs:List Str) (kvs:List (Key × V)) (rm:Str->List Int):Prop where
 ob:OBU mg H p dat cs
 rd:H r<*kvs
 rf:aZ H kvs cs rm
 ok:F0 dat cs
 nd:cs.Nodup
 cl:cs.length<=5
 gd : ∀c∈cs,1<=(rm c).length/\(rm c).length<=4/\(rm c).Nodup
def fc (mg:Str->Option Value):Sp:=λvs H Q _=>∃(p r:Addr) (dat:tf) (cs:List Str) (kvs:List (Key × V)) (rm:Str->List Int),vs=[.ref p,.ref r]/\A3 mg H p r dat cs kvs rm/\∀(b:Bool) H',(b=true↔∃g,okF rm cs g/\zg dat cs g=true)->aw H H'->Q (.bl b) H'
def gA (mg:Str->Option Value):Sp:=λvs H Q _=>∃(p r:Addr) (dat:tf) (cs:List Str) (kvs:List (Key × V)) (rm:Str->List Int),vs=[.ref p,.ref r]/\A3 mg H p r dat cs kvs rm/\∀(b:Bool) H',(b=true↔∃g,okF rm cs g/\zg dat cs g=false)->aw H H'->Q (.bl b) H'
theorem eJ {dat:List Str} (hd:dat.Nodup) : ¬ (dat.map g).Nodup↔∃c∈dat,∃B∈dat,c≠B/\g c=g B:=by
 constructor
 .intro h
  refine nH λF=>h ?_
  refine E_.mpr (GJ (λ{a b} ha hb q e=>F ⟨a,ha,b,hb,q,e⟩) hd)
 .rintro⟨c,hc,B,hc',hne,e⟩ h
  obtain⟨i,hi,Y⟩:=t_ hc;obtain⟨j,Z,L⟩:=t_ hc';have e1:(dat.map g)[i]? = some (g c):=by simp[hi,Y]
  have e2:(dat.map g)[j]? = some (g c):=by simp[Z,L,e]
  have:=fi h e1 e2
  subst this;exact hne (Y.symm.trans L)
theorem DK {B:Str} (F:c≠B) (Z:v∈rm c) (L:v'∈rm B) (Y : ∀x∈cs,1<=(rm x).length) : ∃g,okF rm cs g/\g c=v/\g B=v':=by
 refine⟨λx=>if x=c then v else if x=B then v' else(rm x).headD 0,λx hx=>?_,by simp,by simp[tj F]⟩
 by_cases e:x=c
 .subst e;simp;exact Z
 .by_cases e':x=B
  .subst e';simp[e];exact L
  .simp[e,e']
   have:=Y x hx
   cases h:rm x with
   | nil=>rw[h] at this;simp at this
   | cons a b=>simp
def hE (x:Int × Str):Key × V:=(i7 x.1,.str x.2)
def iK (v:Int):Key × V:=(i7 v,.bl true)
def bD:List (Int × Str)->Int->Option Str
 | [],_=>none
 | (w,x) :: r,v=>if w=v then some x else bD r v
def dz:List (Int × Str)->Int->Str->List (Int × Str)
 | [],v,c=>[(v,c)]
 | (w,x) :: r,v,c=>if w=v then(w,c) :: r else(w,x) :: dz r v c
def dX:List (Int × Str)->Str->Nat
 | [],_=>0
 | (_,x) :: r,y=>(if x=y then 1 else 0)+dX r y
theorem lQ : ∀(hl:List (Int × Str)) (v:Int),bO (hl.map hE) (i7 v)=(bD hl v).map V.str
 | [],v=>rfl
 | (w,x) :: r,v=>by
  rw[i8]
  by_cases h:w=v
  .subst h
   rw[show hE (w,x)=(i7 w,.str x) from rfl,bz rfl]
   simp[bD]
  .rw[show hE (w,x)=(i7 w,.str x) from rfl,aS (λz=>h (G8 z)),lQ r v]
   simp[bD,h]
theorem vm {k B:Key} {v v':V} {r:List (Key × V)}:bm ((k,v) :: r) B v'=if k=B then(k,v') :: r.map (λF=>if F.1=B then(F.1,v') else F) else(k,v) :: bm r B v':=by
 unfold bm
 by_cases h:k=B
 .simp[h]
 .simp only[HX,decide_eq_false h,Bool.false_or,if_neg h,i8]
  split <;> simp
theorem ni {B:Key} {v':V} : ∀{r:List (Key × V)},bO r B=none->r.map (λF=>if F.1=B then(F.1,v') else F)=r
 | [],_=>rfl
 | (k,v) :: r,h=>by
  by_cases e:k=B
  .rw[bz e] at h;cases h
  .rw[aS e] at h
   rw[i8,ni h];simp[e]
theorem ww {hl:List (Int × Str)} (h:v∉hl.map (·.1)):bD hl v=none:=by
 induction hl with
 | nil=>rfl
 | cons p r B =>
  obtain⟨w,x⟩:=p;simp at h
  unfold bD;rw[if_neg (λz=>h.1 z.symm)]
  exact B (by simpa using h.2)
theorem mi : ∀{hl:List (Int × Str)} (v:Int) (c:Str),(hl.map (·.1)).Nodup->bm (hl.map hE) (i7 v) (.str c)=(dz hl v c).map hE
 | [],v,c,_=>rfl
 | (w,x) :: r,v,c,hn=>by
  rw[i8,md] at hn;rw[i8,show hE (w,x)=(i7 w,.str x) from rfl,vm]
  by_cases h:w=v
  .subst h
   rw[if_pos rfl,ni (by rw[lQ,ww hn.1];rfl)]
   simp[dz,hE]
  .rw[if_neg (λz=>h (G8 z)),mi v c hn.2]
   simp[dz,h,hE]
theorem mB (v:Int) (c:Str) (v':Int) : ∀hl:List (Int × Str),bD (dz hl v c) v'=if v'=v then some c else bD hl v'
 | []=>by
  by_cases h:v'=v
  .subst h;simp[dz,bD]
  .simp[dz,bD,h,tj h]
 | (w, x) :: r=>by
  unfold dz
  by_cases h:w=v
  .subst h
   by_cases h2:v'=w
   .subst h2;simp[bD]
   .simp[bD,h2,tj h2]
  .rw[if_neg h]
   by_cases h2:w=v'
   .subst h2
    simp[bD,h]
   .simp only[bD,if_neg h2,mB v c v' r]
theorem qQ (v:Int) (c:Str) : ∀{hl:List (Int × Str)},(hl.map (·.1)).Nodup->((dz hl v c).map (·.1)).Nodup/\∀w,w∈(dz hl v c).map (·.1)↔w=v\/w∈hl.map (·.1)
 | [],_=>by simp[dz]
 | (w, x) :: r,hn=>by
  rw[i8,md] at hn;unfold dz
  by_cases h:w=v
  .subst h
   rw[if_pos rfl];refine⟨by simpa using hn,λu=>?_⟩
   simp
  .rw[if_neg h]
   have B:=qQ v c hn.2;refine⟨?_,λu=>?_⟩
   .rw[i8,md]
    refine⟨λz=>?_,B.1⟩
    rcases (B.2 w).mp z with e | e
    .exact h e
    .exact hn.1 e
   .rw[i8,i4,B.2 u,i8,i4]
    constructor
    .rintro(e | e | e)
     .exact .inr (.inl e)
     .exact .inl e
     .exact .inr (.inr e)
    .rintro(e | e | e)
     .exact .inr (.inl e)
     .exact .inl e
     .exact .inr (.inr e)
theorem pW (v:Int) (c y:Str) : ∀{hl:List (Int × Str)},(hl.map (·.1)).Nodup->dX (dz hl v c) y+(if bD hl v=some y then 1 else 0)=dX hl y+(if c=y then 1 else 0)
 | [],_=>by simp[dz,dX,bD]
 | (w,x) :: r,hn=>by
  rw[i8,md] at hn;unfold dz bD
  by_cases h:w=v
  .subst h
   rw[if_pos rfl,if_pos rfl];simp only[dX,Option.some.injEq]
   split <;> split <;> omega
  .rw[if_neg h,if_neg h]
   have B:=pW v c y hn.2;simp only[dX];omega
theorem uk {v:Int} {c:Str} {x:Int × Str} : ∀{hl:List (Int × Str)},x∈dz hl v c->x=(v,c)\/x∈hl
 | [],h=>by simp[dz] at h;exact .inl h
 | (w, z) :: r,h=>by
  unfold dz at h
  by_cases e:w=v
  .subst e
   rw[if_pos rfl] at h;rcases i4.mp h with q | q
   .exact .inl q
   .exact .inr (by simp[q])
  .rw[if_neg e] at h
   rcases i4.mp h with q | q
   .exact .inr (by simp[q])
   .rcases uk q with q | q
    .exact .inl q
    .exact .inr (by simp[q])
theorem fV {v:Int} {x:Str} : ∀{hl:List (Int × Str)},bD hl v=some x->(v,x)∈hl
 | (w,z) :: r,h=>by
  unfold bD at h
  by_cases e:w=v
  .subst e;rw[if_pos rfl] at h;cases h;simp
  .rw[if_neg e] at h;simp[fV h]
theorem mJ {v:Int} {x:Str} : ∀{hl:List (Int × Str)},(hl.map (·.1)).Nodup->(v,x)∈hl->bD hl v=some x
 | (w,z) :: r,hn,h=>by
  rw[i8,md] at hn;rcases i4.mp h with q | q
  .cases q;simp[bD]
  .have hne:w≠v:=λe=>hn.1 (by subst e;exact hB.mpr ⟨_,q,rfl⟩)
   unfold bD;rw[if_neg hne];exact mJ hn.2 q
theorem kz:(bO (tl.map iK) (i7 v)).isSome=decide (v∈tl):=by
 induction tl with
 | nil=>rfl
 | cons w r B =>
  rw[i8]
  by_cases h:w=v
  .subst h
   rw[show iK w=(i7 w,.bl true) from rfl,bz rfl]
   simp
  .rw[show iK w=(i7 w,.bl true) from rfl,aS (λz=>h (G8 z)),B]
   simp[tj h]
theorem ya (h:v∉tl):bm (tl.map iK) (i7 v) (.bl true)=(tl++[v]).map iK:=by
 rw[fh]
 .simp[iK]
 .have:=kz (tl:=tl) (v:=v)
  rw[decide_eq_false h] at this;cases e:bO (tl.map iK) (i7 v) with
  | none=>rfl
  | some x=>rw[e] at this;cases this
structure dr (H:Hp) (r ha ta:Addr) (CS:List Str) (kvs:List (Key × V)) (rm:Str->List Int) (U:List Int) (hl:List (Int × Str)) (tl:List Int):Prop where
 rd:H r<*kvs
 rf:aZ H kvs CS rm
 hh:H ha<*(hl.map hE)
 ht:H ta<*(tl.map iK)
 ne:r≠ha/\r≠ta/\ha≠ta
 hk:(hl.map (·.1)).Nodup
 hv : ∀x∈hl,x.2∈CS/\x.1∈rm x.2
 tn:tl.Nodup
 tu : ∀v∈tl,v∈U
 ru : ∀x∈CS,∀v∈rm x,v∈U
 ul:U.length<=100
 rl : ∀x∈CS,(rm x).length<=100
def jG (n:Nat):Sp:=λvs H Q _=>∃(r ha ta:Addr) (CS:List Str) (kvs:List (Key × V)) (rm:Str->List Int) (U:List Int) (hl:List (Int × Str)) (tl:List Int) (c:Str),vs=[.str c,.ref r,.ref ha,.ref ta]/\dr H r ha ta CS kvs rm U hl tl/\c∈CS/\(U.filter λv=>decide (v∉tl)).length<=n /\
 ∀ (b:Bool) (F:List (Int × Str)) (B:List Int) (H':Hp),dr H' r ha ta CS kvs rm U F B->(∀v∈tl,v∈B)->(∀a o,a≠ha->a≠ta->H a=some o->H' a=some o) ->
  (b=true->(∀y,dX F y=dX hl y+if c=y then 1 else 0)/\∀v∈tl,bD F v=bD hl v)->(b=false->F=hl/\(∀v∈rm c,v∈B)/\∀v∈B,v∉tl->∃x,bD hl v=some x/\∀v'∈rm x,v'∈B)->Q (.bl b) H'
theorem dr.small {ta:Addr} {hl:List (Int × Str)} (k:dr H r ha ta CS kvs rm U hl tl):hl.length<=100/\tl.length<=100:=by
 have h1:=eB k.tn k.tu;have h2:=eB (ys:=U) k.hk λv hv=>by
  obtain⟨x,B,rfl⟩:=hB.mp hv;exact k.ru _ (k.hv x B).1 _ (k.hv x B).2
 rw[c_] at h2;have:=k.ul
 omega
theorem dr.tryV {ta:Addr} {hl:List (Int × Str)} (k:dr H r ha ta CS kvs rm U hl tl) (hv:v∉tl) (hu:v∈U):dr (upd H ta (.dK ((tl++[v]).map iK))) r ha ta CS kvs rm U hl (tl++[v]):=by
 refine⟨by rw[ah k.ne.2.1];exact k.rd,k.rf.same λa vs e=>by rw[ah (aX e k.ht (by intro z;cases z))];exact e,by rw[ah k.ne.2.2];exact k.hh,ae,k.ne,k.hk,k.hv,?_,λx F=>?_,k.ru,k.ul,k.rl⟩
 .rw[t7]
  exact⟨k.tn,by simp,λa ha b B=>by rw[e7.mp B];rintro rfl;exact hv ha⟩
 .rcases i9.mp F with q | q
  .exact k.tu x q
  .rw[e7.mp q];exact hu
theorem dr.hold {ta:Addr} {hl:List (Int × Str)} (k:dr H r ha ta CS kvs rm U hl tl) (B:c∈CS) (hv:v∈rm c):dr (upd H ha (.dK ((dz hl v c).map hE))) r ha ta CS kvs rm U (dz hl v c) tl:=by
 refine⟨by rw[ah k.ne.1];exact k.rd,k.rf.same λa vs e=>by rw[ah (aX e k.hh (by intro z;cases z))];exact e,ae,by rw[ah k.ne.2.2.symm];exact k.ht,k.ne,(qQ v c k.hk).1,λx F=>?_,k.tn,k.tu,k.ru,k.ul,k.rl⟩
 rcases uk F with q | q
 .rw[q];exact⟨B,hv⟩
 .exact k.hv x q
theorem vD {B:List Int} (h : ∀v∈tl,v∈B):(U.filter λx=>decide (x∉B)).length<=(U.filter λx=>decide (x∉tl)).length:=by
 induction U with
 | nil=>simp
 | cons a r F =>
  rw[u6,u6]
  by_cases h1:a∈tl
  .have h2:=h a h1
   simp[h1,h2];simpa using F
  .by_cases h2:a∈B
   .simp[h1,h2];have:=F;simp at this;omega
   .simp[h1,h2];simpa using F
theorem zK (hu:v∈U) (L:v∉tl):(U.filter λx=>decide (x∉tl++[v])).length < (U.filter λx=>decide (x∉tl)).length:=by
 induction U with
 | nil=>simp at hu
 | cons a r B =>
  have F : ∀r:List Int,(r.filter λx=>decide (x∉tl++[v])).length<=(r.filter λx=>decide (x∉tl)).length:=by
   intro r
   induction r with
   | nil=>simp
   | cons b r B =>
    rw[u6,u6]
    by_cases h1:b∈tl
    .simp[h1];simpa using B
    .by_cases h2:b=v
     .subst h2;simp[h1];have:=B;simp at this;omega
     .simp[h1,h2];simpa using B
  rw[u6,u6]
  by_cases h2:a=v
  .subst h2
   have:=F r
   simp[L]
   simp at this
   omega
  .have hr:v∈r:=by
    rcases i4.mp hu with q | q
    .exact absurd q.symm h2
    .exact q
   have:=B hr
   by_cases h1:a∈tl
   .simp[h1];simpa using this
   .simp[h1,h2];simpa using this
theorem lD (T:Txt w K mg) (L:cI K (gk K (ap mg "Wish") "__init__") "__init__" "Wish.__init__" bC ["self","wish"]):FnR P w K mg base (gk K (ap mg "Wish") "__init__") 1 ["self","wish"] (dh mg "Unlike"):=by
 ctx_has z bP <;> obtain⟨p,dx,fs,w,rfl,hp,B,k⟩:=h
 .rfl
 refine⟨_,(ak (bB T.cl_Unlike T.no_Unlike_wish (pvM 0) (pvM 1) rfl)),?_⟩
 ctx_has v hp
 exact⟨B,k⟩
theorem kh (T:Txt w K mg) (L:cI K (Mk K (ap mg "Unlike")) "__init__" "Unlike.__init__" eL ["self","wish"]) (B:FnR P w K mg base (gk K (ap mg "Wish") "__init__") 1 ["self","wish"] (dh mg "Unlike")):FnR P w K mg base (Mk K (ap mg "Unlike")) 2 ["self","wish"] (xo mg):=by
 ctx_has z kN <;> obtain⟨p,dx,w,dat,cs,rfl,hp,W,k⟩:=h
 .rfl
 refine⟨_,(af (cz (iw B (hr.mono (by ctx_has m)) rfl T.at_Wish (ac (pvM 0) (ac (pvM 1) ai))))
  (ak (bB T.cl_Unlike T.no_Unlike_cells (pvM 0) (aG bw (pvM 1) aj) rfl))),?_⟩
 obtain⟨Z,F,hc⟩:=W;ctx_has v F
 have pw:w≠p:=aX F hp (by intro z;cases z)
 have Y:Z≠p:=aX hc hp (by intro z;cases z)
 refine⟨p,dx,[],.ref w,rfl,hp,∅,?_⟩
 ctx_has v ae
 refine⟨_,by rw[ah pw];exact F,?_⟩
 ctx_has v
 refine⟨o9 (dI _ _ _) ∅,k _ ⟨dx,_,Z,ae,?_,by rw[ah Y,ah Y];exact hc,?_⟩ ?_⟩
 .simp only[bT,fP,String.reduceEq,if_true,if_false]
 .simp only[bT,fP,String.reduceEq,if_true,if_false,true_and,H0,and_self]
 .intro b o hb e
  rw[ah hb,ah hb];exact e
theorem jI (T:Txt w K mg) (L:cI K (aR K (ap mg "Unlike") "may_break") "may_break" "Unlike.may_break" dU ["self","rooms"]):FnR P w K mg base (aR K (ap mg "Unlike") "may_break") 22 ["self","rooms"] (gA mg):=by
  ctx_has z jK <;> obtain⟨p,r,dat,cs,kvs,rm,rfl,M,k⟩:=h
  . rfl
  refine⟨_,(af (aD 2 gm)
    (af (bq (bZ K (aU T.cl_Unlike T.no_Unlike_cells (pvM 0))) (aA 3) (ak (bq (bZ K (bH hu (pvM 1) (pvM 3))) (aA 4) (af (bv (qj (Cw hu (pvM 4) (pvM 2))) (ak (aB de)) aO)
    (ak (gK hu (pvM 2) (pvM 4) de rfl))))))
    (ak (aB de)))),?_⟩
  obtain⟨dx,fs,ce,h1,f1,a8,_,_⟩:=M.ob;have aF:=M.rd;have am:dat.Nodup:=M.ok.nodup_iff.mpr M.nd
  have aK:dat.length=cs.length:=M.ok.length_eq
  have aJ:=M.cl;have ag : ∀c∈dat,c∈cs:=λc hc=>M.ok.mem_iff.mp hc
  ctx_has v
  intro se a6;have s1:aw H (upd H se (.dK [])):=aw.upd0 a6
  refine⟨dx,fs,s1 _ _ h1,_,f1,ce,rfl,_,s1 _ _ a8,?_⟩
  refine bS aW (λi σ H'=>∃(sv:List (Key × V)) (v3 v4:Option V),σ=[-p,-r,-se,v3,v4]/\H' se<*sv/\(∀v:Int,(bO sv (i7 v)).isSome=true↔∃c∈dat.take i,v∈rm c)/\(∀c∈dat.take i,∀Y∈dat.take i,c≠Y->∀v∈rm c,v∉rm Y)/\sv.length<=4 * i/\aw H H')
    ⟨[],_,_,rfl,ae,by simp[bO],by simp,by simp,s1⟩ (λi σ H' a7=>by obtain⟨_,_,_,_,_,_,_,_,sm⟩:=a7;exact(.of (sm _ _ a8))) ?_ ?_
  . rintro i x σ H2 hi hx ⟨sv,v3,v4,rfl,h2,a0,ab,a1,ad⟩
    rw[c_] at hi;obtain⟨c,an,rfl⟩ : ∃c,dat[i]? = some c/\V.str c=x:=by
      rw[e9] at hx;cases e:dat[i]? with
      | none=>rw[e] at hx;cases hx
      | some nm=>rw[e] at hx;exact⟨nm,rfl,fx hx⟩
    have ax:c∈dat:=fy an
    have a4:=ag c ax;have a2:dat.take (i+1)=dat.take i++[c]:=by rw[j_,an];rfl
    have a9:c∉dat.take i:=λhm=>by
      obtain⟨j,hj,e⟩:=t_ hm;have az:j < i:=by simp at hj;omega
      have e2:dat[j]? = some c:=by rw[<- e,List.getElem_take];simp
      have:=fi am e2 an
      omega
    obtain⟨ra,aH,ay⟩:=M.rf c a4;obtain⟨g1,g2,g3⟩:=M.gd c a4;have aE:=ad _ _ aF;have a5:=ad _ _ ay;ctx_has v aE aH a5
    refine bS aW (λj σ H'=>∃(sv:List (Key × V)) (v4:Option V),σ=[-p,-r,-se,some (.str c),v4]/\H' se<*sv/\(∀v:Int,(bO sv (i7 v)).isSome=true↔(∃c∈dat.take i,v∈rm c)\/v∈(rm c).take j)/\(∀v∈(rm c).take j,∀Y∈dat.take i,v∉rm Y)/\sv.length<=4 * i+j/\aw H H')
      ⟨sv,_,rfl,h2,λv=>by rw[a0 v];simp,by simp,a1,ad⟩ (λi σ H' a3=>by obtain⟨_,_,_,_,_,_,_,sm⟩:=a3;exact(.of (sm _ _ ay))) ?_ ?_
    . rintro j y σ H3 hj hy ⟨sv,v4,rfl,h3,B,ac,aj,ai⟩
      rw[c_] at hj;obtain⟨v,aq,rfl⟩ : ∃v,(rm c)[j]? = some v/\V.int v=y:=by
        rw[e9] at hy;cases e:(rm c)[j]? with
        | none=>rw[e] at hy;cases hy
        | some nm=>rw[e] at hy;exact⟨nm,rfl,fx hy⟩
      have aC:v∈rm c:=fy aq
      have aI:v∉(rm c).take j:=λhm=>by
        obtain⟨j',az,e⟩:=t_ hm;have aL:j' < j:=by simp at az;omega
        have e2:(rm c)[j']? = some v:=by rw[<- e,List.getElem_take];simp
        have:=fi g3 e2 aq
        omega
      have ao:(rm c).take (j+1)=(rm c).take j++[v]:=by rw[j_,aq];rfl
      ctx_has v h3
      refine cV (λh=>?_) (λh=>?_)
      . refine k true H3 ⟨λ_=>?_,λ_=>rfl⟩ ai
        rcases (B v).mp h with⟨Y,Z,F⟩ | z
        . have aa:c≠Y:=λe=>a9 (e ▸ Z)
          obtain⟨g,hg,e1,e2⟩:=DK aa aC F (λx hx=>(M.gd x hx).1) (cs:=cs)
          refine⟨g,hg,decide_eq_false ((eJ am).mpr ⟨c,ax,Y,GU Z,aa,by rw[e1,e2]⟩)⟩
        . exact absurd z aI
      . have aG : ¬ ((∃c∈dat.take i,v∈rm c)\/v∈(rm c).take j):=λz=>h ((B v).mpr z)
        refine⟨aN (),bm sv (i7 v) (.bl true),ae,λv'=>?_,λv' F Y Z ar=>?_,gr (cR _ _ _) (),λb o e=>?_⟩
        . rw[hZ]
          by_cases ev:v'=v
          . subst ev
            rw[if_pos rfl,ao];simp
          . rw[if_neg (λz=>ev (G8 z)),B v',ao]
            simp[ev]
        . rw[ao] at F
          rcases i9.mp F with z | z
          . exact ac v' z Y Z ar
          . rw[e7.mp z] at ar
            exact aG (.inl ⟨Y,Z,ar⟩)
        . rw[ah (au e a6)];exact ai b o e
    . rintro σ H3 ⟨sv,v4,rfl,h3,B,ac,aj,ai⟩
      rw[c_,l_] at B ac;rw[c_] at aj;refine⟨sv,_,_,rfl,h3,λv=>?_,λx hx y hy aa v hv F=>?_,(),ai⟩
      . rw[B v,a2]
        constructor
        . rintro(⟨Y,h5,h6⟩ | h5)
          . exact⟨Y,ki _ h5,h6⟩
          . exact⟨c,by simp,h5⟩
        . rintro⟨Y,h5,h6⟩
          rcases i9.mp h5 with z | z
          . exact .inl ⟨Y,z,h6⟩
          . rw[e7.mp z] at h6;exact .inr h6
      . rw[a2] at hx hy
        rcases i9.mp hx with z | z
        . rcases i9.mp hy with z' | z'
          . exact ab x z y z' aa v hv F
          . rw[e7.mp z'] at F
            exact ac v F x z hv
        . rw[e7.mp z] at hv aa
          rcases i9.mp hy with z' | z'
          . exact ac v hv y z' F
          . exact aa (e7.mp z').symm
  . rintro σ H2 ⟨sv,v3,v4,rfl,h2,a0,ab,a1,ad⟩
    rw[c_,l_] at ab;ctx_has v
    refine k false H2 ⟨λz=>(by cases z),?_⟩ ad
    rintro⟨g,hg,hk⟩
    obtain⟨c,hc,Y,Z,aa,e⟩:=(eJ am).mp (of_decide_eq_false hk);exact absurd (e ▸ hg Y (ag Y Z)) (λz=>ab c hc Y Z aa (g c) (hg c (ag c hc)) z)
theorem om (T : Txt w K mg) (L:FnL K mg "finds_value" cY ["cell","rooms","holders","tried"]) (Ff:Fn P w K mg base "finds_value" (n+1) ["cell","rooms","holders","tried"] (jG n)):Fn P w K mg base "finds_value" (n+1+1) ["cell","rooms","holders","tried"] (jG (n+1)):=by
  ctx_has z jo <;> obtain⟨r,ha,ta,CS,kvs,rm,U,hl,tl,c,rfl,k0,hc,hm,k⟩:=h
  . rfl
  refine⟨_,(af (bq (bZ K (bH hu (pvM 1) (pvM 0))) (aA 4) (ak (bv (qj (ig hu (pvM 4) (pvM 3))) (af (gK hu (pvM 3) (pvM 4) de rfl)
    (ak (bv (PW.pt (ux (qj (ig hu (pvM 4) (pvM 2))) (sU (gi (az Ff (ac (bH hu (pvM 2) (pvM 4)) (ac (pvM 1) (ac (pvM 2) (ac (pvM 3) ai))))))))) (af (gK hu (pvM 2) (pvM 4) (pvM 0) rfl)
    (ak (aB de))) aO))) aO)))
    (ak (aB de))),?_⟩
  obtain⟨ra,aC,ag⟩:=k0.rf c hc;have a8:=k0.rd;ctx_has v a8 aC ag
  refine bS aW (λj σ H'=>∃(Y:List Int) (v4:Option V),σ=[some (.str c),-r,-ha,-ta,v4]/\dr H' r ha ta CS kvs rm U hl Y/\(∀v∈tl,v∈Y)/\(∀v∈(rm c).take j,v∈Y)/\(∀v∈Y,v∉tl->∃x,bD hl v=some x/\∀v'∈rm x,v'∈Y)/\∀a o,a≠ha->a≠ta->H a=some o->H' a=some o)
    ⟨tl,_,rfl,k0,λv h=>h,by simp,λv h h'=>absurd h h',λa o _ _ e=>e⟩ (λj σ H' a3=>by obtain⟨_,_,_,_,_,_,_,kp⟩:=a3;exact(.of (kp _ _ (aX ag k0.hh (by intro z;cases z)) (aX ag k0.ht (by intro z;cases z)) ag))) ?_ ?_
  . rintro j y σ H1 hj hy ⟨Y,v4,rfl,k1,F,B,ab,kp⟩
    rw[c_] at hj;obtain⟨v,au,rfl⟩ : ∃v,(rm c)[j]? = some v/\V.int v=y:=by
      rw[e9] at hy;cases e:(rm c)[j]? with
      | none=>rw[e] at hy;cases hy
      | some nm=>rw[e] at hy;exact⟨nm,rfl,fx hy⟩
    have an:v∈rm c:=fy au
    have aq:(rm c).take (j+1)=(rm c).take j++[v]:=by rw[j_,au];rfl
    have a2:=k1.ru c hc v an;have a4:=k1.ht;ctx_has v a4
    rw[kz];refine cV (λh=>?_) (λh=>?_)
    . have ad:v∉Y:=by simpa using h
      have aj:v∉tl:=λz=>ad (F v z)
      rw[ya ad];have k2:=k1.tryV ad a2;have ay:=k2.hh;have am : ∀a o,a≠ha->a≠ta->H a=some o->upd H1 ta (.dK ((Y++[v]).map iK)) a=some o:=λa o h1 h2 e=>by rw[ah h2];exact kp a o h1 h2 e
      generalize upd H1 ta (.dK ((Y++[v]).map iK))=H2 at k2 ay am ⊢;have aa : ∀u∈tl,u∈Y++[v]:=λu hu=>ki _ (F u hu)
      refine⟨o9 (show(Y.map iK).length<=100 by rw[c_];exact k1.small.2) ∅,?_⟩
      ctx_has v ay
      rw[lQ];cases hg:bD hl v with
      | none =>
        ctx_has v Option.map_none
        simp only[Option.isSome_none,Bool.not_false,if_true];refine⟨o9 (show(hl.map hE).length<=100 by rw[c_];exact k2.small.1) ∅,?_⟩
        rw[mi v c k2.hk];refine k true (dz hl v c) (Y++[v]) _ (k2.hold hc an) aa (λa o h1 h2 e=>by rw[ah h1];exact am a o h1 h2 e) (λ_=>⟨λy=>?_,λu hu=>?_⟩) (λz=>by cases z)
        . have h1:=pW v c y k2.hk
          rw[hg,if_neg (by intro z;cases z)] at h1
          exact h1
        . rw[mB,if_neg (show ¬ u=v from λe=>aj (e ▸ hu))]
      | some x =>
        simp only[H_,isSome_some,Bool.not_true,gt,if_false];rw[if_neg ∅]
        have a6:=fV hg;refine⟨_,rfl,r,ha,ta,CS,kvs,rm,U,hl,Y++[v],x,rfl,k2,(k2.hv _ a6).1,?_,λb2 ao ap H3 k3 Z a9 ht hf=>⟨b2,rfl,?_⟩⟩
        . have h1:=zK a2 ad
          have h2:=vD (U:=U) F;omega
        have ar : ∀a o,a≠ha->a≠ta->H a=some o->H3 a=some o:=λa o h1 h2 e=>a9 a o h1 h2 (am a o h1 h2 e)
        cases b2 with
        | true =>
          rw[if_pos rfl];obtain⟨a1,a0⟩:=ht rfl;refine⟨_,k3.hh,o9 (show(ao.map hE).length<=100 by rw[c_];exact k3.small.1) ∅,?_⟩
          rw[mi v c k3.hk];refine k true (dz ao v c) ap _ (k3.hold hc an) (λu hu=>Z u (aa u hu)) (λa o h1 h2 e=>by rw[ah h1];exact ar a o h1 h2 e) (λ_=>⟨λy=>?_,λu hu=>?_⟩) (λz=>by cases z)
          . have h1:=pW v c y k3.hk
            have h2:=a1 y;rw[a0 v (by simp),hg] at h1
            simp only[Option.some.injEq] at h1;omega
          . rw[mB,if_neg (show ¬ u=v from λe=>aj (e ▸ hu))]
            exact a0 u (aa u hu)
        | false =>
          rw[if_neg ∅]
          obtain⟨rfl,a7,ax⟩:=hf rfl;refine⟨ap,k3,λu hu=>Z u (aa u hu),λu hu=>?_,λu hu aD=>?_,ar⟩
          . rw[aq] at hu
            rcases i9.mp hu with q | q
            . exact Z u (ki _ (B u q))
            . rw[e7.mp q];exact Z v (by simp)
          . by_cases h1:u∈Y
            . obtain⟨x',h2,h3⟩:=ab u h1 aD
              exact⟨x',h2,λv' a5=>Z v' (ki _ (h3 v' a5))⟩
            . by_cases h2:u=v
              . subst h2;exact⟨x,hg,a7⟩
              . exact ax u hu (by simp[h1,h2])
    . have ad:v∈Y:=by simpa using h
      refine⟨Y,k1,F,λu hu=>?_,ab,kp⟩
      rw[aq] at hu;rcases i9.mp hu with q | q
      . exact B u q
      . rw[e7.mp q];exact ad
  . rintro σ H1 ⟨Y,v4,rfl,k1,F,B,ab,kp⟩
    rw[c_,l_] at B;ctx_has v
    exact k false hl Y H1 k1 F kp (λz=>by cases z) (λ_=>⟨rfl,B,ab⟩)
theorem ow (T:Txt w K mg) (L:FnL K mg "finds_value" cY ["cell","rooms","holders","tried"]):Fn P w K mg base "finds_value" (0+1) ["cell","rooms","holders","tried"] (jG 0):=by
 ctx_has z jo <;> obtain⟨r,ha,ta,CS,kvs,rm,U,hl,tl,c,rfl,k0,hc,hm,k⟩:=h
 .rfl
 refine⟨_,(af (bq (bZ K (bH hu (pvM 1) (pvM 0))) (aA 4) (ak (bv (qj (ig hu (pvM 4) (pvM 3))) (af (gK hu (pvM 3) (pvM 4) de rfl)
  (ak (bv (PW.pt (ux (qj (ig hu (pvM 4) (pvM 2))) (sU (gi Ar)))) (af (gK hu (pvM 2) (pvM 4) (pvM 0) rfl)
  (ak (aB de))) aO))) aO)))
  (ak (aB de))),?_⟩
 obtain⟨ra,ah,F⟩:=k0.rf c hc;have aj:=k0.rd;ctx_has v aj ah F
 refine bS aW (λj σ H'=>∃(B:List Int) (v4:Option V),σ=[some (.str c),-r,-ha,-ta,v4]/\dr H' r ha ta CS kvs rm U hl B/\(∀v∈tl,v∈B)/\(∀v∈(rm c).take j,v∈B)/\(∀v∈B,v∉tl->∃x,bD hl v=some x/\∀v'∈rm x,v'∈B)/\∀a o,a≠ha->a≠ta->H a=some o->H' a=some o)
  ⟨tl,_,rfl,k0,λv h=>h,by simp,λv h h'=>absurd h h',λa o _ _ e=>e⟩ (λj σ H' ab=>by obtain⟨_,_,_,_,_,_,_,Z⟩:=ab;exact(.of (Z _ _ (aX F k0.hh (by intro z;cases z)) (aX F k0.ht (by intro z;cases z)) F))) ?_ ?_
 .rintro j y σ H1 hj hy ⟨B,v4,rfl,k1,hsub,hdone,hclo,Z⟩
  rw[c_] at hj;obtain⟨v,aa,rfl⟩ : ∃v,(rm c)[j]? = some v/\V.int v=y:=by
   rw[e9] at hy;cases e:(rm c)[j]? with
   | none=>rw[e] at hy;cases hy
   | some nm=>rw[e] at hy;exact⟨nm,rfl,fx hy⟩
  have ag:v∈rm c:=fy aa
  have am:(rm c).take (j+1)=(rm c).take j++[v]:=by rw[j_,aa];rfl
  have ad:=k1.ru c hc v ag;have ai:=k1.ht;ctx_has v ai
  rw[kz];refine cV (λh=>?_) (λh=>?_)
  .have hvn:v∉B:=by simpa using h
   have Y:v∉tl:=λz=>hvn (hsub v z)
   exfalso
   have ac:v∈U.filter (λx=>decide (x∉tl)):=x4.mpr ⟨ad,decide_eq_true Y⟩
   have:=G2 ac
   omega
  .have hvn:v∈B:=by simpa using h
   refine⟨B,k1,hsub,λu hu=>?_,hclo,Z⟩
   rw[am] at hu;rcases i9.mp hu with q | q
   .exact hdone u q
   .rw[e7.mp q];exact hvn
 .rintro σ H1 ⟨B,v4,rfl,k1,hsub,hdone,hclo,Z⟩
  rw[c_,l_] at hdone;ctx_has v
  exact k false hl B H1 k1 hsub Z (λz=>by cases z) (λ_=>⟨rfl,hdone,hclo⟩)
theorem uv {P:Program} {w:World} {K:e_} {mg:Str->Option Value} {base:Heap} (T:Txt w K mg) (L:FnL K mg "finds_value" cY ["cell","rooms","holders","tried"]) : ∀n,Fn P w K mg base "finds_value" (n+1) ["cell","rooms","holders","tried"] (jG n)
 | 0=>ow T L
 | n+1=>om T L (uv T L n)
theorem oz {v:Int} {x:Str} : ∀{hl:List (Int × Str)},(v,x)∈hl->1<=dX hl x
 | (w,z) :: r,h=>by
  simp only[dX];rcases i4.mp h with q | q
  .cases q;rw[if_pos rfl];omega
  .have:=oz q;omega
theorem xy {v v':Int} {x:Str} (B:v≠v') : ∀{hl:List (Int × Str)},(v,x)∈hl->(v',x)∈hl->2<=dX hl x
 | (w, z) :: r,h,h'=>by
  simp only[dX];rcases i4.mp h with q | q
  .rcases i4.mp h' with q' | q'
   .cases q;cases q';exact absurd rfl B
   .cases q
    have:=oz q'
    rw[if_pos rfl];omega
  .rcases i4.mp h' with q' | q'
   .cases q'
    have:=oz q
    rw[if_pos rfl];omega
   .have:=xy B q q';omega
theorem xA {x:Str} : ∀{hl:List (Int × Str)},1<=dX hl x->∃v,(v,x)∈hl
 | [],h=>by simp[dX] at h
 | (w,z) :: r,h=>by
  by_cases e:z=x
  .subst e;exact⟨w,by simp⟩
  .simp only[dX,if_neg e] at h
   obtain⟨v,B⟩:=xA (x:=x) (hl:=r) ()
   exact⟨v,by simp[B]⟩
theorem yJ {hl:List (Int × Str)} (tn:tl.Nodup) (h0:dX hl c=0) (h1 : ∀y,dX hl y<=1) (hc : ∀v∈rm c,v∈tl) (L : ∀v∈tl,∃x,bD hl v=some x/\∀v'∈rm x,v'∈tl)
  (inj : ∀x y,(x=c\/∃v,bD hl v=some x)->(y=c\/∃v,bD hl v=some y)->g x=g y->x=y) (aa:g c∈rm c) (Z : ∀v x,bD hl v=some x->g x∈rm x):False:=by
 have Y : ∀v∈tl,bD hl v=some ((bD hl v).getD c):=λv F=>by obtain⟨x,e,_⟩:=L v F;rw[e];rfl
 have ab:(c :: tl.map λv=>(bD hl v).getD c).Nodup:=by
  rw[md];refine⟨λz=>?_,E_.mpr (GJ (λ{a b} ha hb q e=>?_) tn)⟩
  .obtain⟨v,F,e⟩:=hB.mp z
   have h2:=oz (fV (Y v F));rw[e] at h2;omega
  .have h2:=xy q (fV (Y a ha)) (by rw[e];exact fV (Y b hb))
   have:=h1 ((bD hl a).getD c)
   omega
 have B : ∀y∈(c :: tl.map λv=>(bD hl v).getD c),(y=c\/∃v,bD hl v=some y)/\g y∈tl:=λy hy=>by
  rcases i4.mp hy with q | q
  .subst q;exact⟨.inl rfl,hc _ aa⟩
  .obtain⟨v,F,rfl⟩:=hB.mp q
   obtain⟨x,e,hx⟩:=L v F;have e':=Y v F;refine⟨.inr ⟨v,e'⟩,?_⟩
   have:(bD hl v).getD c=x:=by rw[e];rfl
   rw[this];exact hx _ (Z v x e)
 have hg:((c :: tl.map λv=>(bD hl v).getD c).map g).Nodup:=E_.mpr (GJ (λ{a b} ha hb q e=>q (inj a b (B a ha).1 (B b hb).1 e)) ab)
 have:=eB (ys:=tl) hg λv F=>by
  obtain⟨y,hy,rfl⟩:=hB.mp F;exact(B y hy).2
 simp at this
 omega
def Ai (hl:List (Int × Str)) (y:Str):Int:=((hl.find? λx=>decide (x.2=y)).map (·.1)).getD 0
theorem mt {hl:List (Int × Str)} {y:Str} (h:1<=dX hl y):(Ai hl y,y)∈hl:=by
 obtain⟨v,B⟩:=xA h;unfold Ai;cases e:hl.find? λx=>decide (x.2=y) with
 | none =>
  have:=List.find?_eq_none.mp e (v,y) B
  simp at this
 | some x =>
  have h1:=List.mem_of_find?_eq_some e;have h2:=List.find?_some e;have F:x.2=y:=by simpa using h2
  subst F;exact h1
theorem uQ {rm:Str->List Int} : ∀{cs:List Str},(∀c∈cs,(rm c).length<=4)->(cs.flatMap rm).length<=4 * cs.length
 | [],_=>by simp
 | c :: cs,h=>by
  have h1:=h c (by simp)
  have h2:=uQ (cs:=cs) λx B=>h x (by simp[B])
  rw[List.flatMap_cons,u9,w_];omega
theorem kf (T:Txt w K mg) (L:cI K (aR K (ap mg "Unlike") "may_keep") "may_keep" "Unlike.may_keep" eF ["self","rooms"]) (Ff:Fn P w K mg base "finds_value" 21 ["cell","rooms","holders","tried"] (jG 20)):FnR P w K mg base (aR K (ap mg "Unlike") "may_keep") 22 ["self","rooms"] (fc mg):=by
 ctx_has z kG <;> obtain⟨p,r,dat,cs,kvs,rm,rfl,M,k⟩:=h
 .rfl
 refine⟨_,(af (aD 2 gm)
  (af (bq (bZ K (aU T.cl_Unlike T.no_Unlike_cells (pvM 0))) (aA 3) (ak (bv (sF (gi (az Ff (ac (pvM 3) (ac (pvM 1) (ac (pvM 2) (ac gm ai))))))) (ak (aB de)) aO)))
  (ak (aB de)))),?_⟩
 obtain⟨dx,fs,ce,h1,f1,ay,_,_⟩:=M.ob;have ag:=M.rd;have Z:dat.Nodup:=M.ok.nodup_iff.mpr M.nd
 have aE:dat.length=cs.length:=M.ok.length_eq
 have ao : ∀c∈dat,c∈cs:=λc hc=>M.ok.mem_iff.mp hc
 have a3:(cs.flatMap rm).length<=20:=by
  have:=uQ (rm:=rm) (cs:=cs) (λc hc=>(M.gd c hc).2.1)
  have:=M.cl
  omega
 have a8:=M.cl;ctx_has v
 intro ha ad;have s1:aw H (upd H ha (.dK [])):=aw.upd0 ad
 refine⟨dx,fs,s1 _ _ h1,_,f1,ce,rfl,_,s1 _ _ ay,?_⟩
 refine bS aW (λi σ H'=>∃(hl:List (Int × Str)) (v3:Option V),σ=[-p,-r,-ha,v3]/\H' ha<*(hl.map hE)/\(hl.map (·.1)).Nodup/\(∀x∈hl,x.2∈cs/\x.1∈rm x.2)/\(∀y,dX hl y=if y∈dat.take i then 1 else 0)/\aw H H')
  ⟨[],_,rfl,ae,by simp,by simp,by simp[dX],s1⟩ (λi σ H' aj=>by obtain⟨_,_,_,_,_,_,_,sm⟩:=aj;exact(.of (sm _ _ ay))) ?_ ?_
 .rintro i x σ H2 hi B ⟨hl,v3,rfl,h2,hkn,hkv,hcn,sm2⟩
  rw[c_] at hi;obtain⟨c,aa,rfl⟩ : ∃c,dat[i]? = some c/\V.str c=x:=by
   rw[e9] at B;cases e:dat[i]? with
   | none=>rw[e] at B;cases B
   | some nm=>rw[e] at B;exact⟨nm,rfl,fx B⟩
  have am:c∈dat:=fy aa
  have aq:=ao c am;have a2:dat.take (i+1)=dat.take i++[c]:=by rw[j_,aa];rfl
  have F:c∉dat.take i:=λhm=>by
   obtain⟨j,hj,e⟩:=t_ hm;have aC:j < i:=by simp at hj;omega
   have e2:dat[j]? = some c:=by rw[<- e,List.getElem_take];simp
   have:=fi Z e2 aa
   omega
  ctx_has v
  intro ta Y;have s3:aw H2 (upd H2 ta (.dK [])):=aw.upd0 Y
  have a7:r≠ha:=au ag ad
  have k0:dr (upd H2 ta (.dK [])) r ha ta cs kvs rm (cs.flatMap rm) hl []:=⟨s3 _ _ (sm2 _ _ ag),(M.rf.same (λa vs e=>sm2 _ _ e)).same (λa vs e=>s3 _ _ e),s3 _ _ h2,ae,⟨a7,au (sm2 _ _ ag) Y,au h2 Y⟩,hkn,hkv,by simp,by simp,λx B v hv=>mem_flatMap.mpr ⟨x,B,hv⟩,(),λx B=>by have:=(M.gd x B).2.1;omega⟩
  refine⟨r,ha,ta,cs,kvs,rm,cs.flatMap rm,hl,[],c,rfl,k0,aq,gr (Ha _ _) a3,λb ah a9 H3 k3 _ kp ht hf=>?_⟩
  have ax:aw H H3:=λa o e=>kp a o (au e ad) (au (sm2 _ _ e) Y) (s3 _ _ (sm2 _ _ e))
  ctx_has v
  cases b with
  | true =>
   rw[if_neg ∅]
   obtain⟨a1,_⟩:=ht rfl;refine⟨ah,k3.hh,k3.hk,k3.hv,λy=>?_,ax⟩
   rw[a1 y,hcn y,a2]
   by_cases e:c=y
   .subst e;simp[F]
   .simp[e,tj e]
  | false =>
   rw[if_pos rfl];obtain⟨rfl,a4,ar⟩:=hf rfl;refine k false H3 ⟨λz=>(by cases z),?_⟩ ax
   rintro⟨g,hg,hk⟩
   exfalso
   have a6:(dat.map g).Nodup:=of_decide_eq_true hk
   have hold : ∀v x,bD ah v=some x->x∈dat/\x∈cs:=λv x e=>by
    have:=(hkv _ (fV e)).1
    exact⟨M.ok.mem_iff.mpr this,this⟩
   have inj : ∀x∈dat,∀y∈dat,g x=g y->x=y:=λx B y hy e=>nH λab=>(eJ Z).mpr ⟨x,B,y,hy,ab,e⟩ a6
   have inD : ∀x,(x=c\/∃v,bD ah v=some x)->x∈dat:=λx h=>by
    rcases h with h | ⟨v,h⟩
    .rw[h];exact am
    .exact(hold v x h).1
   refine yJ (g:=g) k3.tn (by rw[hcn c,if_neg F]) (λy=>by rw[hcn y];split <;> omega) a4 (λv hv=>ar v hv (by simp)) (λx y B hy e=>inj x (inD x B) y (inD y hy) e) (hg c aq) (λv x e=>hg x (hold v x e).2)
 .rintro σ H2 ⟨hl,v3,rfl,h2,hkn,hkv,hcn,sm2⟩
  rw[c_,l_] at hcn;ctx_has v
  refine k true H2 ⟨λ_=>⟨Ai hl,λc hc=>?_,?_⟩,λ_=>rfl⟩ sm2
  .have hm:=mt (hl:=hl) (y:=c) (by rw[hcn c,if_pos (M.ok.mem_iff.mpr hc)];exact i6 _)
   exact(hkv _ hm).2
  .refine decide_eq_true (nH λa5=>?_)
   obtain⟨c,hc,c',a0,ab,e⟩:=(eJ Z).mp a5;have hm:=mt (hl:=hl) (y:=c) (by rw[hcn c,if_pos hc];exact i6 _)
   have an:=mt (hl:=hl) (y:=c') (by rw[hcn c',if_pos a0];exact i6 _)
   rw[<- e] at an;have:=(mJ hkn hm).symm.trans (mJ hkn an)
   exact ab (fx this)
structure jA (mg:Str->Option Value) (H:Hp) (p:Addr) (am ce:V) (lo hi:Int):Prop where
 ex : ∃dx fs,H p=some (.ins (ap mg "Many") dx fs)/\fs.lookup (b_ "among")=some am/\fs.lookup (b_ "cells")=some ce/\fs.lookup (b_ "low")=some (.int lo)/\fs.lookup (b_ "high")=some (.int hi) /\
  fs.lookup (b_ "fewest")=none/\fs.lookup (b_ "most")=none/\fs.lookup (b_ "may_keep")=none/\fs.lookup (b_ "may_break")=none
theorem jA.same {F B:V} {hi:Int} (h:jA mg H p F B lo hi) (s:aw H H'):jA mg H' p F B lo hi:=by
 obtain⟨dx,fs,h1,r⟩:=h.ex;exact⟨dx,fs,s _ _ h1,r⟩
def uK (mg:Str->Option Value):Sp:=λvs H Q _=>∃(p dx w:Addr) (F B:V) (lo hi:Int),vs=[.ref p,.ref w]/\H p=some (.ins (ap mg "Many") dx [])/\H w>>[.str "many",F,B,.int lo,.int hi]/\∀H',jA mg H' p F B lo hi->fX p H H'->Q .non H'
def dE (av:List Int) (rm:Str->List Int) (cs:List Str):Nat:=(cs.filter λc=>(rm c).all λv=>decide (v∈av)).length
def cO (av:List Int) (rm:Str->List Int) (cs:List Str):Nat:=(cs.filter λc=>(rm c).any λv=>decide (v∈av)).length
structure iC (mg:Str->Option Value) (H:Hp) (p r:Addr) (av:List Int) (cs:List Str) (lo hi:Int) (kvs:List (Key × V)) (rm:Str->List Int):Prop where
 ob : ∃am ce,jA mg H p (.ref am) (.ref ce) lo hi/\H am>>(av.map V.int)/\H ce>>(cs.map V.str)
 rd:H r<*kvs
 rf:aZ H kvs cs rm
 sm:av.length<=20/\cs.length<=20/\∀c∈cs,(rm c).length<=20
def vO (mg:Str->Option Value):Sp:=λvs H Q _=>∃(p r:Addr) (av:List Int) (cs:List Str) (lo hi:Int) (kvs:List (Key × V)) (rm:Str->List Int),vs=[.ref p,.ref r]/\iC mg H p r av cs lo hi kvs rm/\∀H',aw H H'->Q (.int (dE av rm cs)) H'
def rW (mg:Str->Option Value):Sp:=λvs H Q _=>∃(p r:Addr) (av:List Int) (cs:List Str) (lo hi:Int) (kvs:List (Key × V)) (rm:Str->List Int),vs=[.ref p,.ref r]/\iC mg H p r av cs lo hi kvs rm/\∀H',aw H H'->Q (.int (cO av rm cs)) H'
def gV (lo hi:Int) (a b:Nat):Bool:=decide (lo<=hi) && decide (lo<=b) && decide ((a:Int)<=hi) && decide (a<=b)
def gs (lo hi:Int) (a b:Nat):Bool:=decide ((a:Int) < lo) || decide (hi < (b:Int))
def eS (mg:Str->Option Value):Sp:=λvs H Q _=>∃(p r:Addr) (av:List Int) (cs:List Str) (lo hi:Int) (kvs:List (Key × V)) (rm:Str->List Int),vs=[.ref p,.ref r]/\iC mg H p r av cs lo hi kvs rm/\∀H',aw H H'->Q (.bl (gV lo hi (dE av rm cs) (cO av rm cs))) H'
def gB (mg:Str->Option Value):Sp:=λvs H Q _=>∃(p r:Addr) (av:List Int) (cs:List Str) (lo hi:Int) (kvs:List (Key × V)) (rm:Str->List Int),vs=[.ref p,.ref r]/\iC mg H p r av cs lo hi kvs rm/\∀H',aw H H'->Q (.bl (gs lo hi (dE av rm cs) (cO av rm cs))) H'
theorem iC.same {mg:Str->Option Value} {H H':Hp} {p r:Addr} {av:List Int} {cs:List Str} {lo hi:Int} {kvs:List (Key × V)} {rm:Str->List Int} (h:iC mg H p r av cs lo hi kvs rm) (s:aw H H'):iC mg H' p r av cs lo hi kvs rm:=by
 obtain⟨L,B,h1,h2,F⟩:=h.ob;refine⟨⟨L,B,h1.same s,s _ _ h2,s _ _ F⟩,s _ _ h.rd,λc Y=>?_,h.sm⟩
 obtain⟨a,e1,e2⟩:=h.rf c Y;exact⟨a,e1,s _ _ e2⟩
def iI (av:List Int) (cs:List Str) (g:Str->Int):Nat:=(cs.filter λc=>decide (g c∈av)).length
def sW (lo hi:Int) (av:List Int) (cs:List Str) (g:Str->Int):Bool:=decide (lo<=(iI av cs g:Int)) && decide ((iI av cs g:Int)<=hi)
theorem jm {av:List Int} {rm:Str->List Int} {g:Str->Int} : ∀{cs:List Str},okF rm cs g->dE av rm cs<=iI av cs g/\iI av cs g<=cO av rm cs
 | [],_=>⟨i6 _,i6 _⟩
 | c :: cs,h=>by
  have Y:=jm (av:=av) (cs:=cs) λx L=>h x (by simp[L])
  have F:=h c (by simp)
  unfold dE iI cO at *;rw[u6,u6,u6]
  by_cases B:g c∈av
  .have h3:(rm c).any (λv=>decide (v∈av))=true:=sn.mpr ⟨g c,F,by simp[B]⟩
   rw[if_pos h3,if_pos (decide_eq_true B)]
   split <;> (try simp only[w_]) <;> omega
  .have h3 : ¬ ((rm c).all (λv=>decide (v∈av))=true):=λz=>B (by simpa using w4.mp z (g c) F)
   rw[if_neg h3,if_neg (by simpa using B)]
   split <;> (try simp only[w_]) <;> omega
theorem Bc : ∀{cs:List Str},c∉cs->iI av cs (bN g c v)=iI av cs g:=λ{cs} h=>by
 unfold iI
 congr 1
 refine List.filter_congr λx B=>?_
 rw[cE];rintro rfl
 exact h B
theorem im {av:List Int} {rm:Str->List Int} : ∀{cs:List Str},(∀c∈cs,1<=(rm c).length)->dE av rm cs<=cO av rm cs
 | [],_=>i6 _
 | c :: cs,h=>by
  have L:=im (av:=av) (rm:=rm) (cs:=cs) λx F=>h x (by simp[F])
  have B:=h c (by simp)
  unfold dE cO at *;rw[u6,u6]
  by_cases h1:(rm c).all (λv=>decide (v∈av))=true
  .have h3:(rm c).any (λv=>decide (v∈av))=true:=by
    cases e:rm c with
    | nil=>rw[e] at B;simp at B
    | cons a b=>rw[e] at h1;simp at h1 ⊢;exact .inl h1.1
   rw[if_pos h1,if_pos h3];simp;exact L
  .rw[if_neg h1]
   split <;> (try simp only[w_]) <;> omega
theorem kX {av:List Int} {rm:Str->List Int} : ∀{cs:List Str} {n:Nat},(∀c∈cs,1<=(rm c).length)->cs.Nodup->dE av rm cs<=n->n<=cO av rm cs->∃g,okF rm cs g/\iI av cs g=n
 | [],n,_,_,h1,h2=>⟨λ_=>0,λc hc=>by simp at hc,by simp[dE,cO,iI] at *;omega⟩
 | c :: cs,n,hne,hnd,h1,h2=>by
  have ai:c∉cs:=(md.mp hnd).1
  have ac:=(md.mp hnd).2;have Z : ∀x∈cs,1<=(rm x).length:=λx hx=>hne x (by simp[hx])
  have hc:=hne c (by simp)
  have am:=im (av:=av) Z;have ab : ∀(v:Int) (m:Nat),v∈rm c->dE av rm cs<=m->m<=cO av rm cs->n=m+(if v∈av then 1 else 0)->∃g,okF rm (c :: cs) g/\iI av (c :: cs) g=n:=λv m hv af L e=>by
   obtain⟨g,hg,F⟩:=kX (av:=av) Z ac af L;refine⟨bN g c v,λx hx=>?_,?_⟩
   .by_cases ex:x=c
    .subst ex;rw[bo];exact hv
    .rw[cE _ _ ex]
     rcases i4.mp hx with z | z
     .exact absurd z ex
     .exact hg x z
   .have e2:=Bc (av:=av) (v:=v) (g:=g) ai
    unfold iI at e2 F ⊢;rw[u6,bo]
    by_cases Y:v∈av
    .rw[if_pos Y] at e
     rw[if_pos (decide_eq_true Y),w_,e2,F];omega
    .rw[if_neg Y] at e
     rw[if_neg (by simpa using Y),e2,F];omega
  obtain⟨v0,aa⟩ : ∃v,v∈rm c:=by
   cases e:rm c with
   | nil=>rw[e] at hc;simp at hc
   | cons a b=>exact⟨a,by simp⟩
  have f1:dE av rm (c :: cs)=dE av rm cs+(if (rm c).all (λv=>decide (v∈av))=true then 1 else 0):=by
   unfold dE;rw[u6];split <;> simp
  have f2:cO av rm (c :: cs)=cO av rm cs+(if (rm c).any (λv=>decide (v∈av))=true then 1 else 0):=by
   unfold cO;rw[u6];split <;> simp
  rw[f1] at h1;rw[f2] at h2
  by_cases ha:(rm c).all (λv=>decide (v∈av))=true
  .rw[if_pos ha] at h1
   have hm:v0∈av:=by simpa using w4.mp ha v0 aa
   have B:(rm c).any (λv=>decide (v∈av))=true:=sn.mpr ⟨v0,aa,by simp[hm]⟩
   rw[if_pos B] at h2;exact ab v0 (n - 1) aa () () (by rw[if_pos hm];omega)
  .rw[if_neg ha] at h1
   obtain⟨v1,ah,ad⟩ : ∃v∈rm c,v∉av:=nH λak=>ha (w4.mpr λv hv=>decide_eq_true (nH λz=>ak ⟨v,hv,z⟩))
   by_cases aj:n<=cO av rm cs
   .exact ab v1 n ah () aj (by rw[if_neg ad];omega)
   .by_cases B:(rm c).any (λv=>decide (v∈av))=true
    .rw[if_pos B] at h2
     obtain⟨v2,ag,L⟩:=sn.mp B;have L:v2∈av:=by simpa using L
     exact ab v2 (n - 1) ag () () (by rw[if_pos L];omega)
    .rw[if_neg B] at h2;omega
theorem xP {hi:Int} (B : ∀c∈cs,1<=(rm c).length) (F:cs.Nodup):(∃g,okF rm cs g/\sW lo hi av cs g=true)↔gV lo hi (dE av rm cs) (cO av rm cs)=true:=by
 unfold sW gV;simp only[k9,decide_eq_true_eq]
 constructor
 .rintro⟨g,L,h1,h2⟩
  have:=jm (av:=av) L
  omega
 .rintro⟨⟨⟨h1,h2⟩,h3⟩,h4⟩
  obtain⟨g,L,e⟩:=kX (av:=av) (n:=if lo<=(dE av rm cs:Int) then dE av rm cs else lo.toNat) B F (by split <;> omega) (by split <;> omega)
  refine⟨g,L,?_⟩
  rw[e]
  split <;> omega
theorem wR {hi:Int} (B : ∀c∈cs,1<=(rm c).length) (L:cs.Nodup):(∃g,okF rm cs g/\sW lo hi av cs g=false)↔gs lo hi (dE av rm cs) (cO av rm cs)=true:=by
 unfold sW gs;simp only[HV,decide_eq_false_iff_not,Bool.or_eq_true,decide_eq_true_eq];have F:=im (av:=av) B
 constructor
 .rintro⟨g,hg,h⟩
  have:=jm (av:=av) hg
  omega
 .rintro(h | h)
  .obtain⟨g,hg,e⟩:=kX (av:=av) (n:=dE av rm cs) B L (i6 _) F
   exact⟨g,hg,by rw[e];omega⟩
  .obtain⟨g,hg,e⟩:=kX (av:=av) (n:=cO av rm cs) B L F (i6 _)
   exact⟨g,hg,by rw[e];omega⟩
theorem lq (T:Txt w K mg) (L:cI K (gk K (ap mg "Wish") "__init__") "__init__" "Wish.__init__" bC ["self","wish"]):FnR P w K mg base (gk K (ap mg "Wish") "__init__") 1 ["self","wish"] (dh mg "Many"):=by
 ctx_has z bP <;> obtain⟨p,dx,fs,w,rfl,hp,B,k⟩:=h
 .rfl
 refine⟨_,(ak (bB T.cl_Many T.no_Many_wish (pvM 0) (pvM 1) rfl)),?_⟩
 ctx_has v hp
 exact⟨B,k⟩
theorem ml (T:Txt w K mg) (L:cI K (Mk K (ap mg "Many")) "__init__" "Many.__init__" ft ["self","wish"]) (B:FnR P w K mg base (gk K (ap mg "Wish") "__init__") 1 ["self","wish"] (dh mg "Many")):FnR P w K mg base (Mk K (ap mg "Many")) 2 ["self","wish"] (uK mg):=by
 ctx_has z lV <;> obtain⟨p,dx,w,am,Z,lo,hi,rfl,hp,Y,k⟩:=h
 .rfl
 refine⟨_,(af (cz (iw B (hr.mono (by ctx_has m)) rfl T.at_Wish (ac (pvM 0) (ac (pvM 1) ai))))
  (af (bB T.cl_Many T.no_Many_among (pvM 0) (aG bw (pvM 1) aj) rfl)
  (af (bB T.cl_Many T.no_Many_cells (pvM 0) (aG bw (pvM 1) aj) rfl)
  (af (bB T.cl_Many T.no_Many_low (pvM 0) (aG bw (pvM 1) aj) rfl)
  (ak (bB T.cl_Many T.no_Many_high (pvM 0) (aG bw (pvM 1) aj) rfl)))))),?_⟩
 ctx_has v Y
 have F:w≠p:=aX Y hp (by intro z;cases z)
 refine⟨p,dx,[],.ref w,rfl,hp,∅,?_⟩
 ctx_has v ae
 refine⟨_,by rw[ah F];exact Y,?_⟩
 ctx_has v
 refine⟨dm (yz _ "" "" "" _ .non .non .non),_,by rw[ah F,ah F];exact Y,?_⟩
 ctx_has v
 refine⟨dm (yB _ _ "" "" _ _ .non .non),_,by rw[ah F,ah F,ah F];exact Y,?_⟩
 ctx_has v
 refine⟨dm (Co _ _ _ "" _ _ _ .non),_,by rw[ah F,ah F,ah F,ah F];exact Y,?_⟩
 ctx_has v
 refine⟨dm (Gy _ _ _ _ _ _ _ _),k _ ⟨dx,_,ae,?_⟩ ?_⟩
 .simp only[bT,fP,String.reduceEq,if_true,if_false,true_and,H0,and_self]
 .intro b o hb e
  rw[ah hb,ah hb,ah hb,ah hb,ah hb];exact e
theorem qc (T:Txt w K mg) (L:cI K (aR K (ap mg "Many") "fewest") "fewest" "Many.fewest" cX ["self","rooms"]):FnR P w K mg base (aR K (ap mg "Many") "fewest") 1 ["self","rooms"] (vO mg):=by
 ctx_has z oO <;> obtain⟨p,r,av,cs,lo,hi,kvs,rm,rfl,M,k⟩:=h
 .rfl
 refine⟨_,(ak (aB (aE bK T.b_len (ac (br (N:=["cell","self","rooms"]) (nt:=1) (js:=[0,1]) (aM ["self","rooms"] (ao cX).names) (bZ K (aU T.cl_Many T.no_Many_cells (pvM 0))) (aA 0) aV (dM (gi (aE (mW rfl) T.b_all (ac (br (N:=["value","self"]) (nt:=1) (js:=[1]) (aM ["cell","self","rooms"] (Ew (ao cX).kind (ao cX).names _)) (bZ K (bH hu (pvM 2) (pvM 0))) (aA 0) aV cy (bf jh (pvM 0) (aU T.cl_Many T.no_Many_among (pvM 1)))) ai)))) (pvM 0)) ai)))),?_⟩
 obtain⟨am,ce,⟨dx,fs,h1,f1,f2,f3,f4,f5,f6,f7,f8⟩,ha,hc⟩:=M.ob;have ad:=M.rd;obtain⟨z1,z2,z3⟩:=M.sm;ctx_has v h1 f2 hc
 intro q hq;refine cD aW (λv=>match v with | .str c=>(rm c).all (λx=>decide (x∈av)) | _=>false) id hq (λH' s=>.of (s _ _ hc)) (by simp;omega) ?_ ?_ ?_
 .intro x H2 Q2 hx sm q2
  obtain⟨c,F,rfl⟩:=hB.mp hx;obtain⟨a,hv,Z⟩:=M.rf c F;have aa:=sm _ _ ad;have B:=sm _ _ Z;ctx_has v aa hv B
  intro g hg;refine cM aW (λv=>match v with | .int i=>.bl (decide (i∈av)) | _=>.non) hg (λH' s=>.of (s _ _ B)) (by simp;have:=z3 c F;omega) ?_ ?_
  .intro y H3 Q3 hy s3 q3
   obtain⟨i,_,rfl⟩:=hB.mp hy;have ab:=s3 _ _ (sm _ _ h1);have Y:=s3 _ _ (sm _ _ ha);ctx_has v ab f1 Y
   refine⟨rfl,cW _,?_⟩
   rw[eE];exact q3 H3 (aw.refl _)
  .intro H3 s3 h3
   ctx_has v
   refine⟨(rm c).map (λi=>decide (i∈av)),by rw[h3,lb,lb];rfl,?_⟩
   have:=q2 H3 s3
   rw[List.all_map];exact this
 .intro x H2 Q2 hx _ sm q2
  ctx_has v
  exact q2 H2 (aw.refl _)
 .intro H2 sm h2
  ctx_has v h2
  have:=k H2 sm
  rw[c_,HZ,c_];exact this
theorem sw (T:Txt w K mg) (L:cI K (aR K (ap mg "Many") "most") "most" "Many.most" dY ["self","rooms"]):FnR P w K mg base (aR K (ap mg "Many") "most") 1 ["self","rooms"] (rW mg):=by
 ctx_has z tm <;> obtain⟨p,r,av,cs,lo,hi,kvs,rm,rfl,M,k⟩:=h
 .rfl
 refine⟨_,(ak (aB (aE bK T.b_len (ac (br (N:=["cell","self","rooms"]) (nt:=1) (js:=[0,1]) (aM ["self","rooms"] (ao dY).names) (bZ K (aU T.cl_Many T.no_Many_cells (pvM 0))) (aA 0) aV (dM (gi (aE (fU rfl) T.b_any (ac (br (N:=["value","self"]) (nt:=1) (js:=[1]) (aM ["cell","self","rooms"] (Ew (ao dY).kind (ao dY).names _)) (bZ K (bH hu (pvM 2) (pvM 0))) (aA 0) aV cy (bf jh (pvM 0) (aU T.cl_Many T.no_Many_among (pvM 1)))) ai)))) (pvM 0)) ai)))),?_⟩
 obtain⟨am,ce,⟨dx,fs,h1,f1,f2,f3,f4,f5,f6,f7,f8⟩,ha,hc⟩:=M.ob;have ad:=M.rd;obtain⟨z1,z2,z3⟩:=M.sm;ctx_has v h1 f2 hc
 intro q hq;refine cD aW (λv=>match v with | .str c=>(rm c).any (λx=>decide (x∈av)) | _=>false) id hq (λH' s=>.of (s _ _ hc)) (by simp;omega) ?_ ?_ ?_
 .intro x H2 Q2 hx sm q2
  obtain⟨c,F,rfl⟩:=hB.mp hx;obtain⟨a,hv,Z⟩:=M.rf c F;have aa:=sm _ _ ad;have B:=sm _ _ Z;ctx_has v aa hv B
  intro g hg;refine cM aW (λv=>match v with | .int i=>.bl (decide (i∈av)) | _=>.non) hg (λH' s=>.of (s _ _ B)) (by simp;have:=z3 c F;omega) ?_ ?_
  .intro y H3 Q3 hy s3 q3
   obtain⟨i,_,rfl⟩:=hB.mp hy;have ab:=s3 _ _ (sm _ _ h1);have Y:=s3 _ _ (sm _ _ ha);ctx_has v ab f1 Y
   refine⟨rfl,cW _,?_⟩
   rw[eE];exact q3 H3 (aw.refl _)
  .intro H3 s3 h3
   ctx_has v
   refine⟨(rm c).map (λi=>decide (i∈av)),by rw[h3,lb,lb];rfl,?_⟩
   have:=q2 H3 s3
   rw[any_map];exact this
 .intro x H2 Q2 hx _ sm q2
  ctx_has v
  exact q2 H2 (aw.refl _)
 .intro H2 sm h2
  ctx_has v h2
  have:=k H2 sm
  rw[c_,HZ,c_];exact this
theorem lN (T:Txt w K mg) (L:cI K (aR K (ap mg "Many") "may_keep") "may_keep" "Many.may_keep" fF ["self","rooms"]) (B:FnR P w K mg base (aR K (ap mg "Many") "fewest") 1 ["self","rooms"] (vO mg)) (F:FnR P w K mg base (aR K (ap mg "Many") "most") 1 ["self","rooms"] (rW mg)):FnR P w K mg base (aR K (ap mg "Many") "may_keep") 22 ["self","rooms"] (eS mg):=by
 ctx_has z mK <;> obtain⟨p,r,av,cs,lo,hi,kvs,rm,rfl,M,k⟩:=h
 .rfl
 refine⟨_,(ak (aB (bf jP (aE (rG rfl) T.b_max (ac (aU T.cl_Many T.no_Many_low (pvM 0)) (ac (cp T.cl_Many B (hr.mono (by ctx_has m)) (pvM 0) (ac (pvM 1) ai)) ai))) (aE (qU rfl) T.b_min (ac (aU T.cl_Many T.no_Many_high (pvM 0)) (ac (cp T.cl_Many F (hr.mono (by ctx_has m)) (pvM 0) (ac (pvM 1) ai)) ai)))))),?_⟩
 obtain⟨am,ce,⟨dx,fs,h1,f1,f2,f3,f4,f5,f6,f7,f8⟩,ha,hc⟩:=M.ob;ctx_has v h1 f3 f4 f5 f6
 refine⟨p,r,av,cs,lo,hi,kvs,rm,rfl,M,λH1 Y=>?_⟩
 have Z:=Y _ _ h1;ctx_has v Z f4 f6
 refine⟨p,r,av,cs,lo,hi,kvs,rm,rfl,M.same Y,λH2 s2=>?_⟩
 ctx_has v
 have:=k H2 (Y.trans s2)
 have e:gV lo hi (dE av rm cs) (cO av rm cs)=decide ((if (dE av rm cs:Int) > lo then(dE av rm cs:Int) else lo)<=if (cO av rm cs:Int) < hi then(cO av rm cs:Int) else hi):=by
  unfold gV;rw[o8];simp only[k9,decide_eq_true_eq]
  split <;> split <;> omega
 rw[e] at this;exact this
theorem kP (T:Txt w K mg) (L:cI K (aR K (ap mg "Many") "may_break") "may_break" "Many.may_break" eR ["self","rooms"]) (B:FnR P w K mg base (aR K (ap mg "Many") "fewest") 1 ["self","rooms"] (vO mg)) (F:FnR P w K mg base (aR K (ap mg "Many") "most") 1 ["self","rooms"] (rW mg)):FnR P w K mg base (aR K (ap mg "Many") "may_break") 22 ["self","rooms"] (gB mg):=by
 ctx_has z lu <;> obtain⟨p,r,av,cs,lo,hi,kvs,rm,rfl,M,k⟩:=h
 .rfl
 refine⟨_,(ak (aB (jT (bf wY (cp T.cl_Many B (hr.mono (by ctx_has m)) (pvM 0) (ac (pvM 1) ai)) (aU T.cl_Many T.no_Many_low (pvM 0))) (dS (bf wY (aU T.cl_Many T.no_Many_high (pvM 0)) (cp T.cl_Many F (hr.mono (by ctx_has m)) (pvM 0) (ac (pvM 1) ai))))))),?_⟩
 obtain⟨am,ce,⟨dx,fs,h1,f1,f2,f3,f4,f5,f6,f7,f8⟩,ha,hc⟩:=M.ob;ctx_has v h1 f3 f4 f5 f6
 refine⟨p,r,av,cs,lo,hi,kvs,rm,rfl,M,λH1 Y=>?_⟩
 have Z:=Y _ _ h1;ctx_has v Z f3 f4 f6
 refine cV (λh=>?_) (λh=>?_)
 .have:=k H1 Y
  unfold gs at this;rw[decide_eq_true h,Bool.true_or] at this;exact this
 .refine⟨p,r,av,cs,lo,hi,kvs,rm,rfl,M.same Y,λH2 s2=>⟨_,rfl,?_⟩⟩
  have:=k H2 (Y.trans s2)
  unfold gs at this;rw[decide_eq_false h,Bool.false_or] at this;exact this
def nP (mg:Str->Option Value) (H:Hp) (p:Addr):Wi->Prop
 | .un cs=>OBU mg H p cs cs
 | .mn av cs lo hi=>∃F B,jA mg H p (.ref F) (.ref B) lo hi/\H F>>(av.map V.int)/\H B>>(cs.map V.str)
 | .sm ts lo hi=>OBS mg H p (ts,lo,hi) (ts.map (·.2))
 | .tb cs rows=>OBT mg H p (cs,rows)
 | .wy cs ps es=>OBW mg H p (cs,ps,es)
 | .bh cs gap=>OBB mg H p (cs,gap)
theorem nP.obj {W:Wi} (h:nP mg H p W) (B : ∀a xs,H a>>xs->H' a>>xs) (kd : ∀a ks,H a=some (.dT ks)->H' a=some (.dT ks)) (L : ∀C dx fs,H p=some (.ins C dx fs)->H' p=some (.ins C dx fs)):nP mg H' p W:=by
 cases W with
 | un cs =>
  obtain⟨dx,fs,Z,h1,h2,F,r⟩:=h;exact⟨dx,fs,Z,L _ _ _ h1,h2,B _ _ F,r⟩
 | mn av cs lo hi =>
  obtain⟨am,Z,⟨dx,fs,h1,r⟩,h2,F⟩:=h;exact⟨am,Z,⟨dx,fs,L _ _ _ h1,r⟩,B _ _ h2,B _ _ F⟩
 | sm ts lo hi =>
  obtain⟨dx,fs,te,h1,h2,r⟩:=h;exact⟨dx,fs,te,L _ _ _ h1,h2.keep B,r⟩
 | tb cs rows =>
  obtain⟨dx,fs,w,c,t,vs,h1,h2,F,Y,h5,r⟩:=h;exact⟨dx,fs,w,c,t,vs,L _ _ _ h1,dq (W:=.tb cs rows) h2 B,B _ _ F,B _ _ Y,h5.keep B,r⟩
 | wy cs ps es =>
  obtain⟨dx,fs,w,c,e,l,h1,h2,F,Y,h5,r⟩:=h;exact⟨dx,fs,w,c,e,l,L _ _ _ h1,dq (W:=.wy cs ps es) h2 B,B _ _ F,B _ _ Y,kd _ _ h5,r⟩
 | bh cs gap =>
  obtain⟨dx,fs,w,c,h1,h2,F,r⟩:=h;exact⟨dx,fs,w,c,L _ _ _ h1,dq (W:=.bh cs gap) h2 B,B _ _ F,r⟩
theorem nP.keep {W:Wi} (h:nP mg H p W) (k:fY H H'):nP mg H' p W:=h.obj k.tup k.dt λ_ _ _ e=>k.ins _ _ _ _ e
def CsK (mg:Str->Option Value):List (Addr × Sp):=[(ap mg "Unlike",fc mg),(ap mg "Many",eS mg),(ap mg "Sum",eX mg),(ap mg "Table",eW mg),(ap mg "Way",eQ mg),(ap mg "Behind",eV mg)]
def CsB (mg:Str->Option Value):List (Addr × Sp):=[(ap mg "Unlike",gA mg),(ap mg "Many",gB mg),(ap mg "Sum",gM mg),(ap mg "Table",gF mg),(ap mg "Way",gC mg),(ap mg "Behind",gI mg)]
theorem E6 {P:Addr->Sp->Prop} {a1 Z a3 a4 a5 a6:Addr} {b1 b2 L Y F B:Sp} (h1:P a1 b1) (h2:P Z b2) (h3:P a3 L) (h4:P a4 Y) (h5:P a5 F) (h6:P a6 B) : ∀C sp,(C,sp)∈[(a1,b1),(Z,b2),(a3,L),(a4,Y),(a5,F),(a6,B)]->P C sp:=λC sp h=>by
 simp only[i4,Prod.mk.injEq,m8,or_false] at h;rcases h with⟨rfl,rfl⟩ | ⟨rfl,rfl⟩ | ⟨rfl,rfl⟩ | ⟨rfl,rfl⟩ | ⟨rfl,rfl⟩ | ⟨rfl,rfl⟩
 .exact h1
 .exact h2
 .exact h3
 .exact h4
 .exact h5
 .exact h6
structure At (mg:Str->Option Value) (H:Hp) (i r:Addr) (W:Wi) (kvs:List (Key × V)) (rm:Str->List Int):Prop where
 ob:nP mg H i W
 rd:H r<*kvs
 rf:aZ H kvs (bX W) rm
 ok : ∃ws ns,okW ws ns W
 cl:(bX W).length<=5
 ne : ∀c∈bX W,rm c≠[]/\(rm c).length<=4/\(rm c).Pairwise (· < ·)
theorem mM (ne : ∀c∈cs,rm c≠[]/\(rm c).length<=4/\(rm c).Pairwise (· < ·)) : ∀c∈cs,1<=(rm c).length/\(rm c).length<=4/\(rm c).Nodup:=λc B=>⟨B_.mpr (ne c B).1,(ne c B).2.1,(ne c B).2.2.imp λh=>by omega⟩
theorem mY (ne : ∀c∈cs,rm c≠[]/\(rm c).length<=4/\(rm c).Pairwise (· < ·)) : ∀c∈cs,rm c≠[]/\(rm c).length<=10/\(rm c).Pairwise (· < ·):=λc B=>⟨(ne c B).1,gr (ne c B).2.1 ∅,(ne c B).2.2⟩
theorem vf {i:Addr} {W:Wi} {Q:VK} (M:At mg H i r W kvs rm) (k : ∀(b:Bool) H',(b=true↔∃g,okF rm (bX W) g/\cA W g=true)->aw H H'->Q (.bl b) H') :
  ∃C sp,(C,sp)∈CsK mg/\∃dx fs,H i=some (.ins C dx fs)/\fs.lookup (b_ "may_keep")=none/\sp [.ref i,.ref r] H Q E0:=by
 obtain⟨ob,F,rf,⟨ws,ns,ok⟩,cl,ne⟩:=M;cases W with
 | un cs =>
  obtain⟨dx,fs,h1,h2,B⟩:=xD (cs:=cs) ob;exact⟨_,fc mg,by simp[CsK],dx,fs,h1,h2,i,r,cs,cs,kvs,rm,rfl,⟨ob,F,rf,.refl _,ok.2.1,cl,mM ne⟩,k⟩
 | mn av cs lo hi =>
  obtain⟨am,ce,m,h2,B⟩:=id ob;obtain⟨dx,fs,h1,_,_,_,_,_,_,Z,q2⟩:=m.ex;exact⟨_,eS mg,by simp[CsK],dx,fs,h1,Z,i,r,av,cs,lo,hi,kvs,rm,rfl,⟨⟨am,ce,m,h2,B⟩,F,rf,ok.2.2.2,gr cl ∅,λc L=>gr (ne c L).2.1 ∅⟩,λH' s=>k _ H' (xP (λc L=>(mM ne c L).1) ok.1.2.1).symm s⟩
 | sm ts lo hi =>
  obtain⟨dx,fs,h1,h2,B⟩:=xh (cs:=ts.map (λx:Int × Str=>x.2)) ob
  exact⟨_,eX mg,by simp[CsK],dx,fs,h1,h2,i,r,(ts,lo,hi),ts.map (λx:Int × Str=>x.2),kvs,rm,rfl,⟨ob,F,rf,⟨rfl,ok.1.1,λx Y=>⟨(ok.2 x Y).1,(ok.2 x Y).2.1⟩⟩,ok.1.2.1,cl,mM ne⟩,k⟩
 | tb cs rows =>
  obtain⟨dx,fs,h1,_,h2,B⟩:=xt ob;exact⟨_,eW mg,by simp[CsK],dx,fs,h1,h2,i,r,(cs,rows),kvs,rm,rfl,⟨ob,F,rf,⟨ok.1.1,ok.1.2.1,ok.1.2.2.2,ok.2.1,ok.2.2.1,gr ok.2.2.2 ∅⟩,mY ne⟩,k⟩
 | wy cs ps es =>
  obtain⟨dx,fs,h1,_,h2,B⟩:=xF ob;exact⟨_,eQ mg,by simp[CsK],dx,fs,h1,h2,i,r,(cs,ps,es),kvs,rm,rfl,⟨ob,F,rf,⟨ok.1.1,ok.1.2.1,ok.1.2.2.2,ok.2.1,ok.2.2.1,ok.2.2.2⟩,mY ne⟩,k⟩
 | bh cs gap =>
  obtain⟨dx,fs,h1,_,h2,B⟩:=xj ob;exact⟨_,eV mg,by simp[CsK],dx,fs,h1,h2,i,r,(cs,gap),kvs,rm,rfl,⟨ob,F,rf,⟨ok.1,ok.2.1,ok.2.2.2⟩,mY ne⟩,k⟩
theorem qS {i:Addr} {W:Wi} {Q:VK} (M:At mg H i r W kvs rm) (k : ∀(b:Bool) H',(b=true↔∃g,okF rm (bX W) g/\cA W g=false)->aw H H'->Q (.bl b) H') :
  ∃C sp,(C,sp)∈CsB mg/\∃dx fs,H i=some (.ins C dx fs)/\fs.lookup (b_ "may_break")=none/\sp [.ref i,.ref r] H Q E0:=by
 obtain⟨ob,F,rf,⟨ws,ns,ok⟩,cl,ne⟩:=M;cases W with
 | un cs =>
  obtain⟨dx,fs,h1,h2,B⟩:=xD (cs:=cs) ob;exact⟨_,gA mg,by simp[CsB],dx,fs,h1,B,i,r,cs,cs,kvs,rm,rfl,⟨ob,F,rf,.refl _,ok.2.1,cl,mM ne⟩,k⟩
 | mn av cs lo hi =>
  obtain⟨am,ce,m,h2,B⟩:=id ob;obtain⟨dx,fs,h1,_,_,_,_,_,_,q1,Z⟩:=m.ex;exact⟨_,gB mg,by simp[CsB],dx,fs,h1,Z,i,r,av,cs,lo,hi,kvs,rm,rfl,⟨⟨am,ce,m,h2,B⟩,F,rf,ok.2.2.2,gr cl ∅,λc L=>gr (ne c L).2.1 ∅⟩,λH' s=>k _ H' (wR (λc L=>(mM ne c L).1) ok.1.2.1).symm s⟩
 | sm ts lo hi =>
  obtain⟨dx,fs,h1,h2,B⟩:=xh (cs:=ts.map (λx:Int × Str=>x.2)) ob
  exact⟨_,gM mg,by simp[CsB],dx,fs,h1,B,i,r,(ts,lo,hi),ts.map (λx:Int × Str=>x.2),kvs,rm,rfl,⟨ob,F,rf,⟨rfl,ok.1.1,λx Y=>⟨(ok.2 x Y).1,(ok.2 x Y).2.1⟩⟩,ok.1.2.1,cl,mM ne⟩,k⟩
 | tb cs rows =>
  obtain⟨dx,fs,h1,_,h2,B⟩:=xt ob;exact⟨_,gF mg,by simp[CsB],dx,fs,h1,B,i,r,(cs,rows),kvs,rm,rfl,⟨ob,F,rf,⟨ok.1.1,ok.1.2.1,ok.1.2.2.2,ok.2.1,ok.2.2.1,gr ok.2.2.2 ∅⟩,mY ne⟩,k⟩
 | wy cs ps es =>
  obtain⟨dx,fs,h1,_,h2,B⟩:=xF ob;exact⟨_,gC mg,by simp[CsB],dx,fs,h1,B,i,r,(cs,ps,es),kvs,rm,rfl,⟨ob,F,rf,⟨ok.1.1,ok.1.2.1,ok.1.2.2.2,ok.2.1,ok.2.2.1,ok.2.2.2⟩,mY ne⟩,k⟩
 | bh cs gap =>
  obtain⟨dx,fs,h1,_,h2,B⟩:=xj ob;exact⟨_,gI mg,by simp[CsB],dx,fs,h1,B,i,r,(cs,gap),kvs,rm,rfl,⟨ob,F,rf,⟨ok.1,ok.2.1,ok.2.2.2⟩,mY ne⟩,k⟩
def EO (mg:Str->Option Value):Sp:=λvs H Q _=>∃(w:Addr) (W:Wi),vs=[.ref w]/\WS H w W/\(∃ws ns,okW ws ns W)/\∀p H',H p=none->nP mg H' p W->aw H H'->Q (.ref p) H'
theorem fb {x:Addr} (L:H x=none) (B:H dx=none) (F:dx≠x):aw H (upd (upd H dx (.own x)) x (.ins C dx [])):=(aw.upd0 B).upd_new (by rw[ah F.symm];exact L)
theorem eD {x:Addr} (B:H x=none) (s:aw H H1) (b:fX x H1 H2):aw H H2:=λa o e=>b a o (au e B) (s a o e)
abbrev Dm:=Fn P w K mg base "plain_wish_of" 6 ["wish"] (EO mg)
theorem mo (T:Txt w K mg) (L:FnL K mg "plain_wish_of" fD ["wish"]) (F:FnR P w K mg base (Mk K (ap mg "Unlike")) 2 ["self","wish"] (xo mg)) (aa:FnR P w K mg base (Mk K (ap mg "Many")) 2 ["self","wish"] (uK mg)) (ab:FnR P w K mg base (Mk K (ap mg "Sum")) 2 ["self","wish"] (xx mg)) (Y:FnR P w K mg base (Mk K (ap mg "Table")) 2 ["self","wish"] (xC mg "Table")) (ah:FnR P w K mg base (Mk K (ap mg "Way")) 2 ["self","wish"] (uZ mg "Way")) (B:FnR P w K mg base (Mk K (ap mg "Behind")) 2 ["self","wish"] (wT mg "Behind")) : @Dm P w K mg base:=by
 ctx_has z mw <;> obtain⟨w,W,rfl,hW,an,k⟩:=h
 .rfl
 refine⟨_,(af (bv (aL bR (aG bw (pvM 0) aj) aH) (ak (aB (gu F (hr.mono (by ctx_has m)) rfl T.at_Unlike (ac (pvM 0) ai)))) aO)
  (af (bv (aL bR (aG bw (pvM 0) aj) aH) (ak (aB (gu aa (hr.mono (by ctx_has m)) rfl T.at_Many (ac (pvM 0) ai)))) aO)
  (af (bv (aL bR (aG bw (pvM 0) aj) aH) (ak (aB (gu ab (hr.mono (by ctx_has m)) rfl T.at_Sum (ac (pvM 0) ai)))) aO)
  (af (bv (aL bR (aG bw (pvM 0) aj) aH) (ak (aB (gu Y (hr.mono (by ctx_has m)) rfl T.at_Table (ac (pvM 0) ai)))) aO)
  (af (bv (aL bR (aG bw (pvM 0) aj) aH) (ak (aB (gu ah (hr.mono (by ctx_has m)) rfl T.at_Way (ac (pvM 0) ai)))) aO)
  (ak (aB (gu B (hr.mono (by ctx_has m)) rfl T.at_Behind (ac (pvM 0) ai))))))))),?_⟩
 cases W with
 | un cs =>
  obtain⟨c,h1,h2⟩:=id hW;ctx_has v h1
  intro x dx Z ad ag;have s1:=fb (C:=ap mg (b_ "Unlike")) Z ad ag;exact⟨x,dx,w,cs,cs,rfl,ae,dq hW λa xs e=>s1 _ _ e,λH2 ob b2=>⟨rfl,k x H2 Z ob (eD Z s1 b2)⟩⟩
 | mn av cs lo hi =>
  obtain⟨am,c,h1,h2,h3⟩:=id hW;ctx_has v h1
  intro x dx Z ad ag;have s1:=fb (C:=ap mg (b_ "Many")) Z ad ag;exact⟨x,dx,w,_,_,lo,hi,rfl,ae,s1 _ _ h1,λH2 ob b2=>⟨rfl,k x H2 Z ⟨am,c,ob,eD Z s1 b2 _ _ h2,eD Z s1 b2 _ _ h3⟩ (eD Z s1 b2)⟩⟩
 | sm ts lo hi =>
  obtain⟨t,h1,h2⟩:=id hW;ctx_has v h1
  intro x dx Z ad ag;have s1:=fb (C:=ap mg (b_ "Sum")) Z ad ag;exact⟨x,dx,w,(ts,lo,hi),ts.map (·.2),rfl,ae,dq hW λa xs e=>s1 _ _ e,λH2 ob b2=>⟨rfl,k x H2 Z ob (eD Z s1 b2)⟩⟩
 | tb cs rows =>
  obtain⟨c,t,vs,h1,h2⟩:=id hW;ctx_has v h1
  intro x dx Z ad ag;have s1:=fb (C:=ap mg (b_ "Table")) Z ad ag;exact⟨x,dx,w,(cs,rows),rfl,ae,dq hW λa xs e=>s1 _ _ e,λH2 ob b2=>⟨rfl,k x H2 Z ob (eD Z s1 b2)⟩⟩
 | wy cs ps es =>
  obtain⟨c,t,e,vs,h1,h2⟩:=id hW;obtain⟨ws,ns,ok⟩:=an;ctx_has v h1
  intro x dx Z ad ag;have s1:=fb (C:=ap mg (b_ "Way")) Z ad ag;exact⟨x,dx,w,(cs,ps,es),rfl,ae,dq hW λa xs e=>s1 _ _ e,⟨ok.1.1,ok.1.2.1,ok.1.2.2.2,ok.2.1,ok.2.2.1,ok.2.2.2⟩,λH2 ob b2=>⟨rfl,k x H2 Z ob (eD Z s1 b2)⟩⟩
 | bh cs gap =>
  obtain⟨c,h1,h2⟩:=id hW;ctx_has v h1
  intro x dx Z ad ag;have s1:=fb (C:=ap mg (b_ "Behind")) Z ad ag;exact⟨x,dx,w,(cs,gap),rfl,ae,dq hW λa xs e=>s1 _ _ e,λH2 ob b2=>⟨rfl,k x H2 Z ob (eD Z s1 b2)⟩⟩
abbrev jL:=Str × List Int × Wi
def lK (dat:jL):List Str:=dat.1 :: bX dat.2.2
def BP (dat:jL):Prop:=(∃ws ns,okW ws ns dat.2.2)/\(bX dat.2.2).length<=5/\dat.2.1.length<=20/\dat.1∉bX dat.2.2
def AH (dat:jL) (g:Str->Int):Bool:=fk (.sa dat.1 dat.2.1 dat.2.2) g
def WSX (H:Hp) (w:Addr) (dat:jL):Prop:=WX H w (.sa dat.1 dat.2.1 dat.2.2)
theorem zZ {w:Addr} {dat:jL} (h:WSX H w dat) (k:fY H H'):WSX H' w dat:=du h k.tup
def OBX (mg:Str->Option Value) (H:Hp) (p:Addr) (dat:jL):Prop:=∃dx fs w u i,H p=some (.ins (ap mg "Same") dx fs)/\WSX H w dat/\H u>>(dat.2.1.map V.int)/\nP mg H i dat.2.2/\fs.lookup (b_ "wish")=some (.ref w)/\fs.lookup (b_ "cell")=some (.str dat.1)/\fs.lookup (b_ "among")=some (.ref u)/\fs.lookup (b_ "inner")=some (.ref i) /\
 fs.lookup (b_ "kept")=none/\fs.lookup (b_ "may_keep")=none/\fs.lookup (b_ "may_break")=none/\fs.lookup (b_ "may_be_among")=none/\fs.lookup (b_ "may_be_none_of_them")=none
theorem zN {dat:jL} (h:OBX mg H p dat) (k:fY H H'):OBX mg H' p dat:=by
 obtain⟨dx,fs,w,u,i,h1,h2,F,B,r⟩:=h;exact⟨dx,fs,w,u,i,k.ins _ _ _ _ h1,zZ h2 k,k.tup _ _ F,B.keep k,r⟩
theorem Bt {dat:jL} (h:OBX mg H p dat) : ∃dx fs,H p=some (.ins (ap mg "Same") dx fs)/\fs.lookup (b_ "kept")=none/\fs.lookup (b_ "may_keep")=none/\fs.lookup (b_ "may_break")=none:=by
 obtain⟨dx,fs,w,u,i,h1,h2,Z,Y,_,_,_,_,L,F,B,_⟩:=h;exact⟨dx,fs,h1,L,F,B⟩
theorem jg {W:Wi} {g':Str->Int} (h : ∀c∈bX W,g c=g' c):cA W g=cA W g':=by
 have e : ∀cs:List Str,(∀c∈cs,g c=g' c)->cs.map g=cs.map g':=λcs h=>m4 h
 cases W with
 | un cs=>show decide (cs.map g).Nodup=decide (cs.map g').Nodup;rw[e cs h]
 | mn av cs lo hi =>
  have e2:(cs.filter λc=>decide (g c∈av))=cs.filter λc=>decide (g' c∈av):=List.filter_congr λc B=>by rw[h c B]
  simp only[cA,e2]
 | sm ts lo hi=>show dG ((ts.map λx=>x.1 * g x.2).sum) lo hi=dG ((ts.map λx=>x.1 * g' x.2).sum) lo hi;rw[m4 λx F=>by rw[h x.2 (List.mem_map_of_mem (f:=Prod.snd) F)]]
 | tb cs rows=>show decide (cs.map g∈rows)=decide (cs.map g'∈rows);rw[e cs h]
 | wy cs ps es=>show sD es (gN ps (some 0) (cs.map g))=sD es (gN ps (some 0) (cs.map g'));rw[e cs h]
 | bh cs gap=>show chB gap (cs.map g)=chB gap (cs.map g');rw[e cs h]
structure ji (mg:Str->Option Value) (H:Hp) (p r:Addr) (dat:jL) (kvs:List (Key × V)) (rm:Str->List Int):Prop where
 ob:OBX mg H p dat
 rd:H r<*kvs
 rf:aZ H kvs (lK dat) rm
 ok:BP dat
 ne : ∀c∈lK dat,rm c≠[]/\(rm c).length<=4/\(rm c).Pairwise (· < ·)
theorem ji.same {mg:Str->Option Value} {H H':Hp} {p r:Addr} {dat:jL} {kvs:List (Key × V)} {rm:Str->List Int} (h:ji mg H p r dat kvs rm) (s:aw H H'):ji mg H' p r dat kvs rm :=
 ⟨zN h.ob (aw.keepTI s),s _ _ h.rd,h.rf.same (λa vs e=>s _ _ e),h.ok,h.ne⟩
def iu (mg:Str->Option Value):Sp:=λvs H Q _=>∃(p r:Addr) (dat:jL) (kvs:List (Key × V)) (rm:Str->List Int),vs=[.ref p,.ref r]/\ji mg H p r dat kvs rm/\∀(b:Bool) H',(b=true↔∃g,okF rm (lK dat) g/\AH dat g=true)->aw H H'->Q (.bl b) H'
theorem vW {x:V} {g':Str->Int} (h:bQ H x cs g) (h':bQ H x cs g') : ∀c∈cs,g c=g' c:=by
 obtain⟨a,kvs,rfl,h1,h2,_⟩:=h;obtain⟨Z,L,e,B,F,_⟩:=h';cases e;rw[h1] at B;cases B;intro c Y;have:=(h2 c Y).symm.trans (F c Y)
 exact V.int.inj (fx this)
def xg (mg:Str->Option Value) (C:Str):Sp:=λvs H Q _=>∃(p dx w:Addr) (dat:jL),vs=[.ref p,.ref w]/\H p=some (.ins (ap mg C) dx [])/\WSX H w dat/\BP dat/\∀H',OBX mg H' p dat->fX p H H'->Q .non H'
def zy (mg:Str->Option Value):Sp:=λvs H Q _=>∃(p r:Addr) (dat:jL) (kvs:List (Key × V)) (rm:Str->List Int),vs=[.ref p,.ref r]/\ji mg H p r dat kvs rm/\∀H',aw H H'->Q (.bl ((rm dat.1).any λv=>decide (v∈dat.2.1))) H'
def zT (mg:Str->Option Value):Sp:=λvs H Q _=>∃(p r:Addr) (dat:jL) (kvs:List (Key × V)) (rm:Str->List Int),vs=[.ref p,.ref r]/\ji mg H p r dat kvs rm/\∀H',aw H H'->Q (.bl ((rm dat.1).any λv=>decide (v∉dat.2.1))) H'
theorem ji.inn {i:Addr} {dat:jL} (M:ji mg H p r dat kvs rm) (hi:nP mg H i dat.2.2):At mg H i r dat.2.2 kvs rm :=
 ⟨hi,M.rd,λc B=>M.rf c (j6 _ B),M.ok.1,M.ok.2.1,λc B=>M.ne c (j6 _ B)⟩
theorem ic {dat:jL} (Y:BP dat) (F:Bool):(∃g,okF rm (lK dat) g/\AH dat g=F)↔((∃v∈rm dat.1,v∈dat.2.1)/\∃g,okF rm (bX dat.2.2) g/\cA dat.2.2 g=F)\/((∃v∈rm dat.1,v∉dat.2.1)/\∃g,okF rm (bX dat.2.2) g/\cA dat.2.2 g = !F):=by
 constructor
 .rintro⟨g,h1,h2⟩
  have h2:decide (decide (g dat.1∈dat.2.1)=cA dat.2.2 g)=F:=h2
  have Z:okF rm (bX dat.2.2) g:=λc B=>h1 c (j6 _ B)
  have L:=h1 dat.1 k6
  by_cases z:g dat.1∈dat.2.1
  .refine .inl ⟨⟨_,L,z⟩,g,Z,?_⟩
   rw[decide_eq_true z] at h2;cases e:cA dat.2.2 g <;> rw[e] at h2 <;> simpa using h2
  .refine .inr ⟨⟨_,L,z⟩,g,Z,?_⟩
   rw[decide_eq_false z] at h2;cases e:cA dat.2.2 g <;> rw[e] at h2 <;> cases F <;> simp at h2 ⊢
 .have key : ∀v∈rm dat.1,∀g,okF rm (bX dat.2.2) g->okF rm (lK dat) (bN g dat.1 v)/\bN g dat.1 v dat.1=v/\cA dat.2.2 (bN g dat.1 v)=cA dat.2.2 g:=λv L g hg=>by
   have ne : ∀c∈bX dat.2.2,c≠dat.1:=λc B e=>Y.2.2.2 (e ▸ B)
   refine⟨λc B=>?_,bo _ _ _,jg λc B=>cE _ _ (ne c B)⟩
   rcases i4.mp B with e | B
   .rw[e,bo];exact L
   .rw[cE _ _ (ne c B)];exact hg c B
  rintro(⟨⟨v,L,z⟩,g,h1,h2⟩ | ⟨⟨v,L,z⟩,g,h1,h2⟩)
  .obtain⟨a1,a2,a3⟩:=key v L g h1
   refine⟨_,a1,?_⟩
   show decide (decide (bN g dat.1 v dat.1∈dat.2.1)=cA dat.2.2 (bN g dat.1 v))=F
   rw[a2,a3,h2,decide_eq_true z];cases F <;> rfl
  .obtain⟨a1,a2,a3⟩:=key v L g h1
   refine⟨_,a1,?_⟩
   show decide (decide (bN g dat.1 v dat.1∈dat.2.1)=cA dat.2.2 (bN g dat.1 v))=F
   rw[a2,a3,h2,decide_eq_false z];cases F <;> rfl
theorem kU (T:Txt w K mg) (L:cI K (gk K (ap mg "Wish") "__init__") "__init__" "Wish.__init__" bC ["self","wish"]):FnR P w K mg base (gk K (ap mg "Wish") "__init__") 1 ["self","wish"] (dh mg "Same"):=by
 ctx_has z bP <;> obtain⟨p,dx,fs,w,rfl,hp,B,k⟩:=h
 .rfl
 refine⟨_,(ak (bB T.cl_Same T.no_Same_wish (pvM 0) (pvM 1) rfl)),?_⟩
 ctx_has v hp
 exact⟨B,k⟩
theorem lT (T:Txt w K mg) (L:cI K (Mk K (ap mg "Same")) "__init__" "Same.__init__" fB ["self","wish"]) (B:FnR P w K mg base (gk K (ap mg "Wish") "__init__") 1 ["self","wish"] (dh mg "Same")) (Fc : @Dm P w K mg base):FnR P w K mg base (Mk K (ap mg "Same")) 8 ["self","wish"] (xg mg "Same"):=by
 ctx_has z mT <;> obtain⟨p,dx,w,dat,rfl,hp,hW,aa,k⟩:=h
 .rfl
 refine⟨_,(af (cz (iw B (hr.mono (by ctx_has m)) rfl T.at_Wish (ac (pvM 0) (ac (pvM 1) ai))))
  (af (bB T.cl_Same T.no_Same_cell (pvM 0) (aG bw (pvM 1) aj) rfl)
  (af (bB T.cl_Same T.no_Same_among (pvM 0) (aG bw (pvM 1) aj) rfl)
  (ak (bB T.cl_Same T.no_Same_inner (pvM 0) (az Fc (ac (aG bw (pvM 1) aj) ai)) rfl))))),?_⟩
 obtain⟨c,us,W⟩:=dat;obtain⟨t,u,Z,h2,h3⟩:=hW;ctx_has v Z
 have Y:w≠p:=aX Z hp (by intro z;cases z)
 refine⟨p,dx,[],.ref w,rfl,hp,∅,?_⟩
 refine⟨_,by rw[ah Y];exact Z,_,rfl,dx,_,ae,dm (yz _ "" "" "" _ .non .non .non),_,by rw[ah Y,ah Y];exact Z,_,rfl,dx,_,ae,dm (yB _ _ "" "" _ _ .non .non),_,by rw[ah Y,ah Y,ah Y];exact Z,_,rfl,?_⟩
 rw[lH,lH];have b1 : ∀o,fX p H (upd H p o):=λo b x hb e=>by rw[ah hb];exact e
 have kt : ∀o a xs,H a>>xs->upd H p o a>>xs:=λo a xs e=>b1 o _ _ (aX e hp (by intro z;cases z)) e
 refine⟨u,W,rfl,dq h3 (kt _),aa.1,λi H2 hi ob s2=>⟨dx,_,s2 _ _ ae,dm (Co _ _ _ "" _ _ _ .non),?_⟩⟩
 have g2:=s2 _ _ ae;have ip:i≠p:=λe=>by rw[e,ae] at hi;cases hi
 have k2 : ∀o a x,a≠p->H2 a=some x->upd H2 p o a=some x:=λo a x hb e=>by rw[ah hb];exact e
 have F : ∀o a xs,H a>>xs->upd H2 p o a>>xs:=λo a xs e=>k2 o _ _ (aX e hp (by intro z;cases z)) (s2 _ _ (kt _ _ _ e))
 refine k _ ⟨dx,_,w,t,i,ae,⟨t,u,F _ _ _ Z,F _ _ _ h2,dq h3 (F _)⟩,F _ _ _ h2,ob.obj (λa xs e=>k2 _ _ _ (aX e g2 (by intro z;cases z)) e) (λa xs e=>k2 _ _ _ (aX e g2 (by intro z;cases z)) e) (λC dx fs e=>k2 _ _ _ ip e),?_⟩ ?_
 .simp only[bT,fP,String.reduceEq,if_true,if_false,true_and,H0,and_self]
 .intro b o hb e
  exact k2 _ _ _ hb (s2 _ _ (b1 _ b o hb e))
theorem CJ (h:bQ H (.ref f) ws g) (Z : ∀c∈cs,c∈ws) (hl:ws.length<=40) (B : ∀c∈cs,-2000000<=g c/\g c<=2000000):jZ H f cs g:=by
 obtain⟨a,kvs,e,h1,h2,Y,F⟩:=h;cases e;exact⟨⟨kvs,h1,λc L=>h2 c (Z c L),F,gr Y hl⟩,B⟩
theorem iR (T:Txt w K mg) (L:cI K (aR K (ap mg "Same") "may_be_among") "may_be_among" "Same.may_be_among" cJ ["self","rooms"]):FnR P w K mg base (aR K (ap mg "Same") "may_be_among") 1 ["self","rooms"] (zy mg):=by
 ctx_has z je <;> obtain⟨p,r,dat,kvs,rm,rfl,M,k⟩:=h
 .rfl
 refine⟨_,(ak (aB (aE (fU rfl) T.b_any (ac (br (N:=["value","self"]) (nt:=1) (js:=[0]) (aM ["self","rooms"] (ao cJ).names) (bZ K (bH hu (pvM 1) (aU T.cl_Same T.no_Same_cell (pvM 0)))) (aA 0) aV cy (bf jh (pvM 0) (aU T.cl_Same T.no_Same_among (pvM 1)))) ai)))),?_⟩
 obtain⟨dx,fs,w,u,i,h1,h2,h3,h4,l1,l2,l3,l4,r⟩:=M.ob;obtain⟨a0,Y,B⟩:=M.rf dat.1 k6;have aa:=M.ne dat.1 k6;have Z:=M.rd;ctx_has v h1 l2 Z Y B
 refine λD hD=>eI aW (λj ys H'=>ys=((rm dat.1).take j).map (λv=>V.bl (decide (v∈dat.2.1)))/\aw H H'/\H' D*>ys) ⟨rfl,aw.upd0 hD,ae⟩ (λj ys H' F=>by obtain⟨_,s,_⟩:=F;exact(.of (s _ _ B))) ?_ ?_
 .rintro j x ys H1 hj hx ⟨rfl,s1,h1D⟩
  obtain⟨v,hv,rfl⟩ : ∃v,(rm dat.1)[j]? = some v/\V.int v=x:=by
   rw[e9] at hx;cases e:(rm dat.1)[j]? with
   | none=>rw[e] at hx;cases hx
   | some u=>rw[e] at hx;exact⟨u,rfl,fx hx⟩
  have g1:=s1 _ _ h1;have g3:=s1 _ _ h3;ctx_has v g1 l3 g3
  refine⟨rfl,cW _,h1D,?_,?_,λb o e=>(by rw[ah (au e hD)];exact s1 _ _ e),ae⟩
  .rw[c_,G7]
   exact aN ()
  .rw[j_,hv,eE]
   simp
 .rintro ys H1 ⟨rfl,s1,h1D⟩
  rw[c_,l_] at h1D;have:=k H1 s1
  refine⟨D,rfl,(rm dat.1).map λv=>decide (v∈dat.2.1),by rw[h1D,lb];rfl,?_⟩
  rw[any_map];exact this
theorem fQ (T:Txt w K mg) (L:cI K (aR K (ap mg "Same") "may_be_none_of_them") "may_be_none_of_them" "Same.may_be_none_of_them" bJ ["self","rooms"]):FnR P w K mg base (aR K (ap mg "Same") "may_be_none_of_them") 1 ["self","rooms"] (zT mg):=by
 ctx_has z fN <;> obtain⟨p,r,dat,kvs,rm,rfl,M,k⟩:=h
 .rfl
 refine⟨_,(ak (aB (aE (fU rfl) T.b_any (ac (br (N:=["value","self"]) (nt:=1) (js:=[0]) (aM ["self","rooms"] (ao bJ).names) (bZ K (bH hu (pvM 1) (aU T.cl_Same T.no_Same_cell (pvM 0)))) (aA 0) aV cy (bf qO (pvM 0) (aU T.cl_Same T.no_Same_among (pvM 1)))) ai)))),?_⟩
 obtain⟨dx,fs,w,u,i,h1,h2,h3,h4,l1,l2,l3,l4,r⟩:=M.ob;obtain⟨a0,Y,F⟩:=M.rf dat.1 k6;have aa:=M.ne dat.1 k6;have Z:=M.rd;ctx_has v h1 l2 Z Y F
 refine λD hD=>eI aW (λj ys H'=>ys=((rm dat.1).take j).map (λv=>V.bl (decide (v∉dat.2.1)))/\aw H H'/\H' D*>ys) ⟨rfl,aw.upd0 hD,ae⟩ (λj ys H' B=>by obtain⟨_,s,_⟩:=B;exact(.of (s _ _ F))) ?_ ?_
 .rintro j x ys H1 hj hx ⟨rfl,s1,h1D⟩
  obtain⟨v,hv,rfl⟩ : ∃v,(rm dat.1)[j]? = some v/\V.int v=x:=by
   rw[e9] at hx;cases e:(rm dat.1)[j]? with
   | none=>rw[e] at hx;cases hx
   | some u=>rw[e] at hx;exact⟨u,rfl,fx hx⟩
  have g1:=s1 _ _ h1;have g3:=s1 _ _ h3;ctx_has v g1 l3 g3
  refine⟨rfl,cW _,h1D,?_,?_,λb o e=>(by rw[ah (au e hD)];exact s1 _ _ e),ae⟩
  .rw[c_,G7]
   exact aN ()
  .rw[j_,hv,eE]
   simp
 .rintro ys H1 ⟨rfl,s1,h1D⟩
  rw[c_,l_] at h1D;have:=k H1 s1
  refine⟨D,rfl,(rm dat.1).map λv=>decide (v∉dat.2.1),by rw[h1D,lb];rfl,?_⟩
  rw[any_map];exact this
theorem xu {l us:List Int}:(l.any λv=>decide (v∈us))=true↔∃v∈l,v∈us:=by simp
theorem oE {l us:List Int}:(l.any λv=>decide (v∉us))=true↔∃v∈l,v∉us:=by simp
theorem lY (T:Txt w K mg) (L:cI K (aR K (ap mg "Same") "may_keep") "may_keep" "Same.may_keep" fC ["self","rooms"]) (F:FnR P w K mg base (aR K (ap mg "Same") "may_be_among") 1 ["self","rooms"] (zy mg)) (B:FnR P w K mg base (aR K (ap mg "Same") "may_be_none_of_them") 1 ["self","rooms"] (zT mg)) (aa:FnR P w K mg base (aR K (ap mg "Unlike") "may_keep") 22 ["self","rooms"] (fc mg)) (am:FnR P w K mg base (aR K (ap mg "Many") "may_keep") 22 ["self","rooms"] (eS mg)) (an:FnR P w K mg base (aR K (ap mg "Sum") "may_keep") 22 ["self","rooms"] (eX mg)) (ag:FnR P w K mg base (aR K (ap mg "Table") "may_keep") 22 ["self","rooms"] (eW mg)) (aq:FnR P w K mg base (aR K (ap mg "Way") "may_keep") 22 ["self","rooms"] (eQ mg)) (ad:FnR P w K mg base (aR K (ap mg "Behind") "may_keep") 22 ["self","rooms"] (eV mg)) (Y:FnR P w K mg base (aR K (ap mg "Unlike") "may_break") 22 ["self","rooms"] (gA mg)) (af:FnR P w K mg base (aR K (ap mg "Many") "may_break") 22 ["self","rooms"] (gB mg)) (aj:FnR P w K mg base (aR K (ap mg "Sum") "may_break") 22 ["self","rooms"] (gM mg)) (ab:FnR P w K mg base (aR K (ap mg "Table") "may_break") 22 ["self","rooms"] (gF mg)) (ah:FnR P w K mg base (aR K (ap mg "Way") "may_break") 22 ["self","rooms"] (gC mg)) (Z:FnR P w K mg base (aR K (ap mg "Behind") "may_break") 22 ["self","rooms"] (gI mg)):FnR P w K mg base (aR K (ap mg "Same") "may_keep") 23 ["self","rooms"] (iu mg):=by
 ctx_has z mH <;> obtain⟨p,r,dat,kvs,rm,rfl,M,k⟩:=h
 .rfl
 refine⟨_,(ak (aB (jT (pv (cp T.cl_Same F (hr.mono (by ctx_has m)) (pvM 0) (ac (pvM 1) ai)) (dS (pf (E6 ⟨T.cl_Unlike,aa⟩ ⟨T.cl_Many,am⟩ ⟨T.cl_Sum,an⟩ ⟨T.cl_Table,ag⟩ ⟨T.cl_Way,aq⟩ ⟨T.cl_Behind,ad⟩) (hr.mono (by ctx_has m)) (aU T.cl_Same T.no_Same_inner (pvM 0)) (ac (pvM 1) ai)))) (dS (pv (cp T.cl_Same B (hr.mono (by ctx_has m)) (pvM 0) (ac (pvM 1) ai)) (dS (pf (E6 ⟨T.cl_Unlike,Y⟩ ⟨T.cl_Many,af⟩ ⟨T.cl_Sum,aj⟩ ⟨T.cl_Table,ab⟩ ⟨T.cl_Way,ah⟩ ⟨T.cl_Behind,Z⟩) (hr.mono (by ctx_has m)) (aU T.cl_Same T.no_Same_inner (pvM 0)) (ac (pvM 1) ai)))))))),?_⟩
 obtain⟨dx,fs,w,u,i,h1,h2,h3,h4,l1,l2,l3,l4,r1,r2,r3,r4,r5⟩:=M.ob;ctx_has v h1 r4
 refine⟨p,r,dat,kvs,rm,rfl,M,λH1 s1=>⟨_,rfl,?_⟩⟩
 by_cases hA:((rm dat.1).any λv=>decide (v∈dat.2.1))=true
 .rw[if_pos hA]
  refine⟨dx,fs,s1 _ _ h1,_,l4,i,rfl,vf ((M.same s1).inn (h4.keep (aw.keepTI s1))) λb1 H2 ax s2=>⟨_,rfl,?_⟩⟩
  have s3:=s1.trans s2;cases b1 with
  | true =>
   rw[if_pos rfl];refine k true H2 ?_ s3
   rw[ic M.ok];exact⟨λ_=>.inl ⟨xu.mp hA,ax.mp rfl⟩,λ_=>rfl⟩
  | false =>
   rw[if_neg ∅]
   have ar : ¬ ((∃v∈rm dat.1,v∈dat.2.1)/\∃g,okF rm (bX dat.2.2) g/\cA dat.2.2 g=true):=λz=>by cases ax.mpr z.2
   refine⟨dx,fs,s3 _ _ h1,r5,p,r,dat,kvs,rm,rfl,M.same s3,λHB sB=>⟨_,rfl,?_⟩⟩
   have ao:=s3.trans sB
   by_cases hN:((rm dat.1).any λv=>decide (v∉dat.2.1))=true
   .rw[if_pos hN]
    refine⟨dx,fs,ao _ _ h1,_,l4,i,rfl,qS ((M.same ao).inn (h4.keep (aw.keepTI ao))) λb2 HC au sC=>k b2 HC ?_ (ao.trans sC)⟩
    rw[ic M.ok,au];exact⟨λz=>.inr ⟨oE.mp hN,z⟩,λz=>z.elim (λz=>absurd z ar) λz=>z.2⟩
   .rw[if_neg hN]
    refine k false HB ?_ ao
    rw[ic M.ok];exact⟨λz=>(by cases z),λz=>z.elim (λz=>absurd z ar) λz=>absurd (oE.mpr z.1) hN⟩
 .rw[if_neg hA]
  have ar : ¬ ((∃v∈rm dat.1,v∈dat.2.1)/\∃g,okF rm (bX dat.2.2) g/\cA dat.2.2 g=true):=λz=>hA (xu.mpr z.1)
  refine⟨dx,fs,s1 _ _ h1,r5,p,r,dat,kvs,rm,rfl,M.same s1,λHB sB=>⟨_,rfl,?_⟩⟩
  have ao:=s1.trans sB
  by_cases hN:((rm dat.1).any λv=>decide (v∉dat.2.1))=true
  .rw[if_pos hN]
   refine⟨dx,fs,ao _ _ h1,_,l4,i,rfl,qS ((M.same ao).inn (h4.keep (aw.keepTI ao))) λb2 HC au sC=>k b2 HC ?_ (ao.trans sC)⟩
   rw[ic M.ok,au];exact⟨λz=>.inr ⟨oE.mp hN,z⟩,λz=>z.elim (λz=>absurd z ar) λz=>z.2⟩
  .rw[if_neg hN]
   refine k false HB ?_ ao
   rw[ic M.ok];exact⟨λz=>(by cases z),λz=>z.elim (λz=>absurd z ar) λz=>absurd (oE.mpr z.1) hN⟩
def FT (mg:Str->Option Value) (H:Hp) (p:Addr) (X:Wx):Prop:=match X with
 | .pl W=>nP mg H p W
 | .sa c us W=>OBX mg H p (c,us,W)
def okO:Wx->Prop
 | .pl W=>(∃ws ns,okW ws ns W)/\(bX W).length<=5
 | .sa c us W=>BP (c,us,W)
theorem DZ {X:Wx} (h:okO X):szX X:=by
 cases X with
 | pl W=>obtain⟨⟨_,_,h⟩,_⟩:=h;exact zi h
 | sa c us W=>obtain⟨⟨_,_,h⟩,_⟩:=h;exact zi h
theorem nb {X:Wx} {g':Str->Int} (h : ∀c∈dR X,g c=g' c):fk X g=fk X g':=by
 cases X with
 | pl W=>exact jg h
 | sa c us W =>
  show decide (decide (g c∈us)=cA W g)=decide (decide (g' c∈us)=cA W g')
  rw[h c k6,jg λc B=>h c (j6 _ B)]
def FY (mg:Str->Option Value):Sp:=λvs H Q _=>∃(w:Addr) (X:Wx),vs=[.ref w]/\WX H w X/\okO X/\∀p H',H p=none->FT mg H' p X->aw H H'->Q (.ref p) H'
theorem vJ (T:Txt w K mg) (L:FnL K mg "wish_of" mv ["wish"]) (Fc : @Dm P w K mg base) (B:FnR P w K mg base (Mk K (ap mg "Same")) 8 ["self","wish"] (xg mg "Same")):Fn P w K mg base "wish_of" 10 ["wish"] (FY mg):=by
 ctx_has z vM <;> obtain⟨w,X,rfl,F,Y,k⟩:=h
 .rfl
 refine⟨_,(af (bv (aL bR (aG bw (pvM 0) aj) aH) (ak (aB (gu B (hr.mono (by ctx_has m)) rfl T.at_Same (ac (pvM 0) ai)))) aO)
  (ak (aB (az Fc (ac (pvM 0) ai))))),?_⟩
 cases X with
 | pl W =>
  have k2 : ∀p H',H p=none->nP mg H' p W->aw H H'->Q (.ref p) H':=k
  clear k;have F:WS H w W:=F
  cases W with
  | un cs =>
   obtain⟨c,h1,h2⟩:=id F;ctx_has v h1
   exact⟨w,_,rfl,F,Y.1,k2⟩
  | mn av cs lo hi =>
   obtain⟨am,c,h1,h2,h3⟩:=id F;ctx_has v h1
   exact⟨w,_,rfl,F,Y.1,k2⟩
  | sm ts lo hi =>
   obtain⟨t,h1,h2⟩:=id F;ctx_has v h1
   exact⟨w,_,rfl,F,Y.1,k2⟩
  | tb cs rows =>
   obtain⟨c,t,vs,h1,h2⟩:=id F;ctx_has v h1
   exact⟨w,_,rfl,F,Y.1,k2⟩
  | wy cs ps es =>
   obtain⟨c,t,e,vs,h1,h2⟩:=id F;ctx_has v h1
   exact⟨w,_,rfl,F,Y.1,k2⟩
  | bh cs gap =>
   obtain⟨c,h1,h2⟩:=id F;ctx_has v h1
   exact⟨w,_,rfl,F,Y.1,k2⟩
 | sa c us W =>
  obtain⟨t,u,h1,h2,h3⟩:=id F;ctx_has v h1
  intro x dx Z aa ab;have s1:=fb (C:=ap mg (b_ "Same")) Z aa ab;exact⟨x,dx,w,(c,us,W),rfl,ae,du F λa xs e=>s1 _ _ e,Y,λH2 ob b2=>⟨rfl,k x H2 Z ob (eD Z s1 b2)⟩⟩
theorem FnR.lift {R:Addr->Prop} (F:FnR P w K mg base R j ps sp) (h:j<=k):FnR P w K mg base R k ps sp:=by
 obtain⟨f,fd,F,r⟩:=F;exact⟨f,fd,F.mono h,r⟩
def DQ (mg:Str->Option Value):List (Addr × Sp):=[(ap mg "Unlike",fc mg),(ap mg "Many",eS mg),(ap mg "Sum",eX mg),(ap mg "Table",eW mg),(ap mg "Way",eQ mg),(ap mg "Behind",eV mg),(ap mg "Same",iu mg)]
theorem Gf {P:Addr->Sp->Prop} {a1 Z a3 a4 a5 a6 a7:Addr} {b1 b2 L Y F B b7:Sp} (h1:P a1 b1) (h2:P Z b2) (h3:P a3 L) (h4:P a4 Y) (h5:P a5 F) (h6:P a6 B) (h7:P a7 b7) : ∀C sp,(C,sp)∈[(a1,b1),(Z,b2),(a3,L),(a4,Y),(a5,F),(a6,B),(a7,b7)]->P C sp:=λC sp h=>by
 simp only[i4,Prod.mk.injEq,m8,or_false] at h;rcases h with⟨rfl,rfl⟩ | ⟨rfl,rfl⟩ | ⟨rfl,rfl⟩ | ⟨rfl,rfl⟩ | ⟨rfl,rfl⟩ | ⟨rfl,rfl⟩ | ⟨rfl,rfl⟩
 .exact h1
 .exact h2
 .exact h3
 .exact h4
 .exact h5
 .exact h6
 .exact h7
structure Gk (mg:Str->Option Value) (H:Hp) (p r:Addr) (X:Wx) (kvs:List (Key × V)) (rm:Str->List Int):Prop where
 ob:FT mg H p X
 rd:H r<*kvs
 rf:aZ H kvs (dR X) rm
 ok:okO X
 ne : ∀c∈dR X,rm c≠[]/\(rm c).length<=4/\(rm c).Pairwise (· < ·)
theorem A9 {i:Addr} {X:Wx} {Q:VK} (M:Gk mg H i r X kvs rm) (k : ∀(b:Bool) H',(b=true↔∃g,okF rm (dR X) g/\fk X g=true)->aw H H'->Q (.bl b) H') :
  ∃C sp,(C,sp)∈DQ mg/\∃dx fs,H i=some (.ins C dx fs)/\fs.lookup (b_ "may_keep")=none/\sp [.ref i,.ref r] H Q E0:=by
 obtain⟨ob,B,rf,ok,ne⟩:=M;cases X with
 | pl W =>
  obtain⟨C,sp,h1,r⟩:=vf (Q:=Q) ⟨ob,B,rf,ok.1,ok.2,ne⟩ k;exact⟨C,sp,(by simp only[CsK,DQ,i4,m8,or_false] at h1 ⊢;rcases h1 with h | h | h | h | h | h <;> simp[h]),r⟩
 | sa c us W =>
  obtain⟨dx,fs,h1,_,h2,F⟩:=Bt ob;exact⟨_,iu mg,by simp[DQ],dx,fs,h1,h2,i,r,(c,us,W),kvs,rm,rfl,⟨ob,B,rf,ok,ne⟩,k⟩
structure sP (H:Hp) (w r:Addr) (X:Wx) (kvs:List (Key × V)) (rm:Str->List Int):Prop where
 ws:WX H w X
 rd:H r<*kvs
 rf:aZ H kvs (dR X) rm
 ok:okO X
 ne : ∀c∈dR X,rm c≠[]/\(rm c).length<=4/\(rm c).Pairwise (· < ·)
theorem sP.same {H H':Hp} {w r:Addr} {X:Wx} {kvs:List (Key × V)} {rm:Str->List Int} (h:sP H w r X kvs rm) (s:aw H H'):sP H' w r X kvs rm :=
 ⟨du h.ws λa xs e=>s _ _ e,s _ _ h.rd,h.rf.same (λa vs e=>s _ _ e),h.ok,h.ne⟩
def CY:Sp:=λvs H Q _=>∃(w r:Addr) (X:Wx) (kvs:List (Key × V)) (rm:Str->List Int),vs=[.ref w,.ref r]/\sP H w r X kvs rm/\∀(b:Bool) H',(b=true↔∃g,okF rm (dR X) g/\fk X g=true)->aw H H'->Q (.bl b) H'
theorem pF (T:Txt w K mg) (L:FnL K mg "may_be_kept" gS ["wish","rooms"]) (FC:Fn P w K mg base "wish_of" 10 ["wish"] (FY mg)) (B:FnR P w K mg base (aR K (ap mg "Unlike") "may_keep") 22 ["self","rooms"] (fc mg)) (aa:FnR P w K mg base (aR K (ap mg "Many") "may_keep") 22 ["self","rooms"] (eS mg)) (ab:FnR P w K mg base (aR K (ap mg "Sum") "may_keep") 22 ["self","rooms"] (eX mg)) (Y:FnR P w K mg base (aR K (ap mg "Table") "may_keep") 22 ["self","rooms"] (eW mg)) (ad:FnR P w K mg base (aR K (ap mg "Way") "may_keep") 22 ["self","rooms"] (eQ mg)) (F:FnR P w K mg base (aR K (ap mg "Behind") "may_keep") 22 ["self","rooms"] (eV mg)) (Z:FnR P w K mg base (aR K (ap mg "Same") "may_keep") 23 ["self","rooms"] (iu mg)):Fn P w K mg base "may_be_kept" 24 ["wish","rooms"] (CY):=by
 ctx_has z pT <;> obtain⟨w,r,X,kvs,rm,rfl,M,k⟩:=h
 .rfl
 refine⟨_,(ak (aB (pf (Gf ⟨T.cl_Unlike,FnR.lift B ∅⟩ ⟨T.cl_Many,FnR.lift aa ∅⟩ ⟨T.cl_Sum,FnR.lift ab ∅⟩ ⟨T.cl_Table,FnR.lift Y ∅⟩ ⟨T.cl_Way,FnR.lift ad ∅⟩ ⟨T.cl_Behind,FnR.lift F ∅⟩ ⟨T.cl_Same,Z⟩) (hr.mono (by ctx_has m)) (az FC (ac (pvM 0) ai)) (ac (pvM 1) ai)))),?_⟩
 ctx_has v
 refine⟨w,X,rfl,M.ws,M.ok,λp H1 hp ob s1=>⟨p,rfl,?_⟩⟩
 have M1:=M.same s1;exact A9 ⟨ob,M1.rd,M1.rf,M.ok,M.ne⟩ λb H' hb s=>k b H' hb (s1.trans s)
open L2.Irr
def cB (l:L3) (v:Int):Bool:=if l.2.1 = "is" then decide (v=l.2.2) else !decide (v=l.2.2)
def ij (H:Hp) (kvs:List (Key × V)) (rm:Str->List Int):Prop:=∀x∈kvs,∃c a,x=(ge c,.ref a)/\H a>>((rm c).map V.int)
def cH (ls:List L3) (rm:Str->List Int) (c:Str):List Int:=(rm c).filter λv=>ls.all λl=>!decide (l.1=c) || !cB l v
def BK:Sp:=λvs H Q _=>∃(c f:Addr) (us:List V) (ls:List L3) (kvs:List (Key × V)) (g:Str->Int),vs=[.ref c,.ref f]/\H c>>us/\bU H us ls/\ls.length<=1000/\H f<*kvs/\(∀l∈ls,bO kvs (ge l.1)=some (.int (g l.1)))/\∀H',aw H H'->Q (.bl (ls.any λl=>cB l (g l.1))) H'
def rD:Sp:=λvs H Q _=>∃(t r:Addr) (l:L3) (ns:List Int),vs=[.ref t,.ref r]/\H t>>(l3V l)/\H r>>(ns.map V.int)/\ns.length<=1000/\∀q H',H q=none->H' q>>((ns.filter λv=>!cB l v).map V.int)->aw H H'->Q (.ref q) H'
theorem my (h:aw H H') {q:Addr} (e:H' q=none):H q=none:=by
 cases e2:H q with
 | none=>rfl
 | some o=>rw[h _ _ e2] at e;cases e
def onI (p:Int->Bool):V->Bool | .int v=>p v | _=>false
theorem pM (p:Int->Bool) (ns:List Int):(ns.map V.int).filter (onI p)=(ns.filter p).map V.int:=by
 induction ns with
 | nil=>rfl
 | cons n ns B =>
  rw[i8,u6,u6,B]
  show(if p n=true then _ else _)=_
  by_cases h:p n=true
  .simp[h]
  .simp[h]
theorem wB (ls:List L3) (l:L3) (rm:Str->List Int):cH (ls++[l]) rm=bN (cH ls rm) l.1 ((cH ls rm l.1).filter λv=>!cB l v):=by
 funext c
 unfold bN
 by_cases h:c=l.1
 .subst h
  rw[if_pos rfl];unfold cH;rw[List.filter_filter]
  congr 1
  funext v
  simp[all_append,Bool.and_comm]
 .rw[if_neg h]
  unfold cH
  congr 1
  funext v
  have:decide (l.1=c)=false:=by simpa using λe=>h e.symm
  simp[all_append,this]
theorem wK {ms:List L3} (h:cH ls rm c=[]):cH (ls++ms) rm c=[]:=by
 unfold cH at h ⊢;rw[List.filter_eq_nil_iff] at h ⊢;intro v B z;refine h v B ?_
 rw[all_append,k9] at z;exact z.1
theorem yi (rm:Str->List Int):cH [] rm=rm:=by
 funext c
 unfold cH;simp
theorem zI {k:Key} {v:V} {x:Key × V} (Y:k∈kvs.map (·.1)) (B:x∈bm kvs k v):x=(k,v)\/(x∈kvs/\x.1≠k):=by
 obtain⟨Z,F,L⟩:=hB.mp Y;have ha:(kvs.any λkv=>decide (kv.1=k))=true:=sn.mpr ⟨Z,F,by simpa using L⟩
 unfold bm at B;rw[if_pos ha] at B;obtain⟨y,hy,rfl⟩:=hB.mp B
 by_cases e:y.1=k
 .rw[if_pos e];left;rw[e]
 .rw[if_neg e];exact .inr ⟨hy,e⟩
theorem rz {k:Key} {v:V} (Z:k∈kvs.map (·.1)):(bm kvs k v).map (·.1)=kvs.map (·.1):=by
 obtain⟨L,B,F⟩:=hB.mp Z;have ha:(kvs.any λY=>decide (Y.1=k))=true:=sn.mpr ⟨L,B,by simpa using F⟩
 unfold bm;rw[if_pos ha,lb];refine m4 λy _=>?_
 show(if y.1=k then(y.1,v) else y).1=y.1
 split <;> rfl
theorem ij.put {t:Addr} (h:ij H kvs rm) (L:ge c∈kvs.map (·.1)) (s : ∀a vs,H a>>vs->H' a>>vs) (F:H' t>>(ns.map V.int)):ij H' (bm kvs (ge c) (.ref t)) (bN rm c ns):=λx B=>by
 rcases zI L B with e | ⟨e,hne⟩
 .exact⟨c,t,e,by unfold bN;rw[if_pos rfl];exact F⟩
 .obtain⟨c',a,rfl,ha⟩:=h x e
  exact⟨c',a,rfl,by unfold bN;rw[if_neg (λz=>hne (by rw[z]))];exact s _ _ ha⟩
def uJ:Sp:=λvs H Q _=>∃(r c:Addr) (kvs:List (Key × V)) (us:List V) (ls:List L3) (rm:Str->List Int),vs=[.ref r,.ref c]/\H r<*kvs/\(kvs.map (·.1)).Nodup/\kvs.length<=500/\H c>>us/\bU H us ls/\ls.length<=1000/\ij H kvs rm/\(∀l∈ls,ge l.1∈kvs.map (·.1))/\(∀c,(rm c).length<=1000) /\
 ((∃l∈ls,cH ls rm l.1=[])->∀H',aw H H'->Q .non H')/\((∀l∈ls,cH ls rm l.1≠[])->∀(q:Addr) (B:List (Key × V)) H',H q=none->H' q<*B->B.map (·.1)=kvs.map (·.1)->ij H' B (cH ls rm)->aw H H'->Q (.ref q) H')
theorem nW (T:Txt w K mg) (L:FnL K mg "room_against" dn ["literal","room"]):Fn P w K mg base "room_against" 1 ["literal","room"] (rD):=by
 ctx_has z nQ <;> obtain⟨t,r,l,ns,rfl,Y,B,hl,k⟩:=h
 .rfl
 refine⟨_,(af (bv (aL bR (aG bw (pvM 0) aj) aH) (ak (aB (bu cC T.b_tuple (ac (br (N:=["value","literal"]) (nt:=1) (js:=[0]) (aM ["literal","room"] (ao dn).names) (bZ K (pvM 1)) (aA 0) aV (dM (aL AS (pvM 0) (aG bw (pvM 1) aj))) (pvM 0)) ai)))) aO)
  (ak (aB (bu cC T.b_tuple (ac (br (N:=["value","literal"]) (nt:=1) (js:=[0]) (aM ["literal","room"] (ao dn).names) (bZ K (pvM 1)) (aA 0) aV (dM (aL bR (pvM 0) (aG bw (pvM 1) aj))) (pvM 0)) ai))))),?_⟩
 obtain⟨c,w,z⟩:=l;dsimp only [l3V] at Y;ctx_has v Y B
 by_cases h:w=b_ "is"
 .rw[if_pos h]
  intro D Z;refine cD aW (onI λv=>!decide (v=z)) id Z (λH' s=>.of (s _ _ B)) (by simp;omega) ?_ ?_ ?_
  .intro x H3 Q3 hx sm q3
   obtain⟨v,_,rfl⟩:=hB.mp hx;have e:=sm _ _ Y;ctx_has v e
   exact q3 H3 (aw.refl _)
  .intro x H3 Q3 hx hp sm q3
   ctx_has v
   exact q3 H3 (aw.refl _)
  .intro H3 sm h3
   rw[pM,map_id] at h3;ctx_has v h3
   intro q F;refine k q _ (my sm F) ?_ (sm.upd_new F)
   rw[ae];have:(λv=>!cB (c,w,z) v)=λv=>!decide (v=z):=by
    funext v
    unfold cB;dsimp only;rw[if_pos h]
   rw[this]
 .rw[if_neg h]
  intro D Z;refine cD aW (onI λv=>decide (v=z)) id Z (λH' s=>.of (s _ _ B)) (by simp;omega) ?_ ?_ ?_
  .intro x H3 Q3 hx sm q3
   obtain⟨v,_,rfl⟩:=hB.mp hx;have e:=sm _ _ Y;ctx_has v e
   exact q3 H3 (aw.refl _)
  .intro x H3 Q3 hx hp sm q3
   ctx_has v
   exact q3 H3 (aw.refl _)
  .intro H3 sm h3
   rw[pM,map_id] at h3;ctx_has v h3
   intro q F;refine k q _ (my sm F) ?_ (sm.upd_new F)
   rw[ae];have:(λv=>!cB (c,w,z) v)=λv=>decide (v=z):=by
    funext v
    unfold cB;dsimp only;rw[if_neg h];simp
   rw[this]
theorem oN (T:Txt w K mg) (L:FnL K mg "narrowed_by" gT ["rooms","clause"]) (Fm:Fn P w K mg base "room_against" 1 ["literal","room"] (rD)):Fn P w K mg base "narrowed_by" 2 ["rooms","clause"] (uJ):=by
 ctx_has z ql <;> obtain⟨r,c,kvs,us,ls,rm,rfl,a0,a2,a4,hc,Z,a5,a1,ar,ay,k0,k1⟩:=h
 .rfl
 refine⟨_,(af (aD 2 (bu iy T.b_dict (ac (pvM 0) ai)))
  (af (bq (bZ K (pvM 1)) (aA 3) (af (aD 4 (aG bw (pvM 3) aj))
  (af (gK hu (pvM 2) (pvM 4) (az Fm (ac (pvM 3) (ac (bH hu (pvM 2) (pvM 4)) ai))) rfl)
  (ak (bv (aL bR (aE fW T.b_len (ac (bH hu (pvM 2) (pvM 4)) ai)) aj) (ak (aB wI)) aO)))))
  (ak (aB (pvM 2))))),?_⟩
 ctx_has v a0
 intro q hq;have s0:aw H (upd H q (.dK kvs)):=aw.upd0 hq
 refine⟨us,s0 _ _ hc,?_⟩
 refine bS aW (λi σ H'=>∃(kv:List (Key × V)) (v3 v4:Option V),σ=[-r,-c,-q,v3,v4]/\H' q<*kv/\kv.map (·.1)=kvs.map (·.1)/\ij H' kv (cH (ls.take i) rm)/\(∀l∈ls.take i,cH (ls.take i) rm l.1≠[])/\aw H H')
  ⟨kvs,_,_,rfl,ae,rfl,λx hx=>?_,λl hl=>by simp at hl,s0⟩ (λi σ H' aq=>by obtain⟨_,_,_,_,_,_,_,_,sm⟩:=aq;exact(.of (sm _ _ hc))) ?_ ?_
 .obtain⟨c',a,e,ha⟩:=a1 x hx
  exact⟨c',a,e,by rw[List.take_zero,yi];exact s0 _ _ ha⟩
 .rintro i x σ H2 hi hx ⟨kv,v3,v4,rfl,h2,hkeys,hrk2,hne2,s2⟩
  obtain⟨t,l,rfl,ap,ht⟩:=Z.get hx;have hm:=fy ap;have aa:ge l.1∈kv.map (·.1):=by rw[hkeys];exact ar l hm
  obtain⟨y,hy,ax⟩:=hB.mp aa;obtain⟨c',a,rfl,ha⟩:=hrk2 y hy;have ec:c'=l.1:=Hw ax
  subst ec;have ao:=jp (by rw[hkeys];exact a2) hy
  have ab:=s2 _ _ ht;have ad:ls.take (i+1)=ls.take i++[l]:=by rw[j_,ap];rfl
  obtain⟨Y,lw,lz⟩:=l;dsimp only [l3V] at ab ao ha aa hy;ctx_has v ab h2 ao
  refine⟨t,a,(Y,lw,lz),cH (ls.take i) rm Y,rfl,ab,ha,gr (Ha _ _) (ay Y),λt' H3 a3 h3 s3=>?_⟩
  have ag:=s3 _ _ h2;have kl:kv.length=kvs.length:=by have:=congrArg List.length hkeys;simpa using this
  have F:cH (ls.take (i+1)) rm=bN (cH (ls.take i) rm) Y ((cH (ls.take i) rm Y).filter λv=>!cB (Y,lw,lz) v):=by rw[ad,wB]
  have B:cH (ls.take (i+1)) rm Y=(cH (ls.take i) rm Y).filter λv=>!cB (Y,lw,lz) v:=by rw[F];unfold bN;rw[if_pos rfl]
  generalize (cH (ls.take i) rm Y).filter (λv=>!cB (Y,lw,lz) v)=nw at h3 F B
  have tq:t'≠q:=aX h3 ag (by intro z;cases z)
  refine⟨kv,ag,aN (),_,ae,_,by rw[hZ,if_pos rfl],t',rfl,_,by rw[ah tq];exact h3,?_⟩
  have an:aw H (upd H3 q (.dK (bm kv (ge Y) (.ref t')))):=λb o e=>by rw[ah (au e hq)];exact s3 _ _ (s2 _ _ e)
  refine cV (λh0=>?_) (λh0=>?_)
  .refine k0 ⟨(Y,lw,lz),hm,?_⟩ _ an
   rw[<- List.take_append_drop (i+1) ls];exact wK (by rw[B];simpa using h0)
  .refine⟨_,ae,(rz aa).trans hkeys,?_,λl' am=>?_,an⟩
   .rw[F]
    exact hrk2.put aa (λa vs e=>by rw[ah (aX e h2 (by intro z;cases z))];exact s3 _ _ e) (by rw[ah tq];exact h3)
   .by_cases e:l'.1=Y
    .rw[e,B]
     intro z;rw[z] at h0;exact h0 rfl
    .rw[F]
     unfold bN;rw[if_neg e];rw[ad] at am;rcases i9.mp am with z | z
     .exact hne2 l' z
     .exact absurd (by rw[e7.mp z]) e
 .rintro σ H2 ⟨kv,v3,v4,rfl,h2,hkeys,hrk2,hne2,s2⟩
  rw[Z.length,l_] at hrk2 hne2;ctx_has v
  exact k1 hne2 q kv H2 hq h2 hkeys hrk2 s2
abbrev FO:=Fn P w K mg base "_law_true" 1 ["_law_clause_here","_law_filling"] (BK)
theorem su (T:Txt w K mg) (L:FnL K mg "_law_true" jn ["_law_clause_here","_law_filling"]) : @FO P w K mg base:=by
 ctx_has z sy <;> obtain⟨c,f,us,ls,kvs,g,rfl,hc,B,ad,hf,hv,k⟩:=h
 .rfl
 refine⟨_,(af (bq (bZ K (pvM 0)) (jF (n:=3) rfl (cL (aA 2) (cL (aA 3) (cL (aA 4) jD)))) (ak (bv (aL bR (bf bR (bH hu (pvM 1) (pvM 2)) (pvM 4)) (bf bR (pvM 3) aH)) (ak (aB de)) aO)))
  (ak (aB de))),?_⟩
 ctx_has v
 refine⟨us,hc,?_⟩
 refine bS aW (λi σ H'=>∃(v2 v3 v4:Option V),σ=[-c,-f,v2,v3,v4]/\((ls.take i).any λl=>cB l (g l.1))=false/\aw H H')
  ⟨_,_,_,rfl,by simp,aw.refl _⟩ (λi σ H' F=>by obtain⟨_,_,_,_,_,sm⟩:=F;exact(.of (sm _ _ hc))) ?_ ?_
 .rintro i x σ H2 hi hx ⟨v2,v3,v4,rfl,hno,s2⟩
  obtain⟨t,l,rfl,aa,ht⟩:=B.get hx;have hm:=fy aa;have Y:=s2 _ _ ht;have ac:=s2 _ _ hf;have Z:=hv l hm;have ab:ls.take (i+1)=ls.take i++[l]:=by rw[j_,aa];rfl
  obtain⟨lc,lw,lz⟩:=l;dsimp only [l3V] at Y Z;ctx_has v Y ac Z
  have eh:cB (lc,lw,lz) (g lc)=decide (decide (g lc=lz)=decide (lw=b_ "is")):=by
   unfold cB;dsimp only
   by_cases h:lw=b_ "is"
   .rw[if_pos h];simp[h]
   .rw[if_neg h];simp[h]
  refine cV (λh=>?_) (λh=>?_)
  .have kk:=k H2 s2
   rw[sn.mpr ⟨_,hm,by rw[eh];simpa using h⟩] at kk
   exact kk
  .refine⟨?_,s2⟩
   rw[ab,List.any_append,hno,Bool.false_or,HX,List.any_nil,Bool.or_false];rw[eh];exact decide_eq_false h
 .rintro σ H2 ⟨v2,v3,v4,rfl,hno,s2⟩
  rw[B.length,l_] at hno;ctx_has v
  have:=k H2 s2
  rwa [hno] at this
def xS:Sp:=λvs H Q _=>∃(d l a p:Addr) (ws:List Str) (ns:List Int) (m:Int),vs=[.ref d,.ref a,.ref p,.int m]/\aI H d l/\(a≠d/\a≠l)/\(p≠d/\p≠l)/\H a*>(ws.map V.str)/\1<=ws.length/\ws.length<=45/\(∀w∈ws,HU w=true)/\H p*>(ns.map V.int)/\ns.length=5/\0<=m/\m<=40 /\
 ∀(q:Addr) (us:List V) (ls:List L3) (H':Hp),H q=none->H' q>>us->bU H' us ls->ls.length<=40->(∀x∈ls,x.1∈ws)->aI H' d l->But d l H H'->Q (.ref q) H'
theorem pV (h:bU H vs ls) : ∃as:List Addr,vs=as.map V.ref/\∀a∈as,∃x y z,H a>>[.str x,.str y,.int z]:=by
 obtain⟨as,h1,h2,B⟩:=h;refine⟨as.map (·.1),by rw[h1,lb];rfl,λa ha=>?_⟩
 obtain⟨x,F,rfl⟩:=hB.mp ha;exact⟨_,_,_,B x F⟩
abbrev E4:=Fn P w K mg base "_law_clause" 2 ["_law_deal_here","_law_names_here","_law_pool_here","_law_most"] (xS)
theorem pA (T:Txt w K mg) (L:FnL K mg "_law_clause" gP ["_law_deal_here","_law_names_here","_law_pool_here","_law_most"]) (Fa : @Dz0 P w K mg base) : @E4 P w K mg base:=by
 ctx_has z qe <;> obtain⟨d,l,a,p,ws,ns,m,rfl,D,na,np,ha,aF,aR,ay,hp,aM,m0,m1,k⟩:=h
 .rfl
 refine⟨_,(af (aD 4 (cg ai))
  (af (bq (cZ rfl T.b_range (ac (az Fa (ac (pvM 0) (ac (aT bj (pvM 3) aj) ai))) ai)) (aA 5) (af (aD 6 (bW (ac (aG fS (pvM 1) (az Fa (ac (pvM 0) (ac (aE bK T.b_len (ac (pvM 1) ai)) ai)))) (ac (aG fS (cg (ac aH (ac aH ai))) (az Fa (ac (pvM 0) (ac aj ai)))) (ac (aG fS (pvM 2) (az Fa (ac (pvM 0) (ac aj ai)))) ai)))))
  (ak (bv (aL (pJ (Ac hr)) (pvM 6) (pvM 4)) (ak (cz (iJ m5 m6 cK (pvM 4) (ac (pvM 6) ai)))) aO))))
  (ak (aB (bu cC T.b_tuple (ac (aE kQ T.b_sorted (ac (pvM 4) ai)) ai)))))),?_⟩
 ctx_has v
 refine⟨∅,λf hf=>?_⟩
 have nf:=D.ne hf;refine ba (D.new hf) () () λr1 H1 aP aK D1 B1=>?_
 have a3:=B1 f _ nf.1 nf.2 ae;have a8:But d l H H1:=((But.refl H).new hf).trans B1
 ctx_has v
 refine⟨(),(),?_⟩
 refine bS cN (λi σ H'=>∃(us:List V) (ls:List L3) (v5 v6:Option V),σ=[-d,-a,-p,some (.int m),-f,v5,v6]/\H' f*>us/\bU H' us ls/\ls.length<=i/\(∀x∈ls,x.1∈ws/\yL x)/\aI H' d l/\But d l H H')
  ⟨[],[],_,_,rfl,a3,bU.nil,x6 _,λx hx=>by simp at hx,D1,a8⟩ (λ_ _ _ _=>nl) ?_ ?_
 .rintro i x σ H2 hi hx ⟨us,ls,v5,v6,rfl,h2,hr2,hl2,hx2,D2,B2⟩
  rw[aQ] at hi;have am:=B2 a _ na.1 na.2 ha;ctx_has v am
  refine ba D2 (by rw[c_];omega) (by rw[c_];omega) λr3 H3 ax a2 D3 B3=>?_
  rw[c_] at a2;obtain⟨Z,aq,ab⟩:=lE (xs:=ws) ax ()
  have a9:atI (ws.map V.str) r3=some (V.str Z):=by
   obtain⟨n,rfl⟩:=o6 ax;have hn:n < ws.length:=()
   have e1:ws[n]? = some Z:=by
    have:=bA (xs:=ws) (j:=n) (v:=ws[n]) (by simp)
    rw[this] at aq;rw[<- aq];simp
   exact bA (by rw[e9,e1];rfl)
  refine⟨_,rfl,_,B3 a _ na.1 na.2 am,_,a9,∅,λw0 a5=>?_⟩
  refine jC D3 a5 ∅ ∅ rfl λr4 v H4 hv ao D4 B4 aC=>?_
  obtain⟨wd,rfl,a1⟩ : ∃wd,v=V.str wd/\HU wd=true:=by
   simp only[i4,m8,or_false] at hv;rcases hv with rfl | rfl
   .exact⟨_,rfl,by decide+kernel⟩
   .exact⟨_,rfl,by decide+kernel⟩
  refine⟨r4,rfl,_,aC,_,ao,?_⟩
  refine ba D4 ∅ ∅ λr5 H5 ap aS D5 B5=>?_
  have ag:=B3.trans (B4.trans B5);have ar:=B2.trans ag;obtain⟨z,an,aJ⟩:=lE (xs:=ns) ap ()
  have a7:atI (ns.map V.int) r5=some (V.int z):=by
   obtain⟨n,rfl⟩:=o6 ap;have hn:n < ns.length:=()
   have e1:ns[n]? = some z:=by
    have:=bA (xs:=ns) (j:=n) (v:=ns[n]) (by simp)
    rw[this] at an;rw[<- an];simp
   exact bA (by rw[e9,e1];rfl)
  refine⟨r5,rfl,_,ar p _ np.1 np.2 hp,_,a7,∅,λt ht=>?_⟩
  have s6:aw H5 (upd H5 t (.tup [V.str Z,V.str wd,V.int z])):=aw.upd0 ht
  have ad:upd H5 t (.tup [V.str Z,V.str wd,V.int z]) t>>(l3V (Z,wd,z)):=ae
  have B:=s6 _ _ (ag f _ nf.1 nf.2 h2);have Y:=(hr2.keep (But.keepTI ag D2).tup).keep λa vs e=>s6 _ _ e
  have D6:=D5.same s6;have B6:=ar.same s6;generalize upd H5 t (.tup [V.str Z,V.str wd,V.int z])=H6 at ad B Y D6 B6 ⊢;have au:us.length<=40:=by rw[hr2.length];omega
  refine wF ad B Y ⟨ay Z ab,a1⟩ (λx hx=>(hx2 x hx).2) λb=>⟨b,rfl,?_⟩
  refine cV (λhb=>?_) (λhb=>?_)
  .have kt : ∀a vs,H6 a>>vs->upd H6 f (.lst (us++[V.ref t])) a>>vs:=λa vs e=>by rw[ah (aX e B (by intro z;cases z))];exact e
   refine⟨⟨_,B⟩,_,B,aN (),_,ae,ls++[(Z,wd,z)],(Y.keep kt).snoc (kt _ _ ad),by simp;omega,λx hx=>?_,D6.put nf.1 nf.2,B6.put hf⟩
   rcases i9.mp hx with q | q
   .exact hx2 x q
   .rw[e7.mp q];exact⟨ab,ay Z ab,a1⟩
  .exact⟨us,B,ls,Y,(),hx2,D6,B6⟩
 .rintro σ H2 ⟨us,ls,v5,v6,rfl,h2,hr2,hl2,hx2,D2,B2⟩
  rw[aQ] at hl2;ctx_has v h2 ph
  have au:=hr2.length;obtain⟨as,rfl,a4⟩:=pV hr2;rw[c_] at au;refine⟨as,rfl,(),a4,λq bs hq aa=>⟨_,ae,λt ht=>?_⟩⟩
  obtain⟨ms,a0,a6⟩:=hr2.perm aa;have s3:aw H2 (upd (upd H2 q (.lst (bs.map V.ref))) t (.tup (bs.map V.ref))):=(aw.upd0 hq).upd_new ht
  exact k t _ ms _ (B2.free D2 (my (aw.upd0 hq) ht)) ae (a6.keep λa vs e=>s3 _ _ e) (by rw[a0.length_eq];omega) (λx hx=>(hx2 x (a0.mem_iff.mp hx)).1) (D2.same s3) (B2.same s3)
theorem huL (B:cU k A):A.units < cLine:=by have:=B.un;omega
theorem vA (h : ∀l∈ls,l.1≠c):cH ls rm c=rm c:=by
 unfold cH;rw[List.filter_eq_self];intro v _;rw[w4];intro l hl;simp[h l hl]
theorem tX : ∀{kvs:List (Key × V)} {k:Key} {v:V},bO kvs k=some v->k∈kvs.map (·.1)
 | [],k,v,h=>by rw[dH] at h;cases h
 | (a,b) :: r,k,v,h=>by
  by_cases e:a=k
  .subst e;simp
  .rw[aS e] at h
   exact j6 _ (tX h)
theorem wA {w:Str} (h:fo w):HU w=true:=by
 unfold HU;rw[Array.all_eq_true'];intro c B;have:=h.small c (by simpa using B)
 unfold dj at this;simp at this ⊢
 omega
theorem DO {w:Addr} {X:Wx} {Q:VK} (B:WX H w X) (L:szX X) (F:jZ H f (dR X) g) (k : ∀H',aw H H'->Q (.bl (fk X g)) H'):sE [.ref w,.ref f] H Q E0\/wf [.ref w,.ref f] H Q E0:=by
 cases X with
 | pl W=>exact .inl ⟨w,f,W,g,rfl,B,L,F,k⟩
 | sa c us W=>exact .inr ⟨w,f,c,us,W,g,rfl,B,L,F,k⟩
theorem Az {X:Wx} {B:Bool} (sub : ∀c∈dR X,c∈ws) (ne : ∀c∈ws,rm c≠[]):(∃g,okF rm (dR X) g/\fk X g=B)↔∃g,okF rm ws g/\fk X g=B:=by
 constructor
 .rintro⟨g,h1,h2⟩
  obtain⟨g',L,F⟩:=uy h1 ne;exact⟨g',L,by rw[nb F];exact h2⟩
 .rintro⟨g,h1,h2⟩
  exact⟨g,λc Y=>h1 c (sub c Y),h2⟩
theorem nA (F:(kvs.map (·.1)).Nodup) (Y:ij H kvs rm) (kw : ∀c∈ws,ge c∈kvs.map (·.1)):aZ H kvs ws rm:=λc L=>by
 obtain⟨y,B,e⟩:=hB.mp (kw c L);obtain⟨Z,a,rfl,h⟩:=Y y B;cases e;exact⟨a,jp F B,h⟩
theorem pU (F : ∀x∈ls,x.1∈ws) (g:Str->Int):okF (cH ls rm) ws g↔okF rm ws g/\(ls.any λl=>cB l (g l.1))=false:=by
 unfold okF cH
 constructor
 .intro h
  refine⟨λc B=>(x4.mp (h c B)).1,?_⟩
  rw[List.any_eq_false];intro l hl;have h2:=w4.mp (x4.mp (h l.1 (F l hl))).2 l hl;simpa using h2
 .rintro⟨h1,h2⟩ c B
  refine x4.mpr ⟨h1 c B,w4.mpr λl hl=>?_⟩
  have L:=List.any_eq_false.mp h2 l hl
  by_cases e:l.1=c
  .subst e;simpa using L
  .simp[e]
structure Fol (H:Hp) (w c r:Addr) (X:Wx) (ws:List Str) (us:List V) (ls:List L3) (kvs:List (Key × V)) (rm:Str->List Int):Prop where
 W:WX H w X
 hc:H c>>us
 rows:bU H us ls
 ll:ls.length<=40
 cw : ∀x∈ls,x.1∈ws
 rd:H r<*kvs
 nk:(kvs.map (·.1)).Nodup
 kl:kvs.length<=20
 rk:ij H kvs rm
 kw : ∀c∈ws,ge c∈kvs.map (·.1)
 rl : ∀c,(rm c).length<=4
 ne : ∀c∈ws,rm c≠[]/\(rm c).Pairwise (· < ·)
 ok:okO X
 sub : ∀c∈dR X,c∈ws
def C0:Sp:=λvs H Q _=>∃(w c r:Addr) (X:Wx) (ws:List Str) (us:List V) (ls:List L3) (kvs:List (Key × V)) (rm:Str->List Int),vs=[.ref w,.ref c,.ref r]/\Fol H w c r X ws us ls kvs rm/\∀(b:Bool) H',(b=true↔∀g,okF rm ws g->fk X g=true->(ls.any λl=>cB l (g l.1))=true)->aw H H'->Q (.bl b) H'
theorem oa (T:Txt w K mg) (L:FnL K mg "follows_from" gw ["wish","clause","rooms"]) (Fq:Fn P w K mg base "narrowed_by" 2 ["rooms","clause"] (uJ)) (Fr:Fn P w K mg base "may_be_kept" 24 ["wish","rooms"] (CY)):Fn P w K mg base "follows_from" 26 ["wish","clause","rooms"] (C0):=by
 ctx_has z nX <;> obtain⟨w,c,r,X,ws,us,ls,kvs,rm,rfl,M,k⟩:=h
 .rfl
 refine⟨_,(af (aD 3 (az Fq (ac (pvM 2) (ac (pvM 1) ai))))
  (ak (aB (jT (kJ (kI (pvM 3))) (dS (wC (az Fr (ac (pvM 0) (ac (pvM 3) ai))))))))),?_⟩
 ctx_has v
 refine⟨r,c,kvs,us,ls,rm,rfl,M.rd,M.nk,gr M.kl ∅,M.hc,M.rows,gr M.ll ∅,M.rk,λl hl=>M.kw _ (M.cw l hl),λc=>gr (M.rl c) ∅,?_,?_⟩
 .rintro⟨l,hl,hz⟩ H1 s1
  rw[if_pos rfl];refine k true H1 ⟨λ_ g F _=>?_,λ_=>rfl⟩ s1
  cases e:ls.any λl=>cB l (g l.1) with
  | true=>rfl
  | false =>
   have:=(pU M.cw g).mpr ⟨F,e⟩ l.1 (M.cw l hl)
   rw[hz] at this;cases this
 .intro hne q kv H1 hq h1 hk rk1 s1
  rw[if_neg (by intro z;cases z)]
  have Y:(kv.map (·.1)).Nodup:=by rw[hk];exact M.nk
  have B : ∀c∈ws,cH ls rm c≠[]:=λc hc=>by
   by_cases e : ∃l∈ls,l.1=c
   .obtain⟨l,hl,rfl⟩:=e
    exact hne l hl
   .rw[vA λl hl z=>e ⟨l,hl,z⟩]
    exact(M.ne c hc).1
  refine⟨w,q,X,kv,cH ls rm,rfl,⟨du M.W λa xs e=>s1 _ _ e,h1,nA Y rk1 λc hc=>by rw[hk];exact M.kw c (M.sub c hc),M.ok,λc hc=>⟨B c (M.sub c hc),gr (Ha _ _) (M.rl c),(M.ne c (M.sub c hc)).2.sublist List.filter_sublist⟩⟩,λb H2 hb Z=>⟨b,rfl,k _ H2 ?_ (s1.trans Z)⟩⟩
  rw[Bool.not_eq_true',<- Bool.not_eq_true,hb,Az M.sub B]
  constructor
  .intro h g F hk
   cases e:ls.any λl=>cB l (g l.1) with
   | true=>rfl
   | false=>exact absurd ⟨g,(pU M.cw g).mpr ⟨F,e⟩,hk⟩ h
  .rintro h ⟨g,F,hk⟩
   obtain⟨h1,h2⟩:=(pU M.cw g).mp F;rw[h g h1 hk] at h2;cases h2
structure Sh (H:Hp) (w a r:Addr) (X:Wx) (ws:List Str) (kvs:List (Key × V)) (rm:Str->List Int):Prop where
 W:WX H w X
 rd:H r<*kvs
 rf:aZ H kvs ws rm
 ok:okO X
 gd : ∀c∈ws,rm c≠[]/\(rm c).length<=4
 ha:H a*>(ws.map V.str)
 nd:ws.Nodup
 w1:ws≠[]
 wl:ws.length<=5
 sub : ∀c∈dR X,c∈ws
 bd : ∀c∈ws,∀v∈rm c,-2000000<=v/\v<=2000000
theorem Sh.same {H H':Hp} {w a r:Addr} {X:Wx} {ws:List Str} {kvs:List (Key × V)} {rm:Str->List Int} (h:Sh H w a r X ws kvs rm) (s:aw H H'):Sh H' w a r X ws kvs rm :=
 ⟨du h.W λa xs e=>s _ _ e,s _ _ h.rd,h.rf.same (λa vs e=>s _ _ e),h.ok,h.gd,s _ _ h.ha,h.nd,h.w1,h.wl,h.sub,h.bd⟩
theorem Sh.but {w:Addr} {X:Wx} (h:Sh H w a r X ws kvs rm) (F:a≠d/\a≠l) (L:r≠d/\r≠l) (D:aI H d l) (B:But d l H H'):Sh H' w a r X ws kvs rm :=
 ⟨du h.W λa xs e=>B.tup D e,B _ _ L.1 L.2 h.rd,h.rf.same (λa vs e=>B.tup D e),h.ok,h.gd,B _ _ F.1 F.2 h.ha,h.nd,h.w1,h.wl,h.sub,h.bd⟩
theorem Sh.kept {w:Addr} {X:Wx} {B:Addr} {Q:VK} (M:Sh H w a r X ws kvs rm) (s:aw H H2) (L:bQ H2 (.ref B) ws g) (ok:okF rm ws g) (k : ∀H',aw H2 H'->Q (.bl (fk X g)) H'):sE [.ref w,.ref B] H2 Q E0\/wf [.ref w,.ref B] H2 Q E0 :=
 DO (du M.W λa xs e=>s _ _ e) (DZ M.ok) (CJ L M.sub (gr M.wl ∅) λc F=>M.bd c (M.sub c F) _ (ok c (M.sub c F))) k
def Dx:Sp:=λvs H Q _=>∃(w c a r:Addr) (X:Wx) (ws:List Str) (us:List V) (ls:List L3) (kvs:List (Key × V)) (rm:Str->List Int),vs=[.ref w,.ref c,.ref a,.ref r]/\Sh H w a r X ws kvs rm/\H c>>us/\bU H us ls/\ls.length<=40/\(∀x∈ls,x.1∈ws)/\∀(b:Bool) H',(b=true↔∀g,okF rm ws g->fk X g=true->(ls.any λl=>cB l (g l.1))=true)->aw H H'->Q (.bl b) H'
abbrev EX:=Fn P w K mg base "_law_follows" 6 ["_law_wish_here","_law_clause_here","_law_names_here","_law_rooms_here"] (Dx)
theorem nV (T:Txt w K mg) (L:FnL K mg "_law_follows" gc ["_law_wish_here","_law_clause_here","_law_names_here","_law_rooms_here"]) (Fb : @DB P w K mg base) (Fd : @Dz5 P w K mg base) (Fe : @Dz6 P w K mg base) (Fy : @FO P w K mg base) : @EX P w K mg base:=by
 ctx_has z nZ <;> obtain⟨w,c,a,r,X,ws,us,ls,kvs,rm,rfl,M,hc,aa,ap,an,k⟩:=h
 .rfl
 refine⟨_,(af (bq (gl K (az Fb (ac (pvM 2) (ac (pvM 3) ai)))) (aA 4) (ak (bv (PW.pt (rQ (gi (qR Fd Fe (ac (pvM 0) (ac (pvM 4) ai)))) (si (sF (gi (az Fy (ac (pvM 1) (ac (pvM 4) ai)))))))) (ak (aB de)) aO)))
  (ak (aB de))),?_⟩
 ctx_has v
 refine⟨a,r,ws,kvs,rm,rfl,M.ha,M.rd,M.rf,M.nd,M.wl,λc hc=>(M.gd c hc).2,λp xs H1 fp h1 fa ay s1=>?_⟩
 ctx_has v h1
 refine bS cm (λj σ H2=>∃v4:Option V,σ=[-w,-c,-a,-r,v4]/\(∀B,B < j->∀z,xs[B]? = some z->∀g,bQ H1 z ws g->fk X g=true->(ls.any λl=>cB l (g l.1))=true)/\aw H1 H2)
  ⟨_,rfl,λB h=>absurd h (Nat.not_lt_zero _),λb o e=>e⟩ (λj σ H' ad=>by obtain⟨_,_,_,s⟩:=ad;exact(.of (s _ _ h1))) ?_ ?_
 .rintro j x σ H2 hj hx ⟨v4,rfl,hco,s2⟩
  obtain⟨g0,aj,ab⟩:=fa.sound x (fy hx);obtain⟨ax,kx,rfl,ar,aq,au⟩:=id ab;have ao:=s1.trans s2;ctx_has v
  refine M.kept ao (ab.keep λa kvs e=>s2 _ _ e) aj λH3 s3=>⟨_,rfl,?_⟩
  have am:fk X g0=false\/(ls.any λl=>cB l (g0 l.1))=true->∀B,B < j+1->∀z,xs[B]? = some z->∀g,bQ H1 z ws g->fk X g=true->(ls.any λl=>cB l (g l.1))=true:=λh0 B ah z hz g hg F=>by
   by_cases ej:B=j
   .subst ej
    rw[hx] at hz;cases hz;have ag:=vW hg ab;rw[nb (λc hc=>ag c (M.sub c hc))] at F
    rcases h0 with h0 | h0
    .rw[h0] at F;cases F
    .rw[sn] at h0 ⊢
     obtain⟨l,hl,h1⟩:=h0;exact⟨l,hl,by rw[ag l.1 (an l hl)];exact h1⟩
   .exact hco B () z hz g hg F
  have Y:=s2.trans s3;have Z:=s1.trans Y;refine cV (λF=>?_) (λF=>⟨am (.inl (by simpa using F)),Y⟩)
  refine⟨c,ax,us,ls,kx,g0,rfl,Z _ _ hc,aa.keep λa vs e=>Z _ _ e,gr ap ∅,Y _ _ ar,λl hl=>aq l.1 (an l hl),λH4 s4=>⟨_,rfl,cV (λht=>?_) (λht=>⟨am (.inr (by simpa using ht)),Y.trans s4⟩)⟩⟩
  refine k false H4 ⟨λz=>(by cases z),λz=>?_⟩ (Z.trans s4)
  rw[z g0 aj F] at ht;cases ht
 .rintro σ H2 ⟨v4,rfl,hco,s2⟩
  ctx_has v
  refine k true H2 ⟨λ_ g hg F=>?_,λ_=>rfl⟩ (s1.trans s2)
  obtain⟨x,hx,hf⟩:=fa.comp g hg;obtain⟨B,ah,e'⟩:=t_ hx;exact hco B ah x (by rw[<- e'];simp) g hf F
def FH (t u:TS):TS:=λD σ H=>∃R:St->Hp->Prop,t { D with nx:=R } σ H/\∀ σ H,R σ H->u D σ H
theorem CN {t u:TS} (h1:PS X st t) (h2:PSs X rest u):PSs X (st :: rest) (FH t u):=by
 unfold PS at h1;unfold PSs at h2 ⊢;intro pins s σ H D I h;obtain⟨R,h,L⟩:=h;refine wpAny_execs_cons (thn (h1 pins s σ H { D with nx:=R } I h) λf F q=>?_)
 cases f with
 | next =>
  obtain⟨σ',H',B,q⟩:=q;exact h2 pins F σ' H' D B (L _ _ q)
 | ret v=>exact q
 | brk=>exact q
 | cont=>exact q
theorem Bg {a b c d rest:TS} (h : ∀R:TS,R=rest->mQ a (mQ b (mQ c (mQ d R))) D σ H):mQ a (mQ b (mQ c (mQ d rest))) D σ H:=h rest rfl
theorem Db {a b:TS} (R:St->Hp->Prop) (h1:a { D with nx:=R } σ H) (h2 : ∀ σ H,R σ H->b D σ H):FH a b D σ H:=⟨R,h1,h2⟩
theorem er {a rest:TS} (h : ∀R:TS,R=rest->mQ a R D σ H):mQ a rest D σ H:=h rest rfl
local macro_rules | `(tactic| ctx_has s $ids*) => `(tactic| (refine er λR hR => ?_; ctx_has v $ids*; subst hR))
theorem oy {α:Type} : ∀{l m:List α},l.Nodup->(∀x∈l,x∈m)->l.length<=m.length
 | [],m,_,_=>x6 _
 | x :: l,m,hn,h=>by
  rw[md] at hn;obtain⟨s,t,rfl⟩:=List.append_of_mem (h x k6);have:=oy (m:=s++t) hn.2 λy B=>by
   rcases i9.mp (h y (j6 _ B)) with z | z
   .exact ki _ z
   .rcases i4.mp z with z | z
    .subst z;exact absurd B hn.1
    .exact n9 _ z
  simp at this ⊢
  omega
def wV (K:e_):Sp:=λvs H Q _=>∃(a:Addr) (ns:List Int),vs=[.ref a]/\SqL K H a (ns.map V.int)/\ns.length<=63/\∀H',Q (.bl true) H'
def EJ:R2:=λx y H Q=>∃a,x = .ref a/\∃b,y = .ref b/\∃xs,H a*>xs/\H b*>[]/\Q (.bl (decide (xs=[]))) H
theorem Cm (hu:X.A.units+10 < cLine):OpR X (p_ .Eq) EJ:=by
 intro pins s σ H x y v u Q I Z ry h;obtain⟨a,rfl,b,rfl,xs,ha,hb,q⟩:=h;cases Z;cases ry;obtain⟨ia,ra,F,_⟩:=I.list (SqL.of ha);obtain⟨ib,rb,L,_⟩:=I.list (SqL.of hb);have B:=ra.length;have Y:=rb.length;cases xs with
 | nil=>exact PySem.SeqAt.eq_listAt (e:=λ_=>true) F.isList L.isList (by simp at B Y ⊢;omega) () (λj h1 _=>absurd h1 (by simp at B ⊢;omega)) ⟨.bl true,H,I,(by rw[w4.mpr λ_ _=>rfl];rfl),q⟩
 | cons x xs=>exact PySem.SeqAt.eq_list_lengthsAt F.isList L.isList (by simp at B Y ⊢;omega) () ⟨.bl false,H,I,rfl,q⟩
theorem Cn {B:Addr} (D:aI H d l) (hf:bQ H (.ref B) ws g) (nd:ws.Nodup):B≠d/\B≠l:=by
 obtain⟨m,sd,n,xs,Z,hl,_⟩:=D.ex;obtain⟨a,kvs,e,h1,h2,h3,_⟩:=hf;cases e;refine⟨λz=>?_,aX h1 hl (by intro z;cases z)⟩
 subst z;rw[Z] at h1;cases h1;have Y:4<=ws.length:=h3
 have h5:ws.length<=[b_ "mixed",b_ "seed",b_ "number"].length:=oy nd λc hc=>by
  have h:=h2 c hc
  by_cases e1:c=b_ "mixed"
  .rw[e1];exact k6
  by_cases e2:c=b_ "seed"
  .rw[e2];exact j6 _ k6
  by_cases L:c=b_ "number"
  .rw[L];exact j6 _ (j6 _ k6)
  rw[bx,aS (λz=>e1 (Hw z).symm),aS (λz=>e2 (Hw z).symm),aS (λz=>L (Hw z).symm)] at h
  by_cases F:c=b_ "left"
  .rw[bz (by rw[F])] at h;cases h
  .rw[aS (λz=>F (Hw z).symm),dH] at h;cases h
 exact absurd (gr Y h5) ∅
def Ej:Sp:=λvs H Q _=>∃(d l w a r:Addr) (X:Wx) (ws:List Str) (kvs:List (Key × V)) (rm:Str->List Int),vs=[.ref d,.ref w,.ref a,.ref r]/\aI H d l/\(a≠d/\a≠l)/\(r≠d/\r≠l)/\Sh H w a r X ws kvs rm/\∀(q:Addr) (us:List V) (ls:List L3) (H':Hp),H' q>>us->bU H' us ls->ls.length<=40->(∀x∈ls,x.1∈ws)->aI H' d l->But d l H H'->Q (.ref q) H'
theorem F6 (B:cU k A):A.units+10 < cLine:=by have:=B.un;omega
abbrev E9:=Fn P w K mg base "_law_shut" 6 ["_law_deal_here","_law_wish_here","_law_names_here","_law_rooms_here"] (Ej)
theorem sR (T:Txt w K mg) (L:FnL K mg "_law_shut" gJ ["_law_deal_here","_law_wish_here","_law_names_here","_law_rooms_here"]) (Fa : @Dz0 P w K mg base) (Fb : @DB P w K mg base) (Fd : @Dz5 P w K mg base) (Fe : @Dz6 P w K mg base) : @E9 P w K mg base:=by
 ctx_has z sI <;> obtain⟨d,l,w,a,r,X,ws,kvs,rm,rfl,D,na,nr,M,k⟩:=h
 .rfl
 refine⟨_,(af (gg 4 (N:=["_law_filling","_law_wish_here"]) (nt:=1) (js:=[1]) (aM ["_law_deal_here","_law_wish_here","_law_names_here","_law_rooms_here","_law_some_here","_law_filling","_law_found","_law_name","_law_way_here"] (ao gJ).names) (gl K (az Fb (ac (pvM 2) (ac (pvM 3) ai)))) (aA 0) aV (dM (sF (gi (qR Fd Fe (ac (pvM 1) (ac (pvM 0) ai)))))) (pvM 0))
  (af (bv (aL (Cm (F6 hr)) (pvM 4) (cg ai)) (ak (aB (bW (ac (bW (ac (aG fS (pvM 2) aj) (ac aH (ac (aG bw (bH hu (pvM 3) (aG fS (pvM 2) aj)) aj) ai)))) ai)))) aO)
  (af (aD 5 (aG fS (pvM 4) (az Fa (ac (pvM 0) (ac (aE bK T.b_len (ac (pvM 4) ai)) ai)))))
  (af (aD 6 (cg ai))
  (af (bq (gl K (pvM 2)) (aA 7) (af (aD 8 (az Fa (ac (pvM 0) (ac aj ai))))
  (af (bv (aL wY (pvM 8) aj) (ak (cz (iJ m5 m6 cK (pvM 6) (ac (bW (ac (pvM 7) (ac aH (ac (bH hu (pvM 5) (pvM 7)) ai)))) ai)))) aO)
  (ak (bv (aL bR (pvM 8) aj) (ak (cz (iJ m5 m6 cK (pvM 6) (ac (bW (ac (pvM 7) (ac aH (ac (aG bw (bH hu (pvM 3) (pvM 7)) (az Fa (ac (pvM 0) (ac (aE fW T.b_len (ac (bH hu (pvM 3) (pvM 7)) ai)) ai)))) ai)))) ai)))) aO)))))
  (ak (aB (bu cC T.b_tuple (ac (aE kQ T.b_sorted (ac (pvM 6) ai)) ai))))))))),?_⟩
 refine er λR hR=>?_
 ctx_has v
 refine⟨a,r,ws,kvs,rm,rfl,M.ha,M.rd,M.rf,M.nd,M.wl,λc hc=>(M.gd c hc).2,λp xs H1 fp h1 fa bo s1=>?_⟩
 refine⟨p,rfl,xs,h1,λD1 aq=>?_⟩
 refine eI cm (λj ys H2=>(∀y∈ys,y∈xs)/\ys.length<=j/\H2 D1*>ys/\aw H1 H2) ⟨λy hy=>by simp at hy,i6 _,ae,aw.upd0 aq⟩ (λj ys H2 aW=>by obtain⟨_,_,_,s⟩:=aW;exact(.of (s _ _ h1))) ?_ ?_
 .rintro j x ys H2 hj Z ⟨ag,a3,h2,s2⟩
  obtain⟨g0,bc,aC⟩:=fa.sound x (fy Z);obtain⟨ax,kx,rfl,b4,b3,bk⟩:=id aC;ctx_has v
  refine M.kept (s1.trans s2) (aC.keep λa kvs e=>s2 _ _ e) bc λH3 Y=>⟨_,rfl,cV (λh=>?_) (λh=>⟨ag,Nat.le_succ_of_le a3,Y _ _ h2,s2.trans Y⟩)⟩
  refine⟨Y _ _ h2,o9 (show ys.length<=2000 by omega) ∅,λy hy=>?_,by simp;omega,ae,λb o e=>?_⟩
  .rcases i9.mp hy with z | z
   .exact ag y z
   .rw[e7.mp z];exact fy Z
  .rw[ah (au e aq)];exact Y _ _ (s2 _ _ e)
 rintro ys H2 ⟨ag,a3,h2,s2⟩
 have M2:=(M.same s1).same s2;have D2:=(D.same s1).same s2;have aK : ∀y∈ys,∃g,okF rm ws g/\bQ H2 y ws g:=λy hy=>by
  obtain⟨g,h1,h2⟩:=fa.sound y (ag y hy);exact⟨g,h1,h2.keep λa kvs e=>s2 _ _ e⟩
 have br:ys.length<=1024:=()
 have B2:But d l H H2:=(But.refl H).same (s1.trans s2)
 have nD:=(D.same s1).ne aq;clear fa h1 ag a3 s1 s2 fp aq bo D;subst hR;refine er λR hR=>?_
 ctx_has v
 refine⟨∅,λe1 a8=>?_⟩
 have Y:aw H2 (upd H2 e1 (.lst [])):=aw.upd0 a8
 have M3:=M2.same Y;have D3:=D2.same Y;have B3:=B2.same Y;refine⟨D1,rfl,e1,rfl,ys,Y _ _ h2,ae,_,rfl,cV (λh0=>?_) (λh0=>?_)⟩
 .obtain⟨c0,hc0⟩ : ∃c0,ws[0]? = some c0:=⟨_,k4 (B_.mpr M.w1)⟩
  have a2:=fy hc0;have a0:atI (ws.map V.str) 0=some (V.str c0):=bA (xs:=ws.map V.str) (j:=0) (v:=V.str c0) (by rw[e9,hc0];rfl)
  obtain⟨t0,bn,bh⟩:=M3.rf c0 a2;obtain⟨v0,bf⟩ : ∃v0,(rm c0)[0]? = some v0:=⟨_,k4 (B_.mpr (M.gd c0 a2).1)⟩;have aP:atI ((rm c0).map V.int) 0=some (V.int v0):=bA (xs:=(rm c0).map V.int) (j:=0) (v:=V.int v0) (by rw[e9,bf];rfl)
  refine⟨_,M3.ha,_,a0,_,M3.ha,_,a0,ge c0,rfl,kvs,M3.rd,_,bn,t0,rfl,_,bh,_,aP,∅,λt ht=>⟨∅,λq hq=>?_⟩⟩
  have s4:=(aw.upd0 (o:=.tup [V.str c0,V.str "not",V.int v0]) ht).upd_new (o:=.tup [V.ref t]) hq;exact k q [V.ref t] [(c0,b_ "not",v0)] _ ae ((bU.nil (H:=upd (upd (upd H2 e1 (.lst [])) t (.tup [V.str c0,V.str "not",V.int v0])) q (.tup [V.ref t]))).snoc ((aw.upd0 hq) _ _ ae)) (by show 1<=40;decide) (λx Z=>by rw[e7.mp Z];exact a2) (D3.same s4) (B3.same s4)
 have a9:ys≠[]:=by simpa using h0
 have h3:=Y _ _ h2;have ad : ∀y∈ys,∃g,okF rm ws g/\bQ (upd H2 e1 (.lst [])) y ws g:=λy hy=>by
  obtain⟨g,h1,h2⟩:=aK y hy;exact⟨g,h1,h2.keep λa kvs e=>Y _ _ e⟩
 generalize upd H2 e1 (.lst [])=H3 at M3 D3 B3 h3 ad ⊢;clear M2 D2 B2 aK h2 a8 Y h0;subst hR;refine er λR hR=>?_
 ctx_has v h3
 refine ba D3 (by have:=B_.mpr a9;omega) () λr1 H4 bm bj D4 B4=>?_
 obtain⟨y,aJ,aS⟩:=lE (xs:=ys) bm bj;obtain⟨g,bt,a4⟩:=ad y aS;obtain⟨ay,ky,rfl,aY,bi,bk⟩:=id a4;have ar:=Cn D3 a4 M3.nd;refine⟨r1,rfl,ys,B4 D1 _ nD.1 nD.2 h3,_,aJ,?_⟩
 have M4:=M3.but na nr D3 B4;have h4:=B4 ay _ ar.1 ar.2 aY;have aR:=B3.trans B4;clear ad a4 aY aJ aS M3 D3 B3 B4 h3 a9;subst hR;refine er λR hR=>?_
 ctx_has v
 refine⟨∅,λf hf=>?_⟩
 have nf:=D4.ne hf;have s5:aw H4 (upd H4 f (.lst [])):=aw.upd0 hf
 have aU:upd H4 f (.lst []) f*>[]:=ae
 have M5:=M4.same s5;have D5:=D4.same s5;have B5:=aR.same s5;have h5:=s5 _ _ h4;generalize upd H4 f (.lst [])=H5 at s5 aU M5 D5 B5 h5 ⊢;subst hR;ctx_has v
 refine⟨_,M5.ha,?_⟩
 refine bS cm (λi σ H'=>∃(us:List V) (ls:List L3) (v7 v8:Option V),σ=[-d,-w,-a,-r,-D1,-ay,-f,v7,v8]/\H' f*>us/\bU H' us ls/\ls.length<=2 * i/\(∀x∈ls,x.1∈ws)/\aI H' d l/\But d l H4 H')
  ⟨[],[],_,_,rfl,aU,bU.nil,x6 _,λx Z=>by simp at Z,D5,(But.refl H4).same s5⟩ (λi σ H' a7=>by obtain⟨_,_,_,_,_,_,_,_,_,_,B⟩:=a7;exact(.of (B a _ na.1 na.2 M4.ha))) ?_ ?_
 .rintro i x σ H6 hi Z ⟨us,ls,v7,v8,rfl,h6,ab,aF,an,D6,B6⟩
  rw[c_] at hi;obtain⟨c,bd,rfl⟩ : ∃c,ws[i]? = some c/\V.str c=x:=by
   rw[e9] at Z;cases e:ws[i]? with
   | none=>rw[e] at Z;cases Z
   | some nm=>rw[e] at Z;exact⟨nm,rfl,fx Z⟩
  have am:=fy bd;have M6:=M4.but na nr D4 B6;ctx_has v
  refine ba D6 ∅ ∅ λr7 H7 b1 b0 D7 B7=>?_
  have ap:=B6.trans B7;have M7:=M6.but na nr D6 B7;have aa:=B7 f _ nf.1 nf.2 h6;have a5:=ab.keep (But.keepTI B7 D6).tup;have aQ:us.length<=40:=by rw[ab.length];have:=M.wl;omega
  have put : ∀(H8:Hp) (wd:Str) (v:Int) (p:Addr),H8 f*>us->bU H8 us ls->aI H8 d l->But d l H4 H8->H8 p=none->(∃aZ,upd (upd H8 p (.tup [V.str c,V.str wd,V.int v])) f (.lst (us++[V.ref p])) f*>aZ/\∃a6,bU (upd (upd H8 p (.tup [V.str c,V.str wd,V.int v])) f (.lst (us++[V.ref p]))) aZ a6/\a6.length<=2 * (i+1)/\(∀x∈a6,x.1∈ws)/\aI (upd (upd H8 p (.tup [V.str c,V.str wd,V.int v])) f (.lst (us++[V.ref p]))) d l/\But d l H4 (upd (upd H8 p (.tup [V.str c,V.str wd,V.int v])) f (.lst (us++[V.ref p])))):=λH8 wd v p h8 bp D8 B8 hp=>by
   have s9:=aw.upd0 (o:=.tup [V.str c,V.str wd,V.int v]) hp;have h9:=s9 _ _ h8;have kt : ∀a vs,upd H8 p (.tup [V.str c,V.str wd,V.int v]) a>>vs->upd (upd H8 p (.tup [V.str c,V.str wd,V.int v])) f (.lst (us++[V.ref p])) a>>vs:=λa vs e=>by rw[ah (aX e h9 (by intro z;cases z))];exact e
   refine⟨_,ae,ls++[(c,wd,v)],((bp.keep λa vs e=>s9 _ _ e).keep kt).snoc (kt _ _ ae),by simp;omega,λx Z=>?_,(D8.same s9).put nf.1 nf.2,(B8.same s9).put hf⟩
   rcases i9.mp Z with z | z
   .exact an x z
   .rw[e7.mp z];exact am
  refine⟨_,rfl,cV (λh=>?_) (λh=>?_)⟩
  .refine⟨⟨_,aa⟩,ky,ap ay _ ar.1 ar.2 h4,_,bi c am,∅,λp hp=>⟨us,(aw.upd0 hp) _ _ aa,aN (),rfl,?_⟩⟩
   rw[if_neg (by intro z;cases z;omega)]
   exact put H7 _ _ p aa a5 D7 ap hp
  .refine⟨rfl,cV (λh3=>?_) (λh3=>⟨us,aa,ls,a5,(),an,D7,ap⟩)⟩
   obtain⟨t,hk,ht⟩:=M7.rf c am;have hg:=M.gd c am;have bx:=B_.mpr hg.1;refine⟨⟨_,aa⟩,kvs,M7.rd,_,hk,kvs,M7.rd,_,hk,t,rfl,_,ht,?_⟩
   rw[c_];refine ba D7 () () λr8 H8 be bz D8 B8=>?_
   obtain⟨n,rfl⟩:=o6 be;have hn:n < (rm c).length:=()
   refine⟨t,rfl,_,rfl,_,B8.tup D7 ht,_,bA (by rw[e9,k4 hn];rfl),∅,λp hp=>⟨us,(aw.upd0 hp) _ _ (B8 f _ nf.1 nf.2 aa),aN (),put H8 _ _ p (B8 f _ nf.1 nf.2 aa) (a5.keep (But.keepTI B8 D7).tup) D8 (ap.trans B8) hp⟩⟩
 rintro σ H6 ⟨us,ls,v7,v8,rfl,h6,ab,aF,an,D6,B6⟩
 rw[c_] at aF;have b2:=M.wl;ctx_has v h6 ph
 have aQ:=ab.length;obtain⟨as,rfl,bb⟩:=pV ab;rw[c_] at aQ;refine⟨as,rfl,(),bb,λq bs hq a1=>⟨_,ae,λt ht=>?_⟩⟩
 obtain⟨ms,aT,bg⟩:=ab.perm a1;have Y:aw H6 (upd (upd H6 q (.lst (bs.map V.ref))) t (.tup (bs.map V.ref))):=(aw.upd0 hq).upd_new ht
 exact k t _ ms _ ae (bg.keep λa vs e=>Y _ _ e) (by rw[aT.length_eq];omega) (λx Z=>an x (aT.mem_iff.mp Z)) (D6.same Y) ((aR.trans B6).same Y)
theorem ub {W:Wi} (h:okW ws ns W):(bX W).Nodup/\∀x∈bX W,x∈ws:=by
 cases W with
 | un cs=>exact⟨h.2.1,h.2.2.1⟩
 | mn av cs lo hi=>exact⟨h.1.2.1,h.1.2.2.1⟩
 | sm ts lo hi=>exact⟨h.1.2.1,h.1.2.2.1⟩
 | tb cs rows=>exact⟨h.1.2.1,h.1.2.2.1⟩
 | wy cs ps es=>exact⟨h.1.2.1,h.1.2.2.1⟩
 | bh cs gap=>exact⟨h.2.1,h.2.2.1⟩
theorem DD {X:Wx} (h:okX ws ns X) (hl:ws.length<=5):okO X:=by
 cases X with
 | pl W =>
  obtain⟨B,F⟩:=ub h;exact⟨⟨_,_,h⟩,gr (oy B F) hl⟩
 | sa c us W =>
  obtain⟨B,F⟩:=ub h.2.2.1;exact⟨⟨_,_,h.2.2.1⟩,gr (oy B F) hl,h.2.1.2.2,h.2.2.2⟩
def qx (ws:List Str) (H:Hp) (y:V):Prop:=∃(c:Addr) (us:List V) (ls:List L3),y = .ref c/\H c>>us/\bU H us ls/\ls.length<=40/\∀x∈ls,x.1∈ws
theorem qx.keep {ws:List Str} {H H':Hp} {y:V} (h:qx ws H y) (k : ∀a vs,H a>>vs->H' a>>vs):qx ws H' y:=by
 obtain⟨c,us,ls,e,h1,h2,F,B⟩:=h;exact⟨c,us,ls,e,k _ _ h1,h2.keep k,F,B⟩
structure Rk (H:Hp) (ws:List Str) (kvs:List (Key × V)) (rm:Str->List Int):Prop where
 nk:(kvs.map (·.1)).Nodup
 kl:kvs.length<=20
 rk:ij H kvs rm
 kw : ∀c∈ws,ge c∈kvs.map (·.1)
 rl : ∀c,(rm c).length<=4
 ne : ∀c∈ws,rm c≠[]/\(rm c).Pairwise (· < ·)
 pl : ∀x∈kvs,eP x.2=true
 bd : ∀c∈ws,∀v∈rm c,-2000000<=v/\v<=2000000
theorem Rk.keep (h:Rk H ws kvs rm) (k : ∀a vs,H a>>vs->H' a>>vs):Rk H' ws kvs rm :=
 ⟨h.nk,h.kl,λx B=>(by obtain⟨c,a,e,h1⟩:=h.rk x B;exact⟨c,a,e,k _ _ h1⟩),h.kw,h.rl,h.ne,h.pl,h.bd⟩
theorem Rk.rf (h:Rk H ws kvs rm):aZ H kvs ws rm:=nA h.nk h.rk h.kw
theorem Rk.of {ps:List Int} (Y:aZ H kvs ws rm) (F : ∀c∈ws,rm c≠[]/\((rm c).length:Int)<=4/\(rm c).Pairwise (· < ·)/\∀v∈rm c,v∈ps) (Z : ∀x∈kvs,eP x.2=true) (L:kvs.length<=2 * ws.length/\kH kvs ws) (hl:ws.length<=10) (hb : ∀x∈ps,-1000000<=x/\x<=1000000) : ∃rw,Rk H ws kvs rw/\∀c∈ws,rw c=rm c:=by
 refine⟨λc=>if c∈ws then rm c else[],⟨L.2.1,by have:=L.1;omega,λx hx=>?_,λc B=>?_,λc=>?_,λc B=>?_,Z,λc B v hv=>?_⟩,λc B=>if_pos B⟩
 .obtain⟨c,B,e⟩:=L.2.2 x hx
  obtain⟨a',e1,e2⟩:=Y c B;have h:=jp (k:=x.1) (v:=x.2) L.2.1 hx;rw[e,e1] at h;exact⟨c,a',by rw[<- e,fx h],by rw[if_pos B];exact e2⟩
 .obtain⟨a',e1,_⟩:=Y c B
  exact tX e1
 .show(if c∈ws then rm c else[]).length<=4
  split
  .rename_i B;have:=(F c B).2.1;omega
  .simp
 .rw[if_pos B];exact⟨(F c B).1,(F c B).2.2.1⟩
 .rw[if_pos B] at hv
  have:=hb v ((F c B).2.2.2 v hv)
  omega
theorem Rk.put {H H':Hp} {ws:List Str} {kvs:List (Key × V)} {rm:Str->List Int} {c:Str} {t:Addr} (h:Rk H ws kvs rm) (Y:c∈ws) (h1:1 < (rm c).length) (k : ∀a vs,H a>>vs->H' a>>vs) (ht:H' t>>(((rm c).drop 1).map V.int)):Rk H' ws (bm kvs (ge c) (.ref t)) (bN rm c ((rm c).drop 1)):=by
 have Z:=h.kw c Y;have L:=rz (v:=.ref t) Z;refine⟨by rw[L];exact h.nk,by have:=congrArg List.length L;simp at this;rw[this];exact h.kl,h.rk.put Z k ht,λF B=>by rw[L];exact h.kw F B,λF=>?_,λF B=>?_,jE h.pl rfl,λF B=>?_⟩
 .unfold bN
  split
  .rw[Hu];have:=h.rl c;omega
  .exact h.rl F
 .unfold bN
  split
  .exact⟨λz=>by have:=congrArg List.length z;rw[Hu,length_nil] at this;omega,(h.ne c Y).2.sublist (List.drop_sublist _ _)⟩
  .exact h.ne F B
 .unfold bN
  split
  .exact λv hv=>h.bd c Y v (List.mem_of_mem_drop hv)
  .exact h.bd F B
structure vS (H:Hp) (ca wa:Addr) (X:Wx) (ws:List Str) (rr:List Addr):Prop where
 ha:H ca*>(ws.map V.str)
 W:WX H wa X
 rs : ∀r∈rr,∃kvs rm,H r<*kvs/\Rk H ws kvs rm
theorem vS.same {X:Wx} (h:vS H ca wa X ws rr) (s:aw H H'):vS H' ca wa X ws rr :=
 ⟨s _ _ h.ha,du h.W λa xs e=>s _ _ e,λr B=>by obtain⟨kvs,rm,h1,h2⟩:=h.rs r B;exact⟨kvs,rm,s _ _ h1,h2.keep λa xs e=>s _ _ e⟩⟩
theorem E3 {X:Wx} {q c:Addr} {us:List V} (M:vS H ca wa X ws rr) (B:H q<*kvs) (R:Rk H ws kvs rm) (Y:H c>>us) (F:bU H us ls) (hl:ls.length<=40) (L : ∀x∈ls,x.1∈ws) (ok:okO X) (sub : ∀c∈dR X,c∈ws):Fol H wa c q X ws us ls kvs rm :=
 ⟨M.W,Y,F,hl,L,B,R.nk,R.kl,R.rk,R.kw,R.rl,R.ne,ok,sub⟩
theorem E5 {X:Wx} (M:vS H ca wa X ws rr) (F:H r<*kvs) (R:Rk H ws kvs rm) (ok:okO X) (B:ws.Nodup) (Y:ws≠[]) (L:ws.length<=5) (sub : ∀c∈dR X,c∈ws):Sh H wa ca r X ws kvs rm :=
 ⟨M.W,F,R.rf,ok,λc Z=>⟨(R.ne c Z).1,R.rl c⟩,M.ha,B,Y,L,sub,R.bd⟩
theorem Dq (T:Txt w K mg) (L:Fun K "law" "law" pQ f fd) (Fz : @Dz1 P w K mg base) (Fa : @Dz0 P w K mg base) (Fx : @Dz2 P w K mg base) (FA:Fn P w K mg base "_law_pool" 2 ["_law_deal_here"] (xw)) (Fv : @Dz3 P w K mg base) (Fw:Fn P w K mg base "_law_wish" 15 ["_law_deal_here","_law_names_here","_law_rooms_here","_law_pool_here","_law_sorts"] (oC true)) (Fj : @E4 P w K mg base) (FB : @E9 P w K mg base) (Fl:Fn P w K mg base "follows_from" 26 ["wish","clause","rooms"] (C0)) (Fo : @EX P w K mg base):ku P w K mg base CX0 45 f fd ["_law_script"] (wV K):=by
 have nd:=zY.nd;refine L.ok zY (λvs H Q E h=>?_) (λcdv A outer s H vs Q E hr h=>?_) <;> obtain⟨a,ns,rfl,hS,cn,k⟩:=h
 .rfl
 have hu:=CW hr;refine⟨_,(af (aD 1 (az Fz (ac (pvM 0) (ac aj ai))))
  (af (aD 2 (az Fx (ac (pvM 1) (ac (aT bj aj (az Fa (ac (pvM 1) (ac aj ai)))) ai))))
  (af (aD 3 (az FA (ac (pvM 1) ai)))
  (af (aD 4 (az Fv (ac (pvM 1) (ac (pvM 2) (ac (pvM 3) (ac aj ai))))))
  (af (aD 5 (az Fw (ac (pvM 1) (ac (pvM 2) (ac (pvM 4) (ac (pvM 3) (ac (cg (ac aH (ac aH (ac aH (ac aH (ac aH (ac aH (ac aH ai)))))))) ai)))))))
  (af (aD 6 (cg (ac (az Fj (ac (pvM 1) (ac (pvM 2) (ac (pvM 3) (ac aj ai))))) (ac (az Fj (ac (pvM 1) (ac (pvM 2) (ac (pvM 3) (ac aj ai))))) ai))))
  (af (aD 6 (aT wS (pvM 6) (br (N:=["_law_k","_law_deal_here","_law_wish_here","_law_names_here","_law_rooms_here"]) (nt:=1) (js:=[1,5,2,4]) (aM ["_law_script","_law_deal_here","_law_names_here","_law_pool_here","_law_rooms_here","_law_wish_here","_law_clauses","_law_less","_law_name","_law_clause_here","_law_some_here","_law_handed","_law_told"] (ao pQ).names) (cZ rfl T.b_range (ac aj ai)) (aA 0) aV cy (az FB (ac (pvM 1) (ac (pvM 2) (ac (pvM 3) (ac (pvM 4) ai))))))))
  (af (aD 7 (bu iy T.b_dict (ac (pvM 4) ai)))
  (af (aD 8 (aG fS (pvM 2) (az Fa (ac (pvM 1) (ac (aE bK T.b_len (ac (pvM 2) ai)) ai)))))
  (CN (bv (aL nJ (aE fW T.b_len (ac (bH hu (pvM 4) (pvM 8)) ai)) aj) (ak (gK hu (pvM 7) (pvM 8) (cP qT (bH hu (pvM 4) (pvM 8)) (db aj) dN) rfl)) aO)
  (af (bq (gl K (aT wS (pvM 6) (cP E2 (pvM 6) dN (db aj)))) (aA 9) (ak (bq (bZ K (bW (ac (pvM 4) (ac (pvM 7) ai)))) (aA 10) (af (aD 11 (bu iy T.b_dict (ac (pvM 10) ai)))
  (af (aD 12 (az Fl (ac (pvM 5) (ac (pvM 9) (ac (pvM 11) ai)))))
  (ak (bv (PW.pt (ux (sF (gi (aE Ba T.b_isinstance (ac (pvM 12) (ac (EU (T := "bool") rfl T.b_bool (by decide+kernel)) ai))))) (ux (aL AS (pvM 12) (az Fo (ac (pvM 5) (ac (pvM 9) (ac (pvM 2) (ac (pvM 10) ai)))))) (sU (aL (Cd (huL hr)) (pvM 11) (pvM 10)))))) (ak (aB de)) aO)))))))
  (ak (aB de))))))))))))),?_⟩
 refine Bg λR hR=>?_
 ctx_has v
 refine⟨a,ns,1,rfl,hS,cn,∅,∅,λd l H1 hd hl D1 d5=>?_⟩
 refine ba D1 ∅ ∅ λr1 H2 cH dr D2 B2=>?_
 refine⟨_,rfl,d,l,_,rfl,D2,(),(),λca ws H3 c5 ok bR h3 D3 B3=>?_⟩
 have Z:=D2.ne c5;refine⟨d,l,rfl,D3,λpa ps H4 cM bi cG cY bN D4 B4=>?_⟩
 have a6:=D3.ne cM;have h4:=B4 ca _ Z.1 Z.2 h3;refine⟨d,l,ca,pa,ws,ps,4,rfl,D4,Z,a6,h4,(),bN,bi,cG,∅,∅,λra kvs d7 H5 cO cr b3 aK dj dd D5 B5=>?_⟩
 have bE:=D4.ne cO;have h5:=B5 ca _ Z.1 Z.2 h4;have c8:=B5 pa _ a6.1 a6.2 bN;have bR:1<=ws.length/\ws.length<=4:=()
 have b7:ws≠[]:=λe=>by rw[e] at bR;simp at bR
 obtain⟨rm,K5,cD⟩:=Rk.of b3 aK dj dd () cY
 have F5:iX H5 d l ca ra pa ws ps kvs rm:=⟨D5,Z,bE,a6,h5,cr,c8,K5.rf,b7,ok.nd,(),bi,cG.imp λh=>by omega,ok.nm,λc hc=>⟨(K5.ne c hc).1,gr (K5.rl c) ∅,λv hv=>cY v ((aK c hc).2.2.2 v (by rw[<- cD c hc];exact hv))⟩⟩
 clear hS d5 B2 B3 B4 B5 D1 D2 D3 D4 D5 hd hl h3 h4 bN c5 cM cO h5 c8 cr b3 aK cD dd;subst hR;dsimp only;refine er λR hR=>?_
 ctx_has v
 refine⟨∅,λso bO=>?_⟩
 have s6:=aw.upd0 (o:=.lst ((jl true).map V.str)) bO;refine⟨d,l,ca,ra,pa,so,ws,ps,kvs,rm,rfl,F5.same s6,F5.D.ne bO,ae,λwa X H7 hW b6 _ D7 B7=>?_⟩
 have F7:=(F5.same s6).but D7 B7;have K7:Rk H7 ws kvs rm:=(K5.keep λa xs e=>s6 _ _ e).keep λa xs e=>B7.tup (F5.D.same s6) e
 have b9:=DD b6 ()
 have aS:=xI b6;clear F5 K5 s6 bO B7 D7;subst hR;refine er λR hR=>?_
 ctx_has v
 have cS : ∀w∈ws,HU w=true:=λw hw=>wA (ok.nm w hw)
 refine⟨d,l,ca,pa,ws,ps,4,rfl,F7.D,Z,a6,F7.ha,(),(),cS,F7.hp,bi,∅,∅,λc1 dh dn H8 dq cw dc d6 dy D8 B8=>?_⟩
 have F8:=F7.but D8 B8;refine⟨d,l,ca,pa,ws,ps,2,rfl,D8,Z,a6,F8.ha,(),(),cS,F8.hp,bi,∅,∅,λc2 d3 dv H9 dg ck bt bf d0 D9 B9=>⟨∅,λq1 b8=>?_⟩⟩
 have F9:=F8.but D9 B9;have ay:=aw.upd0 (o:=.lst [V.ref c1,V.ref c2]) b8;have bd:upd H9 q1 (.lst [V.ref c1,V.ref c2]) q1*>[V.ref c1,V.ref c2]:=ae
 have cK:=D9.ne b8;have F:=F9.same ay;have bL : ∀a xs,H7 a>>xs->upd H9 q1 (.lst [V.ref c1,V.ref c2]) a>>xs:=λa xs e=>ay _ _ (B9.tup D8 (B8.tup F7.D e))
 have a8:=K7.keep bL;have bo:=du hW bL;have bC : ∀y∈[V.ref c1,V.ref c2],qx ws (upd H9 q1 (.lst [V.ref c1,V.ref c2])) y:=λy hy=>by
  rcases i4.mp hy with rfl | hy
  .exact⟨c1,dh,dn,rfl,ay _ _ (B9.tup D8 cw),(dc.keep λa xs e=>B9.tup D8 e).keep λa xs e=>ay _ _ e,d6,dy⟩
  .rw[e7.mp hy]
   exact⟨c2,d3,dv,rfl,ay _ _ ck,bt.keep λa xs e=>ay _ _ e,bf,d0⟩
 generalize upd H9 q1 (.lst [V.ref c1,V.ref c2])=bp at bd F a8 bo bC;clear F7 K7 hW F8 F9 cw dc ck bt bL ay B8 B9 D8 D9 dq dg b8;subst hR;refine er λR hR=>?_
 ctx_has v bd
 refine⟨∅,∅,λcl a2=>?_⟩
 have bw:=F.D.ne a2;have c7:vS bp ca wa X ws [ra]:=⟨F.ha,bo,λr hr=>⟨kvs,rm,by rw[e7.mp hr];exact F.hr,a8⟩⟩
 have cv:=E5 c7 F.hr a8 b9 ok.nd b7 () aS
 refine eI cN (λj ys H'=>ys.length=j/\(∀y∈ys,qx ws H' y)/\H' cl*>ys/\aI H' d l/\But d l bp H') ⟨rfl,λy hy=>by simp at hy,ae,F.D.new a2,(But.refl bp).new a2⟩ (λ_ _ _ _=>nl) ?_ ?_
 .rintro j x ys a9 hj hx ⟨aP,bn,bh,a7,ap⟩
  rw[aQ] at hj;have d9:j < 2:=hj
  ctx_has v
  refine⟨d,l,wa,ca,ra,X,ws,kvs,rm,rfl,a7,Z,bE,cv.but Z bE F.D ap,λq us ls a4 co cQ cC cz dl bQ=>?_⟩
  have aq:=bQ cl _ bw.1 bw.2 bh;have kc : ∀y a vs,a4 a>>vs->upd a4 cl (.lst (ys++[y])) a>>vs:=λy a vs e=>by rw[ah (aX e aq (by intro z;cases z))];exact e
  refine⟨aq,aN (),by simp;omega,λy hy=>?_,ae,dl.put bw.1 bw.2,(ap.trans bQ).put a2⟩
  rcases i9.mp hy with z | z
  .exact((bn y z).keep (But.keepTI bQ a7).tup).keep (kc _)
  .rw[e7.mp z];exact⟨q,us,ls,rfl,kc _ _ _ co,cQ.keep (kc _),cC,cz⟩
 rintro ys a9 ⟨aP,bn,bh,a7,ap⟩
 rw[aQ] at aP;have aP:ys.length=2:=aP
 have bx:=ap q1 _ cK.1 cK.2 bd;refine⟨cl,rfl,_,bx,ys,bh,gr (show _<=6 by simp;omega) ∅,λq2 bG=>?_⟩
 have aC:=aw.upd0 (o:=.lst ([V.ref c1,V.ref c2]++ys)) bG;have cE:=a7.ne bG;have aq:upd a9 q2 (.lst ([V.ref c1,V.ref c2]++ys)) q2*>([V.ref c1,V.ref c2]++ys):=ae
 have aZ : ∀a xs,bp a>>xs->upd a9 q2 (.lst ([V.ref c1,V.ref c2]++ys)) a>>xs:=λa xs e=>aC _ _ (ap.tup F.D e)
 have bc:=a8.keep aZ;have bm:=du bo aZ;have a3:=(F.but a7 ap).same aC;have be : ∀y∈[V.ref c1,V.ref c2]++ys,qx ws (upd a9 q2 (.lst ([V.ref c1,V.ref c2]++ys))) y:=λy hy=>by
  rcases i9.mp hy with z | z
  .exact(bC y z).keep aZ
  .exact(bn y z).keep λa xs e=>aC _ _ e
 have a2:([V.ref c1,V.ref c2]++ys).length=4:=by simp;omega
 generalize [V.ref c1,V.ref c2]++ys=cs at aq bc bm a3 be a2 aC aZ ⊢;generalize upd a9 q2 (.lst cs)=a4 at aq a3 bc bm be ⊢;clear F a8 bo bC c7 cv bd bh bx a7 ap aC aZ bn aP bG;subst hR;refine er λR hR=>?_
 have bT:=a3.hr;ctx_has v bT
 intro le bk;have ci:=a3.D.ne bk;have a1:=aw.upd0 (o:=.dK kvs) bk;have bF:upd a4 le (.dK kvs) le<*kvs:=ae
 have dp:ra≠le:=au bT bk
 have a5:=a3.same a1;have bJ:=bc.keep λa xs e=>a1 _ _ e
 have bX:=du bm λa xs e=>a1 _ _ e
 have bM : ∀y∈cs,qx ws (upd a4 le (.dK kvs)) y:=λy hy=>(be y hy).keep λa xs e=>a1 _ _ e
 have aU:=a1 _ _ aq;generalize upd a4 le (.dK kvs)=d2 at bF a5 bJ bX bM aU ⊢;clear a3 bc bm be aq bT a1 bk;subst hR;refine er λR hR=>?_
 have cW:=a5.ha;ctx_has v cW
 rw[c_];refine ba a5.D () () λr1 bI cH dr cU bb=>?_
 obtain⟨n,rfl⟩:=o6 cH;have hn:n < ws.length:=()
 obtain⟨c,cp⟩ : ∃c,ws[n]? = some c:=⟨_,k4 hn⟩;have cu:=fy cp;have ab:=a5.but cU bb;have aa : ∀a xs,d2 a>>xs->bI a>>xs:=λa xs e=>bb.tup a5.D e
 have ar:=bJ.keep aa;have cb:=du bX aa;have bY : ∀y∈cs,qx ws bI y:=λy hy=>(bM y hy).keep aa
 have a0:=bb q2 _ cE.1 cE.2 aU;have bB:=bb le _ ci.1 ci.2 bF;refine⟨_,rfl,_,ab.ha,_,bA (by rw[e9,cp];rfl),?_⟩
 clear a5 bJ bX bM bF aU aa bb cU cW;subst hR;refine Db (λσ H'=>∃(kv:List (Key × V)) (rl:Str->List Int),σ=[-a,-d,-ca,-pa,-ra,-wa,-q2,-le,some (.str c),none,none,none,none]/\H' q2*>cs/\(∀y∈cs,qx ws H' y)/\H' ra<*kvs/\Rk H' ws kvs rm/\H' le<*kv/\Rk H' ws kv rl/\H' ca*>(ws.map V.str)/\WX H' wa X) ?_ ?_
 .obtain⟨t,hk,ht⟩:=ar.rf c cu
  have d1:=ab.hr;ctx_has v d1 hk ht
  refine cV (λh=>?_) (λh=>⟨a0,bY,ar,kvs,bB,rm,ar,ab.ha,cb⟩)
  intro t2 Y c4 am;rw[show fG ((rm c).map V.int) (some 1) none=((rm c).drop 1).map V.int from iz V.int (rm c) 1] at c4
  have B:=am _ _ bB;have cc : ∀o a xs,Y a>>xs->upd Y le o a>>xs:=λo a xs e=>by rw[ah (aX e B (by intro z;cases z))];exact e
  have aa : ∀o a xs,bI a>>xs->upd Y le o a>>xs:=λo a xs e=>cc o _ _ (am _ _ e)
  exact⟨kvs,B,aN (by have:=ar.kl;omega),by rw[ah (aX (am _ _ a0) B (by intro z;cases z))];exact am _ _ a0,λy hy=>(bY y hy).keep (aa _),by rw[ah dp];exact am _ _ ab.hr,ar.keep (aa _),_,ae,_,ar.put cu (by rw[c_] at h;omega) (aa _) (cc _ _ _ c4),by rw[ah (aX (am _ _ ab.ha) B (by intro z;cases z))];exact am _ _ ab.ha,du cb (aa _)⟩
 rintro σ Y ⟨kv,rl,rfl,aY,bP,bz,ce,B,cI,b4,cL⟩
 have cA:vS Y ca wa X ws [ra,le]:=⟨b4,cL,λr hr=>by
  rcases i4.mp hr with rfl | hr
  .exact⟨kvs,rm,bz,ce⟩
  .rw[e7.mp hr];exact⟨kv,rl,B,cI⟩⟩
 clear ab ar cb bY bB a0 bz ce B cI b4 cL;ctx_has v aY
 intro p6 bU;have t6:=aw.upd0 (o:=.lst (fG cs none (some 1))) bU;refine⟨cs,t6 _ _ aY,_,ae,?_⟩
 rw[show fG cs none (some 1)=cs.take 1 by simpa using sV id cs 1]
 refine⟨gr (show _<=8 by simp;omega) ∅,λp7 cF=>⟨_,ae,?_⟩⟩
 have bg:aw Y (upd (upd Y p6 (.lst (cs.take 1))) p7 (.lst (cs++cs.take 1))):=(aw.upd0 bU).upd_new cF
 have cX:upd (upd Y p6 (.lst (cs.take 1))) p7 (.lst (cs++cs.take 1)) p7*>(cs++cs.take 1):=ae
 have cT:=cA.same bg;have cJ : ∀y∈cs++cs.take 1,qx ws (upd (upd Y p6 (.lst (cs.take 1))) p7 (.lst (cs++cs.take 1))) y:=λy hy=>by
  rcases i9.mp hy with z | z
  .exact(bP y z).keep λa vs e=>bg _ _ e
  .exact(bP y (GU z)).keep λa vs e=>bg _ _ e
 generalize upd (upd Y p6 (.lst (cs.take 1))) p7 (.lst (cs++cs.take 1))=dm at cX cT cJ ⊢;clear cA bP aY t6 bg bU cF;refine bS cm (λi σ H'=>∃(v9 an ad ax:Option V),σ=[-a,-d,-ca,-pa,-ra,-wa,-q2,-le,some (.str c),v9,an,ad,ax]/\aw dm H')
  ⟨_,_,_,_,rfl,λb o e=>e⟩ (λi σ H' c3=>by obtain⟨_,_,_,_,_,sm⟩:=c3;exact(.of (sm _ _ cX))) ?_ ?_
 .rintro i x σ bs hi hx ⟨v9,an,ad,ax,rfl,cf⟩
  obtain⟨c9,us,ls,rfl,dk,bt,bf,da⟩:=cJ x (fy hx);ctx_has v
  refine⟨∅,λp8 d4=>⟨_,ae,?_⟩⟩
  have aR:=cf.upd_new (o:=.tup [V.ref ra,V.ref le]) d4;have cx:upd bs p8 (.tup [V.ref ra,V.ref le]) p8>>[V.ref ra,V.ref le]:=ae
  generalize upd bs p8 (.tup [V.ref ra,V.ref le])=dz at aR cx ⊢;have dw:=cT.same aR;have b5:=aR _ _ dk;have b0:=bt.keep λa vs e=>aR _ _ e
  refine bS aW (λi σ H'=>∃(an ad ax:Option V),σ=[-a,-d,-ca,-pa,-ra,-wa,-q2,-le,some (.str c),-c9,an,ad,ax]/\aw dz H')
   ⟨_,_,_,rfl,λb o e=>e⟩ (λi σ H' c6=>by obtain⟨_,_,_,_,sm⟩:=c6;exact(.of (sm _ _ cx))) ?_ ?_
  .rintro i y σ H19 hi hy ⟨an,ad,ax,rfl,s19⟩
   obtain⟨r,hr,rfl⟩ : ∃r,r∈[ra,le]/\y=V.ref r:=by
    have:=fy hy
    rcases i4.mp this with e | e
    .exact⟨ra,k6,e⟩
    .exact⟨le,j6 _ k6,e7.mp e⟩
   have cR:=dw.same s19;obtain⟨kx,rx,c0,Kx⟩:=cR.rs r hr;ctx_has v c0
   intro q hq;have aF:=aw.upd0 (o:=.dK kx) hq;have bD:upd H19 q (.dK kx) q<*kx:=ae
   generalize upd H19 q (.dK kx)=dA at aF bD ⊢;have cB:=cR.same aF;have cj:=Kx.keep λa vs e=>aF _ _ e
   have ag:=s19.trans aF;refine⟨wa,c9,q,X,ws,us,ls,kx,rx,rfl,E3 cB bD cj (ag _ _ b5) (b0.keep λa vs e=>ag _ _ e) bf da b9 aS,λb1 dB dt aJ=>?_⟩
   have s2:=ag.trans aJ;have df:=cB.same aJ;have cq:=aJ _ _ (aF _ _ c0);ctx_has v
   refine⟨wa,c9,ca,r,X,ws,us,ls,kx,rx,rfl,E5 df cq (cj.keep λa vs e=>aJ _ _ e) b9 ok.nd b7 () aS,s2 _ _ b5,b0.keep λa vs e=>s2 _ _ e,bf,da,λb2 d8 di bV=>?_⟩
   have eb:b1=b2:=by rw[o8,dt,di]
   subst eb;refine⟨by cases b1 <;> rfl,?_⟩
   rw[if_neg (by rw[decide_eq_true rfl];decide)]
   exact⟨kx,bV _ _ (aJ _ _ bD),bV _ _ cq,Kx.pl,s2.trans bV⟩
  .rintro σ H19 ⟨an,ad,ax,rfl,s19⟩
   exact⟨_,_,_,_,rfl,aR.trans s19⟩
 rintro σ bs ⟨v9,an,ad,ax,rfl,cf⟩
 ctx_has v
 exact k bs
abbrev AT (K:e_) (x:Str) (f:Addr):Prop:=nsIn K la x=some (some (h_ f))
abbrev LK (K:e_) (f:Addr) (x:Str) (st:Stmt) (oc:Value) (od:Option Addr) (sl:Array (Option Value)) (kV F pm:Value) (B:Option Addr) (cd ct:Value):Prop:=K.lookup f=some ⟨oc,od,.func (fnOf x x (cS st) (cu st) (ao st) .none kV F pm B cd ct),sl⟩
abbrev CK (K:e_) (cd:Value) (x:Str):Prop:=codeIn K cd x=true
abbrev KK (K:e_) (f:Addr):Prop:=HI K (h_ f)=true
abbrev NB (K:e_) (x:Str):Prop:=nsIn K la x=some none
theorem FU {us:List α} (h:us.length=1) : ∃u0,us=[u0]:=by
 match us,h with
 | [u0],_=>exact⟨u0,rfl⟩
theorem Ey {us:List α} (h:us.length=2) : ∃u0 B,us=[u0,B]:=by
 match us,h with
 | [u0,B],_=>exact⟨u0,B,rfl⟩
theorem EQ {us:List α} (h:us.length=3) : ∃u0 B F,us=[u0,B,F]:=by
 match us,h with
 | [u0,B,F],_=>exact⟨u0,B,F,rfl⟩
theorem FK {us:List α} (h:us.length=4) : ∃u0 F L B,us=[u0,F,L,B]:=by
 match us,h with
 | [u0,F,L,B],_=>exact⟨u0,F,L,B,rfl⟩
theorem FW {us:List α} (h:us.length=5) : ∃u0 F L B Y,us=[u0,F,L,B,Y]:=by
 match us,h with
 | [u0,F,L,B,Y],_=>exact⟨u0,F,L,B,Y,rfl⟩
local macro_rules | `(tactic| ctx_has b1) => `(tactic| exact λ_ _ _ _ _ _ us hl => by obtain ⟨u0, ee⟩ := FU hl; subst ee; rfl)
local macro_rules | `(tactic| ctx_has b2) => `(tactic| exact λ_ _ _ _ _ _ us hl => by obtain ⟨u0, u1, ee⟩ := Ey hl; subst ee; rfl)
local macro_rules | `(tactic| ctx_has b3) => `(tactic| exact λ_ _ _ _ _ _ us hl => by obtain ⟨u0, u1, u2, ee⟩ := EQ hl; subst ee; rfl)
local macro_rules | `(tactic| ctx_has b4) => `(tactic| exact λ_ _ _ _ _ _ us hl => by obtain ⟨u0, u1, u2, u3, ee⟩ := FK hl; subst ee; rfl)
local macro_rules | `(tactic| ctx_has b5) => `(tactic| exact λ_ _ _ _ _ _ us hl => by obtain ⟨u0, u1, u2, u3, u4, ee⟩ := FW hl; subst ee; rfl)
local macro_rules | `(tactic| ctx_has bb) => `(tactic| first | ctx_has b1 | ctx_has b2 | ctx_has b3 | ctx_has b4 | ctx_has b5)
def DF (K:e_) (x:Str) (st:Stmt) (f:Addr):Prop:=∃(oc:Value) (od F:Option Addr) (sl:Array (Option Value)) (kV B pm cd ct:Value),AT K x f/\LK K f x st oc od sl kV B pm F cd ct/\CK K cd x/\KK K f
theorem dfI {F:Option Addr} {kV B:Value} (a:nsIn K la x=some (some (h_ f))) (l:K.lookup f=some ⟨oc,od,.func (fnOf x x (cS st) (cu st) (ao st) .none kV B pm F cd ct),sl⟩) (c:codeIn K cd x=true) (k:HI K (h_ f)=true):DF K x st f:=⟨_,_,_,_,_,_,_,_,_,a,l,c,k⟩
theorem dfL (X:K.In h) (G:h.Ns la mg) (d:DF K x st f) (B : ∀(kV doc pm:Value) (F:Option Addr) (cdv ct:Value) (us:List Value),us.length=ps.length->bindArgs (fnOf x x (cS st) (cu st) (ao st) .none kV doc pm F cdv ct) ⟨us,[]⟩=pure (ps.zip us):=by ctx_has bb):FnL K mg x st ps:=by
 obtain⟨_,_,_,_,_,_,_,_,_,a,l,c,k⟩:=d;exact Em X G a l c k B
def DM (K:e_) (R:Addr->Prop) (x q:Str) (st:Stmt):Prop:=∃(f:Addr) (oc:Value) (od F:Option Addr) (sl:Array (Option Value)) (kV B pm cd ct:Value),R f/\K.lookup f=some ⟨oc,od,.func (fnOf x q (cS st) (cu st) (ao st) .none kV B pm F cd ct),sl⟩/\codeIn K cd q=true/\HI K (h_ f)=true
theorem dmI {R:Addr->Prop} {q:Str} {F:Option Addr} {kV B:Value} (r:R f) (l:K.lookup f=some ⟨oc,od,.func (fnOf x q (cS st) (cu st) (ao st) .none kV B pm F cd ct),sl⟩) (c:codeIn K cd q=true) (k:HI K (h_ f)=true):DM K R x q st:=⟨_,_,_,_,_,_,_,_,_,_,r,l,c,k⟩
theorem dmL {R:Addr->Prop} {q:Str} (d:DM K R x q st) (B : ∀(kV doc pm:Value) (F:Option Addr) (cdv ct:Value) (us:List Value),us.length=ps.length->bindArgs (fnOf x q (cS st) (cu st) (ao st) .none kV doc pm F cdv ct) ⟨us,[]⟩=pure (ps.zip us):=by ctx_has bb):cI K R x q st ps:=by
 obtain⟨_,_,_,_,_,_,_,_,_,_,r,l,c,k⟩:=d;exact Ct r l c k B
theorem DC {l:PySem.W.OpenLaw} (X:K.In h) (G:h.Ns la mg) (cA:mg "law" = some (.ref fa))
  {b0:Addr}
  {Y:Addr}
  {F:Addr}
  {aa:Addr}
  {B:Addr}
  {ab:Addr}
  {L:Addr}
  {Z:Addr}
  {bL:Addr} {bP bH bI bF b4 bK:Value} {cx bG:Option Addr} {cr:Array (Option Value)}
  {f0 f1 f2 f3 f4 f5 f6 f7 f8 f9 cM dz cQ c9 cZ cO da cE c3 cN dk dy c6 dh cR cP de:Addr}
  (br:nsIn K la "Wish" = some (-b0))
  (aU:nsIn K la "Unlike" = some (-Y))
  (bu:Cls K Y)
  (aN:aP K Y "wish")
  (a2:aP K Y "cells")
  (bq:nsIn K la "Many" = some (-F))
  (b8:Cls K F)
  (bf:aP K F "wish")
  (aW:aP K F "among")
  (aZ:aP K F "cells")
  (bo:aP K F "low")
  (bh:aP K F "high")
  (b1:nsIn K la "Sum" = some (-aa))
  (bA:Cls K aa)
  (bp:aP K aa "wish")
  (bi:aP K aa "terms")
  (bt:aP K aa "low")
  (bk:aP K aa "high")
  (bj:nsIn K la "Table" = some (-B))
  (b2:Cls K B)
  (ba:aP K B "wish")
  (aK:aP K B "cells")
  (aT:aP K B "rows")
  (bz:nsIn K la "Way" = some (-ab))
  (bD:Cls K ab)
  (bm:aP K ab "wish")
  (bg:aP K ab "cells")
  (bn:aP K ab "ends")
  (bd:aP K ab "leads")
  (aO:nsIn K la "Behind" = some (-L))
  (bw:Cls K L)
  (aG:aP K L "wish")
  (a6:aP K L "cells")
  (bb:aP K L "gap")
  (bs:nsIn K la "Same" = some (-Z))
  (b9:Cls K Z)
  (bc:aP K Z "wish")
  (be:aP K Z "cell")
  (aS:aP K Z "among")
  (aY:aP K Z "inner")
  (d0:DF K "_law_draw" jr f0)
  (d1:DF K "_law_deal" gD f1)
  (d2:DF K "_law_names" fM f2)
  (d3:DF K "_law_pool" jz f3)
  (d4:DF K "_law_rooms" fT f4)
  (d5:DF K "_law_some" jb f5)
  (d6:DF K "is_between" ik f6)
  (d7:DF K "_law_kept" ci f7)
  (d8:DF K "_law_bounds" gQ f8)
  (d9:DF K "_law_sum" gn f9)
  (dl:DF K "_law_rows" gE cM)
  (c4:DF K "_law_way" iq dz)
  (cK:DF K "_law_wish" fm cQ)
  (dc:DF K "_law_fillings" fH c9)
  (aV:DM K (gk K b0 "__init__") "__init__" "Wish.__init__" bC)
  (cw:DM K (Mk K L) "__init__" "Behind.__init__" eC)
  (bU:DM K (aR K L "may_keep") "may_keep" "Behind.may_keep" df)
  (cj:DM K (aR K L "may_break") "may_break" "Behind.may_break" cT)
  (cy:DM K (Mk K B) "__init__" "Table.__init__" eZ)
  (bY:DM K (aR K B "has_room") "has_room" "Table.has_room" dv)
  (cm:DM K (aR K B "rows_in") "rows_in" "Table.rows_in" dL)
  (cz:DM K (aR K B "may_keep") "may_keep" "Table.may_keep" eY)
  (bX:DM K (aR K B "may_break") "may_break" "Table.may_break" eA)
  (bO:DM K (Mk K ab) "__init__" "Way.__init__" gv)
  (ce:DM K (aR K ab "states_behind") "states_behind" "Way.states_behind" dD)
  (cc:DM K (aR K ab "last_states") "last_states" "Way.last_states" eK)
  (bS:DM K (aR K ab "may_keep") "may_keep" "Way.may_keep" eu)
  (co:DM K (aR K ab "may_break") "may_break" "Way.may_break" dJ)
  (ck:DM K (Mk K aa) "__init__" "Sum.__init__" gh)
  (dg:DF K "parts_of" iB cZ)
  (dt:DF K "spans_of" kC cO)
  (c2:DM K (aR K aa "may_end_well") "may_end_well" "Sum.may_end_well" dP)
  (cp:DM K (aR K aa "sums_with") "sums_with" "Sum.sums_with" fE)
  (c0:DM K (aR K aa "sums_kept") "sums_kept" "Sum.sums_kept" fv)
  (bN:DM K (aR K aa "may_keep") "may_keep" "Sum.may_keep" gp)
  (cv:DM K (aR K aa "may_break") "may_break" "Sum.may_break" fz)
  (c1:DM K (Mk K Y) "__init__" "Unlike.__init__" eL)
  (cn:DM K (aR K Y "may_break") "may_break" "Unlike.may_break" dU)
  (cB:DF K "finds_value" cY da)
  (cq:DM K (aR K Y "may_keep") "may_keep" "Unlike.may_keep" eF)
  (bR:DM K (Mk K F) "__init__" "Many.__init__" ft)
  (bW:DM K (aR K F "fewest") "fewest" "Many.fewest" cX)
  (bV:DM K (aR K F "most") "most" "Many.most" dY)
  (cf:DM K (aR K F "may_keep") "may_keep" "Many.may_keep" fF)
  (bT:DM K (aR K F "may_break") "may_break" "Many.may_break" eR)
  (du:DF K "plain_wish_of" fD cE)
  (bZ:DM K (Mk K Z) "__init__" "Same.__init__" fB)
  (bQ:DM K (aR K Z "may_be_among") "may_be_among" "Same.may_be_among" cJ)
  (cb:DM K (aR K Z "may_be_none_of_them") "may_be_none_of_them" "Same.may_be_none_of_them" bJ)
  (cg:DM K (aR K Z "may_keep") "may_keep" "Same.may_keep" fC)
  (c5:DF K "wish_of" mv c3)
  (dr:DF K "may_be_kept" gS cN)
  (di:DF K "room_against" dn dk)
  (dj:DF K "narrowed_by" gT dy)
  (c8:DF K "_law_true" jn c6)
  (cG:DF K "_law_clause" gP dh)
  (dw:DF K "follows_from" gw cR)
  (dq:DF K "_law_follows" gc cP)
  (cU:DF K "_law_shut" gJ de)
  (cI:AT K "law" bL) (dm:LK K bL "law" pQ bP cx cr bH bI bF bG b4 bK) (cW:CK K b4 "law") (dp:KK K bL)
  (z0:NB K "len")
  (z1:NB K "max")
  (z2:NB K "min")
  (z3:NB K "sum")
  (z4:NB K "list")
  (z5:NB K "reversed")
  (z6:NB K "range")
  (z7:NB K "isinstance")
  (z8:NB K "all")
  (z9:NB K "any")
  (cD:NB K "sorted")
  (cF:NB K "dict")
  (cV:NB K "tuple")
  (cL:NB K "bool")
  (cH:NB K "zip")
  (c7:NB K "set")
  (cC:NB K "int")
  (db:NB K "enumerate") :
  ∃fd:FuncData,(∀(s:Shared) (v:Value),BindsTo s fd ⟨[v],[]⟩ [("_law_script",v)])/\∀base:Heap,K.In base->base.Ns la mg->ku l.prog w K mg base CX0 45 fa fd ["_law_script"] (wV K):=by
 have e:=cA.symm.trans (mg_of X G cI);cases e;have b5:=fj (mg_of X G br);subst b5;have bx:=fj (mg_of X G aU);subst bx;have b6:=fj (mg_of X G bq);subst b6;have bB:=fj (mg_of X G b1);subst bB;have b3:=fj (mg_of X G bj);subst b3;have bE:=fj (mg_of X G bz);subst bE;have bv:=fj (mg_of X G aO);subst bv;have b7:=fj (mg_of X G bs);subst b7;have T:Txt w K mg:=⟨t9 X G z0,t9 X G z1,t9 X G z2,t9 X G z3,t9 X G z4,t9 X G z5,t9 X G z6,t9 X G z7,t9 X G z8,t9 X G z9,t9 X G cD,t9 X G cF,t9 X G cV,t9 X G cL,t9 X G cH,t9 X G c7,t9 X G cC,t9 X G db,mg_of X G aU,bu,aN,a2,mg_of X G bq,b8,bf,aW,aZ,bo,bh,mg_of X G b1,bA,bp,bi,bt,bk,mg_of X G bj,b2,ba,aK,aT,mg_of X G bz,bD,bm,bg,bn,bd,mg_of X G aO,bw,aG,a6,bb,mg_of X G bs,b9,bc,be,aS,aY,mg_of X G br⟩
 have L7:FnL K mg "_law_kept" ci ["_law_wish_here","_law_filling"]:=dfL X G d7
 have bM:FnL K mg "_law_wish" fm ["_law_deal_here","_law_names_here","_law_rooms_here","_law_pool_here","_law_sorts"]:=dfL X G cK
 have dd:FnL K mg "finds_value" cY ["cell","rooms","holders","tried"]:=dfL X G cB
 refine⟨fnOf "law" "law" (cS pQ) (cu pQ) (ao pQ) .none bH bI bF bG b4 bK,λs v=>.of_eq rfl,λbase _ _=>?_⟩
 have Fa:=sY (P:=l.prog) (w:=w) (base:=base) T (dfL X G d0);have Fz:=sH (P:=l.prog) (w:=w) (base:=base) T (dfL X G d1);have Fx:=qm (P:=l.prog) (w:=w) (base:=base) T (dfL X G d2) Fa;have FA:=sr (P:=l.prog) (w:=w) (base:=base) T (dfL X G d3) Fa;have Fv:=qE (P:=l.prog) (w:=w) (base:=base) T (dfL X G d4) Fa;have Fg:=sg (P:=l.prog) (w:=w) (base:=base) T (dfL X G d5) Fa;have Fk:=qG (P:=l.prog) (w:=w) (base:=base) T (dfL X G d6);have Fd:=qu (P:=l.prog) (w:=w) (base:=base) T L7;have Fe:=qA (P:=l.prog) (w:=w) (base:=base) T L7 Fd;have Fs:=oH (P:=l.prog) (w:=w) (base:=base) T (dfL X G d8) Fa;have Ft:=uI (P:=l.prog) (w:=w) (base:=base) T (dfL X G d9) Fa Fs;have Fp:=sX (P:=l.prog) (w:=w) (base:=base) T (dfL X G dl) Fa;have Fu:=tV (P:=l.prog) (w:=w) (base:=base) T (dfL X G c4) Fa;have Fw:Fn l.prog w K mg base "_law_wish" 15 ["_law_deal_here","_law_names_here","_law_rooms_here","_law_pool_here","_law_sorts"] (oC true):=(kZ (n:=4) (h:=true) T bM Fa Fg Ft Fp Fu (by unfold oF;rw[if_pos rfl];exact kZ (n:=0) (h:=false) T bM Fa Fg Ft Fp Fu (by unfold oF;rw[if_neg i_];exact Am bM))).mono ∅
 have Fb:=lU (P:=l.prog) (w:=w) (base:=base) T (dfL X G dc);have aA:=lA (P:=l.prog) (w:=w) (base:=base) T (dmL aV);have az:=jX (P:=l.prog) (w:=w) (base:=base) T (dmL cw) aA;have ad:=ko (P:=l.prog) (w:=w) (base:=base) T (dmL bU);have au:=jM (P:=l.prog) (w:=w) (base:=base) T (dmL cj);have a3:=ly (P:=l.prog) (w:=w) (base:=base) T (dmL aV);have a8:=lg (P:=l.prog) (w:=w) (base:=base) T (dmL cy) a3;have a5:=lM (P:=l.prog) (w:=w) (base:=base) T (dmL bY);have ai:=mI (P:=l.prog) (w:=w) (base:=base) T (dmL cm) a5;have ah:=kS (P:=l.prog) (w:=w) (base:=base) T (dmL cz) ai;have ay:=kE (P:=l.prog) (w:=w) (base:=base) T (dmL bX) ai;have aB:=lF (P:=l.prog) (w:=w) (base:=base) T (dmL aV);have aX:=ou (P:=l.prog) (w:=w) (base:=base) T (dmL bO) aB;have ap:=jk (P:=l.prog) (w:=w) (base:=base) T (dmL ce);have af:=kA (P:=l.prog) (w:=w) (base:=base) T (dmL cc) ap;have am:=nN (P:=l.prog) (w:=w) (base:=base) T (dmL bS) af;have aH:=mX (P:=l.prog) (w:=w) (base:=base) T (dmL co) af;have a9:=kT (P:=l.prog) (w:=w) (base:=base) T (dmL aV);have aQ:=nS (P:=l.prog) (w:=w) (base:=base) T (dmL ck) a9;have Fi:=va (P:=l.prog) (w:=w) (base:=base) T (dfL X G dg);have Fh:=uR (P:=l.prog) (w:=w) (base:=base) T (dfL X G dt) Fi;have ax:=jJ (P:=l.prog) (w:=w) (base:=base) T (dmL c2);have aF:=mS (P:=l.prog) (w:=w) (base:=base) T (dmL cp) ax;have aE:=mG (P:=l.prog) (w:=w) (base:=base) T (dmL c0) Fh Fi aF;have ak:=nT (P:=l.prog) (w:=w) (base:=base) T (dmL bN) aE;have aI:=mf (P:=l.prog) (w:=w) (base:=base) T (dmL cv) Fh Fk;have a4:=lD (P:=l.prog) (w:=w) (base:=base) T (dmL aV);have a0:=kh (P:=l.prog) (w:=w) (base:=base) T (dmL c1) a4;have ar:=jI (P:=l.prog) (w:=w) (base:=base) T (dmL cn);have Ff:Fn l.prog w K mg base "finds_value" 21 ["cell","rooms","holders","tried"] (jG 20):=uv T dd 20
 have ag:=kf (P:=l.prog) (w:=w) (base:=base) T (dmL cq) Ff;have aC:=lq (P:=l.prog) (w:=w) (base:=base) T (dmL aV);have aL:=ml (P:=l.prog) (w:=w) (base:=base) T (dmL bR) aC;have aq:=qc (P:=l.prog) (w:=w) (base:=base) T (dmL bW);have aD:=sw (P:=l.prog) (w:=w) (base:=base) T (dmL bV);have aj:=lN (P:=l.prog) (w:=w) (base:=base) T (dmL cf) aq aD;have a1:=kP (P:=l.prog) (w:=w) (base:=base) T (dmL bT) aq aD;have Fc:=mo (P:=l.prog) (w:=w) (base:=base) T (dfL X G du) a0 aL aQ a8 aX az;have a7:=kU (P:=l.prog) (w:=w) (base:=base) T (dmL aV);have aM:=lT (P:=l.prog) (w:=w) (base:=base) T (dmL bZ) a7 Fc;have an:=iR (P:=l.prog) (w:=w) (base:=base) T (dmL bQ);have ac:=fQ (P:=l.prog) (w:=w) (base:=base) T (dmL cb);have aJ:=lY (P:=l.prog) (w:=w) (base:=base) T (dmL cg) an ac ag aj ak ah am ad ar a1 aI ay aH au;have FC:=vJ (P:=l.prog) (w:=w) (base:=base) T (dfL X G c5) Fc aM;have Fr:=pF (P:=l.prog) (w:=w) (base:=base) T (dfL X G dr) FC ag aj ak ah am ad aJ;have Fm:=nW (P:=l.prog) (w:=w) (base:=base) T (dfL X G di);have Fq:=oN (P:=l.prog) (w:=w) (base:=base) T (dfL X G dj) Fm;have Fy:=su (P:=l.prog) (w:=w) (base:=base) T (dfL X G c8);have Fj:=pA (P:=l.prog) (w:=w) (base:=base) T (dfL X G cG) Fa;have Fl:=oa (P:=l.prog) (w:=w) (base:=base) T (dfL X G dw) Fq Fr;have Fo:=nV (P:=l.prog) (w:=w) (base:=base) T (dfL X G dq) Fb Fd Fe Fy;have FB:=sR (P:=l.prog) (w:=w) (base:=base) T (dfL X G cU) Fa Fb Fd Fe;exact Dq T (qk dm cW dp) Fz Fa Fx FA Fv Fw Fj FB Fl Fo
theorem Gg {l:PySem.W.OpenLaw} {q:Program} {d:DefRec} {K:Params->e_} (hn:l.most=some 63) (B:d.params.defaults=[])
  (hY : ∀(w:World) (h:Heap),YP w h->(K w.params).In h)
  (F : ∀(w:World) (mg:Str->Option Value) (fa:Addr) (h:Heap),(K w.params).In h->h.Ns la mg->mg d.name=some (.ref fa) ->
   ∃fd:FuncData,(∀(s:Shared) (u:Value),BindsTo s fd ⟨[u],[]⟩ [("_law_script",u)])/\∀base:Heap,(K w.params).In base->base.Ns la mg->ku l.prog w (K w.params) mg base CX0 45 fa fd ["_law_script"] (wV (K w.params))) :
  PySem.W.WalkO q loose XP YP l.row.toRowW d [] (λf vs=>PySem.call f vs) :=
 L2.CB (n:=63) (k:=45) (x := "_law_script") (CX:=λ_=>CX0) (sp:=λw=>wV (K w.params)) hn ∅ B ⟨rfl,∅,∅⟩ hY F (λ_ _ a ns hl _ L=>⟨a,ns,rfl,L,hl,λ_=>rfl⟩) λ_ _ _ _ _ z=>z
end Lw
variable {W:Lw.Wi} {dat:Lw.iP}
open PySem PySem.W PyProof.Rows
local macro_rules | `(tactic| ctx_has kj $ids*) => `(tactic| ($[case $ids:ident => (change _ = _; k_is)];*))
local macro_rules | `(tactic| ctx_has kc $ids*) => `(tactic| ($[case $ids:ident => (constructor; (all_goals k_is))];*))
local macro_rules | `(tactic| ctx_has km $ids*) => `(tactic| ($[case $ids:ident => (refine' Lw.dmI ⟨?a, ?i, ?k⟩ ?l ?c ?k; (case a => k_is); (case i => k_is); (case l => k_is); (case c => k_is); (case k => k_is))];*))
local macro_rules | `(tactic| ctx_has kn $ids*) => `(tactic| ($[case $ids:ident => (refine' Lw.dmI ⟨?m, ?a, ?i, ?n⟩ ?l ?c ?k; (case m => k_is); (case a => k_is); (case i => k_is); (case n => k_is); (case l => k_is); (case c => k_is); (case k => k_is))];*))
local macro_rules | `(tactic| ctx_has kq $ids*) => `(tactic| ($[case $ids:ident => (refine' Lw.dmI ⟨?s, ?r, ?a, ?k⟩ ?l ?c ?k; (case s => k_is); (case r => k_is); (case a => k_is); (case l => k_is); (case c => k_is); (case k => k_is))];*))
local macro_rules | `(tactic| ctx_has kk) => `(tactic| (refine' Lw.dfI ?a ?l ?c ?k; (case a => k_is); (case l => k_is); (case c => k_is); (case k => k_is)))
local macro_rules | `(tactic| ctx_has kd $ids*) => `(tactic| ($[case $ids:ident => ctx_has kk];*))
local macro_rules | `(tactic| o_head $H) => do
  let hw:=Lean.mkIdent `hw
  let hc:=Lean.mkIdent `hc
  `(tactic| (refine holds_open (q:=Lw.iO) (hY:=Hook.of $H) (hYk:=Hook.keeps $H) (YP:=Hook.says $H) (XP:=XL Lw.iO Hv) (Xt:=Lw.hX)
                Lw.hl (λs e=>xl_of s (Bool.and_eq_true_iff.mp e).1) XL.keeps (by rfl) (by rfl) (by rfl)
                (λs e=>recFacts_of (Bool.and_eq_true_iff.mp e).2) (by rfl) (by assumption) (by decide+kernel)
                ⟨rfl,rfl,rfl,rfl,rfl,by decide+kernel⟩ ?$hw ?$hc))
set_option maxHeartbeats 0 in
theorem PySem.Challenge.cw_seekhall_k23_what_follows_holds : PySem.Challenge.rw_seekhall_k23_what_follows.Holds := by
  w_on;refine PySem.W.holds_law Lw.wsd (λsaid=>?_);o_head (kHook Lw.CT.heap_1 Lw.hAs Lw.hAe);(case hw=>w_witness2)
  k_fill
  refine Lw.Gg (l:=PySem.Challenge.rw_seekhall_k23_what_follows) rfl rfl (λw h Y=>PySem.W.kIn_of Y) ?F
  case F =>
    intro w mg fa h KX G hmg
    refine' Lw.DC KX G hmg ?aC_Wish ?aC_Unlike ?cl_Unlike ?nf_Unlike_wish ?nf_Unlike_cells ?aC_Many ?cl_Many ?nf_Many_wish ?nf_Many_among ?nf_Many_cells ?nf_Many_low ?nf_Many_high ?aC_Sum ?cl_Sum ?nf_Sum_wish ?nf_Sum_terms ?nf_Sum_low ?nf_Sum_high ?aC_Table ?cl_Table ?nf_Table_wish ?nf_Table_cells ?nf_Table_rows ?aC_Way ?cl_Way ?nf_Way_wish ?nf_Way_cells ?nf_Way_ends ?nf_Way_leads ?aC_Behind ?cl_Behind ?nf_Behind_wish ?nf_Behind_cells ?nf_Behind_gap ?aC_Same ?cl_Same ?nf_Same_wish ?nf_Same_cell ?nf_Same_among ?nf_Same_inner ?d0 ?d1 ?d2 ?d3 ?d4 ?d5 ?d6 ?d7 ?d8 ?d9 ?d10 ?d11 ?d12 ?d13 ?mc14 ?mi15 ?mm16 ?mm17 ?mi18 ?mm19 ?mm20 ?mm21 ?mm22 ?mi23 ?mm24 ?mm25 ?mm26 ?mm27 ?mi28 ?d29 ?d30 ?mm31 ?mm32 ?mm33 ?mm34 ?mm35 ?mi36 ?mm37 ?d38 ?mm39 ?mi40 ?mm41 ?mm42 ?mm43 ?mm44 ?d45 ?mi46 ?mm47 ?mm48 ?mm49 ?d50 ?d51 ?d52 ?d53 ?d54 ?d55 ?d56 ?d57 ?d58 ?a59 ?l59 ?c59 ?k59 ?z0 ?z1 ?z2 ?z3 ?z4 ?z5 ?z6 ?z7 ?z8 ?z9 ?z10 ?z11 ?z12 ?z13 ?z14 ?z15 ?z16 ?z17
    ctx_has kj aC_Wish aC_Unlike aC_Many aC_Sum aC_Table aC_Way aC_Behind aC_Same
    ctx_has kc cl_Unlike cl_Many cl_Sum cl_Table cl_Way cl_Behind cl_Same
    ctx_has km mm16 mm17 mm19 mm20 mm21 mm22 mm24 mm25 mm26 mm27 mm31 mm32 mm33 mm34 mm35 mm37 mm39 mm41 mm42 mm43 mm44 mm47 mm48 mm49
    ctx_has kn mi15 mi18 mi23 mi28 mi36 mi40 mi46
    ctx_has kq mc14
    ctx_has kd d0 d1 d2 d3 d4 d5 d6 d7 d8 d9 d10 d11 d12 d13 d29 d30 d38 d45 d50 d51 d52 d53 d54 d55 d56 d57 d58
    ctx_has kj nf_Unlike_wish nf_Unlike_cells nf_Many_wish nf_Many_among nf_Many_cells nf_Many_low nf_Many_high nf_Sum_wish nf_Sum_terms nf_Sum_low nf_Sum_high nf_Table_wish nf_Table_cells nf_Table_rows nf_Way_wish nf_Way_cells nf_Way_ends nf_Way_leads nf_Behind_wish nf_Behind_cells nf_Behind_gap nf_Same_wish nf_Same_cell nf_Same_among nf_Same_inner a59 l59 c59 k59 z0 z1 z2 z3 z4 z5 z6 z7 z8 z9 z10 z11 z12 z13 z14 z15 z16 z17
