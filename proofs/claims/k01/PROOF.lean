import PyProof.Rows.All
import Wide.All
import OpenK.AllK
import Wide.FinOn
import HandS.ForMost
import HandS.IsInst
import HandS.Codes
import PySem.Challenge.RW_knownlate_k01_names_and_states
set_option Elab.async false
set_option linter.all false
set_option maxRecDepth 100000
set_option maxHeartbeats 4000000
namespace Kn
open PySem PySem.Spec PyProof.Rows L2
/-! ### heaps -/
theorem same_upd {H : Hp} {p : Addr} {o : HO} (h : H p = none) : Same H (upd H p o) := fun b x e => by
  rw [upd_ne (ne_of_none e h)]
  exact e
theorem same_set {H0 H : Hp} {p : Addr} {o : HO} (h : H0 p = none) (s : Same H0 H) : Same H0 (upd H p o) := fun b x e => by
  rw [upd_ne (ne_of_none e h)]
  exact s b x e
theorem Same.none {H H' : Hp} {p : Addr} (s : Same H H') (h : H' p = none) : H p = none := s.free h
theorem seqLt {K : PySem.W.Frag} {H H' : Hp} {a : Addr} {xs : List V} (e : Same H H') (h : SqT K H a xs) : SqT K H' a xs := by
  rcases h with (h | ⟨o, h⟩) | h
  · exact .inl (.inl (e _ _ h))
  · exact .inl (.inr ⟨o, e _ _ h⟩)
  · exact .inr h
theorem take_more {α : Type} {l : List α} {i : Nat} {x : α} (h : l[i]? = some x) : l.take (i + 1) = l.take i ++ [x] := by
  rw [List.take_add_one, h]; rfl
theorem small {n : Nat} (h : n ≤ 100000) : n < sizeLine := Nat.lt_of_le_of_lt h (by decide)
theorem smallE {n : Nat} (h : n ≤ 100000) : n ≤ sizeLine := Nat.le_of_lt (small h)
/-- a comprehension over a text's signs -/
theorem lc_text {x : Str} {g : TG} {tt : TT} {te : TE} {vs : List Nat} {σ : L2.St} {H1 : Hp} {D : Addr} {Qd : Hp → Prop} (Pv : Nat → Hp → Prop) (h0 : Pv 0 (upd H1 D (.lst [])))
    (hs : ∀ i c H, x.cps.toList[i]? = some c → Pv i H → g (.str ⟨#[c]⟩) (wipe σ vs) H fun σ2 H2 => wipe σ2 vs = wipe σ vs ∧ tt σ2 H2 fun b H3 =>
      if b = true then te σ2 H3 fun y H4 => ∃ acc, H4 D = some (.lst acc) ∧ acc.length < sizeLine ∧ Pv (i + 1) (upd H4 D (.lst (acc ++ [y]))) else Pv (i + 1) H3) (hd : ∀ H, Pv x.cps.toList.length H → Qd H) :
    ∃ W : Nat → Nat → Hp → Prop, (∃ m, W 0 m (upd H1 D (.lst []))) ∧ ∀ i m H, W i m H →
      ((Its x).stop i H ∧ Qd H) ∨ ((Its x).go i H ∧ ∃ Nx : Hp → Prop, (∀ H', Nx H' → ∃ m', m' < m ∧ W (i + 1) m' H') ∧ ∀ v H', (Its x).yld i H v H' → g v (wipe σ vs) H' fun σ2 H2 => wipe σ2 vs = wipe σ vs ∧ tt σ2 H2 fun b H3 =>
        if b = true then te σ2 H3 fun y H4 => ∃ acc, H4 D = some (.lst acc) ∧ acc.length < sizeLine ∧ Nx (upd H4 D (.lst (acc ++ [y]))) else Nx H3) := by
  refine ⟨fun i m H => m = x.cps.size - i ∧ i ≤ x.cps.size ∧ Pv i H, ⟨x.cps.size, by simp, Nat.zero_le _, h0⟩, ?_⟩
  rintro i m H ⟨rfl, hi, p⟩
  by_cases hlt : i < x.cps.size
  · refine .inr ⟨hlt, Pv (i + 1), fun H' p' => ⟨x.cps.size - (i + 1), by omega, rfl, hlt, p'⟩, fun v H' y => ?_⟩
    obtain ⟨rfl, c, hc, rfl⟩ := y
    exact hs i c _ (by simpa using hc) p
  · have e : i = x.cps.size := by omega
    subst e
    exact .inl ⟨Nat.le_refl _, hd H (by simpa using p)⟩
end Kn

set_option Elab.async false
set_option linter.all false
set_option maxRecDepth 100000
set_option maxHeartbeats 4000000
namespace Kn
open PySem PySem.Spec PyProof.Rows L2
open C8 (Cal pe_c pe_gc)
def topS (i : Nat) : Stmt := PySem.Challenge.pw_knownlate_k01_names_and_states.main.body.getD i (.Pass ⟨0, 0, 0, 0⟩)
abbrev s__law_mix : Stmt := topS 8
theorem sc__law_mix : FnScope ["_law_cell_here", "_law_k", "_law_number"] ["_law_cell_here", "_law_k"] (defScope s__law_mix) := ⟨rfl, rfl, rfl, by decide +kernel, rfl, by decide +kernel, by decide +kernel⟩
abbrev s__law_cell : Stmt := topS 9
theorem sc__law_cell : FnScope ["_law_script", "_law_k"] ["_law_script", "_law_k"] (defScope s__law_cell) := ⟨rfl, rfl, rfl, by decide +kernel, rfl, by decide +kernel, by decide +kernel⟩
abbrev s__law_row : Stmt := topS 10
theorem sc__law_row : FnScope ["_law_cell_here", "_law_sizes", "_law_row_here", "_law_rest", "_law_k"] ["_law_cell_here", "_law_sizes"] (defScope s__law_row) := ⟨rfl, rfl, rfl, by decide +kernel, rfl, by decide +kernel, by decide +kernel⟩
abbrev s__law_text : Stmt := topS 17
theorem sc__law_text : FnScope ["_law_cell_here", "_law_row_here", "_law_text_here", "_law_at", "_law_digit"] ["_law_cell_here"] (defScope s__law_text) := ⟨rfl, rfl, rfl, by decide +kernel, rfl, by decide +kernel, by decide +kernel⟩
abbrev s__law_deep : Stmt := topS 15
theorem sc__law_deep : FnScope ["_law_many", "_law_thing_here", "_law_k"] ["_law_many"] (defScope s__law_deep) := ⟨rfl, rfl, rfl, by decide +kernel, rfl, by decide +kernel, by decide +kernel⟩
abbrev s__law_thing : Stmt := topS 16
theorem sc__law_thing : FnScope ["_law_digit", "_law_things"] ["_law_digit"] (defScope s__law_thing) := ⟨rfl, rfl, rfl, by decide +kernel, rfl, by decide +kernel, by decide +kernel⟩
abbrev s__law_flag : Stmt := topS 12
theorem sc__law_flag : FnScope ["_law_told", "_law_due"] ["_law_told", "_law_due"] (defScope s__law_flag) := ⟨rfl, rfl, rfl, by decide +kernel, rfl, by decide +kernel, by decide +kernel⟩
abbrev s_is_name : Stmt := topS 4
theorem sc_is_name : FnScope ["value", "letter"] ["value"] (defScope s_is_name) := ⟨rfl, rfl, rfl, by decide +kernel, rfl, by decide +kernel, by decide +kernel⟩
abbrev s__law_is_name : Stmt := topS 14
theorem sc__law_is_name : FnScope ["_law_thing_here", "_law_sign"] ["_law_thing_here"] (defScope s__law_is_name) := ⟨rfl, rfl, rfl, by decide +kernel, rfl, by decide +kernel, by decide +kernel⟩
abbrev s_is_whole : Stmt := topS 6
theorem sc_is_whole : FnScope ["value"] ["value"] (defScope s_is_whole) := ⟨rfl, rfl, rfl, by decide +kernel, rfl, by decide +kernel, by decide +kernel⟩
abbrev s_is_state : Stmt := topS 5
theorem sc_is_state : FnScope ["value"] ["value"] (defScope s_is_state) := ⟨rfl, rfl, rfl, by decide +kernel, rfl, by decide +kernel, by decide +kernel⟩
abbrev s__law_is_integer : Stmt := topS 11
theorem sc__law_is_integer : FnScope ["_law_thing_here"] ["_law_thing_here"] (defScope s__law_is_integer) := ⟨rfl, rfl, rfl, by decide +kernel, rfl, by decide +kernel, by decide +kernel⟩
abbrev s__law_is_state : Stmt := topS 13
theorem sc__law_is_state : FnScope ["_law_thing_here"] ["_law_thing_here"] (defScope s__law_is_state) := ⟨rfl, rfl, rfl, by decide +kernel, rfl, by decide +kernel, by decide +kernel⟩
abbrev s_law : Stmt := topS 18
theorem sc_law : FnScope ["_law_script", "_law_k", "_law_cell_here", "_law_small", "_law_great", "_law_thing_here"] ["_law_script"] (defScope s_law) := ⟨rfl, rfl, rfl, by decide +kernel, rfl, by decide +kernel, by decide +kernel⟩
structure Txt (mg : Str → Option Value) : Prop where
  m_all : mg "all" = none
  m_bool : mg "bool" = none
  m_int : mg "int" = none
  m_isinstance : mg "isinstance" = none
  m_len : mg "len" = none
  m_range : mg "range" = none
  m_str : mg "str" = none
  c_LONGEST_NAME : ∃ u, mg "LONGEST_NAME" = some u ∧ RelV (.int 12) u
  c_LETTERS : ∃ u, mg "LETTERS" = some u ∧ RelV (.str "abcdefghijklmnopqrstuvwxyz") u
  c_GREATEST_STATE : ∃ u, mg "GREATEST_STATE" = some u ∧ RelV (.int 99) u
theorem szl {α : Type} {l : List α} (h : Nat.ble l.length 100000 = true) : l.length ≤ sizeLine := smallE (Nat.le_of_ble_eq_true h)
/-! ### values -/
inductive Val (K : PySem.W.Frag) (H : Hp) : V → Prop where
  | non : Val K H .non
  | bl (b : Bool) : Val K H (.bl b)
  | int (i : Int) : Val K H (.int i)
  | str (z : Str) (h : z.cps.size ≤ 100) : Val K H (.str z)
  | lst {a : Addr} {xs : List V} (e : H a = some (.lst xs)) : Val K H (.ref a)
  | tup {a : Addr} {xs : List V} (e : H a = some (.tup xs)) : Val K H (.ref a)
  | dK {a : Addr} {kvs : List (Key × V)} (e : H a = some (.dK kvs)) : Val K H (.ref a)
theorem Val.mono {K : PySem.W.Frag} {H H' : Hp} {v : V} (h : Val K H v) (s : Same H H') : Val K H' v := by
  cases h with
  | non => exact .non
  | bl b => exact .bl b
  | int i => exact .int i
  | str z h => exact .str z h
  | lst e => exact .lst (s _ _ e)
  | tup e => exact .tup (s _ _ e)
  | dK e => exact .dK (s _ _ e)
def isS : V → Bool
  | .str _ => true
  | _ => false
def isI : V → Bool
  | .int _ => true
  | .bl _ => true
  | _ => false
def isB : V → Bool
  | .bl _ => true
  | _ => false
theorem Val.ty {K : PySem.W.Frag} {H : Hp} {v : V} (h : Val K H v) : ∃ t, TyX K H v t ∧ PySem.W.kitOne K t (.type "str") = some (isS v) ∧ PySem.W.kitOne K t (.type "int") = some (isI v) ∧ PySem.W.kitOne K t (.type "bool") = some (isB v) := by
  cases h with
  | non => exact ⟨_, .base .non, kit_ty (show kitB "NoneType" "str" = some false by decide +kernel), kit_ty (show kitB "NoneType" "int" = some false by decide +kernel), kit_ty (show kitB "NoneType" "bool" = some false by decide +kernel)⟩
  | bl b => exact ⟨_, .base (.bl b), kit_ty (show kitB "bool" "str" = some false by decide +kernel), kit_ty (show kitB "bool" "int" = some true by decide +kernel), kit_ty (show kitB "bool" "bool" = some true by decide +kernel)⟩
  | int i => exact ⟨_, .base (.int i), kit_ty (show kitB "int" "str" = some false by decide +kernel), kit_ty (show kitB "int" "int" = some true by decide +kernel), kit_ty (show kitB "int" "bool" = some false by decide +kernel)⟩
  | str z h => exact ⟨_, .base (.str z), kit_ty (show kitB "str" "str" = some true by decide +kernel), kit_ty (show kitB "str" "int" = some false by decide +kernel), kit_ty (show kitB "str" "bool" = some false by decide +kernel)⟩
  | lst e => exact ⟨_, .base (.lst e), kit_ty (show kitB "list" "str" = some false by decide +kernel), kit_ty (show kitB "list" "int" = some false by decide +kernel), kit_ty (show kitB "list" "bool" = some false by decide +kernel)⟩
  | tup e => exact ⟨_, .base (.tup e), kit_ty (show kitB "tuple" "str" = some false by decide +kernel), kit_ty (show kitB "tuple" "int" = some false by decide +kernel), kit_ty (show kitB "tuple" "bool" = some false by decide +kernel)⟩
  | dK e => exact ⟨_, .base (.dK e), kit_ty (show kitB "dict" "str" = some false by decide +kernel), kit_ty (show kitB "dict" "int" = some false by decide +kernel), kit_ty (show kitB "dict" "bool" = some false by decide +kernel)⟩
/-! ### what is computed -/
def letters : Str := "abcdefghijklmnopqrstuvwxyz"
def inL (c : Nat) : Bool := decide (c ∈ letters.cps.toList)
def nameB : V → Bool
  | .str z => decide (1 ≤ z.cps.size) && decide (z.cps.size ≤ 12) && z.cps.toList.all inL
  | _ => false
def wholeB (v : V) : Bool := isI v && !isB v
def stateB : V → Bool
  | .int i => decide (0 ≤ i) && decide (i ≤ 99)
  | _ => false
/-! ### promises -/
def spPure (g : V → Bool) (K : PySem.W.Frag) : Sp := fun vs H Q _ => ∃ v, vs = [v] ∧ Val K H v ∧ ∀ H', Same H H' → Q (.bl (g v)) H'
def sp_is_name := spPure nameB
def sp__law_is_name := spPure nameB
def sp_is_whole := spPure wholeB
def sp__law_is_integer := spPure wholeB
def sp_is_state := spPure stateB
def sp__law_is_state := spPure stateB
def sp__law_flag (_ : PySem.W.Frag) : Sp := fun vs H Q _ => ∃ a b, vs = [.bl a, .bl b] ∧ Q (.bl (decide (a = b))) H
def sp__law_mix (_ : PySem.W.Frag) : Sp := fun vs H Q _ => ∃ c k : Int, vs = [.int c, .int k] ∧ ∀ r : Int, 0 ≤ r → r < 2147483399 → Q (.int r) H
def sp__law_cell (K : PySem.W.Frag) : Sp := fun vs H Q _ => ∃ (a : Addr) (ns : List Int) (k : Nat), vs = [.ref a, .int (k : Int)] ∧ SqL K H a (ns.map V.int) ∧ ∀ r : Int, Q (.int r) H
def sp__law_row (K : PySem.W.Frag) : Sp := fun vs H Q _ => ∃ (c : Int) (b : Addr) (ss : List Int), vs = [.int c, .ref b] ∧ SqL K H b (ss.map V.int) ∧ ss.length ≤ 1000 ∧ (∀ s ∈ ss, 0 < s ∧ s < 1073741824) ∧
  ∀ H' p (rs : List Int), Same H H' → H p = none → H' p = some (.lst (rs.map V.int)) → rs.length = ss.length → (∀ (i : Nat) (r s : Int), rs[i]? = some r → ss[i]? = some s → 0 ≤ r ∧ r < s) → Q (.ref p) H'
def sp__law_deep (_ : PySem.W.Frag) : Sp := fun vs H Q _ => ∃ m : Int, vs = [.int m] ∧ 0 ≤ m ∧ m < 100000 ∧ ∀ H' p xs, Same H H' → H p = none → H' p = some (.lst xs) → Q (.ref p) H'
def sp__law_thing (K : PySem.W.Frag) : Sp := fun vs H Q _ => ∃ d : Int, vs = [.int d] ∧ ∀ v H', Same H H' → Val K H' v → Q v H'
def sp__law_text (_ : PySem.W.Frag) : Sp := fun vs H Q _ => ∃ c : Int, vs = [.int c] ∧ ∀ (z : Str) H', Same H H' → z.cps.size ≤ 100 → Q (.str z) H'
def sp_law (K : PySem.W.Frag) : Sp := fun vs H Q _ => ∃ (a : Addr) (ns : List Int), vs = [.ref a] ∧ SqL K H a (ns.map V.int) ∧ ns.length ≤ 63 ∧ ∀ H', Q (.bl true) H'
section
variable {P : Program} {w : World} {K : PySem.W.Frag} {mg : Str → Option Value} {base : Heap}
theorem ok_is_whole {f : Addr} {fd : FuncData} (T : Txt mg) (F : Fun K "is_whole" "is_whole" s_is_whole f fd)  : FnOk P w K mg base CX0 1 f fd ["value"] (sp_is_whole K) := by
  have nd := sc_is_whole.nd
  refine F.ok sc_is_whole (fun vs H Q E h => ?_) (fun cdv A outer s H vs Q E hr h => ?_)
  · obtain ⟨v, rfl, _⟩ := h
    rfl
  · obtain ⟨v, rfl, hv, q⟩ := h
    refine ⟨_, (pss_one (ps_ret (pe_and (pe_callB call_isi (by rfl) T.m_isinstance (by decide +kernel) (pa_cons (pv 0) (pa_cons (pe_bltn (v := .ty "int") (u := .type "int") (by rfl) T.m_int (by decide +kernel) rfl) pa_nil))) (pe_one (pe_not (pe_callB call_isi (by rfl) T.m_isinstance (by decide +kernel) (pa_cons (pv 0) (pa_cons (pe_bltn (v := .ty "bool") (u := .type "bool") (by rfl) T.m_bool (by decide +kernel) rfl) pa_nil)))))))), ?_⟩
    obtain ⟨t, ht, hs, hi, hb⟩ := hv.ty
    refine ⟨v, rfl, v, .ty "int", t, _, isI v, rfl, .ty _, ht, hi, _, rfl, ?_⟩
    have q' := q H (Same.refl H)
    unfold wholeB at q'
    by_cases e : isI v = true
    · rw [if_pos e]
      refine ⟨v, rfl, v, .ty "bool", t, _, isB v, rfl, .ty _, ht, hb, _, rfl, ?_⟩
      rw [e] at q'
      exact q'
    · rw [if_neg e]
      rw [Bool.eq_false_iff.mpr e] at q'
      exact q'
theorem ok__law_is_integer {f : Addr} {fd : FuncData} (T : Txt mg) (F : Fun K "_law_is_integer" "_law_is_integer" s__law_is_integer f fd)  : FnOk P w K mg base CX0 1 f fd ["_law_thing_here"] (sp__law_is_integer K) := by
  have nd := sc__law_is_integer.nd
  refine F.ok sc__law_is_integer (fun vs H Q E h => ?_) (fun cdv A outer s H vs Q E hr h => ?_)
  · obtain ⟨v, rfl, _⟩ := h
    rfl
  · obtain ⟨v, rfl, hv, q⟩ := h
    refine ⟨_, (pss_one (ps_ret (pe_and (pe_callB call_isi (by rfl) T.m_isinstance (by decide +kernel) (pa_cons (pv 0) (pa_cons (pe_bltn (v := .ty "int") (u := .type "int") (by rfl) T.m_int (by decide +kernel) rfl) pa_nil))) (pe_one (pe_not (pe_callB call_isi (by rfl) T.m_isinstance (by decide +kernel) (pa_cons (pv 0) (pa_cons (pe_bltn (v := .ty "bool") (u := .type "bool") (by rfl) T.m_bool (by decide +kernel) rfl) pa_nil)))))))), ?_⟩
    obtain ⟨t, ht, hs, hi, hb⟩ := hv.ty
    refine ⟨v, rfl, v, .ty "int", t, _, isI v, rfl, .ty _, ht, hi, _, rfl, ?_⟩
    have q' := q H (Same.refl H)
    unfold wholeB at q'
    by_cases e : isI v = true
    · rw [if_pos e]
      refine ⟨v, rfl, v, .ty "bool", t, _, isB v, rfl, .ty _, ht, hb, _, rfl, ?_⟩
      rw [e] at q'
      exact q'
    · rw [if_neg e]
      rw [Bool.eq_false_iff.mpr e] at q'
      exact q'

theorem ok_is_state {f : Addr} {fd : FuncData} (T : Txt mg) (F : Fun K "is_state" "is_state" s_is_state f fd) (c_is_whole : Cal P w K mg base 1 "is_whole" (sp_is_whole K) []) : FnOk P w K mg base CX0 2 f fd ["value"] (sp_is_state K) := by
  have nd := sc_is_state.nd
  refine F.ok sc_is_state (fun vs H Q E h => ?_) (fun cdv A outer s H vs Q E hr h => ?_)
  · obtain ⟨v, rfl, _⟩ := h
    rfl
  · obtain ⟨v, rfl, hv, q⟩ := h
    refine ⟨_, (pss_one (ps_ret (pe_and (pe_c c_is_whole hr (by decide) (by rfl) (pa_cons (pv 0) pa_nil)) (pe_one (pe_chain op_le op_le pe_int (pv 0) (pe_gc (by rfl) T.c_GREATEST_STATE)))))), ?_⟩
    refine ⟨v, rfl, v, rfl, hv, fun H1 s1 => ⟨_, rfl, ?_⟩⟩
    have q' := q H1 s1
    cases hv with
    | int i =>
      refine iteT ⟨.int i, rfl, 0, i, rfl, rfl, _, rfl, ?_⟩
      by_cases e : 0 ≤ i
      · rw [decide_eq_true e]
        refine iteT ⟨i, 99, rfl, rfl, ?_⟩
        have e2 : stateB (.int i) = decide (i ≤ 99) := by
          show (decide (0 ≤ i) && decide (i ≤ 99)) = _
          rw [decide_eq_true e]; rfl
        rw [e2] at q'
        exact q'
      · rw [decide_eq_false e]
        refine iteF ?_
        have e2 : stateB (.int i) = false := by
          show (decide (0 ≤ i) && decide (i ≤ 99)) = _
          rw [decide_eq_false e]; rfl
        rw [e2] at q'
        exact q'
    | _ => exact iteF q'
theorem ok__law_is_state {f : Addr} {fd : FuncData} (T : Txt mg) (F : Fun K "_law_is_state" "_law_is_state" s__law_is_state f fd) (c__law_is_integer : Cal P w K mg base 1 "_law_is_integer" (sp__law_is_integer K) []) : FnOk P w K mg base CX0 2 f fd ["_law_thing_here"] (sp__law_is_state K) := by
  have nd := sc__law_is_state.nd
  refine F.ok sc__law_is_state (fun vs H Q E h => ?_) (fun cdv A outer s H vs Q E hr h => ?_)
  · obtain ⟨v, rfl, _⟩ := h
    rfl
  · obtain ⟨v, rfl, hv, q⟩ := h
    refine ⟨_, (pss_one (ps_ret (pe_and (pe_c c__law_is_integer hr (by decide) (by rfl) (pa_cons (pv 0) pa_nil)) (pe_one (pe_chain op_le op_le pe_int (pv 0) pe_int))))), ?_⟩
    refine ⟨v, rfl, v, rfl, hv, fun H1 s1 => ⟨_, rfl, ?_⟩⟩
    have q' := q H1 s1
    cases hv with
    | int i =>
      refine iteT ⟨.int i, rfl, 0, i, rfl, rfl, _, rfl, ?_⟩
      by_cases e : 0 ≤ i
      · rw [decide_eq_true e]
        refine iteT ⟨i, 99, rfl, rfl, ?_⟩
        have e2 : stateB (.int i) = decide (i ≤ 99) := by
          show (decide (0 ≤ i) && decide (i ≤ 99)) = _
          rw [decide_eq_true e]; rfl
        rw [e2] at q'
        exact q'
      · rw [decide_eq_false e]
        refine iteF ?_
        have e2 : stateB (.int i) = false := by
          show (decide (0 ≤ i) && decide (i ≤ 99)) = _
          rw [decide_eq_false e]; rfl
        rw [e2] at q'
        exact q'
    | _ => exact iteF q'
theorem nameB_out {z : Str} (h : ¬ (1 ≤ z.cps.size ∧ z.cps.size ≤ 12)) : nameB (.str z) = false := by
  show (decide (1 ≤ z.cps.size) && decide (z.cps.size ≤ 12) && z.cps.toList.all inL) = false
  by_cases a : 1 ≤ z.cps.size
  · rw [decide_eq_false (p := z.cps.size ≤ 12) (fun b => h ⟨a, b⟩), Bool.and_false]; rfl
  · rw [decide_eq_false a]; rfl
theorem nameB_in {z : Str} (h1 : 1 ≤ z.cps.size) (h2 : z.cps.size ≤ 12) : nameB (.str z) = z.cps.toList.all inL := by
  show (decide (1 ≤ z.cps.size) && decide (z.cps.size ≤ 12) && z.cps.toList.all inL) = _
  rw [decide_eq_true h1, decide_eq_true h2]; rfl
theorem nameB_not {v : V} (h : isS v = false) : nameB v = false := by
  cases v <;> first | rfl | cases h
theorem isS_str {v : V} (h : isS v = true) : ∃ z, v = .str z := by
  cases v <;> first | exact ⟨_, rfl⟩ | cases h
theorem Val.size {K : PySem.W.Frag} {H : Hp} {z : Str} (h : Val K H (.str z)) : z.cps.size ≤ 100 := by
  cases h with
  | str _ h => exact h
theorem ok_is_name {f : Addr} {fd : FuncData} (T : Txt mg) (F : Fun K "is_name" "is_name" s_is_name f fd)  : FnOk P w K mg base CX0 1 f fd ["value"] (sp_is_name K) := by
  have nd := sc_is_name.nd
  refine F.ok sc_is_name (fun vs H Q E h => ?_) (fun cdv A outer s H vs Q E hr h => ?_)
  · obtain ⟨v, rfl, _⟩ := h
    rfl
  · obtain ⟨v, rfl, hv, q⟩ := h
    refine ⟨_, (pss_cons (ps_if (PW.pt (pw_or (pt_not (pt_val (pe_callB call_isi (by rfl) T.m_isinstance (by decide +kernel) (pa_cons (pv 0) (pa_cons (pe_bltn (v := .ty "str") (u := .type "str") (by rfl) T.m_str (by decide +kernel) rfl) pa_nil))))) (pw_or1 (pt_not (pt_chain op_le op_le pe_int (pe_callB call_len (by rfl) T.m_len (by decide +kernel) (pa_cons (pv 0) pa_nil)) (pe_gc (by rfl) T.c_LONGEST_NAME)))))) (pss_one (ps_ret pe_bl)) pss_nil)
      (pss_one (ps_ret (pe_callB (cr_all rfl) (by rfl) T.m_all (by decide +kernel) (pa_cons (pe_lc (own := [("letter", 1)]) (g := gName 1) (tt := tYes) rfl nd (pi_str (pv 0)) (blkOk_by (N := ["value", "letter"]) (sc := defScope s_is_name) (by decide +kernel)) (fun _ _ _ _ _ => (pg_name (i := 1) nd rfl (.inl rfl))) (fun _ _ _ _ _ => pts_nil) (fun _ _ _ _ _ => (pe_cmpR op_in_sign (pv 1) (pe_gc (by rfl) T.c_LETTERS) (by with_unfolding_all rfl)))) pa_nil))))), ?_⟩
    obtain ⟨t, ht, hs, hi, hb⟩ := hv.ty
    refine ⟨v, rfl, v, .ty "str", t, _, isS v, rfl, .ty _, ht, hs, _, rfl, ?_⟩
    cases e : isS v with
    | false =>
      refine iteT ?_
      have q' := q H (Same.refl H)
      rw [nameB_not e] at q'
      exact q'
    | true =>
      obtain ⟨z, rfl⟩ := isS_str e
      have hz := hv.size
      refine iteF ⟨.str z, rfl, .str z, z.cps.size, rfl, ⟨smallE (show z.cps.size ≤ 100000 by omega), rfl⟩, 1, (z.cps.size : Int), rfl, rfl, _, rfl, ?_⟩
      by_cases a : 1 ≤ z.cps.size
      · rw [decide_eq_true (show (1 : Int) ≤ (z.cps.size : Int) by omega)]
        refine iteT ⟨(z.cps.size : Int), 12, rfl, rfl, _, rfl, ?_⟩
        by_cases b : z.cps.size ≤ 12
        · rw [decide_eq_true (show (z.cps.size : Int) ≤ 12 by omega)]
          refine iteF ⟨.str z, rfl, z, rfl, fun D nD => lc_text (fun i H' => Same H H' ∧ H' D = some (.lst ((z.cps.toList.take i).map fun c => .bl (inL c)))) ⟨same_upd nD, upd_same⟩ (fun i c H' hc hP => ?_) (fun H' hP => ?_)⟩
          · obtain ⟨sm, eD⟩ := hP
            have hl : i < z.cps.toList.length := (List.getElem?_eq_some_iff.mp hc).1
            rw [Array.length_toList] at hl
            refine ⟨rfl, ?_⟩
            refine ⟨.str ⟨#[c]⟩, rfl, c, letters, rfl, rfl, _, eD, ?_, same_set nD sm, ?_⟩
            · rw [List.length_map, List.length_take]
              exact Nat.lt_of_le_of_lt (Nat.min_le_left _ _) (small (by omega))
            · rw [upd_same, take_more hc, List.map_append]; rfl
          · obtain ⟨sm, eD⟩ := hP
            rw [List.take_length] at eD
            refine ⟨D, z.cps.toList.map inL, rfl, .inl (.inl (by rw [eD, List.map_map]; rfl)), ?_⟩
            have q' := q H' sm
            rw [nameB_in a b] at q'
            rw [List.all_map]
            exact q'
        · rw [decide_eq_false (show ¬ (z.cps.size : Int) ≤ 12 by omega)]
          refine iteT ?_
          have q' := q H (Same.refl H)
          rw [nameB_out (fun h => b h.2)] at q'
          exact q'
      · rw [decide_eq_false (show ¬ (1 : Int) ≤ (z.cps.size : Int) by omega)]
        refine iteF ?_
        have q' := q H (Same.refl H)
        rw [nameB_out (fun h => a h.1)] at q'
        exact ⟨_, rfl, q'⟩
theorem ok__law_is_name {f : Addr} {fd : FuncData} (T : Txt mg) (F : Fun K "_law_is_name" "_law_is_name" s__law_is_name f fd)  : FnOk P w K mg base CX0 1 f fd ["_law_thing_here"] (sp__law_is_name K) := by
  have nd := sc__law_is_name.nd
  refine F.ok sc__law_is_name (fun vs H Q E h => ?_) (fun cdv A outer s H vs Q E hr h => ?_)
  · obtain ⟨v, rfl, _⟩ := h
    rfl
  · obtain ⟨v, rfl, hv, q⟩ := h
    refine ⟨_, (pss_cons (ps_if (PW.pt (pw_or (pt_not (pt_val (pe_callB call_isi (by rfl) T.m_isinstance (by decide +kernel) (pa_cons (pv 0) (pa_cons (pe_bltn (v := .ty "str") (u := .type "str") (by rfl) T.m_str (by decide +kernel) rfl) pa_nil))))) (pw_or1 (pt_not (pt_chain op_le op_le pe_int (pe_callB call_len (by rfl) T.m_len (by decide +kernel) (pa_cons (pv 0) pa_nil)) pe_int))))) (pss_one (ps_ret pe_bl)) pss_nil)
      (pss_one (ps_ret (pe_cmpR op_eq (pe_callB call_len (by rfl) T.m_len (by decide +kernel) (pa_cons (pe_lc (own := [("_law_sign", 1)]) (g := gName 1) rfl nd (pi_str (pv 0)) (blkOk_by (N := ["_law_thing_here", "_law_sign"]) (sc := defScope s__law_is_name) (by decide +kernel)) (fun _ _ _ _ _ => (pg_name (i := 1) nd rfl (.inl rfl))) (fun _ _ _ _ _ => (pts_one (pt_cmpR op_notIn_sign (pv 1) pe_str (by with_unfolding_all rfl)))) (fun _ _ _ _ _ => (pv 1))) pa_nil)) pe_int (nomark _))))), ?_⟩
    obtain ⟨t, ht, hs, hi, hb⟩ := hv.ty
    refine ⟨v, rfl, v, .ty "str", t, _, isS v, rfl, .ty _, ht, hs, _, rfl, ?_⟩
    cases e : isS v with
    | false =>
      refine iteT ?_
      have q' := q H (Same.refl H)
      rw [nameB_not e] at q'
      exact q'
    | true =>
      obtain ⟨z, rfl⟩ := isS_str e
      have hz := hv.size
      refine iteF ⟨.str z, rfl, .str z, z.cps.size, rfl, ⟨smallE (show z.cps.size ≤ 100000 by omega), rfl⟩, 1, (z.cps.size : Int), rfl, rfl, _, rfl, ?_⟩
      by_cases a : 1 ≤ z.cps.size
      · rw [decide_eq_true (show (1 : Int) ≤ (z.cps.size : Int) by omega)]
        refine iteT ⟨(z.cps.size : Int), 12, rfl, rfl, _, rfl, ?_⟩
        by_cases b : z.cps.size ≤ 12
        · rw [decide_eq_true (show (z.cps.size : Int) ≤ 12 by omega)]
          refine iteF ⟨.str z, rfl, z, rfl, fun D nD => lc_text (fun i H' => Same H H' ∧ ∃ ys : List V, H' D = some (.lst ys) ∧ ys.length ≤ i ∧ decide (ys.length = 0) = (z.cps.toList.take i).all inL) ⟨same_upd nD, [], upd_same, Nat.le_refl _, rfl⟩ (fun i c H' hc hP => ?_) (fun H' hP => ?_)⟩
          · obtain ⟨sm, ys, eD, hl2, hn⟩ := hP
            have hl : i < z.cps.toList.length := (List.getElem?_eq_some_iff.mp hc).1
            rw [Array.length_toList] at hl
            refine ⟨rfl, .str ⟨#[c]⟩, rfl, c, letters, rfl, rfl, _, rfl, ?_⟩
            have e3 : decide (c ∈ letters.cps.toList) = inL c := rfl
            rw [e3]
            cases e4 : inL c with
            | true =>
              refine iteF ⟨sm, ys, eD, by omega, ?_⟩
              rw [take_more hc, List.all_append, ← hn]
              simp [e4]
            | false =>
              refine iteT ⟨.str ⟨#[c]⟩, rfl, ys, eD, small (by omega), same_set nD sm, ys ++ [.str ⟨#[c]⟩], upd_same, by rw [List.length_append]; exact Nat.succ_le_succ hl2, ?_⟩
              rw [take_more hc, List.all_append]
              simp [e4]
          · obtain ⟨sm, ys, eD, hl2, hn⟩ := hP
            rw [List.take_length] at hn
            refine ⟨.ref D, ys.length, rfl, .inl ⟨ys, .inl (.inl eD), rfl⟩, rfl, ?_⟩
            have q' := q H' sm
            rw [nameB_in a b, ← hn] at q'
            have e5 : decide (V.int (ys.length : Int) = V.int 0) = decide (ys.length = 0) := by
              by_cases y0 : ys.length = 0
              · rw [y0]; rfl
              · rw [decide_eq_false y0, decide_eq_false]
                intro z
                have := V.int.inj z
                omega
            rw [e5]
            exact q'
        · rw [decide_eq_false (show ¬ (z.cps.size : Int) ≤ 12 by omega)]
          refine iteT ?_
          have q' := q H (Same.refl H)
          rw [nameB_out (fun h => b h.2)] at q'
          exact q'
      · rw [decide_eq_false (show ¬ (1 : Int) ≤ (z.cps.size : Int) by omega)]
        refine iteF ?_
        have q' := q H (Same.refl H)
        rw [nameB_out (fun h => a h.1)] at q'
        exact ⟨_, rfl, q'⟩
theorem ok__law_flag {f : Addr} {fd : FuncData} (T : Txt mg) (F : Fun K "_law_flag" "_law_flag" s__law_flag f fd)  : FnOk P w K mg base CX0 1 f fd ["_law_told", "_law_due"] (sp__law_flag K) := by
  have nd := sc__law_flag.nd
  refine F.ok sc__law_flag (fun vs H Q E h => ?_) (fun cdv A outer s H vs Q E hr h => ?_)
  · obtain ⟨a, b, rfl, _⟩ := h
    rfl
  · obtain ⟨a, b, rfl, q⟩ := h
    refine ⟨_, (pss_one (ps_ret (pe_and (pe_callB call_isi (by rfl) T.m_isinstance (by decide +kernel) (pa_cons (pv 0) (pa_cons (pe_bltn (v := .ty "bool") (u := .type "bool") (by rfl) T.m_bool (by decide +kernel) rfl) pa_nil))) (pe_one (pe_cmpR op_eq (pv 0) (pv 1) (nomark _)))))), ?_⟩
    refine ⟨.bl a, rfl, .bl a, .ty "bool", _, _, true, rfl, .ty _, .base (.bl a), kit_ty (show kitB "bool" "bool" = some true by decide +kernel), _, rfl, iteT ⟨.bl a, rfl, .bl b, rfl, rfl, ?_⟩⟩
    have e : decide (V.bl a = V.bl b) = decide (a = b) := by cases a <;> cases b <;> rfl
    rw [e]
    exact q
theorem ok__law_mix {f : Addr} {fd : FuncData} (T : Txt mg) (F : Fun K "_law_mix" "_law_mix" s__law_mix f fd)  : FnOk P w K mg base CX0 1 f fd ["_law_cell_here", "_law_k"] (sp__law_mix K) := by
  have nd := sc__law_mix.nd
  refine F.ok sc__law_mix (fun vs H Q E h => ?_) (fun cdv A outer s H vs Q E hr h => ?_)
  · obtain ⟨c, k, rfl, _⟩ := h
    rfl
  · obtain ⟨c, k, rfl, q⟩ := h
    refine ⟨_, (pss_cons (ps_set (i := 2) nd rfl (.inl rfl) (pe_op op_mod (pe_op op_mul (pe_callTy call_int1 (by rfl) T.m_int (by decide +kernel) (pa_cons (pe_op op_add (pe_op op_add (pe_callTy call_int1 (by rfl) T.m_int (by decide +kernel) (pa_cons (pv 0) pa_nil)) (pe_op op_mul pe_int (pv 1))) pe_int) pa_nil)) pe_int) pe_int))
      (pss_cons (ps_set (i := 2) nd rfl (.inl rfl) (pe_op op_mod (pe_callTy call_int1 (by rfl) T.m_int (by decide +kernel) (pa_cons (pe_op op_mul (pv 2) (pe_op op_add (pe_op op_fdiv (pv 2) pe_int) pe_int)) pa_nil)) pe_int))
      (pss_one (ps_ret (pe_op op_mod (pe_callTy call_int1 (by rfl) T.m_int (by decide +kernel) (pa_cons (pe_op op_mul (pv 2) (pe_op op_add (pe_op op_fdiv (pv 2) pe_int) pe_int)) pa_nil)) pe_int))))), ?_⟩
    refine ⟨.int c, rfl, .inl ⟨c, rfl, .int k, rfl, 7919, k, rfl, rfl, .inl ⟨by decide, by decide⟩, _, _, rfl, rfl, _, _, rfl, rfl, .inl ⟨_, rfl, _, 48271, rfl, rfl, .inr ⟨by decide, by decide⟩, _, 2147483647, rfl, rfl, (show (0 : Int) < 2147483647 by decide), ?_⟩⟩⟩
    refine ⟨_, rfl, _, rfl, _, 1009, rfl, rfl, ⟨by decide, by decide⟩, _, 69621, rfl, rfl, _, _, rfl, rfl, .inl ⟨?_, ?_⟩, .inl ⟨_, rfl, _, 2147483647, rfl, rfl, (show (0 : Int) < 2147483647 by decide), ?_⟩⟩
    · omega
    · omega
    refine ⟨_, rfl, _, rfl, _, 2003, rfl, rfl, ⟨by decide, by decide⟩, _, 40692, rfl, rfl, _, _, rfl, rfl, .inl ⟨?_, ?_⟩, .inl ⟨_, rfl, _, 2147483399, rfl, rfl, (show (0 : Int) < 2147483399 by decide), ?_⟩⟩
    · omega
    · omega
    exact q _ (Int.emod_nonneg _ (by decide)) (Int.emod_lt_of_pos _ (by decide))
theorem ok__law_cell {f : Addr} {fd : FuncData} (T : Txt mg) (F : Fun K "_law_cell" "_law_cell" s__law_cell f fd) (c__law_mix : Cal P w K mg base 1 "_law_mix" (sp__law_mix K) []) : FnOk P w K mg base CX0 2 f fd ["_law_script", "_law_k"] (sp__law_cell K) := by
  have nd := sc__law_cell.nd
  refine F.ok sc__law_cell (fun vs H Q E h => ?_) (fun cdv A outer s H vs Q E hr h => ?_)
  · obtain ⟨a, ns, k, rfl, _⟩ := h
    rfl
  · obtain ⟨a, ns, k, rfl, hS, q⟩ := h
    refine ⟨_, (pss_cons (ps_if (pt_cmpR op_lt (pv 1) (pe_callB call_len (by rfl) T.m_len (by decide +kernel) (pa_cons (pv 0) pa_nil)) (nomark _)) (pss_one (ps_ret (pe_callTy call_int1 (by rfl) T.m_int (by decide +kernel) (pa_cons (pe_ix ix_list (pv 0) (pv 1) (fun _ _ => rfl)) pa_nil)))) pss_nil)
      (pss_cons (ps_if (pt_cmpR op_eq (pe_callB call_len (by rfl) T.m_len (by decide +kernel) (pa_cons (pv 0) pa_nil)) pe_int (nomark _)) (pss_one (ps_ret (pv 1))) pss_nil)
      (pss_one (ps_ret (pe_c c__law_mix hr (by decide) (by rfl) (pa_cons (pe_ix ix_list (pv 0) (pe_op op_mod (pe_callTy call_int1 (by rfl) T.m_int (by decide +kernel) (pa_cons (pv 1) pa_nil)) (pe_callB call_len (by rfl) T.m_len (by decide +kernel) (pa_cons (pv 0) pa_nil))) (fun _ _ => rfl)) (pa_cons (pv 1) pa_nil))))))), ?_⟩
    refine ⟨.int k, rfl, .ref a, rfl, .ref a, (ns.map V.int).length, rfl, .inl ⟨_, hS, rfl⟩, _, _, rfl, rfl, _, rfl, ite2 (fun e => ?_) (fun e => ?_)⟩
    · have hk : k < (ns.map V.int).length := by
        have := of_decide_eq_true e
        omega
      have hk2 : k < ns.length := by rw [List.length_map] at hk; exact hk
      have g : (ns.map V.int)[k]? = some (.int ns[k]) := by rw [List.getElem?_map, List.getElem?_eq_getElem hk2]; rfl
      exact ⟨.ref a, rfl, .int k, rfl, a, _, (k : Int), _, rfl, rfl, hS, atI_nat g, .inl ⟨_, rfl, q _⟩⟩
    · refine ⟨.ref a, rfl, .ref a, (ns.map V.int).length, rfl, .inl ⟨_, hS, rfl⟩, rfl, _, rfl, ite2 (fun e0 => ?_) (fun e0 => ?_)⟩
      · exact ⟨.int k, rfl, q _⟩
      · have hp : 0 < (ns.map V.int).length := by
          cases e1 : (ns.map V.int).length with
          | zero => exact absurd (decide_eq_true (by rw [e1]; rfl)) e0
          | succ n => exact Nat.succ_pos _
        have hj : ((k : Int) % ((ns.map V.int).length : Int)) = ((k % (ns.map V.int).length : Nat) : Int) := rfl
        have hlt : k % (ns.map V.int).length < ns.length := by
          have := Nat.mod_lt k hp
          rw [List.length_map] at this ⊢
          exact this
        have g : (ns.map V.int)[k % (ns.map V.int).length]? = some (.int ns[k % (ns.map V.int).length]) := by rw [List.getElem?_map, List.getElem?_eq_getElem hlt]; rfl
        refine ⟨.ref a, rfl, .int k, rfl, .inl ⟨_, rfl, .ref a, rfl, .ref a, (ns.map V.int).length, rfl, .inl ⟨_, hS, rfl⟩, (k : Int), ((ns.map V.int).length : Int), rfl, rfl, (show (0 : Int) < ((ns.map V.int).length : Int) by omega), a, ns.map V.int, (k : Int) % ((ns.map V.int).length : Int), .int ns[k % (ns.map V.int).length], rfl, rfl, hS, ?_, ?_⟩⟩
        · rw [hj]; exact atI_nat g
        · exact ⟨.int k, rfl, _, _, rfl, fun r _ _ => q r⟩
theorem ok__law_row {f : Addr} {fd : FuncData} (T : Txt mg) (F : Fun K "_law_row" "_law_row" s__law_row f fd) (c__law_mix : Cal P w K mg base 1 "_law_mix" (sp__law_mix K) []) : FnOk P w K mg base CX0 2 f fd ["_law_cell_here", "_law_sizes"] (sp__law_row K) := by
  have nd := sc__law_row.nd
  refine F.ok sc__law_row (fun vs H Q E h => ?_) (fun cdv A outer s H vs Q E hr h => ?_)
  · obtain ⟨c, b, ss, rfl, _⟩ := h
    rfl
  · obtain ⟨c, b, ss, rfl, hS, hlen, hpos, q⟩ := h
    refine ⟨_, (pss_cons (ps_set (i := 2) nd rfl (.inl rfl) (pe_lst pa_nil))
      (pss_cons (ps_set (i := 3) nd rfl (.inl rfl) (pe_callTy call_int1 (by rfl) T.m_int (by decide +kernel) (pa_cons (pv 0) pa_nil)))
      (pss_cons (ps_for PassesOwn.never rfl (pi_range1 (by rfl) T.m_range (pa_cons (pe_callB call_len (by rfl) T.m_len (by decide +kernel) (pa_cons (pv 1) pa_nil)) pa_nil)) (pg_name (i := 4) nd rfl (.inl rfl)) (pss_one (ps_if (pt_cmpR op_ge (pv 0) (pe_op op_pow pe_int pe_int) (nomark _)) (pss_cons (ps_expr (pe_bm PySem.F.plainAttrs_list PySem.F.slot_list_append PySem.F.type_list_append mt_append (pv 2) (pa_cons (pe_op op_mod (pe_callTy call_int1 (by rfl) T.m_int (by decide +kernel) (pa_cons (pv 3) pa_nil)) (pe_ix ix_list (pv 1) (pv 4) (fun _ _ => rfl))) pa_nil)))
      (pss_one (ps_set (i := 3) nd rfl (.inl rfl) (pe_op op_fdiv (pv 3) (pe_ix ix_list (pv 1) (pv 4) (fun _ _ => rfl)))))) (pss_one (ps_expr (pe_bm PySem.F.plainAttrs_list PySem.F.slot_list_append PySem.F.type_list_append mt_append (pv 2) (pa_cons (pe_op op_mod (pe_callTy call_int1 (by rfl) T.m_int (by decide +kernel) (pa_cons (pe_c c__law_mix hr (by decide) (by rfl) (pa_cons (pv 0) (pa_cons (pv 4) pa_nil))) pa_nil)) (pe_ix ix_list (pv 1) (pv 4) (fun _ _ => rfl))) pa_nil)))))))
      (pss_one (ps_ret (pv 2)))))), ?_⟩
    refine ⟨Nat.zero_le _, fun R nR => ⟨.int c, rfl, .inl ⟨c, rfl, .ref b, rfl, .ref b, (ss.map V.int).length, rfl, .inl ⟨_, (same_upd nR).seq hS, rfl⟩, _, rfl, ?_, ?_, ?_⟩⟩⟩
    · have : (0 : Int) ≤ ((ss.map V.int).length : Int) := by omega
      omega
    · rw [List.length_map]
      omega
    · refine for_range (lo := 0) (fun i σ H' => ∃ (z : Int) (y : Option V) (rs : List Int), σ = [some (.int c), some (.ref b), some (.ref R), some (.int z), y] ∧ Same H H' ∧ H' R = some (.lst (rs.map V.int)) ∧ rs.length = i ∧ ∀ (i : Nat) (r s : Int), rs[i]? = some r → ss[i]? = some s → 0 ≤ r ∧ r < s)
        ⟨c, none, [], rfl, same_upd nR, upd_same, rfl, fun i r s h => by simp at h⟩ (fun i σ H' hi hP => ?_) (fun σ H' hP => ?_)
      · obtain ⟨z, y, rs, rfl, sm, eR, hrl, hb⟩ := hP
        have hi2 : i < ss.length := by
          have : i < ((ss.map V.int).length : Int).toNat := hi
          rw [List.length_map, Int.toNat_natCast] at this
          exact this
        have g : (ss.map V.int)[i]? = some (.int ss[i]) := by rw [List.getElem?_map, List.getElem?_eq_getElem hi2]; rfl
        have ps := hpos _ (List.getElem_mem hi2)
        have hS' := sm.seq hS
        have hA : atI (ss.map V.int) (0 + (i : Int)) = some (.int ss[i]) := by rw [Int.zero_add]; exact atI_nat g
        have push : ∀ r : Int, 0 ≤ r → r < ss[i] → ∀ (j : Nat) (r' s : Int), (rs ++ [r])[j]? = some r' → ss[j]? = some s → 0 ≤ r' ∧ r' < s := by
          intro r r0 r1 j r' s e1 e2
          by_cases hj : j < rs.length
          · rw [List.getElem?_append_left hj] at e1
            exact hb j r' s e1 e2
          · by_cases hj2 : j = rs.length
            · subst hj2
              rw [List.getElem?_concat_length] at e1
              cases e1
              rw [hrl, List.getElem?_eq_getElem hi2] at e2
              cases e2
              exact ⟨r0, r1⟩
            · rw [List.getElem?_eq_none (by rw [List.length_append]; simp; omega)] at e1
              cases e1
        have hsz : (rs.map V.int).length < sizeLine := by rw [List.length_map]; exact small (by omega)
        refine ⟨.int c, rfl, 10, 18, rfl, rfl, ⟨by decide, by decide, by decide⟩, c, _, rfl, rfl, _, rfl, ite2 (fun e => ?_) (fun e => ?_)⟩
        · -- the digits of a great cell
          refine ⟨.ref R, rfl, .inl ⟨rfl, _, .inl (.inl eR)⟩, .int z, rfl, .inl ⟨z, rfl, .ref b, rfl, .int (0 + (i : Int)), rfl, b, _, _, _, rfl, rfl, hS', hA, z, ss[i], rfl, rfl, ps.1, R, _, _, rfl, rfl, eR, hsz, ?_⟩⟩
          refine ⟨.int z, rfl, .ref b, rfl, .int (0 + (i : Int)), rfl, b, _, _, _, rfl, rfl, (same_set nR sm).seq hS, hA, z, ss[i], rfl, rfl, ps, ?_⟩
          exact ⟨_, _, rs ++ [z % ss[i]], rfl, same_set nR sm, by rw [upd_same, List.map_append]; rfl, by rw [List.length_append, hrl]; rfl, push _ (Int.emod_nonneg _ (by omega)) (Int.emod_lt_of_pos _ ps.1)⟩
        · refine ⟨.ref R, rfl, .inl ⟨rfl, _, .inl (.inl eR)⟩, .int c, rfl, .int (0 + (i : Int)), rfl, c, (0 + (i : Int)), rfl, fun r r0 r1 => .inl ⟨r, rfl, .ref b, rfl, .int (0 + (i : Int)), rfl, b, _, _, _, rfl, rfl, hS', hA, r, ss[i], rfl, rfl, ps.1, R, _, _, rfl, rfl, eR, hsz, ?_⟩⟩
          exact ⟨_, _, rs ++ [r % ss[i]], rfl, same_set nR sm, by rw [upd_same, List.map_append]; rfl, by rw [List.length_append, hrl]; rfl, push _ (Int.emod_nonneg _ (by omega)) (Int.emod_lt_of_pos _ ps.1)⟩
      · obtain ⟨z, y, rs, rfl, sm, eR, hrl, hb⟩ := hP
        refine ⟨.ref R, rfl, q H' R rs sm nR eR ?_ hb⟩
        rw [hrl, List.length_map, Int.toNat_natCast]
theorem ok__law_deep {f : Addr} {fd : FuncData} (T : Txt mg) (F : Fun K "_law_deep" "_law_deep" s__law_deep f fd)  : FnOk P w K mg base CX0 1 f fd ["_law_many"] (sp__law_deep K) := by
  have nd := sc__law_deep.nd
  refine F.ok sc__law_deep (fun vs H Q E h => ?_) (fun cdv A outer s H vs Q E hr h => ?_)
  · obtain ⟨m, rfl, _⟩ := h
    rfl
  · obtain ⟨m, rfl, m0, m1, q⟩ := h
    refine ⟨_, (pss_cons (ps_set (i := 1) nd rfl (.inl rfl) (pe_lst pa_nil))
      (pss_cons (ps_for PassesOwn.never rfl (pi_range1 (by rfl) T.m_range (pa_cons (pv 0) pa_nil)) (pg_name (i := 2) nd rfl (.inl rfl)) (pss_one (ps_set (i := 1) nd rfl (.inl rfl) (pe_lst (pa_cons (pv 1) pa_nil)))))
      (pss_one (ps_ret (pv 1))))), ?_⟩
    refine ⟨Nat.zero_le _, fun R nR => ⟨.int m, rfl, m, rfl, by omega, by omega, ?_⟩⟩
    refine for_range (lo := 0) (fun i σ H' => ∃ (p : Addr) (y : Option V) (xs : List V), σ = [some (.int m), some (.ref p), y] ∧ Same H H' ∧ H p = none ∧ H' p = some (.lst xs))
      ⟨R, none, [], rfl, same_upd nR, nR, upd_same⟩ (fun i σ H' hi hP => ?_) (fun σ H' hP => ?_)
    · obtain ⟨p, y, xs, rfl, sm, np, ep⟩ := hP
      exact ⟨.ref p, rfl, szl rfl, fun p2 n2 => ⟨p2, _, _, rfl, sm.trans (same_upd n2), sm.free n2, upd_same⟩⟩
    · obtain ⟨p, y, xs, rfl, sm, np, ep⟩ := hP
      exact ⟨.ref p, rfl, q H' p xs sm np ep⟩

/-! ### values in a changed heap -/
theorem Val.setL {K : PySem.W.Frag} {H : Hp} {v : V} {p : Addr} {xs : List V} (h : Val K H v) : Val K (upd H p (.lst xs)) v := by
  have key : ∀ a, a = p ∨ (upd H p (.lst xs)) a = H a := fun a => by
    by_cases e : a = p
    · exact .inl e
    · exact .inr (upd_ne e)
  cases h with
  | non => exact .non
  | bl b => exact .bl b
  | int i => exact .int i
  | str z h => exact .str z h
  | @lst a _ e => exact (key a).elim (fun z => .lst (xs := xs) (by rw [z, upd_same])) fun z => .lst (by rw [z]; exact e)
  | @tup a _ e => exact (key a).elim (fun z => .lst (xs := xs) (by rw [z, upd_same])) fun z => .tup (by rw [z]; exact e)
  | @dK a _ e => exact (key a).elim (fun z => .lst (xs := xs) (by rw [z, upd_same])) fun z => .dK (by rw [z]; exact e)
theorem val_at {K : PySem.W.Frag} {H : Hp} {xs : List V} (h : ∀ v ∈ xs, Val K H v) {m : Int} {n : Nat} (hn : n = xs.length) (h0 : 0 < n) : ∃ v, atI xs (m % (n : Int)) = some v ∧ Val K H v := by
  have l : 0 ≤ m % (n : Int) := Int.emod_nonneg _ (by omega)
  have u : m % (n : Int) < (n : Int) := Int.emod_lt_of_pos _ (by omega)
  obtain ⟨j, hj⟩ : ∃ j : Nat, m % (n : Int) = (j : Int) := ⟨(m % (n : Int)).toNat, by omega⟩
  have hj2 : j < xs.length := by omega
  exact ⟨xs[j], by rw [hj]; exact atI_nat (List.getElem?_eq_getElem hj2), h _ (List.getElem_mem hj2)⟩
def things0 (p1 p2 p3 p4 p5 : Addr) : List V := [.non, .bl true, .bl false, .int (-1), .int 100, .int (10 ^ (40 : Int).toNat), .str "", .str "a b", .str "Abc", .str "abcdefghijklm", .ref p1, .ref p2, .ref p3, .ref p4, .ref p5, .str "a\n"]
theorem things_val {H5 : Hp} {p1 p2 p3 p4 p5 : Addr} (v1 : Val K H5 (.ref p1)) (v2 : Val K H5 (.ref p2)) (v3 : Val K H5 (.ref p3)) (v4 : Val K H5 (.ref p4)) (v5 : Val K H5 (.ref p5)) : ∀ v ∈ things0 p1 p2 p3 p4 p5, Val K H5 v := by
  intro v hv
  simp only [things0, List.mem_cons, List.not_mem_nil, or_false] at hv
  rcases hv with rfl | rfl | rfl | rfl | rfl | rfl | rfl | rfl | rfl | rfl | rfl | rfl | rfl | rfl | rfl | rfl
  · exact .non
  · exact .bl _
  · exact .bl _
  · exact .int _
  · exact .int _
  · exact .int _
  · exact .str _ (by decide)
  · exact .str _ (by decide)
  · exact .str _ (by decide)
  · exact .str _ (by decide)
  · exact v1
  · exact v2
  · exact v3
  · exact v4
  · exact v5
  · exact .str _ (by decide)
theorem ok__law_thing {f : Addr} {fd : FuncData} (T : Txt mg) (F : Fun K "_law_thing" "_law_thing" s__law_thing f fd) (c__law_deep : Cal P w K mg base 1 "_law_deep" (sp__law_deep K) []) : FnOk P w K mg base CX0 2 f fd ["_law_digit"] (sp__law_thing K) := by
  have nd := sc__law_thing.nd
  refine F.ok sc__law_thing (fun vs H Q E h => ?_) (fun cdv A outer s H vs Q E hr h => ?_)
  · obtain ⟨m, rfl, _⟩ := h
    rfl
  · obtain ⟨m, rfl, q⟩ := h
    refine ⟨_, (pss_cons (ps_set (i := 1) nd rfl (.inl rfl) (pe_lst (pa_cons pe_non (pa_cons pe_bl (pa_cons pe_bl (pa_cons (pe_un un_neg pe_int) (pa_cons pe_int (pa_cons (pe_op op_pow pe_int pe_int) (pa_cons pe_str (pa_cons pe_str (pa_cons pe_str (pa_cons pe_str (pa_cons (pe_lst pa_nil) (pa_cons pe_dnewK (pa_cons (pe_tup pa_nil) (pa_cons (pe_lst (pa_cons pe_str pa_nil)) (pa_cons (pe_tup (pa_cons pe_str pa_nil)) (pa_cons pe_str pa_nil))))))))))))))))))
      (pss_cons (ps_expr (pe_bm PySem.F.plainAttrs_list PySem.F.slot_list_append PySem.F.type_list_append mt_append (pv 1) (pa_cons (pe_c c__law_deep hr (by decide) (by rfl) (pa_cons pe_int pa_nil)) pa_nil)))
      (pss_cons (ps_expr (pe_bm PySem.F.plainAttrs_list PySem.F.slot_list_append PySem.F.type_list_append mt_append (pv 1) (pa_cons (pe_disp (pps_cons pe_str pe_int pps_nil) (by rfl) (by rfl) (fun z => by cases z) (by decide)) pa_nil)))
      (pss_one (ps_ret (pe_ix ix_list (pv 1) (pe_op op_mod (pe_callTy call_int1 (by rfl) T.m_int (by decide +kernel) (pa_cons (pv 0) pa_nil)) (pe_callB call_len (by rfl) T.m_len (by decide +kernel) (pa_cons (pv 1) pa_nil))) (fun _ _ => rfl))))))), ?_⟩
    refine ⟨1, rfl, 10, 40, rfl, rfl, ⟨by decide, by decide, by decide⟩, szl rfl, fun p1 n1 => fun p2 n2 => ⟨szl rfl, fun p3 n3 => ⟨szl rfl, fun p4 n4 => ⟨szl rfl, fun p5 n5 => ⟨szl rfl, fun L nL => ?_⟩⟩⟩⟩⟩
    have s1 := same_upd (o := .lst []) n1
    have s2 := same_upd (o := .dK []) n2
    have s3 := same_upd (o := .tup []) n3
    have s4 := same_upd (o := .lst [.str "a"]) n4
    have s5 := same_upd (o := .tup [.str "a"]) n5
    have v1 : Val K _ (.ref p1) := Val.mono (Val.mono (Val.mono (Val.mono (.lst (H := upd H p1 (.lst [])) upd_same) s2) s3) s4) s5
    have v2 : Val K _ (.ref p2) := Val.mono (Val.mono (Val.mono (.dK (H := upd (upd H p1 (.lst [])) p2 (.dK [])) upd_same) s3) s4) s5
    have v3 : Val K _ (.ref p3) := Val.mono (Val.mono (.tup (H := upd (upd (upd H p1 (.lst [])) p2 (.dK [])) p3 (.tup [])) upd_same) s4) s5
    have v4 : Val K _ (.ref p4) := Val.mono (.lst (H := upd (upd (upd (upd H p1 (.lst [])) p2 (.dK [])) p3 (.tup [])) p4 (.lst [.str "a"])) upd_same) s5
    have v5 : Val K _ (.ref p5) := .tup (H := upd (upd (upd (upd (upd H p1 (.lst [])) p2 (.dK [])) p3 (.tup [])) p4 (.lst [.str "a"])) p5 (.tup [.str "a"])) upd_same
    have s15 : Same H _ := s1.trans (s2.trans (s3.trans (s4.trans s5)))
    generalize upd (upd (upd (upd (upd H p1 (.lst [])) p2 (.dK [])) p3 (.tup [])) p4 (.lst [.str "a"])) p5 (.tup [.str "a"]) = H5 at nL s15 v1 v2 v3 v4 v5 ⊢
    have all0 := things_val v1 v2 v3 v4 v5
    have nLH := s15.free nL
    -- things.append(deep(1980))
    refine ⟨.ref L, rfl, .inl ⟨rfl, things0 p1 p2 p3 p4 p5, .inl (.inl upd_same)⟩, 1980, rfl, (by decide), (by decide), fun H6 pd xd sd nd6 ed => ?_⟩
    have eL := sd L (.lst (things0 p1 p2 p3 p4 p5)) upd_same
    have all1 : ∀ v ∈ things0 p1 p2 p3 p4 p5, Val K H6 v := fun v hv => ((all0 v hv).mono (same_upd nL)).mono sd
    have sm6 : Same H H6 := s15.trans ((same_upd nL).trans sd)
    have l0 : (things0 p1 p2 p3 p4 p5).length = 16 := rfl
    generalize things0 p1 p2 p3 p4 p5 = xs0 at eL all1 l0
    refine ⟨L, xs0, .ref pd, rfl, rfl, eL, small (by omega), ?_⟩
    have all2 : ∀ v ∈ xs0 ++ [V.ref pd], Val K (upd H6 L (.lst (xs0 ++ [V.ref pd]))) v := fun v hv => by
      rcases List.mem_append.mp hv with hv | hv
      · exact (all1 v hv).setL
      · rw [List.mem_singleton.mp hv]
        exact (Val.lst ed).setL
    have sm7 : Same H (upd H6 L (.lst (xs0 ++ [V.ref pd]))) := same_set nLH sm6
    have eL7 : (upd H6 L (.lst (xs0 ++ [V.ref pd]))) L = some (.lst (xs0 ++ [V.ref pd])) := upd_same
    have l1 : (xs0 ++ [V.ref pd]).length = 17 := by rw [List.length_append, l0]; rfl
    generalize upd H6 L (.lst (xs0 ++ [V.ref pd])) = H7 at all2 sm7 eL7 ⊢
    generalize xs0 ++ [V.ref pd] = xs1 at all2 l1 eL7
    -- things.append({'a': 1})
    refine ⟨.ref L, rfl, .inl ⟨rfl, _, .inl (.inl eL7)⟩, fun p8 n8 => ⟨upd_same, [(Sum.inr "a", .int 1)], rfl, (by decide), ?_⟩⟩
    have e8 : upd (upd H7 p8 (.dK [])) p8 (.dK (mergeK [] [(Sum.inr "a", .int 1)])) = upd H7 p8 (.dK (mergeK [] [(Sum.inr "a", .int 1)])) := upd_upd
    rw [e8]
    have s8 := same_upd (o := .dK (mergeK [] [(Sum.inr "a", .int 1)])) n8
    refine ⟨L, xs1, .ref p8, rfl, rfl, s8 _ _ eL7, small (by omega), ?_⟩
    have all3 : ∀ v ∈ xs1 ++ [V.ref p8], Val K (upd (upd H7 p8 (.dK (mergeK [] [(Sum.inr "a", .int 1)]))) L (.lst (xs1 ++ [V.ref p8]))) v := fun v hv => by
      rcases List.mem_append.mp hv with hv | hv
      · exact ((all2 v hv).mono s8).setL
      · rw [List.mem_singleton.mp hv]
        exact (Val.dK upd_same).setL
    have l2 : (xs1 ++ [V.ref p8]).length = 18 := by rw [List.length_append, l1]; rfl
    have sm9 : Same H (upd (upd H7 p8 (.dK (mergeK [] [(Sum.inr "a", .int 1)]))) L (.lst (xs1 ++ [V.ref p8]))) := same_set nLH (sm7.trans s8)
    have eL9 : (upd (upd H7 p8 (.dK (mergeK [] [(Sum.inr "a", .int 1)]))) L (.lst (xs1 ++ [V.ref p8]))) L = some (.lst (xs1 ++ [V.ref p8])) := upd_same
    generalize upd (upd H7 p8 (.dK (mergeK [] [(Sum.inr "a", .int 1)]))) L (.lst (xs1 ++ [V.ref p8])) = H9 at all3 sm9 eL9 ⊢
    obtain ⟨v, hv, hV⟩ := val_at all3 (m := m) rfl (by omega)
    exact ⟨.ref L, rfl, .int m, rfl, .inl ⟨m, rfl, .ref L, rfl, .ref L, (xs1 ++ [V.ref p8]).length, rfl, .inl ⟨_, .inl (.inl eL9), rfl⟩, m, ((xs1 ++ [V.ref p8]).length : Int), rfl, rfl, (show (0 : Int) < ((xs1 ++ [V.ref p8]).length : Int) by omega), L, xs1 ++ [V.ref p8], m % ((xs1 ++ [V.ref p8]).length : Int), v, rfl, rfl, .inl (.inl eL9), hv, q v H9 sm9 hV⟩⟩
/-! ### texts -/
def odd : Str := "AZ09 _-`{\n"
theorem join_size : ∀ {ys : List Str}, (∀ y ∈ ys, y.cps.size = 1) → (Txt.join "" ys).cps.size ≤ ys.length := by
  intro ys
  rw [TL.join_eq]
  induction ys with
  | nil => intro _; exact Nat.le_refl _
  | cons x r ih =>
    intro h
    cases r with
    | nil => exact Nat.le_of_eq (h x List.mem_cons_self)
    | cons z r =>
      have h1 := h x List.mem_cons_self
      have h2 := ih fun y hy => h y (List.mem_cons_of_mem _ hy)
      have e : (Str.join "" (x :: z :: r)).cps.size = x.cps.size + 0 + (Str.join "" (z :: r)).cps.size := by
        show ((x.cps ++ #[]) ++ (Str.join "" (z :: r)).cps).size = _
        rw [Array.size_append, Array.size_append]; rfl
      rw [e, List.length_cons]
      omega
theorem app_size (x y : Str) : (x ++ y).cps.size = x.cps.size + y.cps.size := by
  show (x.cps ++ y.cps).size = _
  rw [Array.size_append]
def tsizes : List Int := [3, 15, 15, 10, 26, 26, 26, 26, 26, 26, 26, 26, 26, 26, 26, 26, 26, 26]
theorem ok__law_text {f : Addr} {fd : FuncData} (T : Txt mg) (F : Fun K "_law_text" "_law_text" s__law_text f fd) (c__law_row : Cal P w K mg base 2 "_law_row" (sp__law_row K) []) : FnOk P w K mg base CX0 3 f fd ["_law_cell_here"] (sp__law_text K) := by
  have nd := sc__law_text.nd
  refine F.ok sc__law_text (fun vs H Q E h => ?_) (fun cdv A outer s H vs Q E hr h => ?_)
  · obtain ⟨m, rfl, _⟩ := h
    rfl
  · obtain ⟨m, rfl, q⟩ := h
    refine ⟨_, (pss_cons (ps_set (i := 1) nd rfl (.inl rfl) (pe_c c__law_row hr (by decide) (by rfl) (pa_cons (pv 0) (pa_cons (pe_op op_cat (pe_lst (pa_cons pe_int (pa_cons pe_int (pa_cons pe_int (pa_cons pe_int pa_nil))))) (pe_op op_rep (pe_lst (pa_cons pe_int pa_nil)) pe_int)) pa_nil))))
      (pss_cons (ps_set (i := 2) nd rfl (.inl rfl) (pe_join pe_str (pe_lc (own := [("_law_digit", 4)]) (g := gName 4) (tt := tYes) rfl nd (pi_list (pe_slice sl_list (pv 1) (po_some pe_int) (po_some (pe_op op_add pe_int (pe_ix ix_list (pv 1) pe_int (fun _ _ => rfl)))))) (blkOk_by (N := ["_law_cell_here", "_law_row_here", "_law_text_here", "_law_at", "_law_digit"]) (sc := defScope s__law_text) (by decide +kernel)) (fun _ _ _ _ _ => (pg_name (i := 4) nd rfl (.inl rfl))) (fun _ _ _ _ _ => pts_nil) (fun _ _ _ _ _ => (pe_ix ix_str pe_str (pv 4) (fun _ _ => rfl))))))
      (pss_cons (ps_if (pt_cmpR op_eq (pe_ix ix_list (pv 1) pe_int (fun _ _ => rfl)) pe_int (nomark _)) (pss_cons (ps_set (i := 3) nd rfl (.inl rfl) (pe_op op_mod (pe_callTy call_int1 (by rfl) T.m_int (by decide +kernel) (pa_cons (pe_ix ix_list (pv 1) pe_int (fun _ _ => rfl)) pa_nil)) (pe_op op_add (pe_callB call_len (by rfl) T.m_len (by decide +kernel) (pa_cons (pv 2) pa_nil)) pe_int)))
      (pss_one (ps_set (i := 2) nd rfl (.inl rfl) (pe_op op_add_str (pe_op op_add_str (pe_slice sl_str (pv 2) po_none (po_some (pv 3))) (pe_ix ix_str pe_str (pe_ix ix_list (pv 1) pe_int (fun _ _ => rfl)) (fun _ _ => rfl))) (pe_slice sl_str (pv 2) (po_some (pv 3)) po_none))))) pss_nil)
      (pss_one (ps_ret (pv 2)))))), ?_⟩
    refine ⟨.int m, rfl, szl rfl, fun p1 n1 => ⟨szl rfl, fun p2 n2 => ⟨p2, 14, [.int 26], rfl, rfl, upd_same, (by decide), (by decide), smallE (Nat.le_of_ble_eq_true rfl), fun p3 n3 => ?_⟩⟩⟩
    have s1 := same_upd (o := .lst [.int 3, .int 15, .int 15, .int 10]) n1
    have s2 := same_upd (o := .lst [.int 26]) n2
    have s3 := same_upd (o := .lst (List.replicate (14 : Int).toNat [V.int 26]).flatten) n3
    refine ⟨p1, p3, [.int 3, .int 15, .int 15, .int 10], _, rfl, rfl, s3 _ _ (s2 _ _ upd_same), upd_same, smallE (Nat.le_of_ble_eq_true rfl), fun p4 n4 => ?_⟩
    refine ⟨m, p4, tsizes, rfl, .inl (.inl upd_same), (by decide), (by decide), fun H1 R rs sm nR eR hrl hb => ?_⟩
    have sH : Same H H1 := s1.trans (s2.trans (s3.trans ((same_upd n4).trans sm)))
    have hrl2 : rs.length = 18 := hrl
    have at_ : ∀ (j : Nat) (t : Int), tsizes[j]? = some t → ∃ r, (rs.map V.int)[j]? = some (.int r) ∧ 0 ≤ r ∧ r < t := fun j t e => by
      have hj : j < tsizes.length := (List.getElem?_eq_some_iff.mp e).1
      have hj2 : j < rs.length := by rw [hrl]; exact hj
      have g := List.getElem?_eq_getElem hj2
      exact ⟨rs[j], by rw [List.getElem?_map, g]; rfl, hb j _ t g e⟩
    obtain ⟨r0, g0, l0, u0⟩ := at_ 0 3 rfl
    obtain ⟨r1, g1, l1, u1⟩ := at_ 1 15 rfl
    obtain ⟨r2, g2, l2, u2⟩ := at_ 2 15 rfl
    obtain ⟨r3, g3, l3, u3⟩ := at_ 3 10 rfl
    have tail_ : ∀ (i : Nat) (x : V), (cutV (rs.map V.int) (some 4) (some (4 + r1)))[i]? = some x → ∃ r, x = .int r ∧ 0 ≤ r ∧ r < 26 := fun i x e => by
      have e1 : ((rs.map V.int).drop (HT.sIx (rs.map V.int).length 0 (some 4)))[i]? = some x := by
        unfold cutV at e
        rw [List.getElem?_take] at e
        split at e
        · exact e
        · cases e
      rw [show HT.sIx (rs.map V.int).length 0 (some 4) = min 4 (rs.map V.int).length from HT.sIx_nat _ 0 4, List.length_map, hrl2, List.getElem?_drop] at e1
      have e2 : (rs.map V.int)[4 + i]? = some x := e1
      have hi : 4 + i < (rs.map V.int).length := (List.getElem?_eq_some_iff.mp e2).1
      rw [List.length_map, hrl2] at hi
      have k14 : ∀ k : _root_.Fin 14, tsizes[4 + k.val]? = some 26 := by decide
      obtain ⟨r, g, l, u⟩ := at_ (4 + i) 26 (k14 ⟨i, by omega⟩)
      rw [g] at e2
      exact ⟨r, (Option.some.inj e2).symm, l, u⟩
    have cutl : (cutV (rs.map V.int) (some 4) (some (4 + r1))).length ≤ 18 := by
      have := cutV_length (rs.map V.int) (some 4) (some (4 + r1))
      rw [List.length_map, hrl2] at this
      exact this
    have hR : SqL K H1 R (rs.map V.int) := .inl (.inl eR)
    have gi : ∀ {j : Nat} {v : V}, (rs.map V.int)[j]? = some v → atI (rs.map V.int) (j : Int) = some v := fun h => atI_nat h
    -- the text
    refine ⟨⟨_, rfl⟩, .ref R, rfl, 4, rfl, .ref R, rfl, R, rs.map V.int, 1, .int r1, rfl, rfl, hR, gi g1, 4, r1, rfl, rfl, 4 + r1, rfl, R, rs.map V.int, rfl, hR, fun c nc => ?_⟩
    have s5 := same_upd (o := .lst (cutV (rs.map V.int) (some 4) (some (4 + r1)))) nc
    have eC := upd_same (H := H1) (a := c) (o := .lst (cutV (rs.map V.int) (some 4) (some (4 + r1))))
    generalize cutV (rs.map V.int) (some 4) (some (4 + r1)) = cs at tail_ cutl s5 eC ⊢
    generalize upd H1 c (.lst cs) = H2 at s5 eC ⊢
    refine ⟨c, rfl, ⟨_, .inl (.inl eC)⟩, fun D nD => lc_list (K := K) (a := c) (xs := cs) (fun i H' => Same H2 H' ∧ ∃ ys : List Str, H' D = some (.lst (ys.map V.str)) ∧ ys.length = i ∧ ∀ y ∈ ys, y.cps.size = 1)
      ⟨same_upd nD, [], upd_same, rfl, fun y hy => nomatch hy⟩ (fun i H' _ hP => hP.1.seq (.inl (.inl eC))) (fun i x H' hx hP => ?_) (fun H' hP => ?_)⟩
    · obtain ⟨sm', ys, eD, hl, h1⟩ := hP
      obtain ⟨r, rfl, l, u⟩ := tail_ i x hx
      have hi : i < cs.length := (List.getElem?_eq_some_iff.mp hx).1
      obtain ⟨j, rfl⟩ : ∃ j : Nat, r = (j : Int) := ⟨r.toNat, by omega⟩
      have hj : j < letters.cps.toList.length := by
        have : letters.cps.toList.length = 26 := by decide
        omega
      refine ⟨rfl, ?_⟩
      refine ⟨.int j, rfl, letters, (j : Int), letters.cps.toList[j], rfl, rfl, smallE (by decide), atI_nat (List.getElem?_eq_getElem hj), ys.map V.str, eD, ?_, same_set nD sm', ys ++ [⟨#[letters.cps.toList[j]]⟩], ?_, ?_, ?_⟩
      · rw [List.length_map]; exact small (by omega)
      · rw [upd_same, List.map_append]; rfl
      · rw [List.length_append, hl]; rfl
      · intro y hy
        rcases List.mem_append.mp hy with hy | hy
        · exact h1 y hy
        · rw [List.mem_singleton.mp hy]; rfl
    · obtain ⟨sm', ys, eD, hl, h1⟩ := hP
      have hz := join_size h1
      have hs : (ys.map (·.length)).sum + ys.length * ("" : Str).length ≤ 16777216 := by
        have e1 : ∀ zs : List Str, (∀ y ∈ zs, y.cps.size = 1) → (zs.map (·.length)).sum = zs.length := by
          intro zs
          induction zs with
          | nil => intro _; rfl
          | cons x r ih =>
            intro h
            rw [List.map_cons, List.sum_cons, ih fun y hy => h y (List.mem_cons_of_mem _ hy), List.length_cons]
            have : x.length = 1 := h x List.mem_cons_self
            omega
        rw [e1 ys h1]
        have : ("" : Str).length = 0 := rfl
        rw [this]
        omega
      have sH2 : Same H H' := sH.trans (s5.trans sm')
      have eR' : SqL K H' R (rs.map V.int) := (s5.trans sm').seq hR
      refine ⟨"", D, ys, rfl, rfl, .inl (.inl (.inl eD)), hs, ?_⟩
      generalize Txt.join "" ys = z at hz ⊢
      have hz2 : z.cps.size ≤ 18 := by omega
      refine ⟨.ref R, rfl, R, rs.map V.int, 0, .int r0, rfl, rfl, eR', gi g0, rfl, _, rfl, ite2 (fun e => ?_) (fun e => ?_)⟩
      · refine ⟨.ref R, rfl, R, rs.map V.int, 2, .int r2, rfl, rfl, eR', gi g2, .inl ⟨r2, rfl, .str z, rfl, .str z, z.cps.size, rfl, ⟨smallE (show z.cps.size ≤ 100000 by omega), rfl⟩, (z.cps.size : Int), 1, rfl, rfl, r2, (z.cps.size : Int) + 1, rfl, rfl, (show (0 : Int) < (z.cps.size : Int) + 1 by omega), ?_⟩⟩
        have hz3 : z.length ≤ sizeLine := smallE (show z.cps.size ≤ 100000 by omega)
        obtain ⟨j, rfl⟩ : ∃ j : Nat, r3 = (j : Int) := ⟨r3.toNat, by omega⟩
        have hj : j < odd.cps.toList.length := by
          have : odd.cps.toList.length = 10 := by decide
          omega
        have cl : ∀ lo hi, (cutS z lo hi).cps.size ≤ 18 := fun lo hi => Nat.le_trans (cutS_length z lo hi) hz2
        refine ⟨.str z, rfl, _, rfl, _, rfl, z, rfl, hz3, .ref R, rfl, R, rs.map V.int, 3, .int j, rfl, rfl, eR', gi g3, odd, (j : Int), odd.cps.toList[j], rfl, rfl, smallE (by decide), atI_nat (List.getElem?_eq_getElem hj), _, _, rfl, rfl, ?_, .str z, rfl, _, rfl, _, rfl, z, rfl, hz3, _, _, rfl, rfl, ?_, .str _, rfl, q _ H' sH2 ?_⟩
        · refine smallE ?_
          have := cl none (some (r2 % ((z.cps.size : Int) + 1)))
          show (cutS z none _).cps.size + 1 ≤ 100000
          omega
        · refine smallE ?_
          have h1 := cl none (some (r2 % ((z.cps.size : Int) + 1)))
          have h2 := cl (some (r2 % ((z.cps.size : Int) + 1))) none
          show ((cutS z none _) ++ (⟨#[_]⟩ : Str)).cps.size + (cutS z _ none).cps.size ≤ 100000
          rw [app_size]
          show (cutS z none _).cps.size + 1 + _ ≤ _
          omega
        · have h1 := cl none (some (r2 % ((z.cps.size : Int) + 1)))
          have h2 := cl (some (r2 % ((z.cps.size : Int) + 1))) none
          rw [app_size, app_size]
          show (cutS z none _).cps.size + 1 + _ ≤ _
          omega
      · exact ⟨.str z, rfl, q z H' sH2 (by omega)⟩
theorem ok_law {f : Addr} {fd : FuncData} (T : Txt mg) (F : Fun K "law" "law" s_law f fd) (c__law_cell : Cal P w K mg base 2 "_law_cell" (sp__law_cell K) []) (c__law_text : Cal P w K mg base 3 "_law_text" (sp__law_text K) []) (c__law_thing : Cal P w K mg base 2 "_law_thing" (sp__law_thing K) []) (c__law_mix : Cal P w K mg base 1 "_law_mix" (sp__law_mix K) []) (c__law_flag : Cal P w K mg base 1 "_law_flag" (sp__law_flag K) []) (c_is_name : Cal P w K mg base 1 "is_name" (sp_is_name K) []) (c__law_is_name : Cal P w K mg base 1 "_law_is_name" (sp__law_is_name K) []) (c_is_state : Cal P w K mg base 2 "is_state" (sp_is_state K) []) (c__law_is_state : Cal P w K mg base 2 "_law_is_state" (sp__law_is_state K) []) : FnOk P w K mg base CX0 4 f fd ["_law_script"] (sp_law K) := by
  have nd := sc_law.nd
  refine F.ok sc_law (fun vs H Q E h => ?_) (fun cdv A outer s H vs Q E hr h => ?_)
  · obtain ⟨a, ns, rfl, _⟩ := h
    rfl
  · obtain ⟨a, ns, rfl, hS, hlen, q⟩ := h
    refine ⟨_, (pss_cons (ps_for PassesOwn.never rfl (pi_range1 (by rfl) T.m_range (pa_cons pe_int pa_nil)) (pg_name (i := 1) nd rfl (.inl rfl)) (pss_cons (ps_set (i := 2) nd rfl (.inl rfl) (pe_c c__law_cell hr (by decide) (by rfl) (pa_cons (pv 0) (pa_cons (pv 1) pa_nil))))
      (pss_cons (ps_set (i := 3) nd rfl (.inl rfl) (pe_op op_sub (pe_op op_mod (pe_callTy call_int1 (by rfl) T.m_int (by decide +kernel) (pa_cons (pv 2) pa_nil)) pe_int) pe_int))
      (pss_cons (ps_set (i := 4) nd rfl (.inl rfl) (pe_op op_sub (pe_op op_mod (pe_callTy call_int1 (by rfl) T.m_int (by decide +kernel) (pa_cons (pv 2) pa_nil)) (pe_op op_add (pe_op op_mul pe_int (pe_op op_pow pe_int pe_int)) pe_int)) (pe_op op_pow pe_int pe_int)))
      (pss_one (ps_for PassesOwn.never rfl (pi_list (pe_lst (pa_cons (pe_c c__law_text hr (by decide) (by rfl) (pa_cons (pv 2) pa_nil)) (pa_cons (pv 3) (pa_cons (pv 4) (pa_cons (pe_c c__law_thing hr (by decide) (by rfl) (pa_cons (pe_op op_mod (pe_callTy call_int1 (by rfl) T.m_int (by decide +kernel) (pa_cons (pv 2) pa_nil)) pe_int) pa_nil)) (pa_cons (pe_c c__law_thing hr (by decide) (by rfl) (pa_cons (pe_c c__law_mix hr (by decide) (by rfl) (pa_cons (pv 2) (pa_cons pe_int pa_nil))) pa_nil)) pa_nil))))))) (pg_name (i := 5) nd rfl (.inl rfl)) (pss_cons (ps_if (pt_not (pt_val (pe_c c__law_flag hr (by decide) (by rfl) (pa_cons (pe_c c_is_name hr (by decide) (by rfl) (pa_cons (pv 5) pa_nil)) (pa_cons (pe_c c__law_is_name hr (by decide) (by rfl) (pa_cons (pv 5) pa_nil)) pa_nil))))) (pss_one (ps_ret pe_bl)) pss_nil)
      (pss_one (ps_if (pt_not (pt_val (pe_c c__law_flag hr (by decide) (by rfl) (pa_cons (pe_c c_is_state hr (by decide) (by rfl) (pa_cons (pv 5) pa_nil)) (pa_cons (pe_c c__law_is_state hr (by decide) (by rfl) (pa_cons (pv 5) pa_nil)) pa_nil))))) (pss_one (ps_ret pe_bl)) pss_nil)))))))))
      (pss_one (ps_ret pe_bl))), ?_⟩
    refine ⟨6, rfl, (by decide), (by decide), for_range (lo := 0) (fun i σ H' => ∃ y1 y2 y3 y4 y5 : Option V, σ = [some (.ref a), y1, y2, y3, y4, y5] ∧ Same H H') ⟨none, none, none, none, none, rfl, Same.refl H⟩ (fun i σ H' hi hP => ?_) (fun σ H' hP => ?_)⟩
    · obtain ⟨y1, y2, y3, y4, y5, rfl, sm⟩ := hP
      refine ⟨.ref a, rfl, .int (0 + (i : Int)), rfl, a, ns, i, (by rw [Int.zero_add]; rfl), sm.seq hS, fun c => ?_⟩
      refine ⟨.int c, rfl, .inl ⟨c, rfl, c, 140, rfl, rfl, (show (0 : Int) < 140 by decide), _, 20, rfl, rfl, ?_⟩⟩
      refine ⟨.int c, rfl, .inl ⟨c, rfl, 10, 40, rfl, rfl, ⟨by decide, by decide, by decide⟩, 2, _, rfl, rfl, .inl ⟨by decide, by decide⟩, _, 1, rfl, rfl, c, _, rfl, rfl, (show (0 : Int) < 2 * 10 ^ (40 : Int).toNat + 1 by decide), 10, 40, rfl, rfl, ⟨by decide, by decide, by decide⟩, _, _, rfl, rfl, ?_⟩⟩
      refine ⟨.int c, rfl, c, rfl, fun z H1 s1 hz => ⟨_, rfl, _, rfl, .int c, rfl, .inl ⟨c, rfl, c, 18, rfl, rfl, (show (0 : Int) < 18 by decide), _, rfl, fun v4 H2 s2 hv4 => ⟨.int c, rfl, c, 3, rfl, fun r _ _ => ⟨r, rfl, fun v5 H3 s3 hv5 => ⟨szl rfl, fun L nL => ?_⟩⟩⟩⟩⟩⟩
      have vz : Val K H1 (.str z) := .str z hz
      have all0 : ∀ sm gr : Int, ∀ v ∈ ([.str z, .int sm, .int gr, v4, v5] : List V), Val K H3 v := fun sm gr v hv => by
        simp only [List.mem_cons, List.not_mem_nil, or_false] at hv
        rcases hv with rfl | rfl | rfl | rfl | rfl
        · exact (vz.mono s2).mono s3
        · exact .int _
        · exact .int _
        · exact hv4.mono s3
        · exact hv5
      have all1 := fun v hv => (all0 (c % 140 - 20) (c % (2 * 10 ^ (40 : Int).toNat + 1) - 10 ^ (40 : Int).toNat) v hv).mono (same_upd (o := .lst [.str z, .int (c % 140 - 20), .int (c % (2 * 10 ^ (40 : Int).toNat + 1) - 10 ^ (40 : Int).toNat), v4, v5]) nL)
      have s4 : Same H _ := sm.trans (s1.trans (s2.trans (s3.trans (same_upd (o := .lst [.str z, .int (c % 140 - 20), .int (c % (2 * 10 ^ (40 : Int).toNat + 1) - 10 ^ (40 : Int).toNat), v4, v5]) nL))))
      have eL := upd_same (H := H3) (a := L) (o := .lst [.str z, .int (c % 140 - 20), .int (c % (2 * 10 ^ (40 : Int).toNat + 1) - 10 ^ (40 : Int).toNat), v4, v5])
      refine ⟨L, rfl, ⟨_, .inl (.inl upd_same)⟩, ?_⟩
      refine for_list (K := K) (a := L) (xs := [.str z, .int (c % 140 - 20), .int (c % (2 * 10 ^ (40 : Int).toNat + 1) - 10 ^ (40 : Int).toNat), v4, v5]) (fun _ σ H' => (∃ y1 y2 y3 y4 y5 : Option V, σ = [some (.ref a), y1, y2, y3, y4, y5]) ∧ Same (upd H3 L (.lst [.str z, .int (c % 140 - 20), .int (c % (2 * 10 ^ (40 : Int).toNat + 1) - 10 ^ (40 : Int).toNat), v4, v5])) H')
        ⟨⟨_, _, _, _, _, rfl⟩, Same.refl _⟩ (fun j σ H' _ hP => hP.2.seq (.inl (.inl eL))) (fun j x σ H' hx hP => ?_) (fun σ H' hP => ?_)
      · obtain ⟨⟨z1, z2, z3, z4, z5, rfl⟩, sm'⟩ := hP
        have hV : Val K H' x := (all1 x (List.mem_of_getElem? hx)).mono sm'
        refine ⟨x, rfl, x, rfl, hV, fun H5 s5 => ⟨x, rfl, x, rfl, hV.mono s5, fun H6 s6 => ⟨nameB x, nameB x, rfl, _, rfl, iteNS rfl ?_⟩⟩⟩
        have hV6 := (hV.mono s5).mono s6
        refine ⟨x, rfl, x, rfl, hV6, fun H7 s7 => ⟨x, rfl, x, rfl, hV6.mono s7, fun H8 s8 => ⟨stateB x, stateB x, rfl, _, rfl, iteNS rfl ?_⟩⟩⟩
        exact ⟨⟨_, _, _, _, _, rfl⟩, sm'.trans (s5.trans (s6.trans (s7.trans s8)))⟩
      · obtain ⟨⟨z1, z2, z3, z4, z5, rfl⟩, sm'⟩ := hP
        exact ⟨z1, z2, z3, z4, z5, rfl, s4.trans sm'⟩
    · obtain ⟨y1, y2, y3, y4, y5, rfl, sm⟩ := hP
      exact q H'
end
theorem all_mk {l : PySem.W.OpenLaw} {w : World} {K : PySem.W.Frag} {h : Heap} {mg : Str → Option Value} {fa : Addr} (X : K.In h) (G : h.Ns mainGlobals mg) (hfa : mg "law" = some (.ref fa))
    {od0 an0 : Option Addr} {sl0 : Array (Option Value)} {oc0 kV0 dc0 pm0 cd0 ct0 : Value} {f0 : Addr}
    {od1 an1 : Option Addr} {sl1 : Array (Option Value)} {oc1 kV1 dc1 pm1 cd1 ct1 : Value} {f1 : Addr}
    {od2 an2 : Option Addr} {sl2 : Array (Option Value)} {oc2 kV2 dc2 pm2 cd2 ct2 : Value} {f2 : Addr}
    {od3 an3 : Option Addr} {sl3 : Array (Option Value)} {oc3 kV3 dc3 pm3 cd3 ct3 : Value} {f3 : Addr}
    {od4 an4 : Option Addr} {sl4 : Array (Option Value)} {oc4 kV4 dc4 pm4 cd4 ct4 : Value} {f4 : Addr}
    {od5 an5 : Option Addr} {sl5 : Array (Option Value)} {oc5 kV5 dc5 pm5 cd5 ct5 : Value} {f5 : Addr}
    {od6 an6 : Option Addr} {sl6 : Array (Option Value)} {oc6 kV6 dc6 pm6 cd6 ct6 : Value} {f6 : Addr}
    {od7 an7 : Option Addr} {sl7 : Array (Option Value)} {oc7 kV7 dc7 pm7 cd7 ct7 : Value} {f7 : Addr}
    {od8 an8 : Option Addr} {sl8 : Array (Option Value)} {oc8 kV8 dc8 pm8 cd8 ct8 : Value} {f8 : Addr}
    {od9 an9 : Option Addr} {sl9 : Array (Option Value)} {oc9 kV9 dc9 pm9 cd9 ct9 : Value} {f9 : Addr}
    {od10 an10 : Option Addr} {sl10 : Array (Option Value)} {oc10 kV10 dc10 pm10 cd10 ct10 : Value} {f10 : Addr}
    {od11 an11 : Option Addr} {sl11 : Array (Option Value)} {oc11 kV11 dc11 pm11 cd11 ct11 : Value} {f11 : Addr}
    {od12 an12 : Option Addr} {sl12 : Array (Option Value)} {oc12 kV12 dc12 pm12 cd12 ct12 : Value} {f12 : Addr}
    {od13 an13 : Option Addr} {sl13 : Array (Option Value)} {oc13 kV13 dc13 pm13 cd13 ct13 : Value} {f13 : Addr}
    (a0 : PySem.W.nsIn K mainGlobals "_law_mix" = some (some (.ref f0))) (l0 : K.lookup f0 = some ⟨oc0, od0, .func (PySem.W.fnOf "_law_mix" "_law_mix" (defArgs s__law_mix) (defBody s__law_mix) (defScope s__law_mix) .none kV0 dc0 pm0 an0 cd0 ct0), sl0⟩) (d0 : PySem.W.codeIn K cd0 "_law_mix" = true) (k0 : PySem.W.keepIn K (.ref f0) = true)
    (a1 : PySem.W.nsIn K mainGlobals "_law_cell" = some (some (.ref f1))) (l1 : K.lookup f1 = some ⟨oc1, od1, .func (PySem.W.fnOf "_law_cell" "_law_cell" (defArgs s__law_cell) (defBody s__law_cell) (defScope s__law_cell) .none kV1 dc1 pm1 an1 cd1 ct1), sl1⟩) (d1 : PySem.W.codeIn K cd1 "_law_cell" = true) (k1 : PySem.W.keepIn K (.ref f1) = true)
    (a2 : PySem.W.nsIn K mainGlobals "_law_row" = some (some (.ref f2))) (l2 : K.lookup f2 = some ⟨oc2, od2, .func (PySem.W.fnOf "_law_row" "_law_row" (defArgs s__law_row) (defBody s__law_row) (defScope s__law_row) .none kV2 dc2 pm2 an2 cd2 ct2), sl2⟩) (d2 : PySem.W.codeIn K cd2 "_law_row" = true) (k2 : PySem.W.keepIn K (.ref f2) = true)
    (a3 : PySem.W.nsIn K mainGlobals "_law_text" = some (some (.ref f3))) (l3 : K.lookup f3 = some ⟨oc3, od3, .func (PySem.W.fnOf "_law_text" "_law_text" (defArgs s__law_text) (defBody s__law_text) (defScope s__law_text) .none kV3 dc3 pm3 an3 cd3 ct3), sl3⟩) (d3 : PySem.W.codeIn K cd3 "_law_text" = true) (k3 : PySem.W.keepIn K (.ref f3) = true)
    (a4 : PySem.W.nsIn K mainGlobals "_law_deep" = some (some (.ref f4))) (l4 : K.lookup f4 = some ⟨oc4, od4, .func (PySem.W.fnOf "_law_deep" "_law_deep" (defArgs s__law_deep) (defBody s__law_deep) (defScope s__law_deep) .none kV4 dc4 pm4 an4 cd4 ct4), sl4⟩) (d4 : PySem.W.codeIn K cd4 "_law_deep" = true) (k4 : PySem.W.keepIn K (.ref f4) = true)
    (a5 : PySem.W.nsIn K mainGlobals "_law_thing" = some (some (.ref f5))) (l5 : K.lookup f5 = some ⟨oc5, od5, .func (PySem.W.fnOf "_law_thing" "_law_thing" (defArgs s__law_thing) (defBody s__law_thing) (defScope s__law_thing) .none kV5 dc5 pm5 an5 cd5 ct5), sl5⟩) (d5 : PySem.W.codeIn K cd5 "_law_thing" = true) (k5 : PySem.W.keepIn K (.ref f5) = true)
    (a6 : PySem.W.nsIn K mainGlobals "_law_flag" = some (some (.ref f6))) (l6 : K.lookup f6 = some ⟨oc6, od6, .func (PySem.W.fnOf "_law_flag" "_law_flag" (defArgs s__law_flag) (defBody s__law_flag) (defScope s__law_flag) .none kV6 dc6 pm6 an6 cd6 ct6), sl6⟩) (d6 : PySem.W.codeIn K cd6 "_law_flag" = true) (k6 : PySem.W.keepIn K (.ref f6) = true)
    (a7 : PySem.W.nsIn K mainGlobals "is_name" = some (some (.ref f7))) (l7 : K.lookup f7 = some ⟨oc7, od7, .func (PySem.W.fnOf "is_name" "is_name" (defArgs s_is_name) (defBody s_is_name) (defScope s_is_name) .none kV7 dc7 pm7 an7 cd7 ct7), sl7⟩) (d7 : PySem.W.codeIn K cd7 "is_name" = true) (k7 : PySem.W.keepIn K (.ref f7) = true)
    (a8 : PySem.W.nsIn K mainGlobals "_law_is_name" = some (some (.ref f8))) (l8 : K.lookup f8 = some ⟨oc8, od8, .func (PySem.W.fnOf "_law_is_name" "_law_is_name" (defArgs s__law_is_name) (defBody s__law_is_name) (defScope s__law_is_name) .none kV8 dc8 pm8 an8 cd8 ct8), sl8⟩) (d8 : PySem.W.codeIn K cd8 "_law_is_name" = true) (k8 : PySem.W.keepIn K (.ref f8) = true)
    (a9 : PySem.W.nsIn K mainGlobals "is_whole" = some (some (.ref f9))) (l9 : K.lookup f9 = some ⟨oc9, od9, .func (PySem.W.fnOf "is_whole" "is_whole" (defArgs s_is_whole) (defBody s_is_whole) (defScope s_is_whole) .none kV9 dc9 pm9 an9 cd9 ct9), sl9⟩) (d9 : PySem.W.codeIn K cd9 "is_whole" = true) (k9 : PySem.W.keepIn K (.ref f9) = true)
    (a10 : PySem.W.nsIn K mainGlobals "is_state" = some (some (.ref f10))) (l10 : K.lookup f10 = some ⟨oc10, od10, .func (PySem.W.fnOf "is_state" "is_state" (defArgs s_is_state) (defBody s_is_state) (defScope s_is_state) .none kV10 dc10 pm10 an10 cd10 ct10), sl10⟩) (d10 : PySem.W.codeIn K cd10 "is_state" = true) (k10 : PySem.W.keepIn K (.ref f10) = true)
    (a11 : PySem.W.nsIn K mainGlobals "_law_is_integer" = some (some (.ref f11))) (l11 : K.lookup f11 = some ⟨oc11, od11, .func (PySem.W.fnOf "_law_is_integer" "_law_is_integer" (defArgs s__law_is_integer) (defBody s__law_is_integer) (defScope s__law_is_integer) .none kV11 dc11 pm11 an11 cd11 ct11), sl11⟩) (d11 : PySem.W.codeIn K cd11 "_law_is_integer" = true) (k11 : PySem.W.keepIn K (.ref f11) = true)
    (a12 : PySem.W.nsIn K mainGlobals "_law_is_state" = some (some (.ref f12))) (l12 : K.lookup f12 = some ⟨oc12, od12, .func (PySem.W.fnOf "_law_is_state" "_law_is_state" (defArgs s__law_is_state) (defBody s__law_is_state) (defScope s__law_is_state) .none kV12 dc12 pm12 an12 cd12 ct12), sl12⟩) (d12 : PySem.W.codeIn K cd12 "_law_is_state" = true) (k12 : PySem.W.keepIn K (.ref f12) = true)
    (a13 : PySem.W.nsIn K mainGlobals "law" = some (some (.ref f13))) (l13 : K.lookup f13 = some ⟨oc13, od13, .func (PySem.W.fnOf "law" "law" (defArgs s_law) (defBody s_law) (defScope s_law) .none kV13 dc13 pm13 an13 cd13 ct13), sl13⟩) (d13 : PySem.W.codeIn K cd13 "law" = true) (k13 : PySem.W.keepIn K (.ref f13) = true)
    (z_all : PySem.W.nsIn K mainGlobals "all" = some none)
    (z_bool : PySem.W.nsIn K mainGlobals "bool" = some none)
    (z_int : PySem.W.nsIn K mainGlobals "int" = some none)
    (z_isinstance : PySem.W.nsIn K mainGlobals "isinstance" = some none)
    (z_len : PySem.W.nsIn K mainGlobals "len" = some none)
    (z_range : PySem.W.nsIn K mainGlobals "range" = some none)
    (z_str : PySem.W.nsIn K mainGlobals "str" = some none)
    {u_LONGEST_NAME : Value} (g_LONGEST_NAME : PySem.W.nsIn K mainGlobals "LONGEST_NAME" = some (some u_LONGEST_NAME)) (r_LONGEST_NAME : RelV (.int 12) u_LONGEST_NAME)
    {u_LETTERS : Value} (g_LETTERS : PySem.W.nsIn K mainGlobals "LETTERS" = some (some u_LETTERS)) (r_LETTERS : RelV (.str "abcdefghijklmnopqrstuvwxyz") u_LETTERS)
    {u_GREATEST_STATE : Value} (g_GREATEST_STATE : PySem.W.nsIn K mainGlobals "GREATEST_STATE" = some (some u_GREATEST_STATE)) (r_GREATEST_STATE : RelV (.int 99) u_GREATEST_STATE) :
    ∃ fd : FuncData, (∀ (s : Shared) (v : Value), BindsTo s fd ⟨[v], []⟩ [("_law_script", v)]) ∧ ∀ base : Heap, K.In base → base.Ns mainGlobals mg → FnOk l.prog w K mg base CX0 4 fa fd ["_law_script"] (sp_law K) := by
  have e := hfa.symm.trans (PySem.W.mg_of X G a13)
  cases e
  have T : Txt mg := ⟨PySem.W.mg_none_of X G z_all, PySem.W.mg_none_of X G z_bool, PySem.W.mg_none_of X G z_int, PySem.W.mg_none_of X G z_isinstance, PySem.W.mg_none_of X G z_len, PySem.W.mg_none_of X G z_range, PySem.W.mg_none_of X G z_str, ⟨_, PySem.W.mg_of X G g_LONGEST_NAME, r_LONGEST_NAME⟩, ⟨_, PySem.W.mg_of X G g_LETTERS, r_LETTERS⟩, ⟨_, PySem.W.mg_of X G g_GREATEST_STATE, r_GREATEST_STATE⟩⟩
  have F0 := fun_mk (st := s__law_mix) l0 d0 k0
  have b0 := L2.Fun.binds F0 (ps := ["_law_cell_here", "_law_k"]) fun _ _ _ _ _ _ us hl => match us, hl with | [_, _], _ => rfl
  have F1 := fun_mk (st := s__law_cell) l1 d1 k1
  have b1 := L2.Fun.binds F1 (ps := ["_law_script", "_law_k"]) fun _ _ _ _ _ _ us hl => match us, hl with | [_, _], _ => rfl
  have F2 := fun_mk (st := s__law_row) l2 d2 k2
  have b2 := L2.Fun.binds F2 (ps := ["_law_cell_here", "_law_sizes"]) fun _ _ _ _ _ _ us hl => match us, hl with | [_, _], _ => rfl
  have F3 := fun_mk (st := s__law_text) l3 d3 k3
  have b3 := L2.Fun.binds F3 (ps := ["_law_cell_here"]) fun _ _ _ _ _ _ us hl => match us, hl with | [_], _ => rfl
  have F4 := fun_mk (st := s__law_deep) l4 d4 k4
  have b4 := L2.Fun.binds F4 (ps := ["_law_many"]) fun _ _ _ _ _ _ us hl => match us, hl with | [_], _ => rfl
  have F5 := fun_mk (st := s__law_thing) l5 d5 k5
  have b5 := L2.Fun.binds F5 (ps := ["_law_digit"]) fun _ _ _ _ _ _ us hl => match us, hl with | [_], _ => rfl
  have F6 := fun_mk (st := s__law_flag) l6 d6 k6
  have b6 := L2.Fun.binds F6 (ps := ["_law_told", "_law_due"]) fun _ _ _ _ _ _ us hl => match us, hl with | [_, _], _ => rfl
  have F7 := fun_mk (st := s_is_name) l7 d7 k7
  have b7 := L2.Fun.binds F7 (ps := ["value"]) fun _ _ _ _ _ _ us hl => match us, hl with | [_], _ => rfl
  have F8 := fun_mk (st := s__law_is_name) l8 d8 k8
  have b8 := L2.Fun.binds F8 (ps := ["_law_thing_here"]) fun _ _ _ _ _ _ us hl => match us, hl with | [_], _ => rfl
  have F9 := fun_mk (st := s_is_whole) l9 d9 k9
  have b9 := L2.Fun.binds F9 (ps := ["value"]) fun _ _ _ _ _ _ us hl => match us, hl with | [_], _ => rfl
  have F10 := fun_mk (st := s_is_state) l10 d10 k10
  have b10 := L2.Fun.binds F10 (ps := ["value"]) fun _ _ _ _ _ _ us hl => match us, hl with | [_], _ => rfl
  have F11 := fun_mk (st := s__law_is_integer) l11 d11 k11
  have b11 := L2.Fun.binds F11 (ps := ["_law_thing_here"]) fun _ _ _ _ _ _ us hl => match us, hl with | [_], _ => rfl
  have F12 := fun_mk (st := s__law_is_state) l12 d12 k12
  have b12 := L2.Fun.binds F12 (ps := ["_law_thing_here"]) fun _ _ _ _ _ _ us hl => match us, hl with | [_], _ => rfl
  have F13 := fun_mk (st := s_law) l13 d13 k13
  refine ⟨PySem.W.fnOf "law" "law" (defArgs s_law) (defBody s_law) (defScope s_law) .none kV13 dc13 pm13 an13 cd13 ct13, fun s v => .of_eq rfl, fun base _ _ => ?_⟩
  have c__law_mix : Cal l.prog w K mg base 1 "_law_mix" (sp__law_mix K) [] := ⟨_, _, _, _, ok__law_mix T F0 , PySem.W.mg_of X G a0, F0.kp, b0, .nil⟩
  have c__law_cell : Cal l.prog w K mg base 2 "_law_cell" (sp__law_cell K) [] := ⟨_, _, _, _, ok__law_cell T F1 c__law_mix, PySem.W.mg_of X G a1, F1.kp, b1, .nil⟩
  have c__law_row : Cal l.prog w K mg base 2 "_law_row" (sp__law_row K) [] := ⟨_, _, _, _, ok__law_row T F2 c__law_mix, PySem.W.mg_of X G a2, F2.kp, b2, .nil⟩
  have c__law_text : Cal l.prog w K mg base 3 "_law_text" (sp__law_text K) [] := ⟨_, _, _, _, ok__law_text T F3 c__law_row, PySem.W.mg_of X G a3, F3.kp, b3, .nil⟩
  have c__law_deep : Cal l.prog w K mg base 1 "_law_deep" (sp__law_deep K) [] := ⟨_, _, _, _, ok__law_deep T F4 , PySem.W.mg_of X G a4, F4.kp, b4, .nil⟩
  have c__law_thing : Cal l.prog w K mg base 2 "_law_thing" (sp__law_thing K) [] := ⟨_, _, _, _, ok__law_thing T F5 c__law_deep, PySem.W.mg_of X G a5, F5.kp, b5, .nil⟩
  have c__law_flag : Cal l.prog w K mg base 1 "_law_flag" (sp__law_flag K) [] := ⟨_, _, _, _, ok__law_flag T F6 , PySem.W.mg_of X G a6, F6.kp, b6, .nil⟩
  have c_is_name : Cal l.prog w K mg base 1 "is_name" (sp_is_name K) [] := ⟨_, _, _, _, ok_is_name T F7 , PySem.W.mg_of X G a7, F7.kp, b7, .nil⟩
  have c__law_is_name : Cal l.prog w K mg base 1 "_law_is_name" (sp__law_is_name K) [] := ⟨_, _, _, _, ok__law_is_name T F8 , PySem.W.mg_of X G a8, F8.kp, b8, .nil⟩
  have c_is_whole : Cal l.prog w K mg base 1 "is_whole" (sp_is_whole K) [] := ⟨_, _, _, _, ok_is_whole T F9 , PySem.W.mg_of X G a9, F9.kp, b9, .nil⟩
  have c_is_state : Cal l.prog w K mg base 2 "is_state" (sp_is_state K) [] := ⟨_, _, _, _, ok_is_state T F10 c_is_whole, PySem.W.mg_of X G a10, F10.kp, b10, .nil⟩
  have c__law_is_integer : Cal l.prog w K mg base 1 "_law_is_integer" (sp__law_is_integer K) [] := ⟨_, _, _, _, ok__law_is_integer T F11 , PySem.W.mg_of X G a11, F11.kp, b11, .nil⟩
  have c__law_is_state : Cal l.prog w K mg base 2 "_law_is_state" (sp__law_is_state K) [] := ⟨_, _, _, _, ok__law_is_state T F12 c__law_is_integer, PySem.W.mg_of X G a12, F12.kp, b12, .nil⟩
  exact ok_law T F13 c__law_cell c__law_text c__law_thing c__law_mix c__law_flag c_is_name c__law_is_name c_is_state c__law_is_state
end Kn
open PySem PySem.W PyProof.Rows
set_option maxHeartbeats 0 in
theorem PySem.Challenge.cw_knownlate_k01_names_and_states_holds : PySem.Challenge.rw_knownlate_k01_names_and_states.Holds := by
  w_on; o_law; k_head; (case hw => w_witness2)
  k_fill
  refine L2.walk_of (l := PySem.Challenge.rw_knownlate_k01_names_and_states) (n := 63) (k := 4) (x := "_law_script") (CX := fun _ => L2.CX0) (sp := fun w => Kn.sp_law _) rfl (by decide) rfl ⟨rfl, by decide, by decide⟩ (fun w h Y => PySem.W.kIn_of Y) ?F (fun _ _ a ns hl _ hS => ⟨a, ns, rfl, hS, hl, fun _ => rfl⟩) (fun _ _ _ _ _ h => h)
  case F =>
    intro w mg fa h KX G hmg
    refine' Kn.all_mk KX G hmg ?a0 ?l0 ?d0 ?k0 ?a1 ?l1 ?d1 ?k1 ?a2 ?l2 ?d2 ?k2 ?a3 ?l3 ?d3 ?k3 ?a4 ?l4 ?d4 ?k4 ?a5 ?l5 ?d5 ?k5 ?a6 ?l6 ?d6 ?k6 ?a7 ?l7 ?d7 ?k7 ?a8 ?l8 ?d8 ?k8 ?a9 ?l9 ?d9 ?k9 ?a10 ?l10 ?d10 ?k10 ?a11 ?l11 ?d11 ?k11 ?a12 ?l12 ?d12 ?k12 ?a13 ?l13 ?d13 ?k13 ?z_all ?z_bool ?z_int ?z_isinstance ?z_len ?z_range ?z_str ?g_LONGEST_NAME ?r_LONGEST_NAME ?g_LETTERS ?r_LETTERS ?g_GREATEST_STATE ?r_GREATEST_STATE
    (case a0 => k_is); (case l0 => k_is); (case d0 => k_is); (case k0 => k_is); (case a1 => k_is); (case l1 => k_is); (case d1 => k_is); (case k1 => k_is); (case a2 => k_is); (case l2 => k_is); (case d2 => k_is); (case k2 => k_is); (case a3 => k_is); (case l3 => k_is); (case d3 => k_is); (case k3 => k_is); (case a4 => k_is); (case l4 => k_is); (case d4 => k_is); (case k4 => k_is); (case a5 => k_is); (case l5 => k_is); (case d5 => k_is); (case k5 => k_is); (case a6 => k_is); (case l6 => k_is); (case d6 => k_is); (case k6 => k_is); (case a7 => k_is); (case l7 => k_is); (case d7 => k_is); (case k7 => k_is); (case a8 => k_is); (case l8 => k_is); (case d8 => k_is); (case k8 => k_is); (case a9 => k_is); (case l9 => k_is); (case d9 => k_is); (case k9 => k_is); (case a10 => k_is); (case l10 => k_is); (case d10 => k_is); (case k10 => k_is); (case a11 => k_is); (case l11 => k_is); (case d11 => k_is); (case k11 => k_is); (case a12 => k_is); (case l12 => k_is); (case d12 => k_is); (case k12 => k_is); (case a13 => k_is); (case l13 => k_is); (case d13 => k_is); (case k13 => k_is); (case z_all => k_is); (case z_bool => k_is); (case z_int => k_is); (case z_isinstance => k_is); (case z_len => k_is); (case z_range => k_is); (case z_str => k_is); (case g_LONGEST_NAME => k_is); (case r_LONGEST_NAME => exact ⟨_, rfl⟩); (case g_LETTERS => k_is); (case r_LETTERS => exact ⟨_, rfl⟩); (case g_GREATEST_STATE => k_is); (case r_GREATEST_STATE => exact ⟨_, rfl⟩)

