import PyProof.Rows.All
import Wide.All
import OpenK.AllK
import Wide.FinOn
import HandS.ForMost
import HandS.IsInst
import HandS.Codes
import HandS.Set
import HandS.SetBool
import HandS.SetKeys
import PyProof.Rows.SortShellAny
import HandS.More
import HandS.Comp
import PyProof.Rows.SetFrom
import KE.GoesMore
import KE.GoesEnum
import HandS.DictComp
import KE.KDictList
import HandS.Property
import PyProof.DictUpdate
import PyProof.FactsDict
import HandS.Dict
import PyProof.EvalArms
import HandS.Defaults
import KE.KOpsOwn
import PyProof.InstEq
import KE.KEqDict
import HandS.List
import HandS.Words
import HandS.ForExc
import HandS.ExcInit
import HandS.ClsMeth
import HandS.Iter
import HandS.TryMany
import HandS.FStr
import HandS.SortInts
import HandS.Deep
import HandS.TryOnly
import HandS.Finally
import PySem.Challenge.RW_knownlate_k70_machine_text
set_option Elab.async false
set_option linter.all false
set_option maxRecDepth 100000
set_option maxHeartbeats 4000000
namespace Kn
open PySem PySem.Spec PyProof.Rows L2
/-! ### heaps -/
theorem same_upd {H : Hp} {p : Addr} {o : HO} (h : H p = none) : Same H (upd H p o) := fun b x e => by
  rw [upd_ne (ne_of_none e h)]
  exact e
theorem same_set {H0 H : Hp} {p : Addr} {o : HO} (h : H0 p = none) (s : Same H0 H) : Same H0 (upd H p o) := fun b x e => by
  rw [upd_ne (ne_of_none e h)]
  exact s b x e
theorem Same.none {H H' : Hp} {p : Addr} (s : Same H H') (h : H' p = none) : H p = none := s.free h
theorem seqLt {K : PySem.W.Frag} {H H' : Hp} {a : Addr} {xs : List V} (e : Same H H') (h : SqT K H a xs) : SqT K H' a xs := by
  rcases h with (h | ⟨o, h⟩) | h
  · exact .inl (.inl (e _ _ h))
  · exact .inl (.inr ⟨o, e _ _ h⟩)
  · exact .inr h
theorem take_more {α : Type} {l : List α} {i : Nat} {x : α} (h : l[i]? = some x) : l.take (i + 1) = l.take i ++ [x] := by
  rw [List.take_add_one, h]; rfl
theorem small {n : Nat} (h : n ≤ 100000) : n < sizeLine := Nat.lt_of_le_of_lt h (by decide)
theorem smallE {n : Nat} (h : n ≤ 100000) : n ≤ sizeLine := Nat.le_of_lt (small h)
/-- a comprehension over a text's signs -/
theorem lc_text {x : Str} {g : TG} {tt : TT} {te : TE} {vs : List Nat} {σ : L2.St} {H1 : Hp} {D : Addr} {Qd : Hp → Prop} (Pv : Nat → Hp → Prop) (h0 : Pv 0 (upd H1 D (.lst [])))
    (hs : ∀ i c H, x.cps.toList[i]? = some c → Pv i H → g (.str ⟨#[c]⟩) (wipe σ vs) H fun σ2 H2 => wipe σ2 vs = wipe σ vs ∧ tt σ2 H2 fun b H3 =>
      if b = true then te σ2 H3 fun y H4 => ∃ acc, H4 D = some (.lst acc) ∧ acc.length < sizeLine ∧ Pv (i + 1) (upd H4 D (.lst (acc ++ [y]))) else Pv (i + 1) H3) (hd : ∀ H, Pv x.cps.toList.length H → Qd H) :
    ∃ W : Nat → Nat → Hp → Prop, (∃ m, W 0 m (upd H1 D (.lst []))) ∧ ∀ i m H, W i m H →
      ((Its x).stop i H ∧ Qd H) ∨ ((Its x).go i H ∧ ∃ Nx : Hp → Prop, (∀ H', Nx H' → ∃ m', m' < m ∧ W (i + 1) m' H') ∧ ∀ v H', (Its x).yld i H v H' → g v (wipe σ vs) H' fun σ2 H2 => wipe σ2 vs = wipe σ vs ∧ tt σ2 H2 fun b H3 =>
        if b = true then te σ2 H3 fun y H4 => ∃ acc, H4 D = some (.lst acc) ∧ acc.length < sizeLine ∧ Nx (upd H4 D (.lst (acc ++ [y]))) else Nx H3) := by
  refine ⟨fun i m H => m = x.cps.size - i ∧ i ≤ x.cps.size ∧ Pv i H, ⟨x.cps.size, by simp, Nat.zero_le _, h0⟩, ?_⟩
  rintro i m H ⟨rfl, hi, p⟩
  by_cases hlt : i < x.cps.size
  · refine .inr ⟨hlt, Pv (i + 1), fun H' p' => ⟨x.cps.size - (i + 1), by omega, rfl, hlt, p'⟩, fun v H' y => ?_⟩
    obtain ⟨rfl, c, hc, rfl⟩ := y
    exact hs i c _ (by simpa using hc) p
  · have e : i = x.cps.size := by omega
    subst e
    exact .inl ⟨Nat.le_refl _, hd H (by simpa using p)⟩
end Kn

set_option Elab.async false
set_option linter.all false
set_option maxRecDepth 100000
set_option maxHeartbeats 4000000
/-! Sets whose members are told in a list: made, filled, told as a sorted list; set comprehensions of ints and texts. -/
namespace KnS
open PySem PySem.Spec PyProof.Rows L2
section
variable {κ : Type} [DecidableEq κ] {P : Program} {w : World} {knd : PySem.KeyKind P w κ}
/-- one entry of a table, of the key k -/
def Ent (knd : PySem.KeyKind P w κ) (k : κ) (e : Int × Value) : Prop := knd.is k e.2 = true ∧ e.1 = knd.hash k ∧ e.2.scannable = true
theorem paired_perm {α β : Type} {F : α → β → Prop} {l m : List β} (p : l.Perm m) : ∀ {ks : List α}, Paired F ks l → ∃ ks', ks'.Perm ks ∧ Paired F ks' m := by
  induction p with
  | nil => intro ks h; exact ⟨ks, .refl _, h⟩
  | cons x _ ih =>
    intro ks h
    cases h with
    | cons r t =>
      obtain ⟨ks', q, t'⟩ := ih t
      exact ⟨_, .cons _ q, .cons r t'⟩
  | swap x y l =>
    intro ks h
    cases h with
    | cons r t =>
      cases t with
      | cons r' t' => exact ⟨_, .swap _ _ _, .cons r' (.cons r t')⟩
  | trans _ _ ih1 ih2 =>
    intro ks h
    obtain ⟨k1, q1, h1⟩ := ih1 h
    obtain ⟨k2, q2, h2⟩ := ih2 h1
    exact ⟨k2, q2.trans q1, h2⟩
theorem ents_elems {ks : List κ} {l : List (Int × Value)} (h : Paired (Ent knd) ks l) : ElemsOf knd l := by
  induction h with
  | nil => exact fun e he => nomatch he
  | cons r _ ih =>
    intro e he
    rcases List.mem_cons.mp he with z | z
    · rw [z]; exact ⟨⟨_, r.1, r.2.1⟩, r.2.2⟩
    · exact ih e z
theorem ents_find {ks : List κ} {l : List (Int × Value)} (h : Paired (Ent knd) ks l) {k : κ} : (∃ e ∈ l, knd.is k e.2 = true) ↔ k ∈ ks := by
  induction h with
  | nil => exact ⟨fun ⟨e, he, _⟩ => (nomatch he), fun z => nomatch z⟩
  | @cons k' e ks l r _ ih =>
    constructor
    · rintro ⟨e', he, q⟩
      rcases List.mem_cons.mp he with z | z
      · rw [z] at q
        rw [knd.inj e.2 k k' q r.1]
        exact List.mem_cons_self
      · exact List.mem_cons_of_mem _ (ih.mp ⟨e', z, q⟩)
    · intro z
      rcases List.mem_cons.mp z with z | z
      · exact ⟨e, List.mem_cons_self, z ▸ r.1⟩
      · obtain ⟨e', he, q⟩ := ih.mpr z
        exact ⟨e', List.mem_cons_of_mem _ he, q⟩
end
/-- the set at a holds just the keys ks, each once; its table can be walked -/
def Holds (P : Program) (w : World) (h : Heap) (a : Addr) (ks : List Key) : Prop :=
  ∃ o es ep t ls, (h.get? a = some o ∧ o.ExactSet ∧ o.data = .set es ep t) ∧ (Paired (Ent (mixKind P w)) ls es.toList ∧ ls.Perm ks ∧ ks.Nodup) ∧
    (es.size < scanBound ∧ t.fits es.size = true) ∧ Ris t.place.toList ∧ (w.params.followText "set-order" = true ∨ t.led = true)
/-- .. as a tracked thing -/
def SetL (P : Program) (w : World) (a : Addr) (ks : List Key) : HO := .ext fun h => Holds P w h a ks
def hasL (ks : List Key) (k : Key) : Bool := ks.any fun j => decide (j = k)
theorem hasL_iff {ks : List Key} {k : Key} : hasL ks k = true ↔ k ∈ ks := by
  unfold hasL
  rw [List.any_eq_true]
  exact ⟨fun ⟨j, hj, e⟩ => of_decide_eq_true e ▸ hj, fun h => ⟨k, h, decide_eq_true rfl⟩⟩
def addL (ks : List Key) (k : Key) : List Key := if hasL ks k = true then ks else ks ++ [k]
section
variable {P : Program} {w : World} {A : Around} {E : Value → Shared → Prop} {s : Shared} {a : Addr} {ks : List Key}
theorem Holds.keep {h h' : Heap} (R : Holds P w h a ks) (k : ∀ o, h.get? a = some o → h'.get? a = some o) : Holds P w h' a ks :=
  let ⟨o, es, ep, t, ls, ⟨ho, r⟩, q⟩ := R; ⟨o, es, ep, t, ls, ⟨k o ho, r⟩, q⟩
theorem Holds.there {h : Heap} (R : Holds P w h a ks) : ∃ o, h.get? a = some o ∧ o.cls = .type "set" := let ⟨o, _, _, _, _, ⟨ho, hx, _⟩, _⟩ := R; ⟨o, ho, hx.1⟩
theorem Holds.new {H : Hp} {h : Heap} (R : Holds P w h a ks) : ObjOk P w H h a (SetL P w a ks) :=
  ⟨R, let ⟨o, ho, _⟩ := R.there; ⟨o, ho⟩, fun _ _ p k => p.keep k⟩
theorem mem_addL {k x : Key} : x ∈ addL ks k ↔ x ∈ ks ∨ x = k := by
  unfold addL
  by_cases z : k ∈ ks
  · rw [if_pos (hasL_iff.mpr z)]
    exact ⟨.inl, fun y => y.elim id fun e => e ▸ z⟩
  · rw [if_neg fun q => z (hasL_iff.mp q), List.mem_append, List.mem_singleton]
theorem stored {h : Heap} {o : Obj} {es es' : Array (Int × Value)} {ep : Nat} {t t' : SetTable} (ho : h.get? a = some o) (hd : o.data = .set es ep t) :
    (h.update a (Obj.putSet es' t')).get? a = some { o with data := .set es' (ep + 1) t' } :=
  (Heap.get?_update_self (Obj.putSet es' t') ho (by rw [putSet_of es' t' hd] <;> rfl)).trans (by rw [putSet_of es' t' hd])
/-- what an add does behind its search, where the key is new -/
theorem laid {k : Key} {x : Value} (hk : (mixKind P w).is k x = true) (hsc : x.scannable = true) {o : Obj} {es : Array (Int × Value)} {ep : Nat} {t : SetTable} {ls : List Key}
    (ho : s.heap.get? a = some o) (hx : o.ExactSet) (hd : o.data = .set es ep t) (pe : Paired (Ent (mixKind P w)) ls es.toList) (pm : ls.Perm ks) (nd : ks.Nodup) (room : es.size + 1 < scanBound)
    {es1 : Array (Int × Value)} {t1 : SetTable} (p1 : es1.toList.Perm (es.push ((mixKind P w).hash k, x)).toList) (f1 : t1.fits es1.size = true) (r1 : Ris t1.place.toList) (l1 : w.params.followText "set-order" = true ∨ t1.led = true) (hnk : k ∉ ks) :
    es1.size < scanBound ∧ Holds P w (s.heap.update a (Obj.putSet es1 t1)) a (ks ++ [k]) := by
  have z1 : es1.size = es.size + 1 := by
    have q := p1.length_eq
    rw [Array.length_toList, Array.length_toList, Array.size_push] at q
    exact q
  have pe' : Paired (Ent (mixKind P w)) (ls ++ [k]) (es.push ((mixKind P w).hash k, x)).toList := by
    rw [Array.toList_push]
    exact pe.snoc ⟨hk, rfl, hsc⟩
  obtain ⟨ls1, q1, pe1⟩ := paired_perm p1.symm pe'
  have nd1 : (ks ++ [k]).Nodup := List.nodup_append.mpr ⟨nd, List.nodup_cons.mpr ⟨(fun z => nomatch z), List.nodup_nil⟩, fun u hu v hv e => hnk (by rw [← List.mem_singleton.mp hv, ← e]; exact hu)⟩
  exact ⟨by omega, _, es1, _, t1, ls1, ⟨stored ho hd, hx, rfl⟩, ⟨pe1, q1.trans (pm.append_right [k]), nd1⟩, ⟨by omega, f1⟩, r1, l1⟩
/-- .. and a table that is laid anew -/
theorem relaid {o : Obj} {es1 es2 : Array (Int × Value)} {ep : Nat} {t1 t2 : SetTable} {h : Heap} (R : Holds P w h a ks) (ho : h.get? a = some o) (hd : o.data = .set es1 ep t1)
    (p2 : es2.toList.Perm es1.toList) (f2 : t2.fits es2.size = true) (r2 : Ris t2.place.toList) (l2 : t1.led = true → t2.led = true) : Holds P w (h.update a (Obj.putSet es2 t2)) a ks := by
  obtain ⟨o', es, ep', t, ls, ⟨ho', hx, hd'⟩, ⟨pe, pm, nd⟩, ⟨hb, _⟩, _, hl⟩ := R
  obtain rfl : o = o' := Option.some.inj (ho.symm.trans ho')
  rw [hd] at hd'
  cases hd'
  obtain ⟨ls2, q2, pe2⟩ := paired_perm p2.symm pe
  have z : es2.size = es1.size := by
    have q := p2.length_eq
    rw [Array.length_toList, Array.length_toList] at q
    exact q
  exact ⟨_, es2, _, t2, ls2, ⟨stored ho hd, hx, rfl⟩, ⟨pe2, q2.trans pm, nd⟩, ⟨z ▸ hb, f2⟩, r2, hl.imp id l2⟩
theorem Holds.size {h : Heap} (R : Holds P w h a ks) {o : Obj} {es : Array (Int × Value)} {ep : Nat} {t : SetTable} (ho : h.get? a = some o) (hd : o.data = .set es ep t) : es.size = ks.length := by
  obtain ⟨o', es', ep', t', ls, ⟨ho', _, hd'⟩, ⟨pe, pm, _⟩, _⟩ := R
  obtain rfl : o = o' := Option.some.inj (ho.symm.trans ho')
  rw [hd] at hd'
  cases hd'
  rw [← Array.length_toList, ← pe.length, pm.length_eq]
theorem add_scan {k : Key} {x : Value} (hk : (mixKind P w).is k x = true) (hsc : x.scannable = true) (R : Holds P w s.heap a ks) (room : ks.length + 1 < scanBound) {Q : Bool → Shared → Prop}
    (hQ : ∀ b h', Heap.SameBut a s.heap h' → Holds P w h' a (addL ks k) → Q b { s with heap := h' }) : wpAny (model P w) A (setAddHashed a x ((mixKind P w).hash k)) Q E s := by
  have R0 := R
  obtain ⟨o, es, ep, t, ls, ⟨ho, hx, hd⟩, ⟨pe, pm, nd⟩, ⟨hb, hf⟩, hr, hl⟩ := R
  have el := ents_elems pe
  have sz := R0.size ho hd
  have fd : (∃ e ∈ es.toList, (mixKind P w).is k e.2 = true) ↔ k ∈ ks := (ents_find pe).trans pm.mem_iff
  unfold setAddHashed setAddHashedIn
  refine wpAny_holding (wpAny_bind (wpAny_setState_of ho hd hf ?_))
  show wpAny _ _ (if byScan x es = true then _ else _) _ _ _
  rw [byScan_of hsc hb el]
  refine wpAny_bind (wpAny_bind (wpAny_rule (wpAny_bind (wpAny_setScan_of hk ho hd hf el ?_))))
  cases ix : es.toList.findIdx? (fun e => (mixKind P w).is k e.2) with
  | some j =>
    obtain ⟨hj, pj, _⟩ := List.findIdx?_eq_some_iff_getElem.mp ix
    have hin : k ∈ ks := fd.mp ⟨_, List.getElem_mem hj, pj⟩
    refine wpAny_pure (wpAny_pure (hQ _ s.heap (Heap.SameBut.refl a s.heap) ?_))
    rw [addL, if_pos (hasL_iff.mpr hin)]
    exact R0
  | none =>
    have hnk : k ∉ ks := fun z => by
      obtain ⟨e, he, q⟩ := fd.mpr z
      have := List.findIdx?_eq_none_iff.mp ix e he
      rw [q] at this
      cases this
    have p1 := layNew_perm t es ((mixKind P w).hash k) x
    have f1 := layNew_fits t es ((mixKind P w).hash k) x
    have r1 := layNew_ris t es ((mixKind P w).hash k) x hr
    have l1 := layNew_led t es ((mixKind P w).hash k) x
    dsimp only
    generalize layNew t es ((mixKind P w).hash k) x = Z at p1 f1 r1 l1 ⊢
    obtain ⟨es1, t1, was, gave⟩ := Z
    dsimp only at p1 f1 r1 l1 ⊢
    have gate : ∀ (b : Bool) {s' : Shared} {Q' : Unit → Shared → Prop}, Q' () s' → wpAny (model P w) A (match b with | true => rule "set.scan.the-table-gave-way" | false => pure ()) Q' E s' := fun b => by
      cases b
      · exact fun q => wpAny_pure q
      · exact fun q => wpAny_rule q
    have e1 : addL ks k = ks ++ [k] := if_neg fun q => hnk (hasL_iff.mp q)
    have more : ∀ {g : Bool → Sem Unit} (_ : ∀ (b : Bool) (s' : Shared) (Q' : Unit → Shared → Prop), Q' () s' → wpAny (model P w) A (g b) Q' E s') (t2 : SetTable), t2.fits es1.size = true → Ris t2.place.toList → t2.led = t1.led →
        wpAny (model P w) A (do
          storeSet a es1 t2
          if (!was && t2.tooFull) = true then do
            g (relayAll t2 es1 (SetTable.grown es1.size)).2.2
            storeSet a (relayAll t2 es1 (SetTable.grown es1.size)).1 (relayAll t2 es1 (SetTable.grown es1.size)).2.1
            pure (some true)
          else pure (some true)) (fun r s' => ∃ h', s' = { s with heap := h' } ∧ r = some true ∧ Heap.SameBut a s.heap h' ∧ Holds P w h' a (addL ks k)) E s := by
      intro g hg t2 f2 r2 l2
      obtain ⟨b1, H1⟩ := laid hk hsc ho hx hd pe pm nd (by omega) p1 f2 r2 (hl.imp id fun q => by rw [l2, l1]; exact q) hnk
      rw [e1]
      refine wpAny_bind (wpAny_storeSet_of ho hd ?_ (fits_of_scanBound b1))
      have sb := Heap.SameBut.update s.heap a (Obj.putSet es1 t2)
      by_cases full : (!was && t2.tooFull) = true
      · rw [if_pos full]
        refine wpAny_bind (hg _ _ _ (wpAny_bind (wpAny_storeSet_of (stored ho hd) rfl ?_ ?_)))
        · refine wpAny_pure ⟨_, rfl, rfl, sb.trans (Heap.SameBut.update _ a _), relaid H1 (stored ho hd) rfl (relayAll_perm _ _ _) (relayAll_fits _ _ _) (relayAll_ris _ _ _) fun q => ?_⟩
          rw [relayAll_led]
          exact q
        · have q := (relayAll_perm t2 es1 (SetTable.grown es1.size)).length_eq
          rw [Array.length_toList, Array.length_toList] at q
          rw [q]
          exact fits_of_scanBound b1
      · rw [if_neg full]
        exact wpAny_pure ⟨_, rfl, rfl, sb, H1⟩
    refine wpAny_bind (gate gave ?_)
    have go : ∀ v : Bool, wpAny (model P w) A (do
          storeSet a es1 (if v = true then t1 else { t1 with plain := false })
          if (!was && (if v = true then t1 else { t1 with plain := false }).tooFull) = true then do
            (match (relayAll (if v = true then t1 else { t1 with plain := false }) es1 (SetTable.grown es1.size)).2.2 with | true => rule "set.scan.the-table-gave-way" | false => pure ())
            storeSet a (relayAll (if v = true then t1 else { t1 with plain := false }) es1 (SetTable.grown es1.size)).1 (relayAll (if v = true then t1 else { t1 with plain := false }) es1 (SetTable.grown es1.size)).2.1
            pure (some true)
          else pure (some true)) (fun r s' => ∃ h', s' = { s with heap := h' } ∧ r = some true ∧ Heap.SameBut a s.heap h' ∧ Holds P w h' a (addL ks k)) E s := fun v => by
      cases v
      · exact more (g := fun b => match b with | true => rule "set.scan.the-table-gave-way" | false => pure ()) (fun b s' Q' q => gate b q) { t1 with plain := false } (SetTable.fits_plain_off f1) r1 rfl
      · exact more (g := fun b => match b with | true => rule "set.scan.the-table-gave-way" | false => pure ()) (fun b s' Q' q => gate b q) t1 f1 r1 rfl
    have fin : ∀ (r : Option Bool) (s' : Shared), (∃ h', s' = { s with heap := h' } ∧ r = some true ∧ Heap.SameBut a s.heap h' ∧ Holds P w h' a (addL ks k)) → ∃ h', r = some true ∧ s' = { s with heap := h' } ∧ Q true s' := by
      rintro r s' ⟨h', rfl, rfl, sb, H'⟩
      exact ⟨h', rfl, rfl, hQ true h' sb H'⟩
    by_cases pl : t1.plain = true
    · rw [if_pos pl]
      refine wpAny_bind ?_
      rw [hashByValue_scannable 8 hsc]
      refine wpAny_pure (wpAny_mono (go _) (fun r s' q => ?_) fun _ _ z => z)
      obtain ⟨h', rfl, rfl, q⟩ := fin r s' q
      exact wpAny_pure q
    · rw [if_neg pl]
      refine wpAny_bind (wpAny_pure (wpAny_mono (go true) (fun r s' q => ?_) fun _ _ z => z))
      obtain ⟨h', rfl, rfl, q⟩ := fin r s' q
      exact wpAny_pure q

/-- set.add, called -/
theorem add_call {k : Key} {x : Value} (hk : (mixKind P w).is k x = true) (hsc : x.scannable = true) (R : Holds P w s.heap a ks) (room : ks.length + 1 < scanBound) {Q : Value → Shared → Prop}
    (hQ : ∀ h', Heap.SameBut a s.heap h' → Holds P w h' a (addL ks k) → Q .none { s with heap := h', toks := s.toks + 1 }) : wpAny (model P w) A (call (.builtin "set.add") [.ref a, x]) Q E s := by
  refine wpAny_call_entry F.slot_set_add (show s.TypeIs (.ref a) "set" from R.there) F.entry_set_add ?_ (F.args_set_add_2 _ _)
  unfold Builtin.«set.add» Builtin.Frozenset.oneOther
  simp only [List.isEmpty_nil, bind_assoc]
  unfold Builtin.Frozenset.addrOf setAdd
  refine wpAny_bind (wpAny_pure (wpAny_bind (wpAny_pure (wpAny_bind (wpAny_holding (wpAny_bind ((mixKind P w).pyHash hk ?_)))))))
  refine add_scan (s := { s with toks := s.toks + 1 }) hk hsc R room fun b h' sb r => ?_
  exact (show wpAny _ _ (ret Value.none) _ _ _ from wpAny_pure ⟨_, rfl, hQ h' sb r⟩)
theorem fresh_set (h : Heap) : Holds P w (h.push { cls := .type "set", dict := none, data := .set #[] 0 (.fresh 0 0 (!w.params.followText "set-order")) }) h.objs.size [] := by
  refine ⟨_, #[], 0, _, [], ⟨Heap.get?_push_size _ rfl, ⟨rfl, rfl, rfl⟩, rfl⟩, ⟨.nil, .refl _, List.nodup_nil⟩, ⟨by decide, by rfl⟩, List.Pairwise.nil, ?_⟩
  cases q : w.params.followText "set-order" with
  | true => exact .inl rfl
  | false => exact .inr rfl
end
/-! ### sorted(a set of texts) -/
theorem strs_of_paired {P : Program} {w : World} : ∀ {ks : List Key} {vs : List Value}, Paired (fun k v => (mixKind P w).is k v = true) ks vs → ∀ {xs : List Str}, ks.Perm (xs.map Sum.inr) → ∃ zs, zs.Perm xs ∧ StrsAre vs zs := by
  intro ks vs h xs p
  have all : ∀ k ∈ ks, ∃ x, k = Sum.inr x := fun k hk => by
    obtain ⟨x, _, e⟩ := List.mem_map.mp (p.mem_iff.mp hk)
    exact ⟨x, e.symm⟩
  have q := p.filterMap (fun k : Key => match k with | .inr x => some x | .inl _ => none)
  have e : (xs.map Sum.inr : List Key).filterMap (fun k : Key => match k with | .inr x => some x | .inl _ => none) = xs := by
    rw [List.filterMap_map]
    exact List.filterMap_some
  rw [e] at q
  refine ⟨_, q, ?_⟩
  clear p q e
  induction h with
  | nil => exact .nil
  | @cons k v ks vs r _ ih =>
    obtain ⟨x, rfl⟩ := all k List.mem_cons_self
    rcases keyIs_shape (show keyIs (.inr x) v = true from r) with ⟨_, _, z, _⟩ | ⟨y, t, z, rfl⟩
    · cases z
    · cases z
      exact .cons _ _ (ih fun k hk => all k (List.mem_cons_of_mem _ hk))
theorem paired_snd {P : Program} {w : World} {ks : List Key} {es : List (Int × Value)} (h : Paired (Ent (mixKind P w)) ks es) : Paired (fun k v => (mixKind P w).is k v = true) ks (es.map (·.2)) := by
  induction h with
  | nil => exact .nil
  | cons r _ ih => exact .cons r.1 ih
section
variable {P : Program} {w : World} {A : Around} {E : Value → Shared → Prop} {s : Shared} {a : Addr}
theorem sorted_call {xs : List Str} {Q : Value → Shared → Prop} (R : Holds P w s.heap a (xs.map Sum.inr)) (hh : A.handled = none)
    (hQ : ∀ s' p (out : Array Value) (c : Nat) (ys : List Str), (∀ b o, s.heap.get? b = some o → s'.heap.get? b = some o) → s'.gens = s.gens ∧ s'.os = s.os → s.heap.objs.size ≤ p →
      s'.heap.get? p = some (seqObj "list" out c) → StrsAre out.toList ys → ys.Perm xs → sortedS ys = true → Q (.ref p) s') : wpAny (model P w) A (call (.builtin "sorted") [.ref a]) Q E s := by
  obtain ⟨o, es, ep, t, ls, ⟨ho, hx, hd⟩, ⟨pe, pm, nd⟩, ⟨hb, hf⟩, hr, hl⟩ := R
  refine Calls.call_function_entry kind_sorted plain_sorted entry_sorted (args_sorted1 _) ?_
  unfold Builtin.«sorted»
  refine wpAny_bind (m := checkCount "sorted" 1 1 _) (wpAny_pure (wpAny_bind (collect_set (A := A.in1) hh ⟨o, ho, hx.1, hd⟩ hf hb hr hl fun s1 vs k1 hz g1 o1 pv => ?_)))
  obtain ⟨ls', q', pe'⟩ := paired_perm pv.symm (paired_snd pe)
  obtain ⟨zs, pz, hS⟩ := strs_of_paired pe' (q'.trans pm)
  have hsz : vs.length ≤ sizeLine := by
    rw [pv.length_eq, List.length_map, Array.length_toList]
    exact fits_of_scanBound hb
  refine wpAny_bind (wpAny_newList ?_ hsz)
  have hoL : (s1.heap.push (seqObj "list" vs.toArray 0)).get? s1.heap.objs.size = some (seqObj "list" vs.toArray 0) := Heap.get?_push_size _ rfl
  refine wpAny_bind (wpAny_holding (wpAny_call_entry slot_list_sort ⟨_, hoL, rfl⟩ entry_list_sort (list_sort_treeKAny strKind_oneLt hoL hS.keysOf (fun v₁ v₂ rest e => keyKind_strs (by rw [← e]; exact hS)) hsz fun st' hp hs => ?_) (args_list_sort _)))
  obtain ⟨ys, y1, y2, y3⟩ := sorted_out_str hS hp hs
  obtain ⟨c, hc⟩ := sortedHeap_at (vs := vs) (out := (arrOf st').map (·.2)) hoL
  refine ⟨_, rfl, wpAny_pure ⟨_, rfl, hQ _ _ _ c ys (fun b u e => ?_) ⟨g1, o1⟩ hz hc y1 (y2.trans pz) y3⟩⟩
  have q := k1 b u e
  have hlt := Heap.lt_size q
  refine (sortedHeap_old (Nat.ne_of_lt hlt) ?_).trans (Heap.get?_push_of_some _ q)
  rw [size_push']
  exact Nat.lt_succ_of_lt hlt
end
section
variable {X : Cx} {pins : List (Addr × Obj)} {σ : L2.St} {H : Hp} {s : Shared}
theorem held {a : Addr} {ks : List Key} (I : Inv X pins σ H s) (h : H a = some (SetL X.prog X.w a ks)) : Holds X.prog X.w s.heap a ks := (I.hok a _ h).1
theorem key_rel {k : Key} {u : Value} (r : RelV (kV k) u) (P : Program) (w : World) : (mixKind P w).is k u = true ∧ u.scannable = true := by
  cases k with
  | inl i => obtain ⟨t, rfl⟩ := r; exact ⟨mixKind_int P w i t, rfl⟩
  | inr x => obtain ⟨t, rfl⟩ := r; exact ⟨mixKind_str P w x t, rfl⟩
theorem add_inv {a : Addr} {ks : List Key} {k : Key} {u : Value} {A : Around} {E : Value → Shared → Prop} {Q : Value → Shared → Prop} (I : Inv X pins σ H s) (h : H a = some (SetL X.prog X.w a ks)) (r : RelV (kV k) u) (room : ks.length + 1 < scanBound)
    (hQ : ∀ s', Inv X pins σ (upd H a (SetL X.prog X.w a (addL ks k))) s' → Q .none s') : wpAny (model X.prog X.w) A (call (.builtin "set.add") [.ref a, u]) Q E s := by
  obtain ⟨r1, r2⟩ := key_rel r X.prog X.w
  refine add_call r1 r2 (held I h) room fun h' sb R => hQ _ ?_
  exact I.write (e := a) (t' := s.toks + 1) (by rw [h]; trivial) (.inl rfl) (fun b o hb ho => (sb.2 b hb).trans ho) (let ⟨o, ho, _⟩ := R.there; ⟨o, ho⟩) R.new
/-- sorted(found), found a set of texts -/
def rSortedL (P : Program) (w : World) : List V → Hp → VK → Prop := fun vs H Q => ∃ (a : Addr) (xs : List Str), vs = [.ref a] ∧ H a = some (SetL P w a (xs.map Sum.inr)) ∧
  ∀ (ys : List Str) (p : Addr), ys.Perm xs → sortedS ys = true → H p = none → Q (.ref p) (upd H p (.lst (ys.map V.str)))
theorem cr_sortedL (hc : X.calm = true) : CallR X (.builtin "sorted") (rSortedL X.prog X.w) := by
  intro pins s σ H vs us Q I r h
  obtain ⟨a, xs, rfl, ha, q⟩ := h
  rw [Vals.ref1 r]
  have R := held I ha
  have bound : xs.length ≤ sizeLine := by
    obtain ⟨o, es, ep, t, ls, ⟨ho, hx, hd⟩, ⟨pe, pm, nd⟩, ⟨hb, hf⟩, _⟩ := R
    have := pm.length_eq
    rw [pe.length, Array.length_toList, List.length_map] at this
    rw [← this]
    exact fits_of_scanBound hb
  refine sorted_call R (I.ok.hd hc) fun s' p out c ys k go hp hg hi hperm hs => ?_
  have hn : H p = none := I.hok.fresh hp
  have hlen : (ys.map V.str).length ≤ sizeLine := by rw [List.length_map, hperm.length_eq]; exact bound
  have J : Inv X pins σ (upd H p (.lst (ys.map V.str))) s' := I.call' (ch := []) go.2 (Un.laid k hp hn) (I.hok.laid k hp ⟨hlen, out.toList, c, vals_of_strs hi, hg⟩) (by rw [go.1]; exact I.bare) (fun _ z => nomatch z)
  exact ⟨.ref p, _, J, rfl, q ys p hperm hs hn⟩
end
end KnS

set_option Elab.async false
set_option linter.all false
set_option maxRecDepth 100000
set_option maxHeartbeats 4000000
/-! {elt for target in iter if ..}, elt an int or a text. -/
namespace KnS
open PySem PySem.Spec PyProof.Rows L2
section
variable {X : Cx}
abbrev set0 (w : World) : Obj := { cls := .type "set", dict := none, data := .set #[] 0 (.fresh 0 0 (!w.params.followText "set-order")) }
/-- what a turn may reach, and how a comprehension into a set reads -/
def tScL (P : Program) (w : World) (wi : TI) (g : TG) (tt : TT) (te : TE) (vs : List Nat) : TE := fun σ H Q => wi σ H fun J H1 => ∀ D, H1 D = none →
  ∃ W : Nat → Nat → Hp → Prop, (∃ m, W 0 m (upd H1 D (SetL P w D []))) ∧ ∀ i m H, W i m H → (J.stop i H ∧ Q (.ref D) H) ∨
    (J.go i H ∧ ∃ Nx : Hp → Prop, (∀ H', Nx H' → ∃ m', m' < m ∧ W (i + 1) m' H') ∧
      ∀ x H', J.yld i H x H' → g x (wipe σ vs) H' fun σ2 H2 => wipe σ2 vs = wipe σ vs ∧ tt σ2 H2 fun b H3 =>
        if b = true then te σ2 H3 fun y H4 => ∃ (k : Key) (ks : List Key), y = kV k ∧ H4 D = some (SetL P w D ks) ∧ ks.length + 1 < scanBound ∧ Nx (upd H4 D (SetL P w D (addL ks k))) else Nx H3)
theorem scL {elt tg iter : Expr} {ifs : List Expr} {scope : Scope} {own : List (Str × Nat)} {pos : Pos} {wi : TI} {g : TG} {tt : TT} {te : TE}
    (hc : X.calm = true) (hN : X.N.Nodup) (hi : PI X tg iter wi) (ok : BlkOk X.N X.env.scope scope own)
    (hg : ∀ (s : Shared) (H : Hp) (C : Addr) (cl : List (Str × Addr)) (fp : List Addr), PG (X.blk s H scope (compEnvC scope cl C X.env) fp) tg g)
    (ht : ∀ (s : Shared) (H : Hp) (C : Addr) (cl : List (Str × Addr)) (fp : List Addr), PTs (X.blk s H scope (compEnvC scope cl C X.env) fp) ifs tt)
    (he : ∀ (s : Shared) (H : Hp) (C : Addr) (cl : List (Str × Addr)) (fp : List Addr), PE (X.blk s H scope (compEnvC scope cl C X.env) fp) elt te)
    (hs : ∀ x, foldedSetIterable iter X.env x = pure x := by intro _; rfl) :
    PE X (.SetComp elt [⟨tg, iter, ifs, 0⟩] scope pos) (tScL X.prog X.w wi g tt te (own.map (·.2))) := by
  refine ⟨fun pins s σ H Q I h => ?_⟩
  rw [PpSet.eval_SetComp]
  have captured : ∀ y ∈ scope.names, y.2 = .free → ∃ c, X.env.cells.lookup y.1 = some c := fun y hy e =>
    (ok.free y hy e).elim (fun k => I.ok.has _ (.inl k)) fun k => I.ok.has _ (.inr k)
  refine wpAny_comprehension_free (use := none) rfl hs (closure_ok captured) ok.kind (fun y hy e => by rw [ok.uniq y hy, e]) ?_
  refine thn (hi.run pins s σ H _ I h) fun xv s1 hx => thn hx fun itv s2 ⟨it, fp, tn, J, H2, eit, I2, T, st2, f2, q⟩ => ?_
  subst eit
  refine PpSet.newSet_ok (newEnv_comp ?_)
  generalize hD : s2.heap.objs.size = D
  have freeD : H2 D = none := I2.hok.fresh (Nat.le_of_eq hD)
  obtain ⟨W, ⟨m0, w0⟩, turn⟩ := q D freeD
  -- the new set stands
  generalize h3 : s2.heap.push (set0 X.w) = hp3
  have keep3 : ∀ b o, s2.heap.get? b = some o → hp3.get? b = some o := fun b o e => h3 ▸ Heap.get?_push_of_some _ e
  have size3 : hp3.objs.size = s2.heap.objs.size + 1 := by rw [← h3, Heap.size_push]
  have I3 : Inv X pins σ (upd H2 D (SetL X.prog X.w D [])) { s2 with heap := hp3 } := by
    refine I2.laid (t' := s2.toks) keep3 (Nat.le_of_eq hD) (Holds.new ?_)
    rw [← h3, ← hD]
    exact fresh_set _
  have inFp : ∀ b ∈ fp, b < s2.heap.objs.size := fun b hb => let ⟨_, e, _⟩ := T.obj _ _ st2 b hb; Heap.lt_size e
  have f3 : ∀ b ∈ fp, FpOk X pins (upd H2 D (SetL X.prog X.w D [])) b ∧ b < hp3.objs.size := fun b hb =>
    ⟨⟨(upd_ne (by rw [← hD]; exact Nat.ne_of_lt (inFp b hb))).trans (f2 b hb).1, (f2 b hb).2⟩, by rw [size3]; exact Nat.lt_succ_of_lt (inFp b hb)⟩
  have st3 : tn 0 hp3 := T.keep _ _ _ st2 fun b _ => keep3 b
  generalize hH3 : upd H2 D (SetL X.prog X.w D []) = H3 at I3 f3 w0
  generalize hs3 : ({ s2 with heap := hp3 } : Shared) = s3 at I3
  have e3 : s3.heap = hp3 := by rw [← hs3]
  have I4 := block_start I3 ok hN (fun b hb => ⟨(f3 b hb).1, by rw [e3]; exact (f3 b hb).2⟩)
  have clear0 : ∀ b ∈ fp, H3 b = none := fun b hb => (f3 b hb).1.1
  show codeAny _ _ (.compStart (.SetComp elt [⟨tg, iter, ifs, 0⟩] scope pos) 0 (.ref it) (.ref D) (compEnvC scope (cellsFrom (s3.heap.objs.size + 1) scope.names (cloFrom X.env.cells scope.names [])) s3.heap.objs.size X.env))
    (compPost (model X.prog X.w) X.A X.xe none (EP X pins σ Q) (.ref D) s3.heap.objs.size) { s3 with heap := pushCells (s3.heap.push { cls := .type "dict", data := .dict #[] }) scope.names }
  have pg := hg s3 H3 s3.heap.objs.size (cellsFrom (s3.heap.objs.size + 1) scope.names (cloFrom X.env.cells scope.names [])) fp
  have pt := ht s3 H3 s3.heap.objs.size (cellsFrom (s3.heap.objs.size + 1) scope.names (cloFrom X.env.cells scope.names [])) fp
  have pe := he s3 H3 s3.heap.objs.size (cellsFrom (s3.heap.objs.size + 1) scope.names (cloFrom X.env.cells scope.names [])) fp
  have home : (compEnvC scope (cellsFrom (s3.heap.objs.size + 1) scope.names (cloFrom X.env.cells scope.names [])) s3.heap.objs.size X.env).locals = s3.heap.objs.size := rfl
  generalize compEnvC scope (cellsFrom (s3.heap.objs.size + 1) scope.names (cloFrom X.env.cells scope.names [])) s3.heap.objs.size X.env = ce at I4 pg pt pe home ⊢
  have st4 : tn 0 ({ s3 with heap := pushCells (s3.heap.push { cls := .type "dict", data := .dict #[] }) scope.names } : Shared).heap := by
    refine T.keep _ _ _ st3 fun b _ o e => pushCells_keeps _ _ _ _ (Heap.get?_push_of_some _ ?_)
    rw [e3]
    exact e
  generalize ({ s3 with heap := pushCells (s3.heap.push { cls := .type "dict", data := .dict #[] }) scope.names } : Shared) = s4 at I4 ⊢ st4
  have own0 : ∀ {σ' : L2.St} {H' : Hp} {s' : Shared}, Inv (X.blk s3 H3 scope ce fp) [] σ' H' s' → (∀ b ∈ fp, H' b = none) → ∀ b ∈ fp, FpOk (X.blk s3 H3 scope ce fp) [] H' b := fun I' cl b hb =>
    ⟨cl b hb, (I'.ok.exf b hb).1, I'.ok.exfs b hb, .inl hb, (fun x c e => (I'.ok.exf b hb).2 x c e), fun p hp => by cases List.mem_append.mp hp <;> rename_i z <;> exact absurd z List.not_mem_nil⟩
  have loop : codeAny (model X.prog X.w) X.A (.compLoop (.SetComp elt [⟨tg, iter, ifs, 0⟩] scope pos) 0 (.ref it) (.ref D) ce) (compPost (model X.prog X.w) X.A X.xe none (EP X pins σ Q) (.ref D) s3.heap.objs.size) s4 := by
    refine PpSet.compLoopS_any (fun n s' => ∃ i H', (Inv (X.blk s3 H3 scope ce fp) [] (wipe σ (own.map (·.2))) H' s' ∧ tn i s'.heap) ∧ (∀ b ∈ fp, H' b = none) ∧ W i n H') ?_ m0 ⟨0, H3, ⟨I4, st4⟩, clear0, w0⟩
    rintro n s5 ⟨i, H5, ⟨I5, st5⟩, cl5, w5⟩
    rcases turn i n H5 w5 with ⟨stop, fine⟩ | ⟨go, Nx, hNx, step⟩
    · refine thnF (T.done (X.blk s3 H3 scope ce fp) rfl rfl rfl hc i [] s5 _ H5 (fun _ _ => False) I5 (own0 I5 cl5) st5 stop) fun r s6 ⟨er, I6⟩ => ?_
      subst er
      have I7 : Inv X pins σ H5 s6 := I3.call' (ch := fp) I6.os I6.base I6.hok I6.bare fun b hb =>
        let f := (f3 b hb).1.2; ⟨f.2.2.1, f.1, f.2.2.2.1, f.2.2.2.2⟩
      have free5 : H5 s3.heap.objs.size = none := home ▸ I6.free
      obtain ⟨m, hn, _⟩ := I6.loc
      obtain ⟨_, k1, k2, k3, k4, k5⟩ := I3.fpOk (Nat.le_refl _) free5
      exact ⟨m, home ▸ hn, fun h'' sb => ⟨.ref D, H5, I7.turned (t' := s6.toks) (fun b o hb e => (sb.2 b hb).trans e) free5 k1 k3 k4 k5, rfl, fine⟩⟩
    · refine thnF (T.item (X.blk s3 H3 scope ce fp) rfl rfl rfl hc i [] s5 _ H5 (fun _ _ => False) I5 (own0 I5 cl5) st5 go) fun r s6 ⟨u, er, h6⟩ => ?_
      subst er
      refine thnF h6 fun _ s7 ⟨x, H7, I7, r7, y7, st7, cl7⟩ => ?_
      refine thnF (pg.run _ s7 _ H7 x u _ (I7.pinned (own0 I7 cl7) (T.obj _ _ st7)) r7 (step x H7 y7)) fun _ s8 ⟨σ8, H8, I8, same8, q8⟩ => thnF (pt.run _ s8 σ8 H8 _ I8 q8) fun b s9 ⟨H9, I9, q9⟩ => ?_
      have closed : ∀ {s' : Shared} {H' : Hp}, Inv (X.blk s3 H3 scope ce fp) ([] ++ pinsAt fp s7.heap) σ8 H' s' → Nx H' → ∃ m, m < n ∧ ∃ i H', (Inv (X.blk s3 H3 scope ce fp) [] (wipe σ (own.map (·.2))) H' s' ∧ tn i s'.heap) ∧ (∀ b ∈ fp, H' b = none) ∧ W i m H' := fun {s' H'} I' nx => by
        obtain ⟨m', less, w'⟩ := hNx H' nx
        have pinned : ∀ b ∈ fp, ∀ o, s7.heap.get? b = some o → s'.heap.get? b = some o ∧ H' b = none := fun b hb o e =>
          have z := I'.pin (b, o) (List.mem_append_right _ (List.mem_append_right _ (mem_pinsAt hb e)))
          ⟨z.1, z.2.1⟩
        have len8 : (wipe σ (own.map (·.2))).length = σ8.length := (congrArg List.length same8).symm.trans (wipe_length _ _)
        refine ⟨m', less, i + 1, H', ⟨(I'.unpinned (pins := [])).weak len8 fun j v e => ?_, T.keep _ _ _ st7 fun b hb o e => (pinned b hb o e).1⟩, fun b hb => ?_, w'⟩
        · exact (wipe_some (same8 ▸ e)).1
        · obtain ⟨o, e, _⟩ := T.obj _ _ st7 b hb
          exact (pinned b hb o e).2
      cases b with
      | false => exact closed I9 q9
      | true =>
        refine thnF (pe.run _ s9 σ8 H9 _ I9 q9) fun z s10 ⟨yv, H10, I10, r10, k, ks, ey, eD, room, nx⟩ => ?_
        subst ey
        exact add_inv (X := X.blk s3 H3 scope ce fp) I10 eD r10 room fun s11 I11 => closed I11 nx
  exact PpSet.codeAny_compStart_set loop (T.self X.A 0 _ _ _ st4 loop)
end
end KnS

set_option Elab.async false
set_option linter.all false
set_option maxRecDepth 100000
set_option maxHeartbeats 4000000
/-! set(a list of ints and texts). -/
namespace KnS
open PySem PySem.Spec PyProof.Rows L2
def allL (ks : List Key) : List Key := ks.foldl addL []
theorem mem_foldL {x : Key} : ∀ {l acc : List Key}, x ∈ l.foldl addL acc ↔ x ∈ acc ∨ x ∈ l := by
  intro l
  induction l with
  | nil => intro acc; exact ⟨.inl, fun h => h.elim id (fun z => nomatch z)⟩
  | cons y l ih =>
    intro acc
    rw [List.foldl_cons, ih, mem_addL, List.mem_cons]
    constructor
    · rintro ((h | h) | h)
      · exact .inl h
      · exact .inr (.inl h)
      · exact .inr (.inr h)
    · rintro (h | h | h)
      · exact .inl (.inl h)
      · exact .inl (.inr h)
      · exact .inr h
theorem mem_allL {x : Key} {l : List Key} : x ∈ allL l ↔ x ∈ l := mem_foldL.trans ⟨fun h => h.elim (fun z => nomatch z) id, .inr⟩
theorem addL_nodup {ks : List Key} {k : Key} (h : ks.Nodup) : (addL ks k).Nodup := by
  unfold addL
  by_cases z : hasL ks k = true
  · rw [if_pos z]; exact h
  · rw [if_neg z]
    exact List.nodup_append.mpr ⟨h, List.nodup_cons.mpr ⟨(fun z => nomatch z), List.nodup_nil⟩, fun u hu v hv e => z (hasL_iff.mpr (by rw [← List.mem_singleton.mp hv, ← e]; exact hu))⟩
theorem foldL_nodup : ∀ {l acc : List Key}, acc.Nodup → (l.foldl addL acc).Nodup
  | [], _, h => h
  | k :: l, _, h => foldL_nodup (l := l) (addL_nodup h)
theorem addL_length (ks : List Key) (k : Key) : (addL ks k).length ≤ ks.length + 1 := by
  unfold addL
  by_cases z : hasL ks k = true
  · rw [if_pos z]; omega
  · rw [if_neg z, List.length_append]; exact Nat.le_refl _
theorem foldL_length : ∀ (l acc : List Key), (l.foldl addL acc).length ≤ acc.length + l.length
  | [], _ => Nat.le_refl _
  | k :: l, acc => by
    have h1 := foldL_length l (addL acc k)
    have h2 := addL_length acc k
    rw [List.foldl_cons, List.length_cons]
    omega
section
variable {P : Program} {w : World} {A : Around} {E : Value → Shared → Prop} {s : Shared}
/-- set.__new__(set, a): a new empty set, led where the order is not by the text -/
theorem new_set (a : Value) {Q₁ : Value → Shared → Prop} (h : Q₁ (.ref s.heap.objs.size) { s with heap := s.heap.push { cls := .type "set", dict := none, data := .set #[] 0 (.fresh 0 0 (!w.params.followText "set-order")) } }) :
    codeAny (model P w) A (.call (.builtin "set.__new__") ⟨[.type "set", a], []⟩) (wants Q₁ E) s := by
  refine codeAny_of_tree (show wpAny _ A.in1 (do checkBuiltinCall "set.__new__" ⟨[.type "set", a], []⟩; again (.builtin "set.__new__" ⟨[.type "set", a], []⟩)) _ _ s from ?_)
  refine wpAny_bind (wpAny_of_eq (F.newCall_set_1 a) (wpAny_pure ⟨plainId_quiet F.plain_set_new _, codeAny_builtin F.entry_set_new ?_⟩))
  rw [Around.under_plainId F.plain_set_new _]
  unfold Builtin.«set.__new__» Builtin.Frozenset.newClass
  have hsub := sub_set_self
  obtain ⟨hp, g, d, tk, os⟩ := s
  dsimp only
  wp_walk
  refine wpAny_askSetting (wpAny_pure ?_)
  dsimp only
  simp only [newObj]
  exact wpAny_bind (wpAny_alloc (wpAny_pure (wpAny_pure h)))
/-- the loop of set(v) -/
theorem update_loop {I S : Addr} {fp wr : List Addr} {G : Array GenState → Array GenState → Prop} {ks : List Key} {Pv : Nat → Value → Prop} {St : Nat → Shared → Prop} {R : Result → Shared → Prop}
    (W : WalksS P w A.in1 I fp wr G ks.length Pv St) (hSf : S ∉ fp) (hval : ∀ i v k, Pv i v → ks[i]? = some k → (mixKind P w).is k v = true ∧ v.scannable = true) (room : ks.length + 1 < scanBound) :
    ∀ (k i : Nat) (s : Shared), ks.length - i = k → i ≤ ks.length → St i s → Holds P w s.heap S (allL (ks.take i)) →
      (∀ s', Moved (S :: wr) G s s' → Holds P w s'.heap S (allL ks) → R (.ok (.ret .none)) s') → codeAny (model P w) A (.builtin "set.update.loop" ⟨[.ref S, .ref I], []⟩) R s := by
  have hSw : S ∉ wr := fun h => hSf (W.sub _ h)
  have more : ∀ b ∈ wr, b ∈ S :: wr := fun b hb => List.mem_cons_of_mem _ hb
  intro k
  induction k with
  | zero =>
    intro i s hk hi hst hS hR
    obtain rfl : i = ks.length := by omega
    refine codeAny_builtin PyProof.Rows.F.entry_set_update_loop ?_
    rw [Around.under_plainId PyProof.Rows.F.plain_set_update_loop _]
    show wpAny _ A.in1 (pyNext (.ref I) >>= _) _ _ s
    refine wpAny_bind (W.done s _ _ hst fun s' hm => (show wpAny _ A.in1 (ret Value.none) _ _ s' from wpAny_pure (hR s' (hm.mono more) ?_)))
    rw [List.take_length] at hS
    exact hS.keep fun o ho => hm.heap S o hSw ho
  | succ k ih =>
    intro i s hk hi hst hS hR
    have lt : i < ks.length := by omega
    have at_ : ks[i]? = some ks[i] := List.getElem?_eq_getElem lt
    refine codeAny_builtin PyProof.Rows.F.entry_set_update_loop ?_
    rw [Around.under_plainId PyProof.Rows.F.plain_set_update_loop _]
    show wpAny _ A.in1 (pyNext (.ref I) >>= _) _ _ s
    refine wpAny_bind (W.item i s _ _ lt hst fun v s' hP hst' hm => ?_)
    obtain ⟨v1, v2⟩ := hval i v _ hP at_
    have hS' : Holds P w s'.heap S (allL (ks.take i)) := hS.keep fun o ho => hm.heap S o hSw ho
    have len : (allL (ks.take i)).length + 1 < scanBound := by
      have h1 := foldL_length (ks.take i) []
      rw [List.length_take] at h1
      have h2 : ([] : List Key).length = 0 := rfl
      unfold allL
      omega
    show wpAny _ A.in1 (holding [v] (setAdd S v) >>= _) _ _ s'
    refine wpAny_bind (wpAny_holding ?_)
    unfold setAdd
    refine wpAny_holding (wpAny_bind ((mixKind P w).pyHash v1 ?_))
    refine add_scan (s := { s' with toks := s'.toks + 1 }) v1 v2 hS' len fun b h' hsb hS2 => ?_
    have e2 : allL (ks.take (i + 1)) = addL (allL (ks.take i)) ks[i] := by
      unfold allL
      rw [List.take_add_one, at_, List.foldl_append]
      rfl
    refine wpAny_pure ⟨plainId_quiet PyProof.Rows.F.plain_set_update_loop _, ih (i + 1) _ (by omega) lt (W.frame _ s' _ _ hst' (Nat.le_succ _) fun b hb o e => ?_) (by rw [e2]; exact hS2) fun s'' hm'' hS'' => ?_⟩
    · exact (hsb.2 b fun h => hSf (h ▸ hb)).trans e
    · refine hR s'' (Moved.trans W.gtrans ((hm.mono more).then_heap (Nat.le_succ _) fun b o hb e => ?_) hm'') hS''
      exact (hsb.2 b fun h => hb (h ▸ List.mem_cons_self)).trans e

set_option maxHeartbeats 3200000 in
theorem set_call {l : Addr} {items : List Value} {ks : List Key} {Q : Value → Shared → Prop} (hh : A.handled = none) (hl : s.heap.IsList l items.toArray) (hk : Paired (fun k v => (mixKind P w).is k v = true ∧ v.scannable = true) ks items) (room : ks.length + 1 < scanBound)
    (h : ∀ (h' : Heap) (tk : Nat), Holds P w h' s.heap.objs.size (allL ks) → (∀ b o, b < s.heap.objs.size → s.heap.get? b = some o → h'.get? b = some o) → Q (.ref s.heap.objs.size) { s with heap := h', toks := tk }) :
    wpAny (model P w) A (call (.type "set") [.ref l]) Q E s := by
  have ⟨c, tl, hmro⟩ := PySem.F.called_set.mro
  have made := PySem.F.called_set.made
  have sub := PySem.F.called_set.sub
  refine wpAny_call (codeAny_of_tree (show wpAny _ _ (callAny (.type "set") _) _ _ _ from wpAny_pure ⟨Code.quiet_builtin _ (by decide +kernel), codeAny_builtin PySem.F.entry_type_call ?_⟩))
  rw [Around.under_plain (weight_type_call_type "set" [.ref l] []) rfl]
  have u1 := PySem.F.called_set.notType
  have u2 := PySem.F.called_set.canCreate
  have u3 := PySem.F.typeCall_set_1 (.ref l)
  repeat (any_goals (first | assumption | wp_step))
  have R0 := fresh_set (P := P) (w := w) s.heap
  have made0 := new_set (P := P) (w := w) (A := A.in1) (s := s) (.ref l) (E := E) (Q₁ := fun obj s₁ => obj = .ref s.heap.objs.size ∧ s₁ = { s with heap := s.heap.push { cls := .type "set", dict := none, data := .set #[] 0 (.fresh 0 0 (!w.params.followText "set-order")) } }) ⟨rfl, rfl⟩
  generalize (!w.params.followText "set-order") = led at made0 R0
  refine codeAny_mono made0 fun r s₁ hr => ?_
  match r, hr with
  | .error e, hr => exact hr
  | .ok .next, hr => exact hr.elim
  | .ok .brk, hr => exact hr.elim
  | .ok .cont, hr => exact hr.elim
  | .ok (.ret obj), hr =>
    obtain ⟨rfl, rfl⟩ := hr
    have hS : (s.heap.push { cls := .type "set", dict := none, data := .set #[] 0 (.fresh 0 0 led) }).get? s.heap.objs.size = some { cls := .type "set", dict := none, data := .set #[] 0 (.fresh 0 0 led) } := Heap.get?_push_size _ rfl
    have hT : Shared.TypeIs { s with heap := s.heap.push { cls := .type "set", dict := none, data := .set #[] 0 (.fresh 0 0 led) } } (.ref s.heap.objs.size) "set" := ⟨_, hS, rfl⟩
    have i1 := PySem.F.called_set.init.lookup
    have i2 := PySem.F.called_set.init.bind (.ref s.heap.objs.size)
    repeat (any_goals (first | assumption | wp_step))
    refine codeAny_mono (codeAny_call_builtin (R := wants (fun r s₂ => r = .none ∧ ∃ h' tk, s₂ = { s with heap := h', toks := tk } ∧ Holds P w h' s.heap.objs.size (allL ks) ∧ ∀ b o, b < s.heap.objs.size → s.heap.get? b = some o → h'.get? b = some o) E)
      PySem.F.called_set.init.plain PySem.F.entry_set_init (check_set_init_1 hT ?_)) fun r₂ s₂ hr₂ => ?_
    · have hlS : l < s.heap.objs.size := let ⟨o, e, _⟩ := hl; Heap.lt_size e
      have hl1 : (s.heap.push { cls := .type "set", dict := none, data := .set #[] 0 (.fresh 0 0 led) }).IsList l items.toArray := hl.at fun o e => Heap.get?_push_of_some _ e
      obtain ⟨⟨ocls, odict, odata, oslots⟩, hol, hcl, nl, hdl⟩ := hl1
      simp only at hcl hdl
      subst hcl hdl
      have n1 := PySem.F.sub_list_set
      have n2 := PySem.F.sub_list_frozenset
      have n3 : (Value.type "list" == Value.type "dict") = false := by decide
      unfold Builtin.«set.__init__» noKeywords Builtin.Frozenset.updateFrom
      generalize hPI : pyIter = PI
      wp_walk
      subst hPI
      have hl2 : (s.heap.push { cls := .type "set", dict := none, data := .set #[] 0 (.fresh 0 0 led) }).IsList l items.toArray := ⟨_, hol, rfl, nl, rfl⟩
      refine wpAny_pyIter_list hl2 ?_
      refine wpAny_bind (wpAny_runValue ?_)
      have zz : (s.heap.push { cls := .type "set", dict := none, data := .set #[] 0 (.fresh 0 0 led) }).objs.size = s.heap.objs.size + 1 := Heap.size_push ..
      have hneI : l ≠ (s.heap.push { cls := .type "set", dict := none, data := .set #[] 0 (.fresh 0 0 led) }).objs.size := by rw [zz]; exact Nat.ne_of_lt (Nat.lt_succ_of_lt hlS)
      have len : ks.length = items.toArray.size := hk.length.trans List.size_toArray.symm
      have W := (Walks.list (prog := P) (w := w) (A := A.in1.in1.in1) (by simpa using hh) (s.heap.push { cls := .type "set", dict := none, data := .set #[] 0 (.fresh 0 0 led) }).objs.size l hneI items.toArray).toS
      rw [← len] at W
      refine update_loop W (fun z => ?_) (fun i v k hv hki => ?_) room (ks.length - 0) 0 _ rfl (Nat.zero_le _) ⟨⟨_, Heap.get?_push_size _ rfl, rfl, rfl⟩, hl2.at fun o e => Heap.get?_push_of_some _ e⟩ ?_ fun s' hm hS' => ?_
      · rcases List.mem_cons.mp z with z | z
        · rw [zz] at z
          exact Nat.ne_of_lt (Nat.lt_succ_self _) z
        · exact Nat.ne_of_lt hlS (List.mem_singleton.mp z).symm
      · rw [List.getElem?_toArray] at hv
        have : ∀ {ks : List Key} {its : List Value} {i : Nat}, Paired (fun k v => (mixKind P w).is k v = true ∧ v.scannable = true) ks its → ks[i]? = some k → its[i]? = some v → (mixKind P w).is k v = true ∧ v.scannable = true := by
          intro ks its i hp
          induction hp generalizing i with
          | nil => intro z; cases z
          | cons r _ ih =>
            cases i with
            | zero => intro a b; cases a; cases b; exact r
            | succ i => exact fun a b => ih (i := i) a b
        exact this hk hki hv
      · exact R0.keep fun o e => Heap.get?_push_of_some _ e
      · obtain ⟨h', g', d', tk', os'⟩ := s'
        obtain rfl : g' = s.gens := hm.gens
        obtain rfl : d' = s.drawn := hm.drawn
        obtain rfl : os' = s.os := hm.os
        refine wpAny_pure (show wpAny _ _ (ret Value.none) _ _ _ from wpAny_pure ⟨rfl, h', tk', rfl, hS', fun b o hb e => ?_⟩)
        refine hm.heap b o (fun z => ?_) (Heap.get?_push_of_some _ (Heap.get?_push_of_some _ e))
        rcases List.mem_cons.mp z with z | z
        · exact Nat.ne_of_lt hb z
        · have e1 := List.mem_singleton.mp z
          rw [zz] at e1
          exact Nat.ne_of_lt (Nat.lt_succ_of_lt hb) e1
    · match r₂, hr₂ with
      | .error e, hr₂ => exact hr₂
      | .ok .next, hr₂ => exact hr₂.elim
      | .ok .brk, hr₂ => exact hr₂.elim
      | .ok .cont, hr₂ => exact hr₂.elim
      | .ok (.ret r), hr₂ =>
        obtain ⟨rfl, h', tk, rfl, hS', hk'⟩ := hr₂
        repeat (any_goals (first | assumption | wp_step))
        exact h _ _ hS' hk'
end
section
variable {X : Cx}
/-- set(xs), xs a list of ints and texts -/
def rSetOf (K : PySem.W.Frag) (P : Program) (w : World) : List V → Hp → VK → Prop := fun vs H Q => ∃ (a : Addr) (ks : List Key), vs = [.ref a] ∧ SqL K H a (ks.map kV) ∧ ks.length + 1 < scanBound ∧ ∀ p, H p = none → Q (.ref p) (upd H p (SetL P w p (allL ks)))
theorem cr_setOf (hc : X.calm = true) : CallR X (.type "set") (rSetOf X.K X.prog X.w) := by
  intro pins s σ H vs us Q I r h
  obtain ⟨a, ks, rfl, hs, room, q⟩ := h
  rw [Vals.ref1 r]
  obtain ⟨its, rv, pl, hz⟩ := I.list hs
  have hk : ∀ {ks : List Key} {its : List Value}, Vals (ks.map kV) its → Paired (fun k v => (mixKind X.prog X.w).is k v = true ∧ v.scannable = true) ks its := by
    intro ks
    induction ks with
    | nil => intro its hp; cases hp; exact .nil
    | cons k ks ih =>
      intro its hp
      cases hp with
      | cons r t => exact .cons (key_rel r X.prog X.w) (ih t)
  refine set_call (I.ok.hd hc) pl.isList (hk rv) room fun h' tk R k => ?_
  have J : Inv X pins σ (upd H s.heap.objs.size (SetL X.prog X.w s.heap.objs.size (allL ks))) { s with heap := h', toks := tk } :=
    I.laid (t' := tk) (fun b o e => k b o (Heap.lt_size e) e) (Nat.le_refl _) R.new
  exact ⟨.ref _, _, J, rfl, q _ (I.hok.fresh (Nat.le_refl _))⟩
end
end KnS

set_option Elab.async false
set_option linter.all false
set_option maxRecDepth 100000
set_option maxHeartbeats 4000000
/-! What is walked may be a list or a tuple: the for loop over it, and over enumerate of it. -/
namespace KnE
open PySem PySem.Spec PyProof.Rows L2
/-- a list (true) or a tuple (false) -/
def Sq (K : PySem.W.Frag) (b : Bool) (H : Hp) (a : Addr) (xs : List V) : Prop := match b with | true => SqL K H a xs | false => SqT K H a xs
def ItS (K : PySem.W.Frag) (b : Bool) (a : Addr) : It := match b with | true => Itl K a | false => Itt K a
def iSeq (K : PySem.W.Frag) (te : TE) : TI := fun σ H R => te σ H fun x H1 => ∃ a b, x = .ref a ∧ (∃ xs, Sq K b H1 a xs) ∧ R (ItS K b a) H1
section
variable {X : Cx} {tg : Expr}
theorem pi_seq {e : Expr} {te : TE} (he : PE X e te) : PI X tg e (iSeq X.K te) := by
  refine ⟨fun pins s σ H R I h => thn (he.run pins s σ H _ I h) fun v s1 ⟨x, H1, I1, r1, a, b, ex, ⟨xs, hq⟩, q⟩ => ?_⟩
  subst ex
  cases r1
  cases b with
  | true =>
    obtain ⟨its, rv, p, hz⟩ := I1.list hq
    exact wpAny_pyIter_list p.isList (pi_one (tk := s1.toks) I1 _ (turn_list a _) ⟨_, Heap.get?_push_size _ rfl, rfl, rfl⟩ q)
  | false =>
    obtain ⟨its, rv, p, hz⟩ := I1.tuple hq
    exact wpAny_pyIter_tuple (show s1.heap.IsTuple a its.toArray from p) (pi_one (tk := s1.toks) I1 _ (turn_tuple a _) ⟨_, Heap.get?_push_size _ rfl, rfl, rfl⟩ q)
end
theorem Sq.inj {X : Cx} {pins : List (Addr × Obj)} {σ : L2.St} {H : Hp} {s : Shared} {b : Bool} {a : Addr} {xs ys : List V} (I : Inv X pins σ H s) (h : Sq X.K b H a xs) (h' : Sq X.K b H a ys) : xs = ys := by
  cases b with
  | true => exact I.list_inj h h'
  | false => exact I.tuple_inj h h'
/-- the for loop over a list or tuple that the body leaves as it is -/
theorem for_seq {K : PySem.W.Frag} {b : Bool} {a : Addr} {xs : List V} {g : TG} {tb : TS} {D : Ends} {σ : L2.St} {H : Hp} (Pv : Nat → L2.St → Hp → Prop) (h0 : Pv 0 σ H) (hl : ∀ i σ H, i ≤ xs.length → Pv i σ H → Sq K b H a xs)
    (hs : ∀ i x σ H, xs[i]? = some x → Pv i σ H → g x σ H fun σ2 H2 => tb { D with nx := Pv (i + 1), ct := Pv (i + 1), bk := D.nx } σ2 H2) (hd : ∀ σ H, Pv xs.length σ H → D.nx σ H) :
    ∃ W : Nat → Nat → L2.St → Hp → Prop, (∃ m, W 0 m σ H) ∧ ∀ i m σ H, W i m σ H →
      ((ItS K b a).stop i H ∧ D.nx σ H) ∨ ((ItS K b a).go i H ∧ ∃ N : L2.St → Hp → Prop, (∀ σ' H', N σ' H' → ∃ m', m' < m ∧ W (i + 1) m' σ' H') ∧
        ∀ x H', (ItS K b a).yld i H x H' → g x σ H' fun σ2 H2 => tb { D with nx := N, ct := N, bk := D.nx } σ2 H2) := by
  cases b with
  | true => exact for_list (K := K) (a := a) (xs := xs) Pv h0 hl hs hd
  | false => exact for_tup (K := K) (a := a) (xs := xs) Pv h0 hl hs hd
/-! ### enumerate -/
def Liv (b : Bool) (h : Heap) (a : Addr) (its : List Value) : Prop := match b with | true => h.IsList a its.toArray | false => h.IsTuple a its.toArray
def iterAt (b : Bool) (h : Heap) (it a : Addr) (i : Nat) : Prop := match b with | true => h.IsListIter it a i | false => h.IsTupleIter it a i
/-- (0, x0), (1, x1), .., each a new tuple -/
def ItN (K : PySem.W.Frag) (b : Bool) (a : Addr) : It where
  go := fun i H => ∃ (xs : List V) (x : V), Sq K b H a xs ∧ xs[i]? = some x
  yld := fun i H v H' => ∃ T x, v = .ref T ∧ H T = none ∧ H' = upd H T (.tup [.int (i : Nat), x]) ∧ ∀ xs, Sq K b H a xs → xs[i]? = some x
  stop := fun i H => ∃ xs : List V, Sq K b H a xs ∧ xs.length = i
theorem iterAt.mono {b : Bool} {h h' : Heap} {it a : Addr} {i : Nat} (x : iterAt b h it a i) (k : ∀ o, h.get? it = some o → h'.get? it = some o) : iterAt b h' it a i := by
  cases b with
  | true => exact Heap.IsListIter.at x k
  | false => exact Heap.IsTupleIter.at x k
theorem iterAt.plain {b : Bool} {h : Heap} {it a : Addr} {i : Nat} (x : iterAt b h it a i) : ∃ o, h.get? it = some o ∧ ∀ v, o.data ≠ .cell v := by
  cases b with
  | true => obtain ⟨o, e, _, d⟩ := x; exact ⟨o, e, fun v z => by rw [d] at z; cases z⟩
  | false => obtain ⟨o, e, _, d⟩ := x; exact ⟨o, e, fun v z => by rw [d] at z; cases z⟩
section
variable {P : Program} {w : World} {A : Around} {E : Value → Shared → Prop} {s : Shared}
/-- one more of an enumeration, of either kind -/
theorem enum_item {b : Bool} {e it a : Addr} {i : Nat} {its : List Value} {u old : Value} {Q : Option Value → Shared → Prop} (hh : A.handled = none) (he : IsEnum s.heap e it i old) (hit : iterAt b s.heap it a i)
    (hp : Liv b s.heap a its) (hu : its[i]? = some u) (hne : e ≠ it) (hae : a ≠ e) (hai : a ≠ it)
    (hQ : ∀ h' tk, IsEnumOut h' e it ((i : Int) + 1) u s.heap.objs.size → iterAt b h' it a (i + 1) → h'.get? s.heap.objs.size = some { cls := .type "tuple", data := .seq #[.int i tk, u] } →
      (∀ b o, b ≠ e → b ≠ it → s.heap.get? b = some o → h'.get? b = some o) → Q (some (.ref s.heap.objs.size)) { s with heap := h', toks := tk + 1 }) : wpAny (model P w) A (pyNext (.ref e)) Q E s := by
  have hlt : i < its.toArray.size := by
    rw [List.size_toArray]
    exact (List.getElem?_eq_some_iff.mp hu).1
  have hef : e ∉ [it, a] := fun z => by
    rcases List.mem_cons.mp z with z | z
    · exact hne z
    · exact hae (List.mem_singleton.mp z).symm
  have same : ∀ {x : Value}, its.toArray[i]? = some x → x = u := fun {x} z => by
    rw [List.getElem?_toArray, hu] at z
    exact (Option.some.inj z).symm
  cases b with
  | true =>
    refine wpAny_pyNext_enum_itemD (Draws.list (A := A.in1) hh it a hai its.toArray) he ⟨hit, hp⟩ hlt hne hef fun x h' tk hP ho hs' hT hsz hk => ?_
    rw [same hP] at ho hT
    exact hQ h' tk ho hs'.1 hT hk
  | false =>
    refine wpAny_pyNext_enum_itemD (Draws.tuple (A := A.in1) hh it a hai its.toArray) he ⟨hit, hp⟩ hlt hne hef fun x h' tk hP ho hs' hT hsz hk => ?_
    rw [same hP] at ho hT
    exact hQ h' tk ho hs'.1 hT hk
theorem enum_end {b : Bool} {e it a : Addr} {i : Nat} {its : List Value} {old : Value} {Q : Option Value → Shared → Prop} (hh : A.handled = none) (he : IsEnum s.heap e it i old) (hit : iterAt b s.heap it a i)
    (hp : Liv b s.heap a its) (hi : i = its.length) (hai : a ≠ it)
    (hQ : ∀ h', Heap.ExtBut it s.heap h' → Q none { s with heap := h' }) : wpAny (model P w) A (pyNext (.ref e)) Q E s := by
  subst hi
  have z : its.toArray.size = its.length := List.size_toArray
  cases b with
  | true => exact wpAny_pyNext_enum_endD (Draws.list (A := A.in1) hh it a hai its.toArray) he ⟨z ▸ hit, hp⟩ hQ
  | false => exact wpAny_pyNext_enum_endD (Draws.tuple (A := A.in1) hh it a hai its.toArray) he ⟨z ▸ hit, hp⟩ hQ
end
theorem sq_lives {X : Cx} {pins : List (Addr × Obj)} {σ : L2.St} {H : Hp} {s : Shared} {b : Bool} {a : Addr} {xs : List V} (I : Inv X pins σ H s) (h : Sq X.K b H a xs) :
    ∃ its : List Value, Vals xs its ∧ Liv b s.heap a its := by
  cases b with
  | true => obtain ⟨its, rv, p, _⟩ := I.list h; exact ⟨its, rv, p.isList⟩
  | false => obtain ⟨its, rv, p, _⟩ := I.tuple h; exact ⟨its, rv, p⟩
theorem lives_ne {b : Bool} {h : Heap} {a : Addr} {its : List Value} {e : Addr} {o : Obj} {n : String} (p : Liv b h a its) (he : h.get? e = some o) (hc : o.cls = .type n) (n1 : n ≠ "list") (n2 : n ≠ "tuple") : a ≠ e := by
  rintro rfl
  cases b with
  | true => obtain ⟨o', e', c', _⟩ := p; rw [he] at e'; cases e'; rw [hc] at c'; cases c'; exact n1 rfl
  | false => obtain ⟨o', e', c', _⟩ := p; rw [he] at e'; cases e'; rw [hc] at c'; cases c'; exact n2 rfl
theorem iterAt.cls {b : Bool} {h : Heap} {it a : Addr} {i : Nat} (x : iterAt b h it a i) : ∃ o n, h.get? it = some o ∧ o.cls = .type n ∧ n ≠ "list" ∧ n ≠ "tuple" := by
  cases b with
  | true => obtain ⟨o, e, c, _⟩ := x; exact ⟨o, _, e, c, by decide, by decide⟩
  | false => obtain ⟨o, e, c, _⟩ := x; exact ⟨o, _, e, c, by decide, by decide⟩
theorem turn_en {P : Program} {w : World} {K : PySem.W.Frag} {elts : List Expr} {kk : Nat} {tpos : Pos} (b : Bool) (a e it : Addr) :
    Turn P w K (.Tuple elts kk tpos) (ItN K b a) [e, it] e (fun i h => (∃ old, IsEnum h e it ((i : Nat) : Int) old) ∧ iterAt b h it a i ∧ e ≠ it) where
  mem := List.mem_cons_self
  obj := fun i h ⟨⟨old, he⟩, hi, _⟩ c hc => by
    rcases List.mem_cons.mp hc with z | z
    · rw [z]; exact ⟨_, he, fun v q => nomatch q⟩
    · rw [List.mem_singleton.mp z]; exact hi.plain
  keep := fun i h h' ⟨⟨old, he⟩, hi, hne⟩ k => ⟨⟨old, k e List.mem_cons_self _ he⟩, hi.mono fun o q => k it (List.mem_cons_of_mem _ List.mem_cons_self) o q, hne⟩
  self := fun A i s Q E ⟨⟨_, he⟩, _⟩ h => wpAny_pyIter_enum he h
  done := by
    intro X hP hw hK hc i pins s σ H E I hf ⟨⟨old, he⟩, hit, hne⟩ ⟨xs, hq, hx⟩
    subst hP hw hK
    obtain ⟨its, rv, p⟩ := sq_lives I hq
    obtain ⟨oi, ni, hoi, ci, ni1, ni2⟩ := hit.cls
    obtain ⟨f0, f1, f2, f3, f4, f5⟩ := hf it (List.mem_cons_of_mem _ List.mem_cons_self)
    refine enum_end (I.ok.hd hc) he hit p (hx.symm.trans rv.length) (lives_ne p hoi ci ni1 ni2) fun h' eb => ?_
    exact ⟨rfl, I.turned (t' := s.toks) (fun c o hb q => eb c o hb q) f0 f1 f3 f4 f5⟩
  item := by
    intro X hP hw hK hc i pins s σ H E I hf ⟨⟨old, he⟩, hit, hne⟩ ⟨xs, x, hq, hx⟩
    subst hP hw hK
    obtain ⟨its, rv, p⟩ := sq_lives I hq
    obtain ⟨u, hu, ru⟩ := rv.get hx
    have he0 := he
    have hel : e < s.heap.objs.size := Heap.lt_size he
    obtain ⟨oi, ni, hoi, ci, ni1, ni2⟩ := hit.cls
    have hil : it < s.heap.objs.size := Heap.lt_size hoi
    refine enum_item (I.ok.hd hc) he hit p hu hne (lives_ne p he0 rfl (by decide) (by decide)) (lives_ne p hoi ci ni1 ni2) fun h' tk ho hit' hT hk => ?_
    refine ⟨_, rfl, wpAny_letOwnedTupleGo_enum (s := { s with heap := h', toks := tk + 1 }) ho fun h'' he' sb => ?_⟩
    have hT2 := (sb.2 s.heap.objs.size (Nat.ne_of_gt hel)).trans hT
    have I1 : Inv X pins σ (upd H s.heap.objs.size (.tup [.int (i : Nat), x])) { s with heap := h'', toks := tk + 1 } :=
      I.turnedNew (ch := [e, it]) (fun c ob hb q => (sb.2 c fun z => hb (z ▸ List.mem_cons_self)).trans (hk c ob (fun z => hb (z ▸ List.mem_cons_self)) (fun z => hb (z ▸ List.mem_cons_of_mem _ List.mem_cons_self)) q)) hf (Nat.le_refl _)
        (show ObjOk X.prog X.w _ h'' _ (.tup [.int (i : Nat), x]) from ⟨by show 2 ≤ sizeLine; decide, [.int i tk, u], .cons ⟨_, rfl⟩ (.cons ru .nil), _, hT2, rfl, _, rfl⟩)
    refine ⟨.ref s.heap.objs.size, _, I1, rfl, ⟨_, x, rfl, I.hok.fresh (Nat.le_refl _), rfl, fun ys hy => by rw [hy.inj I hq]; exact hx⟩, ⟨⟨u, ?_⟩, hit'.mono fun o q => (sb.2 it hne.symm).trans q, hne⟩, fun c hcm => ?_⟩
    · have e1 : ((i + 1 : Nat) : Int) = (i : Int) + 1 := by omega
      rw [e1]
      exact he'
    · rcases List.mem_cons.mp hcm with z | z
      · rw [z, upd_ne (Nat.ne_of_lt hel)]
        exact (hf e List.mem_cons_self).1
      · rw [List.mem_singleton.mp z, upd_ne (Nat.ne_of_lt hil)]
        exact (hf it (List.mem_cons_of_mem _ List.mem_cons_self)).1

/-! ### enumerate(v), its making -/
set_option maxHeartbeats 1000000 in
theorem new_enum {v : Value} {o : Obj} {Hv : Heap → Prop} (B : Begins v o Hv) : Meets (Builtin.«enumerate.__new__» ⟨[.type "enumerate", v], []⟩) (fun _ R s => Hv s.heap ∧
      R (.ok (.ret (.ref (s.heap.push o).objs.size))) { s with heap := (s.heap.push o).push { cls := .type "enumerate", data := .fields #[.none, .bool false, .ref s.heap.objs.size, rawInt 0, .none, .none] } }) :=
  .of_wp fun prog w A R s ⟨h1, h⟩ => by
    obtain ⟨hp, g, d, tk, os⟩ := s
    have hsub := sub_enumerate
    have q1 : ∀ {A' : Around} {E : Value → Shared → Prop} {Q : Value → Shared → Prop}, Q (.ref hp.objs.size) ⟨hp.push o, g, d, tk, os⟩ → wpAny (model prog w) A' (pyIter v) Q E ⟨hp, g, d, tk, os⟩ := B.iter prog w _ _ ⟨hp, g, d, tk, os⟩ _ h1
    wp_walk using q1
    refine wpAny_stack_any fun st => wpAny_pure ?_
    split
    · rename_i c _ _ _ _ _
      cases (c == Value.type "enumerate") <;> (wp_walk using q1; exact ⟨_, rfl, h⟩)
    · wp_walk using q1
      exact ⟨_, rfl, h⟩
section
variable {P : Program} {w : World} {A : Around} {E : Value → Shared → Prop} {s : Shared}
theorem enum_made {v : Value} {o : Obj} {Hv : Heap → Prop} {Q : Value → Shared → Prop} (B : Begins v o Hv) (h1 : Hv s.heap)
    (h : ∀ h', IsEnum h' (s.heap.objs.size + 1) s.heap.objs.size 0 .none → h'.get? s.heap.objs.size = some o → (∀ b o, s.heap.get? b = some o → h'.get? b = some o) → Q (.ref (s.heap.objs.size + 1)) { s with heap := h' }) :
    wpAny (model P w) A (call (.type "enumerate") [v]) Q E s := by
  refine callType_new F.called_enumerate (by decide) (F.typeCall_enumerate_1 _) (F.newCall_enumerate_1 _) (fun obj => F.args_object_init_2 obj _) F.entry_enumerate_new (new_enum B) ⟨h1, ?_⟩
  have hz : (s.heap.push o).objs.size = s.heap.objs.size + 1 := Heap.size_push ..
  have he := Heap.get?_push_size (s.heap.push o) (o := { cls := .type "enumerate", data := .fields #[.none, .bool false, .ref s.heap.objs.size, rawInt 0, .none, .none] }) rfl
  show _ ∧ _
  rw [hz] at he ⊢
  exact ⟨⟨_, he, rfl⟩, h _ he (Heap.get?_push_of_some _ (Heap.get?_push_size _ B.free)) fun b o x => Heap.get?_push_of_some _ (Heap.get?_push_of_some _ x)⟩
end
def iEnS (K : PySem.W.Frag) (ta : TA) : TI := fun σ H R => ta σ H fun vs H1 => ∃ a b xs, vs = [.ref a] ∧ Sq K b H1 a xs ∧ R (ItN K b a) H1
theorem pi_en {X : Cx} {e : Expr} {ta : TA} {p pos tpos : Pos} {elts : List Expr} {kk : Nat} (hg : Gl X "enumerate") (hm : X.mg "enumerate" = none) (ha : PA X [e] ta) (hs : starEach [e] X.env = [(false, eval e X.env)] := by rfl) :
    PI X (.Tuple elts kk tpos) (.Call (.Name "enumerate" p) [e] [] pos) (iEnS X.K ta) := by
  refine ⟨fun pins s σ H R I h => Call_ (ld_blt I hg hm boot_enumerate (PyProof.Rows.callWith_type1 (thn (ha.run pos pins s σ H _ I h) fun us s1 ⟨vs, H1, I1, r1, a, b, xs, ex, hq, q⟩ => ?_) hs rfl))⟩
  subst ex
  cases r1 with
  | cons r rr =>
    cases rr
    cases r
    obtain ⟨its, rv, p'⟩ := sq_lives I1 hq
    have fin : ∀ (h' : Heap), IsEnum h' (s1.heap.objs.size + 1) s1.heap.objs.size 0 .none → iterAt b h' s1.heap.objs.size a 0 → (∀ c o, s1.heap.get? c = some o → h'.get? c = some o) →
        wpAny (model X.prog X.w) X.A (pyIter (.ref (s1.heap.objs.size + 1))) (PIE X pins σ (.Tuple elts kk tpos) R) X.xe { s1 with heap := h' } := fun h' he hit hk => by
      refine wpAny_pyIter_enum (s := { s1 with heap := h' }) he ⟨s1.heap.objs.size + 1, [s1.heap.objs.size + 1, s1.heap.objs.size], _, _, H1, rfl, I1.kept (t' := s1.toks) hk, turn_en b a (s1.heap.objs.size + 1) s1.heap.objs.size, ⟨⟨.none, he⟩, hit, Nat.succ_ne_self _⟩, fun c hc => ?_, q⟩
      have hle : s1.heap.objs.size ≤ c := by
        rcases List.mem_cons.mp hc with z | z
        · rw [z]; exact Nat.le_add_right _ _
        · rw [List.mem_singleton.mp z]; exact Nat.le_refl _
      exact I1.fpOk hle (I1.hok.fresh hle)
    cases b with
    | true => exact enum_made (begins_list a its.toArray) p' fun h' he ho hk => fin h' he ⟨_, ho, rfl, rfl⟩ hk
    | false => exact enum_made (begins_tuple a its.toArray) p' fun h' he ho hk => fin h' he ⟨_, ho, rfl, rfl⟩ hk
theorem for_en {K : PySem.W.Frag} {b : Bool} {a : Addr} {xs : List V} {g : TG} {tb : TS} {D : Ends} {σ : L2.St} {H : Hp} (Pv : Nat → L2.St → Hp → Prop) (h0 : Pv 0 σ H) (hl : ∀ i σ H, i ≤ xs.length → Pv i σ H → Sq K b H a xs)
    (hs : ∀ (i : Nat) (x : V) (T : Addr) (σ : L2.St) (H : Hp), xs[i]? = some x → H T = none → Pv i σ H → g (.ref T) σ (upd H T (.tup [.int (i : Nat), x])) fun σ2 H2 => tb { D with nx := Pv (i + 1), ct := Pv (i + 1), bk := D.nx } σ2 H2) (hd : ∀ σ H, Pv xs.length σ H → D.nx σ H) :
    ∃ W : Nat → Nat → L2.St → Hp → Prop, (∃ m, W 0 m σ H) ∧ ∀ i m σ H, W i m σ H →
      ((ItN K b a).stop i H ∧ D.nx σ H) ∨ ((ItN K b a).go i H ∧ ∃ N : L2.St → Hp → Prop, (∀ σ' H', N σ' H' → ∃ m', m' < m ∧ W (i + 1) m' σ' H') ∧
        ∀ x H', (ItN K b a).yld i H x H' → g x σ H' fun σ2 H2 => tb { D with nx := N, ct := N, bk := D.nx } σ2 H2) := by
  refine ⟨fun i m σ H => m = xs.length - i ∧ i ≤ xs.length ∧ Pv i σ H, ⟨xs.length, rfl, Nat.zero_le _, h0⟩, fun i m σ H ⟨em, hi, p⟩ => ?_⟩
  have q := hl i σ H hi p
  rcases Nat.lt_or_eq_of_le hi with lt | e
  · refine .inr ⟨⟨xs, xs[i], q, List.getElem?_eq_getElem lt⟩, Pv (i + 1), fun σ' H' p' => ⟨xs.length - (i + 1), by omega, rfl, lt, p'⟩, fun v H' ⟨T, x, ev, nT, eH, at_⟩ => ?_⟩
    subst ev eH
    exact hs i x T σ H (at_ xs q) nT p
  · subst e
    exact .inl ⟨⟨xs, q, rfl⟩, hd σ H p⟩
end KnE

set_option Elab.async false
set_option linter.all false
set_option maxRecDepth 100000
set_option maxHeartbeats 4000000
/-! What a walk of a comprehension asks: into a set over a list or a tuple, into a dict over a list. -/
namespace KnC
open PySem PySem.Spec PyProof.Rows L2
theorem sc_seq {P : Program} {w : World} {K : PySem.W.Frag} {b : Bool} {a : Addr} {xs : List V} {g : TG} {tt : TT} {te : TE} {vs : List Nat} {σ : L2.St} {H1 : Hp} {D : Addr} {Qd : Hp → Prop} (Pv : Nat → Hp → Prop) (h0 : Pv 0 (upd H1 D (KnS.SetL P w D []))) (hl : ∀ i H, i ≤ xs.length → Pv i H → KnE.Sq K b H a xs)
    (hs : ∀ i x H, xs[i]? = some x → Pv i H → g x (wipe σ vs) H fun σ2 H2 => wipe σ2 vs = wipe σ vs ∧ tt σ2 H2 fun c H3 =>
      if c = true then te σ2 H3 fun y H4 => ∃ (k : Key) (ks : List Key), y = kV k ∧ H4 D = some (KnS.SetL P w D ks) ∧ ks.length + 1 < scanBound ∧ Pv (i + 1) (upd H4 D (KnS.SetL P w D (KnS.addL ks k))) else Pv (i + 1) H3) (hd : ∀ H, Pv xs.length H → Qd H) :
    ∃ W : Nat → Nat → Hp → Prop, (∃ m, W 0 m (upd H1 D (KnS.SetL P w D []))) ∧ ∀ i m H, W i m H → ((KnE.ItS K b a).stop i H ∧ Qd H) ∨
      ((KnE.ItS K b a).go i H ∧ ∃ Nx : Hp → Prop, (∀ H', Nx H' → ∃ m', m' < m ∧ W (i + 1) m' H') ∧ ∀ x H', (KnE.ItS K b a).yld i H x H' → g x (wipe σ vs) H' fun σ2 H2 => wipe σ2 vs = wipe σ vs ∧ tt σ2 H2 fun c H3 =>
        if c = true then te σ2 H3 fun y H4 => ∃ (k : Key) (ks : List Key), y = kV k ∧ H4 D = some (KnS.SetL P w D ks) ∧ ks.length + 1 < scanBound ∧ Nx (upd H4 D (KnS.SetL P w D (KnS.addL ks k))) else Nx H3) := by
  refine ⟨fun i m H => m = xs.length - i ∧ i ≤ xs.length ∧ Pv i H, ⟨xs.length, by simp, Nat.zero_le _, h0⟩, ?_⟩
  rintro i m H ⟨rfl, hi, p⟩
  have q := hl i H hi p
  cases b with
  | true =>
    by_cases hlt : i < xs.length
    · refine .inr ⟨⟨xs, xs[i], q, by simp [hlt]⟩, Pv (i + 1), fun H' p' => ⟨xs.length - (i + 1), by omega, rfl, hlt, p'⟩, fun x H' y => ?_⟩
      obtain ⟨e, y⟩ := y
      subst e
      exact hs i x _ (y xs q) p
    · have e : i = xs.length := by omega
      subst e
      exact .inl ⟨⟨xs, q, Nat.le_refl _⟩, hd H p⟩
  | false =>
    by_cases hlt : i < xs.length
    · refine .inr ⟨⟨xs, xs[i], q, by simp [hlt]⟩, Pv (i + 1), fun H' p' => ⟨xs.length - (i + 1), by omega, rfl, hlt, p'⟩, fun x H' y => ?_⟩
      obtain ⟨e, y⟩ := y
      subst e
      exact hs i x _ (y xs q) p
    · have e : i = xs.length := by omega
      subst e
      exact .inl ⟨⟨xs, q, Nat.le_refl _⟩, hd H p⟩
theorem dc_list {K : PySem.W.Frag} {a : Addr} {xs : List V} {g : TG} {tt : TT} {tk tv : TE} {vs : List Nat} {σ : L2.St} {H1 : Hp} {D : Addr} {Qd : Hp → Prop} (Pv : Nat → Hp → Prop) (h0 : Pv 0 (upd H1 D (.dK []))) (hl : ∀ i H, i ≤ xs.length → Pv i H → SqL K H a xs)
    (hs : ∀ i x H, xs[i]? = some x → Pv i H → g x (wipe σ vs) H fun σ2 H2 => wipe σ2 vs = wipe σ vs ∧ tt σ2 H2 fun b H3 =>
      if b = true then tk σ2 H3 fun y H4 => tv σ2 H4 fun z H5 => ∃ kvs k, y = kV k ∧ H5 D = some (.dK kvs) ∧ kvs.length < sizeLine ∧ Pv (i + 1) (upd H5 D (.dK (putK kvs k z))) else Pv (i + 1) H3) (hd : ∀ H, Pv xs.length H → Qd H) :
    ∃ W : Nat → Nat → Hp → Prop, (∃ m, W 0 m (upd H1 D (.dK []))) ∧ ∀ i m H, W i m H →
      ((Itl K a).stop i H ∧ Qd H) ∨ ((Itl K a).go i H ∧ ∃ Nx : Hp → Prop, (∀ H', Nx H' → ∃ m', m' < m ∧ W (i + 1) m' H') ∧ ∀ x H', (Itl K a).yld i H x H' → g x (wipe σ vs) H' fun σ2 H2 => wipe σ2 vs = wipe σ vs ∧ tt σ2 H2 fun b H3 =>
        if b = true then tk σ2 H3 fun y H4 => tv σ2 H4 fun z H5 => ∃ kvs k, y = kV k ∧ H5 D = some (.dK kvs) ∧ kvs.length < sizeLine ∧ Nx (upd H5 D (.dK (putK kvs k z))) else Nx H3) := by
  refine ⟨fun i m H => m = xs.length - i ∧ i ≤ xs.length ∧ Pv i H, ⟨xs.length, by simp, Nat.zero_le _, h0⟩, ?_⟩
  rintro i m H ⟨rfl, hi, p⟩
  have q := hl i H hi p
  by_cases hlt : i < xs.length
  · refine .inr ⟨⟨xs, xs[i], q, by simp [hlt]⟩, Pv (i + 1), fun H' p' => ⟨xs.length - (i + 1), by omega, rfl, hlt, p'⟩, fun x H' y => ?_⟩
    obtain ⟨e, y⟩ := y
    subst e
    exact hs i x _ (y xs q) p
  · have e : i = xs.length := by omega
    subst e
    exact .inl ⟨⟨xs, q, Nat.le_refl _⟩, hd H p⟩
/-- a list comprehension over a dict's keys -/
theorem lc_keys {d : Addr} {o : Obj} {kvs : List (Key × V)} {g : TG} {tt : TT} {te : TE} {vs : List Nat} {σ : L2.St} {H1 : Hp} {D : Addr} {Qd : Hp → Prop} (Pv : Nat → Hp → Prop) (h0 : Pv 0 (upd H1 D (.lst []))) (hl : ∀ i H, i ≤ kvs.length → Pv i H → H d = some (.frz o (.dK kvs)))
    (hs : ∀ i k v H, kvs[i]? = some (k, v) → Pv i H → g (kV k) (wipe σ vs) H fun σ2 H2 => wipe σ2 vs = wipe σ vs ∧ tt σ2 H2 fun b H3 =>
      if b = true then te σ2 H3 fun y H4 => ∃ acc, H4 D = some (.lst acc) ∧ acc.length < sizeLine ∧ Pv (i + 1) (upd H4 D (.lst (acc ++ [y]))) else Pv (i + 1) H3) (hd : ∀ H, Pv kvs.length H → Qd H) :
    ∃ W : Nat → Nat → Hp → Prop, (∃ m, W 0 m (upd H1 D (.lst []))) ∧ ∀ i m H, W i m H →
      ((Itk d o kvs).stop i H ∧ Qd H) ∨ ((Itk d o kvs).go i H ∧ ∃ Nx : Hp → Prop, (∀ H', Nx H' → ∃ m', m' < m ∧ W (i + 1) m' H') ∧ ∀ x H', (Itk d o kvs).yld i H x H' → g x (wipe σ vs) H' fun σ2 H2 => wipe σ2 vs = wipe σ vs ∧ tt σ2 H2 fun b H3 =>
        if b = true then te σ2 H3 fun y H4 => ∃ acc, H4 D = some (.lst acc) ∧ acc.length < sizeLine ∧ Nx (upd H4 D (.lst (acc ++ [y]))) else Nx H3) := by
  refine ⟨fun i m H => m = kvs.length - i ∧ i ≤ kvs.length ∧ Pv i H, ⟨kvs.length, by simp, Nat.zero_le _, h0⟩, ?_⟩
  rintro i m H ⟨rfl, hi, p⟩
  have q := hl i H hi p
  by_cases hlt : i < kvs.length
  · refine .inr ⟨⟨q, hlt⟩, Pv (i + 1), fun H' p' => ⟨kvs.length - (i + 1), by omega, rfl, hlt, p'⟩, fun x H' y => ?_⟩
    obtain ⟨e, k, v, ek, ex⟩ := y
    subst e ex
    exact hs i k v _ ek p
  · have e : i = kvs.length := by omega
    subst e
    exact .inl ⟨⟨q, Nat.le_refl _⟩, hd H p⟩
/-- texts as keys -/
theorem addL_strs {xs : List Str} {x : Str} : KnS.addL (xs.map Sum.inr) (Sum.inr x) = ((if x ∈ xs then xs else xs ++ [x]).map Sum.inr : List Key) := by
  unfold KnS.addL
  by_cases z : x ∈ xs
  · rw [if_pos z, if_pos (KnS.hasL_iff.mpr (List.mem_map.mpr ⟨x, z, rfl⟩))]
  · rw [if_neg z, if_neg (fun q => z (by obtain ⟨y, hy, e⟩ := List.mem_map.mp (KnS.hasL_iff.mp q); cases e; exact hy)), List.map_append]; rfl
/-- a list or a tuple by a place -/
def rIx (K : PySem.W.Frag) : R2 := fun x y H Q => rIxL K x y H Q ∨ rIxT K x y H Q
theorem ix_seq {X : Cx} {K : PySem.W.Frag} (h1 : IxR X (rIxL K)) (h2 : IxR X (rIxT K)) : IxR X (rIx K) := by
  intro value slice pins s σ H x y v u Q I rx ry h hs
  rcases h with h | h
  · exact h1 value slice pins s σ H x y v u Q I rx ry h hs
  · exact h2 value slice pins s σ H x y v u Q I rx ry h hs
/-- a branch, and what comes behind both its ways -/
theorem if_then {c : TT} {t u b : TS} {D : Ends} {σ : L2.St} {H : Hp} (T : L2.St → Hp → Prop) (h : (∀ σ2 H2, T σ2 H2 → b D σ2 H2) → tSeq (tIfS c t u) b D σ H) (k : ∀ σ2 H2, T σ2 H2 → b D σ2 H2) : tSeq (tIfS c t u) b D σ H := h k
theorem asg_if {i : Nat} {x : V} {c : TT} {t u b : TS} {D : Ends} {ra : VK} {rb rc : L2.St → Hp → Prop} {σ : L2.St} {H : Hp} (T : L2.St → Hp → Prop) (h : (∀ σ2 H2, T σ2 H2 → b D σ2 H2) → tSeq (tIfS c t u) b D (σ.set i (some x)) H) (k : ∀ σ2 H2, T σ2 H2 → b D σ2 H2) : gName i x σ H (Ends.nx { nx := tSeq (tIfS c t u) b D, rt := ra, ct := rb, bk := rc }) := h k
theorem nx_if {c : TT} {t u b : TS} {D : Ends} {ra : VK} {rb rc : L2.St → Hp → Prop} {σ : L2.St} {H : Hp} (T : L2.St → Hp → Prop) (h : (∀ σ2 H2, T σ2 H2 → b D σ2 H2) → tSeq (tIfS c t u) b D σ H) (k : ∀ σ2 H2, T σ2 H2 → b D σ2 H2) : Ends.nx { nx := tSeq (tIfS c t u) b D, rt := ra, ct := rb, bk := rc } σ H := h k
theorem un65 {k : Nat} {A : Around} (r : Room k A) : A.units + 65 < cLine := by have := r.un; omega
end KnC

set_option Elab.async false
set_option linter.all false
set_option maxRecDepth 100000
set_option maxHeartbeats 4000000
/-! list(d.values()). -/
namespace KnM
open PySem PySem.Spec PyProof.Rows L2
def tListVals (td : TE) : TE := fun σ H Q => td σ H fun x H1 => ∃ d kvs, x = .ref d ∧ Rd H1 d (.dK kvs) ∧ ∀ p, H1 p = none → Q (.ref p) (upd H1 p (.lst (kvs.map (·.2))))
theorem vals_kv {kvs : List (Key × V)} {vs : List (Key × Value)} (r : KV kvs vs) : Vals (kvs.map (·.2)) (vs.map (·.2)) := by
  unfold KV at r
  induction r with
  | nil => exact .nil
  | cons h _ ih => exact .cons h.2 ih
section
variable {X : Cx} {e : Expr} {td : TE} {p pos apos cpos : Pos}
theorem pe_listVals (hc : X.calm = true) (hg : Gl X "list") (hm : X.mg "list" = none) (he : PE X e td) (hbase : attributeBase e "values" X.env (eval e X.env) = eval e X.env := by rfl) (hline : (apos.endLine == cpos.line) = true := by rfl)
    (hs : starEach [.Call (.Attribute e "values" apos) [] [] cpos] X.env = (false, eval (.Call (.Attribute e "values" apos) [] [] cpos) X.env) :: starEach [] X.env := by rfl) :
    PE X (.Call (.Name "list" p) [.Call (.Attribute e "values" apos) [] [] cpos] [] pos) (tListVals td) := by
  refine ⟨fun pins s σ H Q I h => Call_ (ld_blt I hg hm boot_list ?_)⟩
  refine PyProof.Rows.callWith_type1 (PyProof.Rows.args_cons ?_ hs) hs rfl
  refine wpAny_Call_method (T := "dict") (id := "dict.values") hbase rfl hline F.plainAttrs_dict F.slot_dict_values F.type_dict_values (thn (he.run pins s σ H _ I h) fun u s1 ⟨x, H1, I1, rx, d, kvs, ex, hd, q⟩ => ?_)
  subst ex
  obtain rfl : u = Value.ref d := rx
  obtain ⟨z, lo, vs, rel, dd⟩ := dk_rd I1.hok hd
  obtain ⟨ep, hat⟩ := dd.dictAt
  refine ⟨dd.typeIs, dd.mapOf.noDict, ?_⟩
  show wpAny _ _ (callWith cpos (.builtin "dict.values") [.ref d] [] []) _ X.xe s1
  refine method_meetsIn F.slot_dict_values F.entry_dict_values rfl (PySem.evalArgs_none ⟨rfl, dd.typeIs, F.args_dict_values_1 _, _, meets_dict_values (mixKind X.prog X.w) d lo, ⟨vs, dd⟩, ?_⟩)
  refine PyProof.Rows.args_nil ?_
  generalize hh : s1.heap.push { cls := .type "dict_values", data := .fields #[.ref d] } = h2
  have k2 : ∀ b o, s1.heap.get? b = some o → h2.get? b = some o := fun b o e => hh ▸ Heap.get?_push_of_some _ e
  have view : h2.IsValuesView s1.heap.objs.size d := by
    rw [← hh]
    exact ⟨_, Heap.get?_push_size _ rfl, rfl, rfl⟩
  have hat2 : h2.DictAt (mixKind X.prog X.w) d vs ep := hh ▸ hat.push _
  have I2 : Inv X pins σ H1 { s1 with heap := h2 } := I1.kept (t' := s1.toks) k2
  refine PySem.W.kdl_call (s := { s1 with heap := h2 }) (PySem.W.kdl_values (knd := mixKind X.prog X.w) (kvs := vs) (ep := ep) (r := s1.heap.objs.size)) (I1.ok.hd hc) ⟨view, hat2⟩ (by rw [← rel.length]; exact z) fun h' tk acc c' hk hD hacc => ?_
  have e1 : acc.toList = vs.map (·.2) := PySem.W.kdl_vals_eq _ (by rw [Array.length_toList]; exact hacc.1) fun j v e => hacc.2 j v (by rw [← Array.getElem?_toList]; exact e)
  refine ⟨.ref h2.objs.size, upd H1 h2.objs.size (.lst (kvs.map (·.2))), I2.laid (t' := tk) hk (Nat.le_refl _) (show ObjOk X.prog X.w _ _ _ (.lst (kvs.map (·.2))) from ⟨by rw [List.length_map]; exact z, acc.toList, c', by rw [e1]; exact vals_kv rel, by rw [Array.toArray_toList]; exact hD⟩), rfl, q _ (I2.hok.fresh (Nat.le_refl _))⟩
end
end KnM

set_option Elab.async false
set_option linter.all false
set_option maxRecDepth 100000
set_option maxHeartbeats 4000000
/-! A property by its promise. -/
namespace KnP
open PySem PySem.Spec PyProof.Rows L2
structure Prp (P : Program) (w : World) (K : PySem.W.Frag) (mg : Str → Option Value) (base : Heap) (k : Nat) (C : Addr) (f : Str) (sp : Sp) : Prop where
  ex : ∃ (p g : Addr) (fd : FuncData) (ps : List Str), PropOf K C f p g ∧ FnOk P w K mg base CX0 k g fd ps sp ∧ Binds K fd ps []
theorem pe_prp {X : Cx} {k j : Nat} {C : Addr} {f : Str} {sp : Sp} {e : Expr} {ta : TE} {pos : Pos} (cl : Cls X.K C) (c : Prp X.prog X.w X.K X.mg X.base k C f sp) (hr : Room j X.A) (hk : k + 1 ≤ j) (he : PE X e ta)
    (hab : attributeBase e f X.env (eval e X.env) = eval e X.env := by rfl) : PE X (.Attribute e f pos) (tProp C sp [] E0 ta) := by
  obtain ⟨p, g, fd, ps, hp, F, b⟩ := c.ex
  exact pe_prop he cl hp F (hr.mono hk) b .nil pass0 hab
end KnP

set_option Elab.async false
set_option linter.all false
set_option maxRecDepth 100000
set_option maxHeartbeats 4000000
/-! Own special methods by their promises. -/
namespace KnW
open PySem PySem.Spec PyProof.Rows L2
structure Own (P : Program) (w : World) (K : PySem.W.Frag) (mg : Str → Option Value) (base : Heap) (k : Nat) (C : Addr) (m : Str) (sp : Sp) : Prop where
  ex : ∃ (f : Addr) (fd : FuncData) (ps : List Str), PySem.W.findIn K (.ref C) m = some (some (.ref f)) ∧ PySem.W.isFn K (.ref f) = true ∧ PySem.W.fnIn K f = true ∧ FnOk P w K mg base CX0 k f fd ps sp ∧ Binds K fd ps []
section
variable {X : Cx} {k j : Nat} {C : Addr} {sp : Sp} {a b : Expr} {ta tb : TE} {pos : Pos}
/-- a def run one frame below -/
theorem run_in1 {CX : CXT} {f : Addr} {fd : FuncData} {ps : List Str} {E : XK} {pins : List (Addr × Obj)} {σ : L2.St} {H : Hp} {s : Shared} {Q : VK} {us : List Value} {vs : List V} (F : FnOk X.prog X.w X.K X.mg X.base CX k f fd ps sp) (hr : Room (k + 1) X.A) (hb : Binds X.K fd ps []) (hx : Passes CX X E)
    (I : Inv X pins σ H s) (r : Vals vs us) (h : sp vs H Q E) : wpAny (model X.prog X.w) X.A.in1 (call (.ref f) us) (EP X pins σ Q) X.xe s := by
  have hl : us.length = ps.length := by rw [← r.length]; exact F.len _ _ _ _ h
  have hb' := hb s us I.kIn (by simpa using hl)
  rw [List.append_nil] at hb'
  refine wpAny_call (codeAny_mono (F.run X.A.in1 X.stack s H ⟨us, []⟩ us vs Q E hr.in1 I.env0.in1 hb' r h) fun r s' hq => ?_)
  cases r with
  | error e => exact hx pins σ H s e s' I hq
  | ok fl =>
    cases fl with
    | ret u => exact I.after hq
    | next => exact False.elim hq
    | brk => exact False.elim hq
    | cont => exact False.elim hq
/-- o[i] by an own __getitem__ -/
def rOwn (C : Addr) (sp : Sp) : R2 := fun x y H Q => ∃ a dx fs, x = .ref a ∧ H a = some (.ins C dx fs) ∧ sp [.ref a, y] H Q E0
theorem pe_get (c : Own X.prog X.w X.K X.mg X.base k C "__getitem__" sp) (hr : Room j X.A) (hk : k + 1 ≤ j) (ha : PE X a ta) (hb : PE X b tb)
    (hs : ∀ v u, subscripted b true v u = runValue (.builtin "lifetime.subscript" ⟨[v, u], []⟩) := by exact fun _ _ => rfl) : PE X (.Subscript a b pos) (tOp (rOwn C sp) ta tb) := by
  obtain ⟨f, fd, ps, h1, h2, h3, F, bb⟩ := c.ex
  refine ⟨fun pins s σ H Q I h => ?_⟩
  refine Subscript_ (binT ha hb I h fun v u s2 x y H2 I2 rx ry q => ?_)
  obtain ⟨o, dx, fs, rfl, eo, q⟩ := q
  cases rx
  obtain ⟨mA, O, _⟩ := ins_get I2.hok eo
  obtain ⟨od, J, _⟩ := O.look
  obtain ⟨m, hF⟩ := I2.fr
  exact PySem.W.sub_K hF I2.ok.mod.kin J h1 h3 h2 (run_in1 (vs := [.ref o, y]) F (hr.mono hk) bb pass0 I2 (.cons rfl (.cons ry .nil)) q) (hs _ _)
/-- two instances of the class compared by its own __eq__, which answers a bool -/
def rOwnEq (C : Addr) (sp : Sp) : R2 := fun x y H Q => ∃ a b dx dy fs gs, x = .ref a ∧ y = .ref b ∧ H a = some (.ins C dx fs) ∧ H b = some (.ins C dy gs) ∧ sp [.ref a, .ref b] H (fun v H' => ∃ c, v = .bl c ∧ Q (.bl c) H') E0
theorem op_ownEq (c : Own X.prog X.w X.K X.mg X.base k C "__eq__" sp) (hr : Room j X.A) (hk : k ≤ j) : OpR X (compareOp .Eq) (rOwnEq C sp) := by
  obtain ⟨f, fd, ps, h1, h2, h3, F, bb⟩ := c.ex
  intro pins s σ H x y v u Q I rx ry hq
  obtain ⟨a, b, dx, dy, fs, gs, rfl, rfl, ha, hb, q⟩ := hq
  cases rx
  cases ry
  obtain ⟨mA, J, _⟩ := ins_get I.hok ha
  obtain ⟨mB, J', _⟩ := ins_get I.hok hb
  obtain ⟨od, J, _⟩ := J.look
  obtain ⟨od', J', _⟩ := J'.look
  obtain ⟨m, hF⟩ := I.fr
  show wpAny (model X.prog X.w) X.A (richCompare .Eq (.ref a) (.ref b)) (EP X pins σ Q) X.xe s
  refine PySem.W.cmp_K (op := .Eq) (tb := .ref C) hr.units0 hF I.ok.mod.kin J J'.type (by simp [PySem.W.notFirst]) h1 h2 ?_
  have r2 : Vals [V.ref a, V.ref b] [Value.ref a, Value.ref b] := .cons rfl (.cons rfl .nil)
  refine wpAny_mono (run_fn (vs := [.ref a, .ref b]) (us := [.ref a, .ref b]) (dvs := []) (ds := []) F (hr.mono hk) bb .nil pass0 I r2 q) (fun r s' hv => ?_) fun _ _ e => e
  obtain ⟨z, H', I', rz, c, ez, q2⟩ := hv
  subst ez
  cases rz
  exact ⟨.bl c, H', I', rfl, q2⟩
end
end KnW

set_option Elab.async false
set_option linter.all false
set_option maxRecDepth 100000
set_option maxHeartbeats 4000000
/-! A dict put into another one, as a display with ** does it: from what the library says of one store. -/
namespace KnG
open PySem PySem.Spec PyProof.Rows L2
section parts
variable {M : Model} {Γ : PySem.Ctx} {p : Pos} {u : Shared} {a : Addr}
/-- which part of a dict is looked at makes no difference to a promise -/
theorem part_upd (f : Array DictEntry → Array DictEntry) (c : Option Value) (R : Unit → Pos → Shared → Prop) (B : Value → Pos → Shared → Prop) : Sem.wp M Γ (updateDict a f c) R B p u = Sem.wp M Γ (updateDict a f) R B p u := by
  simp only [updateDict, loadPart, updatePart, Sem.wp_bind', Sem.wp_load, Sem.wp_pure]
  refine propext (exists_congr fun o => and_congr_right fun _ => ?_)
  cases o.data <;> simp only [Sem.wp_bind', Sem.wp_load, Sem.wp_update, Sem.wp_pure]
theorem part_keys (f : Array DictEntry → Array DictEntry) (c : Option Value) (R : Unit → Pos → Shared → Prop) (B : Value → Pos → Shared → Prop) : Sem.wp M Γ (updateDictKeys a f c) R B p u = Sem.wp M Γ (updateDictKeys a f) R B p u := by
  simp only [updateDictKeys, lookBehind, loadPart, updatePart, Sem.wp_bind', Sem.wp_load, Sem.wp_pure]
  refine propext (exists_congr fun o => and_congr_right fun _ => ?_)
  cases o.data <;> simp only [Sem.wp_bind', Sem.wp_load, Sem.wp_update, Sem.wp_pure]
end parts
section
variable {M : Model} {A : Around} {B : Value → Shared → Prop} {u : Shared}
/-- what holds of a store by d[k] = v holds of one by a display -/
theorem put_of_set {d : Addr} {hh : Int} {key v : Value} {R : Unit → Shared → Prop} (h : wpAny M A (dictSetHashed d key hh v) R B u) : wpAny M A (dictPut d hh key v) R B u := fun Γ p hΓ => by
  have g := h Γ p hΓ
  unfold dictSetHashed at g
  unfold dictPut
  rw [Sem.wp_holding, Sem.wp_bind'] at g
  rw [Sem.wp_bind']
  refine Sem.wp_mono M Γ _ (fun r p' s' e => ?_) (fun _ _ _ e => e) p u g
  cases r with
  | none =>
    have e2 : Sem.wp M Γ (updateDictKeys d (·.push ⟨hh, key, v⟩) (keyPart key)) (fun x _ s => R x s) (fun x _ s => B x s) p' s' := by simpa [rule] using e
    rwa [part_keys] at e2
  | some i =>
    have e2 : Sem.wp M Γ (updateDict d (·.modify i fun e => { e with val := v }) (keyPart key)) (fun x _ s => R () s) (fun x _ s => B x s) p' s' := by simpa [rule, point] using e
    rwa [part_upd] at e2
end
section
variable {prog : Program} {w : World} {K : Type} [DecidableEq K] {knd : KeyKind prog w K} {A : Around} {B : Value → Shared → Prop}
/-- one dict's entries, put into another one from place i on -/
theorem put_rest {d o : Addr} {ob : Obj} {ents : Array DictEntry} {epc : Nat} {base more : List (K × Value)} (apart : d ≠ o) (dat : ob.data = .dict ents epc) (hk : KeysOf knd ents) (hp : Pairs knd ents.toList more)
    (fit : base.length + more.length ≤ sizeLine) : ∀ (n i : Nat) (u : Shared) (R : PUnit → Shared → Prop), i + n = ents.size → u.heap.get? o = some ob → u.heap.DictOf knd d (merged base (more.take i)) →
      (∀ g, g.get? o = some ob → g.DictOf knd d (merged base more) → Heap.SameBut d u.heap g → R PUnit.unit { u with heap := g }) →
      wpAny (model prog w) A (forIn (List.range' i n) PUnit.unit fun i (_ : PUnit) => (do
          let l' ← dictEntries o
          match l'[i]? with
            | some e => do
              holding [e.key, e.val] (dictPut d e.hash e.key e.val)
              let t ← dictEpoch o
              if (t != epc) = true then do
                  (unsupported "dict.changed-during-merge" : Sem PUnit)
                  pure (ForInStep.yield PUnit.unit)
                else pure (ForInStep.yield PUnit.unit)
            | _ => do
              (unsupported "dict.changed-during-merge" : Sem PUnit)
              pure (ForInStep.yield PUnit.unit) : Sem (ForInStep PUnit))) R B u := by
  have size_eq : ents.size = more.length := by
    have := hp.length
    rw [Array.length_toList] at this
    exact this.symm ▸ rfl
  intro n
  induction n with
  | zero =>
    intro i u R e1 e2 e3 e4
    have : more.take i = more := List.take_of_length_le (by omega)
    rw [this] at e3
    exact wpAny_pure (e4 _ e2 e3 (Heap.SameBut.refl _ _))
  | succ n ih =>
    intro i u R e1 e2 e3 e4
    have lt : i < ents.size := by omega
    have lm : i < more.length := by omega
    have gm : more[i]? = some (more[i].1, more[i].2) := List.getElem?_eq_getElem lm
    have ge : ents.toList[i]? = some ents[i] := by rw [Array.getElem?_toList]; exact Array.getElem?_eq_getElem lt
    have two := hp.get? ge gm
    obtain ⟨kk, kis, kh⟩ := hk _ (Array.getElem_mem lt)
    have same : kk = more[i].1 := knd.inj _ _ _ kis two.1
    have room := merged_length_le base (more.take i)
    have cut := List.length_take_le i more
    rw [List.range'_succ, List.forIn_cons]
    refine wpAny_bind (wpAny_bind (wpAny_dictEntries e2 dat ?_))
    rw [Array.getElem?_eq_getElem lt]
    dsimp only
    rw [kh, same, two.2]
    refine wpAny_bind (wpAny_holding (put_of_set (wpAny_dictSetHashed_pairs (k := more[i].1) two.1 e3 (fun g f1 f2 => ?_) (by omega))))
    have still : g.get? o = some ob := (f2.2 o apart.symm).trans e2
    refine wpAny_bind (wpAny_dictEpoch still dat ?_)
    simp only [bne_self_eq_false, Bool.false_eq_true, if_false]
    refine wpAny_pure (ih (i + 1) _ R (by omega) still ?_ fun g2 f3 f4 f5 => e4 g2 f3 f4 (f2.trans f5))
    rw [merged_take_succ base more i _ gm]
    exact f1
/-- one plain dict merged into another one, whose keys are no objects -/
theorem mergeMapping_dict {d o : Addr} {base more : List (K × Value)} {u : Shared} {R : Unit → Shared → Prop} (flat : ∀ k v, knd.is k v = true → ∀ a, v ≠ .ref a) (apart : d ≠ o) (own : (o == sysModules) = false)
    (at1 : u.heap.DictOf knd d base) (at2 : u.heap.DictOf knd o more) (go : ∀ g, g.DictOf knd d (merged base more) → g.DictOf knd o more → Heap.SameBut d u.heap g → R () { u with heap := g })
    (fit : base.length + more.length ≤ sizeLine) : wpAny (model prog w) A (mergeMapping d (.ref o) false) R B u := by
  have tail : ∀ (ob : Obj) (ents : Array DictEntry) (epc : Nat), u.heap.get? o = some ob → ob.ExactDict → ob.data = .dict ents epc → KeysOf knd ents → Pairs knd ents.toList more → (more.map (·.1)).Nodup → _ := fun ob ents epc c1 c2 c3 c4 c5 c6 =>
    put_rest (B := B) (A := A) (base := base) apart c3 c4 c5 fit ents.size 0 u R (Nat.zero_add _) c1 (by simpa [merged] using at1) fun g f1 f2 f3 => go g f2 ⟨ob, ents, epc, f1, c2, c3, c4, c5, c6⟩ f3
  have kind := at2.typeIs
  obtain ⟨ob, ents, epc, c1, c2, c3, c4, c5, c6⟩ := at2
  obtain ⟨ob1, ents1, epc1, b1, _, b3, _⟩ := at1
  have t := tail ob ents epc c1 c2 c3 c4 c5 c6
  unfold mergeMapping
  refine wpAny_bind ?_
  refine wpAny_isInstance (T := "dict") kind PySem.F.sub_dict_dict ?_
  rw [if_pos rfl]
  refine wpAny_bind (wpAny_specialOf kind F.slot_dict_iter.lookup (wpAny_bind (wpAny_pure ?_)))
  have yes : (some (Value.builtin "dict.__iter__") == some (Value.builtin "dict.__iter__")) = true := by decide +kernel
  rw [yes]
  simp only [own, Bool.false_eq_true, if_false]
  have scan : ∀ (l : List DictEntry), (∀ e ∈ l, ∀ a, e.key ≠ .ref a) → ∀ (R2 : PUnit → Shared → Prop) (f : DictEntry → PUnit → Sem (ForInStep PUnit)), (∀ e, (∀ a, e.key ≠ .ref a) → f e PUnit.unit = pure (ForInStep.yield PUnit.unit)) → R2 PUnit.unit u →
      wpAny (model prog w) A (forIn l PUnit.unit f) R2 B u := by
    intro l
    induction l with
    | nil => intro _ R2 f _ hR; exact wpAny_pure hR
    | cons e r ih =>
      intro hl R2 f hf hR
      rw [List.forIn_cons, hf e (hl e List.mem_cons_self)]
      exact wpAny_bind (wpAny_pure (ih (fun x hx => hl x (List.mem_cons_of_mem _ hx)) R2 f hf hR))
  have noref : ∀ e ∈ ents.toList, ∀ a, e.key ≠ .ref a := fun e he => by
    obtain ⟨k, kis, _⟩ := c4 e (Array.mem_toList_iff.mp he)
    exact flat k e.key kis
  refine wpAny_bind (wpAny_dictEntries b1 b3 ?_)
  split
  · refine wpAny_bind (wpAny_dictEntries c1 c3 (wpAny_bind ?_))
    rw [← Array.forIn_toList]
    refine scan _ noref _ _ (fun e he => ?_) ?_
    · cases q : e.key with
      | ref a => exact (he a q).elim
      | _ => rfl
    · refine wpAny_bind (wpAny_dictEntries c1 c3 (wpAny_bind (wpAny_dictEpoch c1 c3 (wpAny_bind ?_))))
      rw [List.range_eq_range']
      exact wpAny_mono t (fun _ _ h => wpAny_pure h) fun _ _ e => e
  · refine wpAny_bind (wpAny_dictEntries c1 c3 (wpAny_bind (wpAny_dictEpoch c1 c3 (wpAny_bind ?_))))
    rw [List.range_eq_range']
    exact wpAny_mono t (fun _ _ h => wpAny_pure h) fun _ _ e => e
end
end KnG

set_option Elab.async false
set_option linter.all false
set_option maxRecDepth 100000
set_option maxHeartbeats 4000000
/-! `{**a, **b}` of two dicts; an own operator of two instances of a class; o[i] = v by an own __setitem__. -/
namespace KnG
open PySem PySem.Spec PyProof.Rows L2
def mergeFold (a b : List (Key × V)) : List (Key × V) := b.foldl (fun acc kv => putK acc kv.1 kv.2) a
def tStar (d : Addr) (kvs : List (Key × V)) (t : TE) (σ : L2.St) (H : Hp) (Q : List (Key × V) → Hp → Prop) : Prop :=
  t σ H fun x H1 => ∃ a k1, x = .ref a ∧ a ≠ d ∧ H1 a = some (.dK k1) ∧ H1 d = some (.dK kvs) ∧ kvs.length + k1.length ≤ sizeLine ∧ Q (mergeFold kvs k1) (upd H1 d (.dK (mergeFold kvs k1)))
def tStars2 (t1 t2 : TE) : TE := fun σ H Q => ∀ d, H d = none → tStar d [] t1 σ (upd H d (.dK [])) fun k1 H1 => tStar d k1 t2 σ H1 fun _ H2 => Q (.ref d) H2
theorem mix_noref {P : Program} {w : World} (k : Key) (v : Value) (h : (mixKind P w).is k v = true) (a : Addr) : v ≠ .ref a := by
  intro e
  subst e
  cases k <;> exact nomatch h
section
variable {X : Cx} {e1 e2 : Expr} {t1 t2 : TE} {pos : Pos}
theorem star_step {α : Type} {z : α} {e : Expr} {t : TE} (he : PE X e t) {pins : List (Addr × Obj)} {σ : L2.St} {H : Hp} {s : Shared} {d : Addr} {kvs : List (Key × V)} {Q : List (Key × V) → Hp → Prop} {G : α → Shared → Prop} {E2 : Value → Value → Sem Unit} {E3 : Value → Sem Unit} {E1 : Value → Value → Sem Unit}
    (I : Inv X pins σ H s) (h : tStar d kvs t σ H Q) (hG : ∀ k1 H' s', Inv X pins σ H' s' → Q k1 H' → G z s') :
    wpAny (model X.prog X.w) X.A (do
      let m ← holding [.ref d] (do let x ← eval e X.env; standAt pos; pure x)
      (((holding [.ref d, m] (mergeMapping d m false)).onRaise fun x => E1 m x).tryCatch fun y => E2 m y).onRaise fun x => E3 x
      pure z) G X.xe s := by
  refine wpAny_bind (wpAny_holding (wpAny_bind (thn (he.run pins s σ H _ I h) fun u s1 ⟨x, H1, I1, rx, a, k1, ex, ne, ha, hd, sz, q⟩ => ?_)))
  refine wpAny_bind (wpAny_standAt (wpAny_pure ?_))
  subst ex
  cases rx
  obtain ⟨za, hsa, va, rela, da⟩ := dk_of I1.hok ha
  obtain ⟨zd, hsd, vd, reld, dd⟩ := dk_of I1.hok hd
  refine wpAny_bind (wpAny_onRaise (wpAny_tryCatch (wpAny_onRaise (wpAny_holding (mergeMapping_dict mix_noref ne.symm hsa dd da (fun h' hd' _ hs' => ?_) (by rw [← reld.length, ← rela.length]; exact sz))))))
  refine wpAny_pure (hG _ _ _ ?_ q)
  have hl : (mergeK kvs k1).length ≤ sizeLine := by
    have e := (KV.merge rela reld).length
    have e2 := merged_length_le vd va
    have e3 := reld.length
    have e4 := rela.length
    omega
  exact d_write I1 (by rw [hd]; exact True.intro) hs' (let ⟨q, _, _, hq, _⟩ := hd'; ⟨q, hq⟩) (dk_new hl hsd (KV.merge rela reld) hd')
theorem pe_stars2 (h1 : PE X e1 t1) (h2 : PE X e2 t2) : PE X (.Dict [none, none] [e1, e2] pos) (tStars2 t1 t2) := by
  refine ⟨fun pins s σ H Q I h => ?_⟩
  rw [arm_eval_Dict]
  refine wpAny_bind (wpAny_standAt ?_)
  show wpAny _ _ (dictDisplay [(none, do let x ← eval e1 X.env; standAt pos; pure x), (none, do let x ← eval e2 X.env; standAt pos; pure x)]) _ _ _
  unfold dictDisplay
  refine wpAny_bind ?_
  rw [List.forIn_cons]
  refine wpAny_bind ?_
  dsimp only
  refine wpAny_bind ?_
  rw [if_pos List.isEmpty_nil]
  refine wpAny_pure ?_
  dsimp only
  refine wpAny_bind (wpAny_alloc ?_)
  have I0 : Inv X pins σ (upd H s.heap.objs.size (.dK [])) { s with heap := s.heap.push { cls := .type "dict", data := .dict #[] } } := I.laid (a := s.heap.objs.size) (o := .dK []) (t' := s.toks) (fun _ _ q => Heap.get?_push_of_some _ q) (Nat.le_refl _) (dk_empty s.heap I.big)
  refine star_step h1 I0 (h _ (I.hok.fresh (Nat.le_refl _))) fun k1 H1 s1 I1 q1 => ?_
  dsimp only
  rw [List.forIn_cons]
  refine wpAny_bind ?_
  dsimp only
  refine wpAny_bind ?_
  rw [if_pos List.isEmpty_nil]
  refine wpAny_pure ?_
  dsimp only
  refine wpAny_bind (wpAny_pure ?_)
  refine star_step h2 I1 q1 fun k2 H2 s2 I2 q2 => ?_
  dsimp only
  rw [List.forIn_nil]
  refine wpAny_pure ?_
  dsimp only
  refine wpAny_bind ?_
  rw [if_pos List.isEmpty_nil]
  refine wpAny_pure ?_
  exact wpAny_pure ⟨.ref _, _, I2, rfl, q2⟩
end
end KnG

set_option Elab.async false
set_option linter.all false
set_option maxRecDepth 100000
set_option maxHeartbeats 4000000
/-! An own operator of two instances of a class; o[i] = v by an own __setitem__; a class made without arguments, by a default. -/
namespace KnW
open PySem PySem.Spec PyProof.Rows L2
section
variable {X : Cx} {k j : Nat} {C : Addr} {sp : Sp} {a b : Expr} {ta tb : TE} {pos : Pos}
/-- a + b by the class's own method, which answers a reference -/
def rOwnBin (C : Addr) (sp : Sp) : R2 := fun x y H Q => ∃ a b dx dy fs gs, x = .ref a ∧ y = .ref b ∧ H a = some (.ins C dx fs) ∧ H b = some (.ins C dy gs) ∧ sp [.ref a, .ref b] H (fun v H' => ∃ c, v = .ref c ∧ Q (.ref c) H') E0
theorem op_ownBin {op : Operator} {m : Str} (c : Own X.prog X.w X.K X.mg X.base k C m sp) (hm : m = PySem.dunder op.info.2) (sf : PySem.W.selfFirst X.K C = true) (hr : Room j X.A) (hk : k ≤ j) : OpR X (binaryOp op) (rOwnBin C sp) := by
  subst hm
  obtain ⟨f, fd, ps, h1, h2, h3, F, bb⟩ := c.ex
  intro pins s σ H x y v u Q I rx ry hq
  obtain ⟨a, b, dx, dy, fs, gs, rfl, rfl, ha, hb, q⟩ := hq
  cases rx
  cases ry
  obtain ⟨mA, J, _⟩ := ins_get I.hok ha
  obtain ⟨mB, J', _⟩ := ins_get I.hok hb
  obtain ⟨od, J, _⟩ := J.look
  obtain ⟨od', J', _⟩ := J'.look
  obtain ⟨m, hF⟩ := I.fr
  show wpAny (model X.prog X.w) X.A (binaryOp op (.ref a) (.ref b)) (EP X pins σ Q) X.xe s
  refine PySem.W.binop_K (op := op) hF I.ok.mod.kin J J'.type sf h1 h2 ?_
  have r2 : Vals [V.ref a, V.ref b] [Value.ref a, Value.ref b] := .cons rfl (.cons rfl .nil)
  refine wpAny_mono (run_fn (vs := [.ref a, .ref b]) (us := [.ref a, .ref b]) (dvs := []) (ds := []) F (hr.mono hk) bb .nil pass0 I r2 q) (fun r s' hv => ?_) fun _ _ e => e
  obtain ⟨z, H', I', rz, c, ez, q2⟩ := hv
  subst ez
  cases rz
  exact ⟨.ref c, H', I', rfl, q2⟩
/-- a |= b by the class's own in-place method, which answers a reference -/
def rOwnIn (C : Addr) (sp : Sp) : R2 := fun x y H Q => ∃ a dx fs, x = .ref a ∧ H a = some (.ins C dx fs) ∧ sp [.ref a, y] H (fun v H' => ∃ c, v = .ref c ∧ Q (.ref c) H') E0
theorem op_ownIn {op : Operator} {m : Str} (c : Own X.prog X.w X.K X.mg X.base k C m sp) (hm : m = PySem.dunderI op.info.2) (sf : PySem.W.selfFirst X.K C = true) (hr : Room j X.A) (hk : k ≤ j) : OpR X (inplaceOp op) (rOwnIn C sp) := by
  subst hm
  obtain ⟨f, fd, ps, h1, h2, h3, F, bb⟩ := c.ex
  intro pins s σ H x y v u Q I rx ry hq
  obtain ⟨a, dx, fs, rfl, ha, q⟩ := hq
  cases rx
  obtain ⟨mA, J, _⟩ := ins_get I.hok ha
  obtain ⟨od, J, _⟩ := J.look
  obtain ⟨m, hF⟩ := I.fr
  refine PySem.W.ksp_inplace (op := op) hF I.ok.mod.kin J sf h1 h2 ?_
  have r2 : Vals [V.ref a, y] [Value.ref a, u] := .cons rfl (.cons ry .nil)
  refine wpAny_mono (run_fn (vs := [.ref a, y]) (us := [.ref a, u]) (dvs := []) (ds := []) F (hr.mono hk) bb .nil pass0 I r2 q) (fun r s' hv => ?_) fun _ _ e => e
  obtain ⟨z, H', I', rz, w', ez, q2⟩ := hv
  subst ez
  cases rz
  exact ⟨.ref w', H', I', rfl, q2⟩
/-- o[i] = v by an own __setitem__ -/
def rSetOwn (C : Addr) (sp : Sp) : V → V → V → Hp → (Hp → Prop) → Prop := fun o i v H Q => ∃ a dx fs, o = .ref a ∧ H a = some (.ins C dx fs) ∧ sp [.ref a, i, v] H (fun _ H' => Q H') E0
theorem set_own (c : Own X.prog X.w X.K X.mg X.base k C "__setitem__" sp) (nq : PySem.W.noSeq X.K C = true) (hr : Room j X.A) (hk : k ≤ j) : PSet X (rSetOwn C sp) := by
  obtain ⟨f, fd, ps, h1, h2, h3, F, bb⟩ := c.ex
  intro pins s σ H o i v ov iv u Q I ro ri rv hq
  obtain ⟨a, dx, fs, rfl, ha, q⟩ := hq
  cases ro
  obtain ⟨mA, J, _⟩ := ins_get I.hok ha
  obtain ⟨od, J, _⟩ := J.look
  obtain ⟨m, hF⟩ := I.fr
  refine PySem.W.ksp_setItem hF I.ok.mod.kin J nq h1 h2 ?_
  have r3 : Vals [V.ref a, i, v] [Value.ref a, iv, u] := .cons rfl (.cons ri (.cons rv .nil))
  refine wpAny_mono (run_fn (vs := [.ref a, i, v]) (us := [.ref a, iv, u]) (dvs := []) (ds := []) F (hr.mono hk) bb .nil pass0 I r3 q) (fun r s' hv => ?_) fun _ _ e => e
  obtain ⟨z, H', I', rz, q2⟩ := hv
  exact ⟨H', I', q2⟩
theorem pe_mk0 {x : Str} {dvs : List V} {p : Pos} (c : C8.Mak X.prog X.w X.K X.mg X.base k x C sp dvs) (hr : Room j X.A) (hk : k + 1 ≤ j) (hg : Gl X x) (hdb : (x == ("__debug__" : Str)) = false := by decide) :
    PE X (.Call (.Name x p) [] [] pos) (tMake C sp dvs E0 tNil) := by
  obtain ⟨f, fd, ps, ds, M, F, hm, b, d⟩ := c.ex
  exact pe_make0 M F (hr.mono hk) hg hm b d pass0 hdb
end
theorem binds_less {K : PySem.W.Frag} {x qual : Str} {st : Stmt} {f T : Addr} {oc : Value} {od an : Option Addr} {osl : Array (Option Value)} {kV doc pm cdv ct : Value} {to : Obj} {tn : Nat} {its : List Value} {dvs : List V} {ps : List Str} (n : Nat)
    (l : K.lookup f = some ⟨oc, od, .func (PySem.W.fnOf x qual (defArgs st) (defBody st) (defScope st) (.ref T) kV doc pm an cdv ct), osl⟩) (c : PySem.W.codeIn K cdv qual = true) (k : PySem.W.keepIn K (.ref f) = true)
    (lT : K.lookup T = some to) (oT : to.data = .seq its.toArray tn) (rT : Vals dvs its) (hd : dvs ≠ []) (hn : n + dvs.length = ps.length)
    (h : ∀ (T : Addr) (kV doc pm : Value) (an : Option Addr) (cdv ct : Value) (us its : List Value), us.length = n → its.length = dvs.length →
      ∃ k, bindArgs (PySem.W.fnOf x qual (defArgs st) (defBody st) (defScope st) (.ref T) kV doc pm an cdv ct) ⟨us, []⟩ = seqItems? (.ref T) >>= k ∧ k (some its.toArray) = pure (ps.zip (us ++ its))) : ∃ ds, Vals dvs ds ∧ Binds K (PySem.W.fnOf x qual (defArgs st) (defBody st) (defScope st) (.ref T) kV doc pm an cdv ct) ps ds := by
  have F : FunD K x qual (defArgs st) (defBody st) (defScope st) dvs [] f (PySem.W.fnOf x qual (defArgs st) (defBody st) (defScope st) (.ref T) kV doc pm an cdv ct) :=
    ⟨⟨oc, od, .ref T, kV, doc, pm, an, cdv, ct, osl, rfl, l, c, .inr ⟨hd, T, to, its, tn, rfl, lT, oT, rT⟩, .inl rfl⟩, k⟩
  exact FunD.binds1 F (ps := ps) n 0 hd hn h
end KnW

set_option Elab.async false
set_option linter.all false
set_option maxRecDepth 100000
set_option maxHeartbeats 4000000
/-! An instance with an own __contains__, __len__: k in o, k not in o, len(o). -/
namespace KnW
open PySem PySem.Spec PyProof.Rows L2
section
variable {X : Cx} {k j : Nat} {C : Addr} {sp : Sp}
def rOwnHas (C : Addr) (sp : Sp) (neg : Bool) : R2 := fun x y H Q => ∃ a dx fs, y = .ref a ∧ H a = some (.ins C dx fs) ∧ sp [.ref a, x] H (fun v H' => ∃ c, v = .bl c ∧ Q (.bl (if neg then !c else c)) H') E0
theorem op_ownHas (c : Own X.prog X.w X.K X.mg X.base k C "__contains__" sp) (hr : Room j X.A) (hk : k ≤ j) : OpR X (compareOp .In) (rOwnHas C sp false) := by
  obtain ⟨f, fd, ps, h1, h2, h3, F, bb⟩ := c.ex
  intro pins s σ H x y v u Q I rx ry hq
  obtain ⟨a, dx, fs, rfl, ha, q⟩ := hq
  cases ry
  obtain ⟨mA, J, _⟩ := ins_get I.hok ha
  obtain ⟨od, J, _⟩ := J.look
  obtain ⟨m, hF⟩ := I.fr
  refine PySem.W.in_K hF I.ok.mod.kin J h1 h2 ?_
  refine wpAny_mono (run_fn (vs := [.ref a, x]) (us := [.ref a, v]) (dvs := []) (ds := []) F (hr.mono hk) bb .nil pass0 I (.cons rfl (.cons rx .nil)) q) (fun r s' hv => ?_) fun _ _ e => e
  obtain ⟨z, H', I', rz, b, ez, q2⟩ := hv
  subst ez
  cases rz
  exact wpAny_pure ⟨.bl b, H', I', rfl, q2⟩
theorem op_ownHasNot (c : Own X.prog X.w X.K X.mg X.base k C "__contains__" sp) (hr : Room j X.A) (hk : k ≤ j) : OpR X (compareOp .NotIn) (rOwnHas C sp true) := by
  obtain ⟨f, fd, ps, h1, h2, h3, F, bb⟩ := c.ex
  intro pins s σ H x y v u Q I rx ry hq
  obtain ⟨a, dx, fs, rfl, ha, q⟩ := hq
  cases ry
  obtain ⟨mA, J, _⟩ := ins_get I.hok ha
  obtain ⟨od, J, _⟩ := J.look
  obtain ⟨m, hF⟩ := I.fr
  refine PySem.W.notIn_K hF I.ok.mod.kin J h1 h2 ?_
  refine wpAny_mono (run_fn (vs := [.ref a, x]) (us := [.ref a, v]) (dvs := []) (ds := []) F (hr.mono hk) bb .nil pass0 I (.cons rfl (.cons rx .nil)) q) (fun r s' hv => ?_) fun _ _ e => e
  obtain ⟨z, H', I', rz, b, ez, q2⟩ := hv
  subst ez
  cases rz
  exact wpAny_pure ⟨.bl (!b), H', I', rfl, q2⟩
def rOwnLen (C : Addr) (sp : Sp) : List V → Hp → VK → Prop := fun xs H Q => ∃ a dx fs, xs = [.ref a] ∧ H a = some (.ins C dx fs) ∧ sp [.ref a] H (fun v H' => ∃ n : Nat, v = .int (n : Int) ∧ n ≤ 1000000 ∧ Q (.int (n : Int)) H') E0
theorem cr_ownLen (c : Own X.prog X.w X.K X.mg X.base k C "__len__" sp) (hr : Room j X.A) (hk : k + 1 ≤ j) : CallR X (.builtin "len") (rOwnLen C sp) := by
  obtain ⟨f, fd, ps, h1, h2, h3, F, bb⟩ := c.ex
  intro pins s σ H xs us Q I r hq
  obtain ⟨a, dx, fs, rfl, ha, q⟩ := hq
  obtain ⟨u, rfl, rx⟩ := vals1 r
  cases rx
  obtain ⟨mA, J, _⟩ := ins_get I.hok ha
  obtain ⟨od, J, _⟩ := J.look
  obtain ⟨m, hF⟩ := I.fr
  refine PySem.W.len_K hF I.ok.mod.kin J h1 h2 ?_
  refine wpAny_mono (run_in1 (vs := [.ref a]) F (hr.mono hk) bb pass0 I (.cons rfl .nil) q) (fun r s' hv => ?_) fun _ _ e => e
  obtain ⟨z, H', I', rz, n, ez, l, q2⟩ := hv
  subst ez
  obtain ⟨t, rfl⟩ := rz
  have small_ : ((n : Int)) < 2 ^ 63 := by
    have : (1000000 : Int) < 2 ^ 63 := by decide
    omega
  exact ⟨⟨Int.natCast_nonneg n, small_⟩, .int n, H', I'.tok _, ⟨_, rfl⟩, q2⟩
end
end KnW

set_option Elab.async false
set_option linter.all false
set_option maxRecDepth 100000
set_option maxHeartbeats 4000000
/-! An own operator whose other side is a built-in dict, list or tuple. -/
namespace KnW
open PySem PySem.Spec PyProof.Rows L2
section
variable {P : Program} {w : World} {A : Around} {E : Value → Shared → Prop} {s : Shared} {K : PySem.W.Frag} {x b C L f : Addr} {h₀ : Heap} {m : Str → Option Value} {ox : Obj} {od : Option Obj} {T : String}
theorem looks_typ {v : Value} {ob : Obj} (e : s.heap.get? b = some ob) (c : ob.cls = .type T) (hv : v = .ref b) : PySem.W.Looks (model P w) s.heap (typeOf v) (.type T) := fun A Q E s' k q => by
  subst hv
  exact wpAny_typeOf_ref (k _ _ e) (by rw [c]; exact q)
/-- what is known of the two names of an operator at a built-in type -/
structure Side (K : PySem.W.Frag) (C : Addr) (nm : String) (T : String) : Prop where
  f : ∃ fo, PySem.W.findIn K (.type T) (PySem.dunder nm) = some fo
  r : ∃ ro, PySem.W.findIn K (.type T) (dunderR nm) = some ro
  no : PySem.W.subIn K (.type T) (.ref C) = some false
open PySem.W in
theorem bin_left {op : Operator} {y : Value} {rc : Option Value} {Q : Value → Shared → Prop} (F : Fr h₀ L s.heap m) (X₀ : K.In h₀) (I : InstAt s.heap x ox C od) (hb : Looks (model P w) s.heap (typeOf y) (.type T)) (hc : selfFirst K C = true)
    (hs : findIn K (.ref C) (PySem.dunder op.info.2) = some (some (.ref f))) (hf : isFn K (.ref f) = true) (hr : findIn K (.ref C) (dunderR op.info.2) = some rc) (hp : rc = none ∨ ∃ g : Addr, rc = some (.ref g)) (sd : Side K C op.info.2 T)
    (h : wpAny (model P w) A (call (.ref f) [.ref x, y]) (PySem.W.CmpBack Q) E s) : wpAny (model P w) A (binaryOp op (.ref x) y) Q E s := by
  obtain ⟨⟨fo, e1⟩, ⟨ro, e2⟩, e3⟩ := sd
  have KI := X₀.keeps F.keep
  obtain ⟨cd, more, hcd, hmro⟩ := ksp_first hc
  rcases info : op.info with ⟨sy, nam⟩
  rw [info] at hs hr e1 e2
  dsimp only at hs hr e1 e2
  have go := ksp_try KI I hs hf h
  obtain ⟨hh, gg, dd, tt, oo⟩ := s
  have l1 : Looks (model P w) hh (typeOf (.ref x)) (.ref C) := I.type
  have l3 := fills_K (M := model P w) KI hcd hmro hs
  have l4 := ksp_fillsT (M := model P w) KI e1 e2
  have l5 := looks_subIn (M := model P w) KI e3
  have l6 := ksp_inPy (M := model P w) KI hs hr hp
  have l7 : Looks (model P w) hh (numberSlotInPython (.type T) nam) false := .of_pure rfl
  have l8 := looks_findIn (M := model P w) KI e2
  generalize ((fo.isSome && !isSeqSlot fo) || (ro.isSome && !isSeqSlot ro)) = rt at l4
  have ne : (Value.ref C == Value.type T) = false := Bool.eq_false_iff.mpr fun q => by cases beq_iff_eq.mp q
  simp only [binaryOp, info]
  refine wpAny_holding (wpAny_bind (?_ : wpAny _ _ (binaryOp1 nam _ _) _ _ _))
  unfold binaryOp1
  refine wpAny_bind (l1.at (wpAny_bind (hb.at (wpAny_bind (l3.at ?_)))))
  simp only [ne, Bool.false_eq_true, if_false]
  cases rt with
  | false =>
    ksp_lk
    exact wpAny_mono go (fun r s' ⟨v, ev, q⟩ => by subst ev; ksp_lk; exact q) fun _ _ z => z
  | true =>
    ksp_lk
    exact wpAny_mono go (fun r s' ⟨v, ev, q⟩ => by subst ev; ksp_lk; exact q) fun _ _ z => z
open PySem.W in
theorem dict_or_not {Q : Value → Shared → Prop} (hd : s.TypeIs (.ref b) "dict") (hx : Looks (model P w) s.heap (typeOf (.ref x)) (.ref C)) (hsub : Looks (model P w) s.heap (isSubtype (.ref C) (.type "dict")) false) (h : Q .notImplemented s) :
    wpAny (model P w) A (call (.builtin "dict.__or__") [.ref b, .ref x]) Q E s := by
  refine wpAny_call_entry PySem.F.slot_dict_or hd PySem.F.entry_dict_or ?_ (PySem.F.args_dict_or_2 _ _)
  unfold Builtin.«dict.__or__» Builtin.Dict.dictSlotArgs
  refine wpAny_bind (wpAny_bind (wpAny_notOrdered_dict hd ?_))
  refine wpAny_bind (?_ : wpAny _ _ (slotArgs _ _ _) _ _ _)
  unfold slotArgs
  show wpAny _ _ (pure (Value.ref b, [Value.ref x])) _ _ _
  refine wpAny_pure (wpAny_pure ?_)
  show wpAny _ _ ((isInstance (.ref b) (.type "dict") <&&> isInstance (.ref x) (.type "dict")) >>= fun c => if (!c) = true then _ else _) _ _ _
  refine wpAny_bind (wpAny_bind (wpAny_isInstance hd PySem.F.sub_dict_dict ?_))
  refine (?_ : wpAny _ _ (isInstance (.ref x) (.type "dict")) _ _ _)
  unfold isInstance
  refine wpAny_bind (hx.here (hsub.here ?_))
  rw [if_pos (show (!false) = true from rfl)]
  refine wpAny_bind (wpAny_rule ?_)
  exact wpAny_pure ⟨_, rfl, h⟩
open PySem.W in
/-- a dict on the left, whose own operator says that it does not know the other side, or that has none -/
theorem bin_right {op : Operator} {g : Addr} {Q : Value → Shared → Prop} (F : Fr h₀ L s.heap m) (X₀ : K.In h₀) (I : InstAt s.heap x ox C od) (hd : s.TypeIs (.ref b) "dict") (hc : selfFirst K C = true) (hop : op = .BitOr ∨ op = .BitAnd)
    (hl : findIn K (.ref C) (PySem.dunder op.info.2) = some (some (.ref g))) (hs : findIn K (.ref C) (dunderR op.info.2) = some (some (.ref f))) (hf : isFn K (.ref f) = true) (hsub : subIn K (.ref C) (.type "dict") = some false)
    (h : wpAny (model P w) A (call (.ref f) [.ref x, .ref b]) (PySem.W.CmpBack Q) E s) : wpAny (model P w) A (binaryOp op (.ref b) (.ref x)) Q E s := by
  have KI := X₀.keeps F.keep
  obtain ⟨cd, more, hcd, hmro⟩ := ksp_first hc
  have go := ksp_try KI I hs hf h
  obtain ⟨od', hod, hcl⟩ := id hd
  have hb : Looks (model P w) s.heap (typeOf (.ref b)) (.type "dict") := looks_typ hod hcl rfl
  have l1 : Looks (model P w) s.heap (typeOf (.ref x)) (.ref C) := I.type
  have l5 := looks_subIn (M := model P w) KI hsub
  have l3 := fills_K (M := model P w) (nm := op.info.2) KI hcd hmro hl
  have ne : (Value.type "dict" == Value.ref C) = false := Bool.eq_false_iff.mpr fun q => by cases beq_iff_eq.mp q
  have last : ∀ (R : Option Value → Shared → Prop), (∀ v s', Q v s' → R (some v) s') → wpAny (model P w) A (tryMethod (.ref x) (dunderR op.info.2) (.ref b)) R E s := fun R hR => wpAny_mono go (fun r s' ⟨v, ev, q⟩ => ev ▸ hR v s' q) fun _ _ z => z
  rcases hop with rfl | rfl
  · have l4 : Looks (model P w) s.heap (fillsNumberSlot (.type "dict") "or") true := .of_pure PySem.F.fills_dict_or
    have nots : ∀ (R : Option Value → Shared → Prop), R none s → wpAny (model P w) A (tryMethod (.ref b) (PySem.dunder "or") (.ref x)) R E s := fun R hR => by
      unfold tryMethod
      refine wpAny_bind (wpAny_callSpecial?_slot hd PySem.F.slot_dict_or (dict_or_not hd l1 l5 ?_))
      exact wpAny_pure hR
    have l7 : Looks (model P w) s.heap (numberSlotInPython (.type "dict") "or") false := .of_pure rfl
    simp only [binaryOp, show Operator.BitOr.info = ("|", "or") from rfl] at *
    refine wpAny_holding (wpAny_bind (?_ : wpAny _ _ (binaryOp1 "or" _ _) _ _ _))
    unfold binaryOp1
    refine wpAny_bind (hb.here (wpAny_bind (l1.here (wpAny_bind (l4.here ?_)))))
    simp only [ne, Bool.false_eq_true, if_false]
    refine wpAny_bind (l3.here ?_)
    rw [if_pos (show (true && true) = true from rfl)]
    refine wpAny_bind (l5.here ?_)
    simp only [Bool.false_eq_true, if_false, Bool.not_false, Bool.and_self, if_true, Bool.and_true]
    refine wpAny_bind (l7.here ?_)
    simp only [Bool.false_eq_true, if_false]
    refine wpAny_bind (nots _ ?_)
    dsimp only
    refine wpAny_bind (last _ fun v s' q => ?_)
    dsimp only
    exact wpAny_bind (wpAny_rule (wpAny_pure (wpAny_pure q)))
  · have l4 : Looks (model P w) s.heap (fillsNumberSlot (.type "dict") "and") false := .of_pure (by kernel_rfl)
    simp only [binaryOp, show Operator.BitAnd.info = ("&", "and") from rfl] at *
    refine wpAny_holding (wpAny_bind (?_ : wpAny _ _ (binaryOp1 "and" _ _) _ _ _))
    unfold binaryOp1
    refine wpAny_bind (hb.here (wpAny_bind (l1.here (wpAny_bind (l4.here ?_)))))
    simp only [ne, Bool.false_eq_true, if_false]
    refine wpAny_bind (l3.here ?_)
    simp only [Bool.false_eq_true, if_false, Bool.not_false, Bool.and_self, if_true, Bool.and_true, Bool.false_and]
    refine wpAny_bind (wpAny_pure ?_)
    simp only [Bool.false_eq_true, if_false]
    refine wpAny_bind (last _ fun v s' q => ?_)
    dsimp only
    exact wpAny_bind (wpAny_rule (wpAny_pure (wpAny_pure q)))
end
end KnW

set_option Elab.async false
set_option linter.all false
set_option maxRecDepth 100000
set_option maxHeartbeats 4000000
/-! a + b by an own method where b is a dict, a list or a tuple; a + b by an own reflected method where a is a dict. -/
namespace KnW
open PySem PySem.Spec PyProof.Rows L2
/-- a value of one of these built-in types -/
def TyB (K : PySem.W.Frag) (T : String) (y : V) (H : Hp) : Prop := tyV K T y H ∨ (T = "tuple" ∧ ∃ p xs, y = .ref p ∧ H p = some (.tup xs))
theorem TyB.is {X : Cx} {pins : List (Addr × Obj)} {σ : L2.St} {H : Hp} {s : Shared} {T : String} {y : V} {v : Value} (I : Inv X pins σ H s) (r : RelV y v) (t : TyB X.K T y H) (nt : ∀ z, T ≠ "str" ∧ T ≠ "int" ∧ T ≠ z ++ "?") : ∃ b ob, v = .ref b ∧ s.heap.get? b = some ob ∧ ob.cls = .type T := by
  rcases t with t | ⟨rfl, p, xs, rfl, hp⟩
  · obtain ⟨h1, _⟩ := tyV_is I r t
    cases y with
    | ref p =>
      cases r
      obtain ⟨o, e, c⟩ := h1
      exact ⟨p, o, rfl, e, c⟩
    | str z => exact ((nt "").1 t).elim
    | int z => exact ((nt "").2.1 t).elim
    | _ => exact False.elim t
  · cases r
    obtain ⟨_, its, _, pl⟩ := I.hok p _ hp
    obtain ⟨ob, e, c, _⟩ := pl
    exact ⟨p, ob, rfl, e, c⟩
theorem side_of {K : PySem.W.Frag} {C : Addr} {nm : String} {T : String} (hn : nm = "or" ∨ nm = "and" ∨ nm = "sub") (hT : T = "dict" ∨ T = "list" ∨ T = "tuple") : Side K C nm T := by
  have m1 : PySem.fastBuiltinMro "dict" = some [.type "dict", .type "object"] := by decide +kernel
  have m2 : PySem.fastBuiltinMro "list" = some [.type "list", .type "object"] := by decide +kernel
  have m3 : PySem.fastBuiltinMro "tuple" = some [.type "tuple", .type "object"] := by decide +kernel
  refine ⟨?_, ?_, ?_⟩
  · refine Option.isSome_iff_exists.mp ?_
    show (fastLookup T (PySem.dunder nm)).isSome = true
    rcases hn with rfl | rfl | rfl <;> rcases hT with rfl | rfl | rfl <;> decide +kernel
  · refine Option.isSome_iff_exists.mp ?_
    show (fastLookup T (dunderR nm)).isSome = true
    rcases hn with rfl | rfl | rfl <;> rcases hT with rfl | rfl | rfl <;> decide +kernel
  · show (PySem.fastBuiltinMro T).map (·.contains (.ref C)) = some false
    rcases hT with rfl | rfl | rfl
    · rw [m1]; rfl
    · rw [m2]; rfl
    · rw [m3]; rfl
section
variable {X : Cx} {k j : Nat} {C : Addr} {sp : Sp}
def rOwnBinA (K : PySem.W.Frag) (C : Addr) (sp : Sp) : R2 := fun x y H Q => ∃ a dx fs, x = .ref a ∧ H a = some (.ins C dx fs) ∧ ((∃ b dy gs, y = .ref b ∧ H b = some (.ins C dy gs)) ∨ ∃ T, (T = "dict" ∨ T = "list" ∨ T = "tuple") ∧ TyB K T y H) ∧
  sp [.ref a, y] H (fun v H' => ∃ c, v = .ref c ∧ Q (.ref c) H') E0
theorem op_ownBinA {op : Operator} {m : Str} (c : Own X.prog X.w X.K X.mg X.base k C m sp) (hm : m = PySem.dunder op.info.2) (sf : PySem.W.selfFirst X.K C = true) (hn : op.info.2 = "or" ∨ op.info.2 = "and" ∨ op.info.2 = "sub")
    (hrr : ∃ rc, PySem.W.findIn X.K (.ref C) (dunderR op.info.2) = some rc ∧ (rc = none ∨ ∃ g : Addr, rc = some (.ref g))) (hr : Room j X.A) (hk : k ≤ j) : OpR X (binaryOp op) (rOwnBinA X.K C sp) := by
  subst hm
  obtain ⟨f, fd, ps, h1, h2, h3, F, bb⟩ := c.ex
  intro pins s σ H x y v u Q I rx ry hq
  obtain ⟨a, dx, fs, rfl, ha, alt, q⟩ := hq
  cases rx
  obtain ⟨mA, J, _⟩ := ins_get I.hok ha
  obtain ⟨od, J, _⟩ := J.look
  obtain ⟨m, hF⟩ := I.fr
  have last : wpAny (model X.prog X.w) X.A (call (.ref f) [.ref a, u]) (PySem.W.CmpBack (EP X pins σ Q)) X.xe s := by
    refine wpAny_mono (run_fn (vs := [.ref a, y]) (us := [.ref a, u]) (dvs := []) (ds := []) F (hr.mono hk) bb .nil pass0 I (.cons rfl (.cons ry .nil)) q) (fun r s' hv => ?_) fun _ _ e => e
    obtain ⟨z, H', I', rz, c, ez, q2⟩ := hv
    subst ez
    cases rz
    exact ⟨.ref c, H', I', rfl, q2⟩
  rcases alt with ⟨b, dy, gs, rfl, hb⟩ | ⟨T, hT, ty⟩
  · cases ry
    obtain ⟨mB, J', _⟩ := ins_get I.hok hb
    obtain ⟨od', J', _⟩ := J'.look
    exact PySem.W.binop_K (op := op) hF I.ok.mod.kin J J'.type sf h1 h2 last
  · obtain ⟨b, ob, rfl, e, cl⟩ := ty.is I ry (fun z => by
      rcases hT with rfl | rfl | rfl <;> refine ⟨by decide, by decide, fun q => ?_⟩ <;> exact absurd (congrArg (fun t : String => t.toList.getLast?) q) (by simp [String.toList_append]))
    obtain ⟨rc, er, hp⟩ := hrr
    exact bin_left (op := op) hF I.ok.mod.kin J (looks_typ e cl rfl) sf h1 h2 er hp (side_of hn hT) last
/-- a | b, a & b where a is a dict -/
def rOwnRBin (K : PySem.W.Frag) (C : Addr) (sp : Sp) : R2 := fun x y H Q => ∃ a b dx fs, x = .ref b ∧ tyV K "dict" x H ∧ y = .ref a ∧ H a = some (.ins C dx fs) ∧ sp [.ref a, .ref b] H (fun v H' => ∃ c, v = .ref c ∧ Q (.ref c) H') E0
theorem op_ownRBin {op : Operator} {m ml : Str} {sp2 : Sp} {k2 : Nat} (c : Own X.prog X.w X.K X.mg X.base k C m sp) (cl : Own X.prog X.w X.K X.mg X.base k2 C ml sp2) (hm : m = dunderR op.info.2) (hml : ml = PySem.dunder op.info.2) (sf : PySem.W.selfFirst X.K C = true) (hop : op = .BitOr ∨ op = .BitAnd)
    (nd : PySem.W.subIn X.K (.ref C) (.type "dict") = some false) (hr : Room j X.A) (hk : k ≤ j) : OpR X (binaryOp op) (rOwnRBin X.K C sp) := by
  subst hm hml
  obtain ⟨f, fd, ps, h1, h2, h3, F, bb⟩ := c.ex
  obtain ⟨g, _, _, g1, _⟩ := cl.ex
  intro pins s σ H x y v u Q I rx ry hq
  obtain ⟨a, b, dx, fs, rfl, ty, rfl, ha, q⟩ := hq
  obtain ⟨tis, _⟩ := tyV_is I rx ty
  cases rx
  cases ry
  obtain ⟨mA, J, _⟩ := ins_get I.hok ha
  obtain ⟨od, J, _⟩ := J.look
  obtain ⟨m, hF⟩ := I.fr
  refine bin_right (op := op) hF I.ok.mod.kin J tis sf hop g1 h1 h2 nd ?_
  refine wpAny_mono (run_fn (vs := [.ref a, .ref b]) (us := [.ref a, .ref b]) (dvs := []) (ds := []) F (hr.mono hk) bb .nil pass0 I (.cons rfl (.cons rfl .nil)) q) (fun r s' hv => ?_) fun _ _ e => e
  obtain ⟨z, H', I', rz, c, ez, q2⟩ := hv
  subst ez
  cases rz
  exact ⟨.ref c, H', I', rfl, q2⟩
end
end KnW

set_option Elab.async false
set_option linter.all false
set_option maxRecDepth 100000
set_option maxHeartbeats 4000000
/-! isinstance of an instance or a dict; d.update(e); the reflected name of an own operator. -/
namespace KnW
open PySem PySem.Spec PyProof.Rows L2
section
variable {X : Cx} {k : Nat} {C : Addr} {sp : Sp}
theorem rr_of {m nm : Str} {P : Program} {w : World} {K : PySem.W.Frag} {mg : Str → Option Value} {base : Heap} (c : Own P w K mg base k C m sp) (e : nm = m) : ∃ rc, PySem.W.findIn K (.ref C) nm = some rc ∧ (rc = none ∨ ∃ g : Addr, rc = some (.ref g)) := by
  subst e
  obtain ⟨f, _, _, h1, _⟩ := c.ex
  exact ⟨_, h1, .inr ⟨f, rfl⟩⟩
theorem kit_dict {K : PySem.W.Frag} {C : Addr} (c : PySem.W.isClsIn K C = true) (t : PySem.W.typeIn K (.ref C) = some (.type "type")) : PySem.W.kitOne K (.type "dict") (.ref C) = some false := by
  have ne : (Value.type "dict" == Value.ref C) = false := Bool.eq_false_iff.mpr fun q => by cases beq_iff_eq.mp q
  have sub : PySem.W.subIn K (.type "dict") (.ref C) = some false := (side_of (nm := "or") (.inl rfl) (.inl rfl)).no
  have both : ((PySem.W.clsIn K C).isSome && PySem.W.typeIn K (.ref C) == some (.type "type")) = true := by
    rw [t, show (PySem.W.clsIn K C).isSome = true from c]
    simp
  unfold PySem.W.kitOne
  rw [ne]
  refine (if_neg Bool.false_ne_true).trans ?_
  show (if ((PySem.W.clsIn K C).isSome && PySem.W.typeIn K (.ref C) == some (.type "type")) = true then PySem.W.subIn K (.type "dict") (.ref C) else none) = some false
  rw [if_pos both, sub]
def rIsCA (C : Addr) : List V → Hp → VK → Prop := fun xs H Q => (∃ a dx fs, xs = [.ref a, .ref C] ∧ H a = some (.ins C dx fs) ∧ Q (.bl true) H) ∨ ∃ a kvs, xs = [.ref a, .ref C] ∧ H a = some (.dK kvs) ∧ Q (.bl false) H
theorem call_isCA (c : C8.InsC X.K C) (nd : PySem.W.kitOne X.K (.type "dict") (.ref C) = some false) : CallR X (.builtin "isinstance") (rIsCA C) := by
  intro pins s σ H xs us Q I r h
  rcases h with ⟨a, dx, fs, rfl, ha, q⟩ | ⟨a, kvs, rfl, ha, q⟩
  · exact C8.call_isC c pins s σ H _ us Q I r ⟨a, dx, fs, rfl, ha, q⟩
  · obtain ⟨u, w', rfl, ru, rw'⟩ := vals2 r
    cases rw'
    exact isinst_ok I ru (TyOf.dK ha) nd fun tk => ⟨.bl false, H, I.tok _, rfl, q⟩
def rUpdate : V → List V → Hp → VK → Prop := fun x xs H Q => ∃ d e base more, x = .ref d ∧ xs = [.ref e] ∧ d ≠ e ∧ H d = some (.dK base) ∧ H e = some (.dK more) ∧ base.length + more.length ≤ sizeLine ∧ Q .non (upd H d (.dK (KnG.mergeFold base more)))
theorem mt_update : MtR X "dict.update" rUpdate := by
  intro pins s σ H x xs v us Q I r rs h
  obtain ⟨d, e, base, more, rfl, rfl, ne, hd, he, sz, q⟩ := h
  cases r
  obtain ⟨u, rfl, ru⟩ := vals1 rs
  cases ru
  obtain ⟨ze, hse, ve, rele, de⟩ := dk_of I.hok he
  obtain ⟨zd, hsd, vd, reld, dd⟩ := dk_of I.hok hd
  refine call_meetsIn PySem.F.slot_dict_update dd.typeIs PySem.F.entry_dict_update (PySem.F.args_dict_update_2 _ _) (meets_dict_update (mixKind X.prog X.w) d e ne hse) ⟨vd, ve, dd, de, by rw [← reld.length, ← rele.length]; exact sz, fun h' hm _ hs => ?_⟩
  have hl : (mergeK base more).length ≤ sizeLine := by
    have e1 := (KV.merge rele reld).length
    have e2 := merged_length_le vd ve
    have e3 := reld.length
    have e4 := rele.length
    omega
  exact ⟨.non, _, d_write I (by rw [hd]; exact True.intro) hs (let ⟨q, _, _, hq, _⟩ := hm; ⟨q, hq⟩) (dk_new hl hsd (KV.merge rele reld) hm), rfl, q⟩
end
end KnW

set_option Elab.async false
set_option linter.all false
set_option maxRecDepth 100000
set_option maxHeartbeats 4000000
/-! An instance compared by == and != with a value of any kind: its own __eq__, and object's __ne__ over it. -/
namespace KnW
open PySem PySem.Spec PyProof.Rows L2
theorem looks_ty {X : Cx} {pins : List (Addr × Obj)} {σ : L2.St} {H : Hp} {s : Shared} {x : V} {u t : Value} (I : Inv X pins σ H s) (rx : RelV x u) (ty : TyOf X.K H x t) : PySem.W.Looks (model X.prog X.w) s.heap (typeOf u) t := by
  cases ty with
  | non => cases (show u = Value.none from rx); exact .of_pure rfl
  | bl y => cases (show u = Value.bool y from rx); exact .of_pure rfl
  | int i => obtain ⟨t, q⟩ := (show ∃ t, u = Value.int i t from rx); cases q; exact .of_pure rfl
  | str y => obtain ⟨t, q⟩ := (show ∃ t, u = Value.str y t from rx); cases q; exact .of_pure rfl
  | flt y => obtain ⟨t, q⟩ := (show ∃ t, u = Value.float y t from rx); cases q; exact .of_pure rfl
  | @lst a xs ea =>
    cases (show u = Value.ref a from rx)
    obtain ⟨_, _, n, _, e⟩ := (show ObjOk X.prog X.w H s.heap a (.lst xs) from I.hok a _ ea)
    exact looks_typ e rfl rfl
  | @frz a ob xs ea =>
    cases (show u = Value.ref a from rx)
    obtain ⟨_, _, _, n, _, e⟩ := (show ObjOk X.prog X.w H s.heap a (.frz ob (.lst xs)) from I.hok a _ ea)
    exact looks_typ e rfl rfl
  | @tup a xs ea =>
    cases (show u = Value.ref a from rx)
    obtain ⟨_, _, _, ob, e, c, _⟩ := (show ObjOk X.prog X.w H s.heap a (.tup xs) from I.hok a _ ea)
    exact looks_typ e c rfl
  | @dK a kvs ea =>
    cases (show u = Value.ref a from rx)
    obtain ⟨_, _, vs, _, ob, _, _, e, c, _⟩ := (show ObjOk X.prog X.w H s.heap a (.dK kvs) from I.hok a _ ea)
    exact looks_typ e c.1 rfl
  | @dT a kvs ea =>
    cases (show u = Value.ref a from rx)
    obtain ⟨_, _, _, _, ob, _, _, e, c, _⟩ := (show ObjOk X.prog X.w H s.heap a (.dT kvs) from I.hok a _ ea)
    exact looks_typ e c.1 rfl
  | @ins a C dx fs ea cl ha hn htk hm =>
    cases (show u = Value.ref a from rx)
    obtain ⟨mA, O, _⟩ := ins_get I.hok ea
    obtain ⟨od, J, _⟩ := O.look
    exact J.type
/-- the built-in types whose values are compared here -/
def plainTys : List String := ["NoneType", "bool", "int", "str", "list", "tuple", "dict"]
theorem sub_none {C : Addr} {l : List String} {T : String} (h : PySem.fastBuiltinMro T = some (l.map Value.type)) (K : PySem.W.Frag) : PySem.W.subIn K (.type T) (.ref C) = some false := by
  show (PySem.fastBuiltinMro T).map (·.contains (.ref C)) = some false
  rw [h, Option.map_some]
  congr 1
  rw [List.contains_eq_any_beq, List.any_eq_false]
  intro v hv
  obtain ⟨n, _, rfl⟩ := List.mem_map.mp hv
  intro q
  cases beq_iff_eq.mp q
theorem not_first {K : PySem.W.Frag} {C : Addr} {T : String} (h : T ∈ plainTys) : PySem.W.notFirst K C (.type T) = true := by
  have : PySem.W.subIn K (.type T) (.ref C) = some false := by
    unfold plainTys at h
    simp only [List.mem_cons, List.not_mem_nil, or_false] at h
    rcases h with rfl | rfl | rfl | rfl | rfl | rfl | rfl
    · exact sub_none (l := ["NoneType", "object"]) (by decide +kernel) K
    · exact sub_none (l := ["bool", "int", "object"]) (by decide +kernel) K
    · exact sub_none (l := ["int", "object"]) (by decide +kernel) K
    · exact sub_none (l := ["str", "object"]) (by decide +kernel) K
    · exact sub_none (l := ["list", "object"]) (by decide +kernel) K
    · exact sub_none (l := ["tuple", "object"]) (by decide +kernel) K
    · exact sub_none (l := ["dict", "object"]) (by decide +kernel) K
  unfold PySem.W.notFirst
  rw [this]
  simp
theorem not_first_self {K : PySem.W.Frag} {C : Addr} : PySem.W.notFirst K C (.ref C) = true := by simp [PySem.W.notFirst]
theorem not_first_of {K : PySem.W.Frag} {C D : Addr} (h : PySem.W.subIn K (.ref D) (.ref C) = some false) : PySem.W.notFirst K C (.ref D) = true := by
  unfold PySem.W.notFirst
  rw [h]
  simp
theorem kit_own {K : PySem.W.Frag} {C : Addr} {t : Value} (c : PySem.W.isClsIn K C = true) (ty : PySem.W.typeIn K (.ref C) = some (.type "type")) (n : t ≠ .ref C) (sub : PySem.W.subIn K t (.ref C) = some false) : PySem.W.kitOne K t (.ref C) = some false := by
  have ne : (t == Value.ref C) = false := beq_eq_false_iff_ne.mpr n
  have both : ((PySem.W.clsIn K C).isSome && PySem.W.typeIn K (.ref C) == some (.type "type")) = true := by
    rw [ty, show (PySem.W.clsIn K C).isSome = true from c]
    simp
  unfold PySem.W.kitOne
  rw [ne]
  refine (if_neg Bool.false_ne_true).trans ?_
  show (if ((PySem.W.clsIn K C).isSome && PySem.W.typeIn K (.ref C) == some (.type "type")) = true then PySem.W.subIn K t (.ref C) else none) = some false
  rw [if_pos both, sub]
theorem plain_sub {K : PySem.W.Frag} {C : Addr} {T : String} (h : T ∈ plainTys) : PySem.W.subIn K (.type T) (.ref C) = some false := by
  unfold plainTys at h
  simp only [List.mem_cons, List.not_mem_nil, or_false] at h
  rcases h with rfl | rfl | rfl | rfl | rfl | rfl | rfl
  · exact sub_none (l := ["NoneType", "object"]) (by decide +kernel) K
  · exact sub_none (l := ["bool", "int", "object"]) (by decide +kernel) K
  · exact sub_none (l := ["int", "object"]) (by decide +kernel) K
  · exact sub_none (l := ["str", "object"]) (by decide +kernel) K
  · exact sub_none (l := ["list", "object"]) (by decide +kernel) K
  · exact sub_none (l := ["tuple", "object"]) (by decide +kernel) K
  · exact sub_none (l := ["dict", "object"]) (by decide +kernel) K
section
variable {P : Program} {w : World} {A : Around} {E : Value → Shared → Prop} {s : Shared} {K : PySem.W.Frag} {x C L f : Addr} {h₀ : Heap} {m : Str → Option Value} {ox : Obj} {od : Option Obj} {b tb : Value}
open PySem.W in
theorem ne_own {Q : Value → Shared → Prop} (hu : A.units + 1 < cLine) (F : Fr h₀ L s.heap m) (X₀ : K.In h₀) (I : InstAt s.heap x ox C od) (hb : Looks (model P w) s.heap (typeOf b) tb) (hn : notFirst K C tb = true)
    (hne : findIn K (.ref C) "__ne__" = some (some (.builtin "object.__ne__"))) (hob : subIn K (.ref C) (.type "object") = some true) (hs : findIn K (.ref C) "__eq__" = some (some (.ref f))) (hf : isFn K (.ref f) = true)
    (h : wpAny (model P w) A.in1 (call (.ref f) [.ref x, b]) (fun v s' => ∃ c, v = .bool c ∧ Q (.bool (!c)) s') E s) : wpAny (model P w) A (richCompare .NotEq (.ref x) b) Q E s := by
  have KI := X₀.keeps F.keep
  have body : wpAny (model P w) A.in1 (Builtin.«object.__ne__» ⟨[.ref x, b], []⟩) (fun fin s' => ∃ v, fin = .done (.ret v) ∧ ∃ c, v = .bool c ∧ Q v s') E s := by
    unfold Builtin.«object.__ne__»
    refine wpAny_bind (?_ : wpAny _ _ (slotArgs _ _ _) _ _ _)
    unfold slotArgs
    show wpAny _ _ (pure (Value.ref x, [b])) _ _ _
    refine wpAny_pure ?_
    dsimp only
    refine wpAny_bind (wpAny_cRoomFor (show A.units + 1 < cLine from hu) ?_)
    refine wpAny_bind (ifBound_K KI I hs hf (wpAny_mono h (fun v s' hv => ?_) fun _ _ e => e))
    obtain ⟨c, rfl, q⟩ := hv
    dsimp only
    refine wpAny_bind (wpAny_truthy_bool ?_)
    exact wpAny_pure ⟨_, rfl, _, rfl, q⟩
  have sig : ∀ {A' : Around} {Q' : Unit → Shared → Prop}, Q' () s → wpAny (model P w) A' (checkBuiltinCall "object.__ne__" ⟨[.ref x, b], []⟩) Q' E s := fun {A' Q'} q => by
    have ha := PySem.F.cmpArgs_ne (.ref x) b
    simp only [checkBuiltinCall, PySem.F.cmpKind_ne, PySem.F.cmpSplit_ne]
    unfold isInstance
    refine wpAny_bind (wpAny_bind (I.type.here ((looks_subIn KI hob).here ?_)))
    simp only [Bool.not_true, Bool.false_eq_true, if_false]
    cases hsig : Manifest.signature? "object.__ne__" with
    | none => exact wpAny_pure q
    | some sg =>
      simp only [argsOk, hsig] at ha
      have h2 : Bind.checkArgs "object.__ne__" sg ⟨[.ref x, b], []⟩ = pure () := ha
      show wpAny _ _ (Bind.checkArgs "object.__ne__" sg ⟨[.ref x, b], []⟩) _ _ _
      rw [h2]; exact wpAny_pure q
  have called : wpAny (model P w) A (call (.builtin "object.__ne__") [.ref x, b]) (fun v s' => ∃ c, v = .bool c ∧ Q v s') E s := by
    refine wpAny_call (codeAny_call_builtin (by decide +kernel) PySem.F.cmpEntry_ne (sig ?_))
    refine wpAny_mono body (fun fin s' hv => ?_) fun _ _ e => e
    obtain ⟨v, rfl, q⟩ := hv
    exact q
  have bnd : bindSpecial (.builtin "object.__ne__") (.ref x) = pure (.builtin "object.__ne__", [.ref x]) := PySem.F.cmp_object.ne.bind _
  have one : wpAny (model P w) A (tryCompare (.ref x) "__ne__" b) (fun r s' => ∃ v, r = some v ∧ Q v s') E s := by
    unfold tryCompare
    refine wpAny_bind (?_ : wpAny _ _ (callSpecialIfBound? _ _ _) _ _ _)
    simp only [callSpecialIfBound?, bindSpecialIfBound?]
    refine wpAny_holding (wpAny_bind (wpAny_bind (?_ : wpAny _ _ (specialOf (.ref x) "__ne__") _ _ _)))
    unfold specialOf
    refine wpAny_bind (I.type.here ((looks_findIn KI hne).here ?_))
    dsimp only
    rw [bnd]
    have fin : ∀ {R : Option Value → Shared → Prop}, (∀ v s', (∃ c, v = .bool c ∧ Q v s') → R (some v) s') → wpAny (model P w) A (call (.builtin "object.__ne__") ([.ref x] ++ [b]) >>= fun v => pure (some v)) R E s := fun {R} k => wpAny_bind (wpAny_mono called (fun v s' hv => wpAny_pure (k v s' hv)) fun _ _ e => e)
    have last : ∀ v s', (∃ c, v = Value.bool c ∧ Q v s') → wpAny (model P w) A (match some v with | some .notImplemented | none => pure none | some v => pure (some v)) (fun r s' => ∃ v, r = some v ∧ Q v s') E s' := fun v s' ⟨c, e, q⟩ => by
      subst e
      exact wpAny_pure ⟨_, rfl, q⟩
    refine wpAny_bind (wpAny_askSetting (wpAny_ite ?_))
    split
    · exact wpAny_bind (wpAny_pure (wpAny_pure (fin last)))
    · exact wpAny_tryCatch (wpAny_bind (wpAny_pure (wpAny_pure (fin last))))
  unfold richCompare
  simp only [oneThing_ref]
  refine wpAny_holding (wpAny_bind (wpAny_cRoomFor (show A.units < cLine by omega) ?_))
  refine wpAny_bind (I.type.here (wpAny_bind (hb.here ?_)))
  split
  · rename_i q
    have e : subIn K tb (.ref C) = some false := by
      rcases Bool.or_eq_true_iff.mp hn with e | e
      · rw [beq_iff_eq.mp e] at q; simp at q
      · exact beq_iff_eq.mp e
    refine wpAny_bind ((looks_subIn KI e).here ?_)
    simp only [Bool.false_eq_true, if_false]
    exact wpAny_bind (wpAny_mono one (fun r s' ⟨v, ev, q⟩ => by subst ev; exact wpAny_pure q) fun _ _ e => e)
  · refine wpAny_bind (wpAny_pure ?_)
    simp only [Bool.false_eq_true, if_false]
    exact wpAny_bind (wpAny_mono one (fun r s' ⟨v, ev, q⟩ => by subst ev; exact wpAny_pure q) fun _ _ e => e)
end
section
variable {X : Cx} {k j : Nat} {C : Addr} {sp : Sp}
def rOwnCmp (K : PySem.W.Frag) (C : Addr) (sp : Sp) (neg : Bool) : R2 := fun x y H Q => ∃ a dx fs t, x = .ref a ∧ H a = some (.ins C dx fs) ∧ TyOf K H y t ∧ PySem.W.notFirst K C t = true ∧ sp [.ref a, y] H (fun v H' => ∃ c, v = .bl c ∧ Q (.bl (if neg then !c else c)) H') E0
theorem op_ownEqA (c : Own X.prog X.w X.K X.mg X.base k C "__eq__" sp) (hr : Room j X.A) (hk : k ≤ j) : OpR X (compareOp .Eq) (rOwnCmp X.K C sp false) := by
  obtain ⟨f, fd, ps, h1, h2, h3, F, bb⟩ := c.ex
  intro pins s σ H x y v u Q I rx ry hq
  obtain ⟨a, dx, fs, t, rfl, ha, ty, nf, q⟩ := hq
  have lt := looks_ty I ry ty
  cases rx
  obtain ⟨mA, J, _⟩ := ins_get I.hok ha
  obtain ⟨od, J, _⟩ := J.look
  obtain ⟨m, hF⟩ := I.fr
  show wpAny (model X.prog X.w) X.A (richCompare .Eq (.ref a) u) (EP X pins σ Q) X.xe s
  refine PySem.W.cmp_K (op := .Eq) (tb := t) hr.units0 hF I.ok.mod.kin J lt nf h1 h2 ?_
  refine wpAny_mono (run_fn (vs := [.ref a, y]) (us := [.ref a, u]) (dvs := []) (ds := []) F (hr.mono hk) bb .nil pass0 I (.cons rfl (.cons ry .nil)) q) (fun r s' hv => ?_) fun _ _ e => e
  obtain ⟨z, H', I', rz, c, ez, q2⟩ := hv
  subst ez
  cases rz
  exact ⟨.bl c, H', I', rfl, q2⟩
theorem op_ownNe (c : Own X.prog X.w X.K X.mg X.base k C "__eq__" sp) (hne : PySem.W.findIn X.K (.ref C) "__ne__" = some (some (.builtin "object.__ne__"))) (hob : PySem.W.subIn X.K (.ref C) (.type "object") = some true) (hr : Room j X.A) (hk : k + 1 ≤ j) : OpR X (compareOp .NotEq) (rOwnCmp X.K C sp true) := by
  obtain ⟨f, fd, ps, h1, h2, h3, F, bb⟩ := c.ex
  intro pins s σ H x y v u Q I rx ry hq
  obtain ⟨a, dx, fs, t, rfl, ha, ty, nf, q⟩ := hq
  have lt := looks_ty I ry ty
  cases rx
  obtain ⟨mA, J, _⟩ := ins_get I.hok ha
  obtain ⟨od, J, _⟩ := J.look
  obtain ⟨m, hF⟩ := I.fr
  show wpAny (model X.prog X.w) X.A (richCompare .NotEq (.ref a) u) (EP X pins σ Q) X.xe s
  refine ne_own (tb := t) (by have := hr.un; omega) hF I.ok.mod.kin J lt nf hne hob h1 h2 ?_
  refine wpAny_mono (run_in1 (vs := [.ref a, y]) (us := [.ref a, u]) F (hr.mono hk) bb pass0 I (.cons rfl (.cons ry .nil)) q) (fun r s' hv => ?_) fun _ _ e => e
  obtain ⟨z, H', I', rz, c, ez, q2⟩ := hv
  subst ez
  cases rz
  exact ⟨c, rfl, .bl (!c), H', I', rfl, q2⟩
end
end KnW

set_option Elab.async false
set_option linter.all false
set_option maxRecDepth 100000
set_option maxHeartbeats 4000000
/-! Two dicts of texts compared, with either answer. -/
namespace KnV
open PySem PySem.Spec PyProof.Rows L2
def strV : V → Bool
  | .str _ => true
  | _ => false
def dictEq (ks ls : List (Key × V)) : Bool := ks.length == ls.length && ks.all fun p => decide (valV ls p.1 = some p.2)
theorem hits_any {A : Around} {s : Shared} {kvs : List (Key × V)} {vb : List (Key × Value)} (rb : KV kvs vb) (sb : ∀ k v, valV kvs k = some v → strV v = true) {ks : List (Key × V)} {va : List (Key × Value)} (ra : KV ks va) :
    (∀ p ∈ ks, strV p.2 = true) → PySem.W.KeqHits A s vb va (ks.all fun p => decide (valV kvs p.1 = some p.2)) := by
  unfold KV at ra
  induction ra with
  | nil => intro _; exact .nil
  | @cons p q ps qs h t ih =>
    intro hp
    obtain ⟨h1, h2⟩ := h
    obtain ⟨k, v⟩ := q
    have h1' : p.1 = k := h1
    subst h1'
    have sp := hp p List.mem_cons_self
    have rest := ih fun p' hm => hp p' (List.mem_cons_of_mem _ hm)
    have rv := rb.val p.1
    rw [List.all_cons]
    cases e : valV kvs p.1 with
    | none =>
      rw [e] at rv
      cases e2 : valueAt vb p.1 with
      | none =>
        rw [decide_eq_false (fun t => by cases t), Bool.false_and]
        exact .miss e2
      | some z => rw [e2] at rv; exact rv.elim
    | some y =>
      rw [e] at rv
      obtain ⟨u, hu, ru⟩ := rv.some_of
      have sy := sb _ _ e
      obtain ⟨pk, pv⟩ := p
      cases pv with
      | str a =>
        cases y with
        | str b =>
          obtain ⟨t1, rfl⟩ := (show ∃ t, v = Value.str a t from h2)
          obtain ⟨t2, rfl⟩ := (show ∃ t, u = Value.str b t from ru)
          have g := PySem.SeqAt.EqAt.str_str (A := A) (s := s) a t1 b t2
          have eq : decide (some (V.str b) = some (V.str a)) = (a == b) := by
            by_cases z : a = b
            · rw [z, decide_eq_true rfl]; simp
            · rw [decide_eq_false (fun t => z (V.str.inj (Option.some.inj t)).symm)]
              exact (beq_eq_false_iff_ne.mpr z).symm
          show PySem.W.KeqHits A s vb ((pk, Value.str a t1) :: qs) (decide (some (V.str b) = some (V.str a)) && _)
          rw [eq]
          exact .hit hu g rest
        | _ => cases sy
      | _ => cases sp
section
variable {X : Cx}
def rDictB (neg : Bool) : R2 := fun x y H Q => ∃ a b ks ls, x = .ref a ∧ y = .ref b ∧ H a = some (.dK ks) ∧ H b = some (.dK ls) ∧ (∀ p ∈ ks, strV p.2 = true) ∧ (∀ k v, valV ls k = some v → strV v = true) ∧ Q (.bl (if neg then !dictEq ks ls else dictEq ks ls)) H
theorem op_eqDictB (hu : X.A.units < cLine) : OpR X (compareOp .Eq) (rDictB false) := by
  intro pins s σ H x y v u Q I rx ry h
  obtain ⟨a, b, ks, ls, rfl, rfl, ea, eb, p1, p2, q⟩ := h
  cases rx
  cases ry
  obtain ⟨_, ya, va, ra, da⟩ := (show ObjOk X.prog X.w H s.heap a (.dK ks) from I.hok a _ ea)
  obtain ⟨_, yb, vb, rb, db⟩ := (show ObjOk X.prog X.w H s.heap b (.dK ls) from I.hok b _ eb)
  exact PySem.W.keq_eq (knd := mixKind X.prog X.w) ya yb da db hu (fun _ => hits_any rb p2 ra p1) (fin_bl I q (by unfold dictEq; rw [ra.length, rb.length]; rfl))
theorem op_neDictB (hu : X.A.units < cLine) : OpR X (compareOp .NotEq) (rDictB true) := by
  intro pins s σ H x y v u Q I rx ry h
  obtain ⟨a, b, ks, ls, rfl, rfl, ea, eb, p1, p2, q⟩ := h
  cases rx
  cases ry
  obtain ⟨_, ya, va, ra, da⟩ := (show ObjOk X.prog X.w H s.heap a (.dK ks) from I.hok a _ ea)
  obtain ⟨_, yb, vb, rb, db⟩ := (show ObjOk X.prog X.w H s.heap b (.dK ls) from I.hok b _ eb)
  exact PySem.W.keq_ne (knd := mixKind X.prog X.w) ya yb da db hu (fun _ => hits_any rb p2 ra p1) (fin_bl I q (by unfold dictEq; rw [ra.length, rb.length]; rfl))
end
end KnV

set_option Elab.async false
set_option linter.all false
set_option maxRecDepth 100000
/-! Order of texts, of ints; the states that steps reach. -/
namespace KnA
open PySem PySem.Spec PyProof.Rows
theorem lt_irr : ∀ a : List Nat, ltCps a a = false
  | [] => rfl
  | x :: r => by
    show (decide (x < x) || (x == x && ltCps r r)) = false
    rw [lt_irr r, decide_eq_false (Nat.lt_irrefl x)]; simp
theorem le_trans_ : ∀ {a b c : List Nat}, ltCps b a = false → ltCps c b = false → ltCps c a = false
  | [], [], [], _, _ => rfl
  | [], [], _ :: _, _, _ => rfl
  | [], _ :: _, [], _, h => by cases h
  | [], _ :: _, _ :: _, _, _ => rfl
  | _ :: _, [], _, h, _ => by cases h
  | _ :: _, _ :: _, [], _, h => by cases h
  | x :: r, y :: t, z :: u, h1, h2 => by
    have h1' : (decide (y < x) || (y == x && ltCps t r)) = false := h1
    have h2' : (decide (z < y) || (z == y && ltCps u t)) = false := h2
    show (decide (z < x) || (z == x && ltCps u r)) = false
    rw [Bool.or_eq_false_iff, decide_eq_false_iff_not, Bool.and_eq_false_iff, beq_eq_false_iff_ne] at h1' h2' ⊢
    refine ⟨by omega, ?_⟩
    by_cases e : z = x
    · right
      have e1 : y = x := by omega
      have e2 : z = y := by omega
      exact le_trans_ (h1'.2.resolve_left fun q => q e1) (h2'.2.resolve_left fun q => q e2)
    · exact .inl e
theorem le_anti : ∀ {a b : List Nat}, ltCps b a = false → ltCps a b = false → a = b
  | [], [], _, _ => rfl
  | [], _ :: _, _, h2 => by cases h2
  | _ :: _, [], h1, _ => by cases h1
  | x :: r, y :: t, h1, h2 => by
    have h1' : (decide (y < x) || (y == x && ltCps t r)) = false := h1
    have h2' : (decide (x < y) || (x == y && ltCps r t)) = false := h2
    rw [Bool.or_eq_false_iff, decide_eq_false_iff_not, Bool.and_eq_false_iff, beq_eq_false_iff_ne] at h1' h2'
    have e : x = y := by omega
    subst e
    rw [le_anti (h1'.2.resolve_left fun q => q rfl) (h2'.2.resolve_left fun q => q rfl)]
def leS (a b : Str) : Prop := ltCps b.cps.toList a.cps.toList = false
theorem leS_trans {a b c : Str} (h1 : leS a b) (h2 : leS b c) : leS a c := le_trans_ h1 h2
theorem str_ext {a b : Str} (h : a.cps.toList = b.cps.toList) : a = b := by
  cases a; cases b
  exact congrArg Str.mk (Array.toList_inj.mp h)
theorem leS_anti {a b : Str} (h1 : leS a b) (h2 : leS b a) : a = b := str_ext (le_anti h1 h2)
theorem rising_pair : ∀ {p : Str} {l : List Str}, risingS p l = true → (p :: l).Pairwise leS
  | p, [], _ => List.pairwise_singleton _ _
  | p, x :: r, h => by
    have h' : (!ltCps x.cps.toList p.cps.toList && risingS x r) = true := h
    rw [Bool.and_eq_true, Bool.not_eq_true'] at h'
    have ih := rising_pair h'.2
    refine List.pairwise_cons.mpr ⟨fun y hy => ?_, ih⟩
    rcases List.mem_cons.mp hy with z | z
    · rw [z]; exact h'.1
    · exact leS_trans h'.1 ((List.pairwise_cons.mp ih).1 y z)
theorem sorted_pair {l : List Str} (h : sortedS l = true) : l.Pairwise leS := by
  cases l with
  | nil => exact List.Pairwise.nil
  | cons x r => exact rising_pair h
theorem perm_sorted {α : Type} {R : α → α → Prop} (anti : ∀ {a b}, R a b → R b a → a = b) : ∀ {l m : List α}, l.Perm m → l.Pairwise R → m.Pairwise R → l = m
  | [], m, p, _, _ => (List.Perm.nil_eq p)
  | x :: l, [], p, _, _ => absurd p.length_eq (by simp)
  | x :: l, y :: m, p, h1, h2 => by
    have e : x = y := by
      have hx : x ∈ y :: m := p.mem_iff.mp List.mem_cons_self
      have hy : y ∈ x :: l := p.mem_iff.mpr List.mem_cons_self
      rcases List.mem_cons.mp hx with z | z
      · exact z
      · rcases List.mem_cons.mp hy with z' | z'
        · exact z'.symm
        · exact anti ((List.pairwise_cons.mp h1).1 y z') ((List.pairwise_cons.mp h2).1 x z)
    subst e
    rw [perm_sorted anti (List.perm_cons x |>.mp p) (List.pairwise_cons.mp h1).2 (List.pairwise_cons.mp h2).2]
theorem nodup_perm {α : Type} [DecidableEq α] {l m : List α} (h1 : l.Nodup) (h2 : m.Nodup) (h : ∀ x, x ∈ l ↔ x ∈ m) : l.Perm m := (List.perm_ext_iff_of_nodup h1 h2).mpr h
/-- the sorted list of these texts, each once -/
structure Words (ys : List Str) (xs : List Str) : Prop where
  up : ys.Pairwise leS
  nd : ys.Nodup
  mem : ∀ x, x ∈ ys ↔ x ∈ xs
theorem Words.uniq {ys zs xs : List Str} (a : Words ys xs) (b : Words zs xs) : ys = zs :=
  perm_sorted leS_anti (nodup_perm a.nd b.nd fun x => (a.mem x).trans (b.mem x).symm) a.up b.up
/-! ### states -/
abbrev Stp := Int × Str × Int
inductive Reach (ss : List Stp) (s0 : Int) : Int → Prop where
  | start : Reach ss s0 s0
  | step {x : Int} {w : Str} {y : Int} (h : Reach ss s0 x) (m : (x, w, y) ∈ ss) : Reach ss s0 y
structure States (ns : List Int) (ss : List Stp) (s0 : Int) : Prop where
  up : ns.Pairwise (· < ·)
  mem : ∀ x, x ∈ ns ↔ Reach ss s0 x
theorem States.uniq {a b : List Int} {ss : List Stp} {s0 : Int} (h : States a ss s0) (k : States b ss s0) : a = b := by
  have nd : ∀ {l : List Int}, l.Pairwise (· < ·) → l.Nodup := fun p => p.imp fun h e => by omega
  exact perm_sorted (R := fun x y : Int => x < y) (fun h1 h2 => by omega) (nodup_perm (nd h.up) (nd k.up) fun x => (h.mem x).trans (k.mem x).symm) h.up k.up
theorem lt_of_le {l : List Int} (h : l.Pairwise (· ≤ ·)) (d : l.Nodup) : l.Pairwise (· < ·) := by
  induction l with
  | nil => exact List.Pairwise.nil
  | cons x r ih =>
    obtain ⟨h1, h2⟩ := List.pairwise_cons.mp h
    obtain ⟨d1, d2⟩ := List.nodup_cons.mp d
    refine List.pairwise_cons.mpr ⟨fun y hy => ?_, ih h2 d2⟩
    have := h1 y hy
    have ne : x ≠ y := fun e => d1 (e ▸ hy)
    omega
/-- closed under the steps, from the start, and nothing else -/
theorem reach_of {ss : List Stp} {s0 : Int} {l : List Int} (h0 : s0 ∈ l) (hc : ∀ x w y, x ∈ l → (x, w, y) ∈ ss → y ∈ l) (hr : ∀ x ∈ l, Reach ss s0 x) (x : Int) : x ∈ l ↔ Reach ss s0 x := by
  refine ⟨hr x, fun h => ?_⟩
  induction h with
  | start => exact h0
  | step _ m ih => exact hc _ _ _ ih m
end KnA

set_option Elab.async false
set_option linter.all false
set_option maxRecDepth 100000
set_option maxHeartbeats 4000000
/-! xs[::-1] of a list. -/
namespace KnR
open PySem PySem.Spec PyProof.Rows L2
theorem pick_rev (its : List Value) : slicePick its.toArray none none (some (-1)) = its.reverse.toArray := by
  unfold slicePick
  have b : sliceBounds none none (some (-1)) its.toArray.size = ((its.length : Int) - 1, -1, -1) := by
    unfold sliceBounds
    simp
  rw [b]
  refine congrArg List.toArray ?_
  show (sliceRange ((its.length : Int) - 1) (-1) (-1)).filterMap (its.toArray[·]?) = its.reverse
  have r : sliceRange ((its.length : Int) - 1) (-1) (-1) = (List.range its.length).map fun k => its.length - 1 - k := by
    unfold sliceRange
    have c : (if (-1 : Int) > 0 then (if (its.length : Int) - 1 < -1 then (-1 - ((its.length : Int) - 1) + -1 - 1) / -1 else 0) else (if (its.length : Int) - 1 > -1 then ((its.length : Int) - 1 - -1 - -1 - 1) / (- -1) else 0)) = (its.length : Int) := by
      rw [if_neg (by decide)]
      by_cases h : (its.length : Int) - 1 > -1
      · rw [if_pos h]
        have : (- -1 : Int) = 1 := rfl
        rw [this, Int.ediv_one]
        omega
      · rw [if_neg h]; omega
    show (List.range (Int.toNat _)).map _ = _
    rw [c, Int.toNat_natCast]
    refine List.map_congr_left fun k hk => ?_
    have := List.mem_range.mp hk
    omega
  rw [r, List.filterMap_map]
  refine List.ext_getElem? fun i => ?_
  have all : ∀ n, n ≤ its.length → ((List.range n).filterMap ((fun x : Nat => its.toArray[x]?) ∘ fun k => its.length - 1 - k)) = its.reverse.take n := by
    intro n
    induction n with
    | zero => intro _; rfl
    | succ n ih =>
      intro h
      have hk : its.length - 1 - n < its.length := by omega
      have e : its.toArray[its.length - 1 - n]? = some its[its.length - 1 - n] := by
        rw [List.getElem?_toArray, List.getElem?_eq_getElem hk]
      rw [List.range_succ, List.filterMap_append, ih (by omega), List.take_add_one]
      refine congrArg (its.reverse.take n ++ ·) ?_
      have g : its.reverse[n]? = some its[its.length - 1 - n] := by
        rw [List.getElem?_reverse (by omega), List.getElem?_eq_getElem hk]
      rw [g, List.filterMap_cons, List.filterMap_nil]
      have e2 : ((fun x : Nat => its.toArray[x]?) ∘ fun k => its.length - 1 - k) n = some its[its.length - 1 - n] := e
      rw [e2]; rfl
  rw [all its.length (Nat.le_refl _), List.take_of_length_le (by rw [List.length_reverse]; exact Nat.le_refl _)]
def tRev (K : PySem.W.Frag) (te : TE) (ts : TO) : TE := fun σ H Q => te σ H fun x H1 => ts σ H1 fun o H2 => ∃ a xs, x = .ref a ∧ o = some (-1) ∧ SqL K H2 a xs ∧ ∀ p, H2 p = none → Q (.ref p) (upd H2 p (.lst xs.reverse))
section
variable {X : Cx} {e st : Expr} {te ts : TE} {p2 pos : Pos}
theorem pe_rev (he : PE X e te) (hs : PE X st ts) : PE X (.Subscript e (.Slice none none (some st) p2) pos) (tRev X.K te (tPart ts)) := by
  refine ⟨fun pins s σ H Q I h => ?_⟩
  refine Subscript_ (thn (he.run pins s σ H _ I h) fun v s1 ⟨x, H1, I1, r1, q1⟩ => ?_)
  have po : PO X (some st) (tPart ts) := po_some hs
  refine wpAny_Slice ?_
  rw [evalPart_none]
  refine wpAny_pure (wpAny_pure ?_)
  refine thn (po.run pins s1 σ H1 _ I1 q1) fun vk s3 ⟨o, H3, I3, pk, a, xs, ex, eo, hx, q3⟩ => ?_
  subst ex eo
  cases r1
  have I4 : Inv X pins σ H3 { s3 with heap := s3.heap.push { cls := .type "slice", data := .fields #[.none, .none, vk] } } := I3.kept (t' := s3.toks) fun b ob q => Heap.get?_push_of_some _ q
  obtain ⟨its, r, ht, hz⟩ := I4.list hx
  have hlen := r.length
  have hg : wpAny (model X.prog X.w) X.A (getItem (.ref a) (.ref s3.heap.objs.size)) (EP X pins σ Q) X.xe { s3 with heap := s3.heap.push { cls := .type "slice", data := .fields #[.none, .none, vk] } } := by
    refine wpAny_getItem_list_slice ht.isList (Heap.IsSliceOf.new ..) .none .none pk (by simp) ?_ (by rw [List.size_toArray]; omega)
    rw [pick_rev]
    refine ⟨.ref _, _, I4.laid (t' := s3.toks) (o := .lst xs.reverse) (fun b ob q => Heap.get?_push_of_some _ q) (Nat.le_refl _) ?_, rfl, q3 _ (I4.hok.fresh (Nat.le_refl _))⟩
    exact ⟨by rw [List.length_reverse]; exact hz, _, 0, r.reverse, Heap.get?_push_size _ rfl⟩
  show wpAny (model X.prog X.w) X.A (subscriptTail e (.Slice none none (some st) p2) (.ref a) (.ref s3.heap.objs.size)) (EP X pins σ Q) X.xe { s3 with heap := s3.heap.push { cls := .type "slice", data := .fields #[.none, .none, vk] } }
  exact tail_any (ops := [.ref a, .ref s3.heap.objs.size]) ht.isList.typeIs slot_list_getitem.lookup hg (by with_unfolding_all rfl)
end
end KnR

set_option Elab.async false
set_option linter.all false
set_option maxRecDepth 100000
set_option maxHeartbeats 4000000
/-! A def that has defaults, all of its arguments given. -/
namespace KnD
open PySem PySem.Spec PyProof.Rows L2
structure FunX (K : PySem.W.Frag) (x qual : Str) (st : Stmt) (f : Addr) (fd : FuncData) : Prop where
  ex : ∃ (oc : Value) (od : Option Addr) (dV kV doc pm : Value) (an : Option Addr) (cdv ct : Value) (osl : Array (Option Value)),
    fd = PySem.W.fnOf x qual (defArgs st) (defBody st) (defScope st) dV kV doc pm an cdv ct ∧ K.lookup f = some ⟨oc, od, .func fd, osl⟩ ∧ PySem.W.codeIn K cdv qual = true
section
variable {P : Program} {w : World} {K : PySem.W.Frag} {mg : Str → Option Value} {base : Heap}
theorem FunX.ok {x qual : Str} {st : Stmt} {f : Addr} {fd : FuncData} {N ps : List Str} {k : Nat} {sp : Sp} (F : FunX K x qual st f fd) (S : FnScope N ps (defScope st)) (len : ∀ vs H Q E, sp vs H Q E → vs.length = ps.length)
    (hbody : ∀ (cdv : Value) (A : Around) (outer : List Env) (s : Shared) (H : Hp) (vs : List V) (Q : VK) (E : XK), Room k (A.deeper (envOfC qual (defScope st) s.heap.objs.size f cdv)) → sp vs H Q E →
      ∃ t, PSs (cxOf CX0 P w K mg base N qual (defScope st) f cdv A outer s H E).nox (defBody st) t ∧ t { nx := fun _ H' => Q .non H', rt := Q } (start N vs) H) : FnOk P w K mg base CX0 (k + 1) f fd ps sp := by
  obtain ⟨oc, od, dV, kV, doc, pm, an, cdv, ct, osl, rfl, lk, hcd⟩ := F.ex
  refine fn_of lk hcd S len fun A outer s H vs Q E hr hsp => ?_
  obtain ⟨t, h, q⟩ := hbody cdv A outer s H vs Q E hr hsp
  exact ⟨t, h.nox, q⟩
/-- .. that may raise -/
theorem FunX.okX {x qual : Str} {st : Stmt} {f : Addr} {fd : FuncData} {N ps : List Str} {k : Nat} {sp : Sp} (F : FunX K x qual st f fd) (S : FnScope N ps (defScope st)) (len : ∀ vs H Q E, sp vs H Q E → vs.length = ps.length)
    (hbody : ∀ (cdv : Value) (A : Around) (outer : List Env) (s : Shared) (H : Hp) (vs : List V) (Q : VK) (E : XK), Room k (A.deeper (envOfC qual (defScope st) s.heap.objs.size f cdv)) → sp vs H Q E →
      ∃ t, PSs (cxOf (L2.CX P w) P w K mg base N qual (defScope st) f cdv A outer s H E) (defBody st) t ∧ t { nx := fun _ H' => Q .non H', rt := Q } (start N vs) H) : FnOk P w K mg base (L2.CX P w) (k + 1) f fd ps sp := by
  obtain ⟨oc, od, dV, kV, doc, pm, an, cdv, ct, osl, rfl, lk, hcd⟩ := F.ex
  exact fn_of lk hcd S len fun A outer s H vs Q E hr hsp => hbody cdv A outer s H vs Q E hr hsp
theorem binds_full {x qual : Str} {st : Stmt} {f T : Addr} {oc : Value} {od an : Option Addr} {osl : Array (Option Value)} {kV doc pm cdv ct : Value} {to : Obj} {tn : Nat} {its : List Value} {dvs : List V} {ps : List Str}
    (l : K.lookup f = some ⟨oc, od, .func (PySem.W.fnOf x qual (defArgs st) (defBody st) (defScope st) (.ref T) kV doc pm an cdv ct), osl⟩) (c : PySem.W.codeIn K cdv qual = true) (k : PySem.W.keepIn K (.ref f) = true)
    (lT : K.lookup T = some to) (oT : to.data = .seq its.toArray tn) (rT : Vals dvs its) (hd : dvs ≠ [])
    (h : ∀ (T : Addr) (kV doc pm : Value) (an : Option Addr) (cdv ct : Value) (us its : List Value), us.length = ps.length → its.length = dvs.length →
      ∃ k, bindArgs (PySem.W.fnOf x qual (defArgs st) (defBody st) (defScope st) (.ref T) kV doc pm an cdv ct) ⟨us, []⟩ = seqItems? (.ref T) >>= k ∧ k (some its.toArray) = pure (ps.zip (us ++ its.drop dvs.length))) : Binds K (PySem.W.fnOf x qual (defArgs st) (defBody st) (defScope st) (.ref T) kV doc pm an cdv ct) ps [] := by
  have F : FunD K x qual (defArgs st) (defBody st) (defScope st) dvs [] f (PySem.W.fnOf x qual (defArgs st) (defBody st) (defScope st) (.ref T) kV doc pm an cdv ct) :=
    ⟨⟨oc, od, .ref T, kV, doc, pm, an, cdv, ct, osl, rfl, l, c, .inr ⟨hd, T, to, its, tn, rfl, lT, oT, rT⟩, .inl rfl⟩, k⟩
  obtain ⟨ds, v, b⟩ := FunD.binds1 F (ps := ps) ps.length dvs.length hd (by omega) h
  rw [List.drop_length] at v
  cases v
  exact b
end
end KnD

set_option Elab.async false
set_option linter.all false
set_option maxRecDepth 100000
set_option maxHeartbeats 4000000
/-! Own errors whose base is an own error: Base.__init__(self, ..). -/
namespace KnX
open PySem PySem.Spec PyProof.Rows L2 ClX
variable {X : Cx} {o e : Expr} {es : List Expr} {to te : TE} {ta : TA} {f x : Str} {p p' p1 p2 pos : Pos} {C0 : Addr} {mc : Value}
/-- what the written part says of the base, as it is read by its name -/
structure BaseC (K : PySem.W.Frag) (C0 : Addr) (mc : Value) : Prop where
  r : CRead K C0 mc
  at_ : PySem.W.findCls K (.ref C0) mc "__init__" = some (.val (.builtin "ValueError.__init__"))
theorem pe_baseinit {pl : Sem Bool} (hg : Gl X x) (hm : X.mg x = some (.ref C0)) (B : BaseC X.K C0 mc) (ha : PA X (e :: es) ta)
    (hdb : (x == ("__debug__" : Str)) = false := by decide)
    (hc : eval (.Call (.Attribute (.Name x p1) "__init__" p2) (e :: es) [] pos) X.env = (do
      let ov ← eval (.Name x p1) X.env
      standAt p2.atName
      let (f, first) ← holding [ov] (getMethod ov "__init__" pl)
      callWith pos f first (backTo pos (starEach (e :: es) X.env)) (backToKw pos (keywordEach [] X.env))) := by rfl)
    (he : starEach (e :: es) X.env = (false, eval e X.env) :: starEach es X.env := by rfl) (hpl : (backTo pos (starEach es X.env)).any (·.1) = false := by rfl) :
    PE X (.Call (.Attribute (.Name x p1) "__init__" p2) (e :: es) [] pos) (tVeI X.K ta) := by
  refine ⟨fun pins s σ H Q I h => ?_⟩
  refine PySem.W.methodCall_KW (ld_glob I hg hm ?_ hdb) hc
  refine PySem.W.method_cls I.kIn B.r.ga (PySem.W.cls_value I.kIn B.r.rd B.at_ (by decide +kernel) ?_)
  show wpAny _ _ (callWith pos (Value.builtin "ValueError.__init__") [] (backTo pos (starEach (e :: es) X.env)) []) _ _ _
  refine PyProof.Rows.callWith_method1 (thn (ha.run pos pins _ σ H _ (I.tok _) h) fun us s1 ⟨vs, H1, I1, r1, a, C, ws, ev, hl, T, ea, q⟩ => ?_) he hpl
  subst ev
  cases r1 with
  | @cons _ u0 _ ur ra rw' =>
    obtain rfl : u0 = Value.ref a := ra
    exact oinit_ok T I1 ea (by rw [← Paired.length rw', sizeLine_eq]; omega) fun s' J => ⟨.non, H1, J, rfl, q⟩
/-- an own error's __init__: the field is stored in a new dict -/
def spErr (C : Addr) (g : Str) (_ : PySem.W.Frag) : Sp := fun vs H Q _ => ∃ (a : Addr) (y : V), vs = [.ref a, y] ∧ H a = some (exo a C none) ∧ ∀ dx, H dx = none → dx ≠ a → Q .non (upd (upd H dx (exd dx [(g, y)])) a (exo a C (some dx)))
/-- what the walk asks of an own error class -/
structure ErrC (K : PySem.W.Frag) (mg : Str → Option Value) (x : Str) (C fI : Addr) (g : Str) : Prop where
  gC : mg x = some (.ref C)
  ox : OexC K C
  iC : PySem.W.findIn K (.ref C) "__init__" = some (some (.ref fI))
  tI : PySem.W.typeIn K (.ref fI) = some (.type "function")
  no : PySem.W.findIn K (.ref C) g = some none
/-- C(v) behind its arguments: the error's dict d is new -/
theorem mk_err {C : Addr} {g : Str} {K : PySem.W.Frag} {v : V} {H1 : Hp} {Q : XK} (h : ∀ d, H1 d = none → Q (.ref C) (some d) (upd H1 d (.xd [(g, v)]))) : ([v] : List V).length ≤ 1000 ∧ ∀ a, H1 a = none → spErr C g K (.ref a :: ([v] ++ [])) (upd H1 a (exo a C none))
    (fun u H2 => u = .non ∧ ∃ (d : Addr) (fs : List (Str × V)), H2 a = some (exo a C (some d)) ∧ H2 d = some (exd d fs) ∧ H1 d = none ∧ Q (.ref C) (some d) (upd (del H2 a) d (.xd fs))) (fun _ _ _ => False) := by
  refine ⟨Nat.le_of_ble_eq_true rfl, fun a na => ⟨a, v, rfl, upd_same, fun dx nd ne => ⟨rfl, dx, [(g, v)], upd_same, (upd_ne ne).trans upd_same, ?_, ?_⟩⟩⟩
  · rwa [upd_ne ne] at nd
  · have nd' : H1 dx = none := by rwa [upd_ne ne] at nd
    have e : upd (del (upd (upd (upd H1 a (exo a C none)) dx (exd dx [(g, v)])) a (exo a C (some dx))) a) dx (.xd [(g, v)]) = upd H1 dx (.xd [(g, v)]) := by
      funext b
      by_cases hb : b = dx
      · rw [hb, upd_same, upd_same]
      · rw [upd_ne hb, upd_ne hb]
        by_cases ha : b = a
        · rw [ha, del_same, na]
        · rw [del_ne ha, upd_ne ha, upd_ne hb, upd_ne ha]
    rw [e]
    exact h dx nd'
theorem pmk_err {C fI : Addr} {k j : Nat} {fd : FuncData} {ps : List Str} {g : Str} (T : ErrC X.K X.mg x C fI g) (F1 : FnOk X.prog X.w X.K X.mg X.base CX0 k fI fd ps (spErr C g X.K)) (hr : Room j X.A) (hk : k + 1 ≤ j) (hb : Binds X.K fd ps []) (hg : Gl X x) (ha : PA X (e :: es) ta)
    (hdb : (x == ("__debug__" : Str)) = false := by decide) (he : starEach (e :: es) X.env = (false, eval e X.env) :: starEach es X.env := by rfl) (hpl : (backTo pos (starEach es X.env)).any (·.1) = false := by rfl) :
    PMk X (.Call (.Name x p) (e :: es) [] pos) (tMkO C (spErr C g X.K) [] ta) :=
  pmk_oex (dvs := []) T.ox T.iC T.tI F1 (hr.mono hk) hb .nil (fun _ _ _ _ _ _ _ h => h.elim) hg T.gC ha hdb he hpl
/-- an own error class by its promise -/
structure Err (P : Program) (w : World) (K : PySem.W.Frag) (mg : Str → Option Value) (base : Heap) (k : Nat) (x : Str) (C : Addr) (g : Str) : Prop where
  ex : ∃ (fI : Addr) (fd : FuncData) (ps : List Str), ErrC K mg x C fI g ∧ FnOk P w K mg base CX0 k fI fd ps (spErr C g K) ∧ Binds K fd ps []
/-- raise C(e) -/
theorem ps_err {C : Addr} {k j : Nat} {g : Str} {W : WX} {pos2 : Pos} (hc : X.calm = true) (tk : Takes X W) (c : Err X.prog X.w X.K X.mg X.base k x C g) (hr : Room j X.A) (hk : k + 1 ≤ j) (hg : Gl X x) (ha : PA X (e :: es) ta)
    (hdb : (x == ("__debug__" : Str)) = false := by decide) (he : starEach (e :: es) X.env = (false, eval e X.env) :: starEach es X.env := by rfl) (hpl : (backTo pos (starEach es X.env)).any (·.1) = false := by rfl) :
    PS X (.Raise (some (.Call (.Name x p) (e :: es) [] pos)) none pos2) (fun _ σ H => tMkO C (spErr C g X.K) [] ta σ H fun cls d H' => W cls d σ H') := by
  obtain ⟨fI, fd, ps, T, F, b⟩ := c.ex
  exact ps_raise hc tk (pmk_err T F hr hk b hg ha hdb he hpl)
/-! ### calls that may raise -/
/-- a def that may raise, by its promise -/
structure CalX (P : Program) (w : World) (K : PySem.W.Frag) (mg : Str → Option Value) (base : Heap) (k : Nat) (x : Str) (sp : Sp) : Prop where
  ex : ∃ (f : Addr) (fd : FuncData) (ps : List Str), FnOk P w K mg base (L2.CX P w) k f fd ps sp ∧ mg x = some (.ref f) ∧ PySem.W.keepIn K (.ref f) = true ∧ Binds K fd ps []
theorem pe_cx {k j : Nat} {sp : Sp} {W : WX} {t : TA} (c : CalX X.prog X.w X.K X.mg X.base k x sp) (hr : Room j X.A) (hk : k ≤ j) (hg : Gl X x) (tk : Takes X W) (ha : PA X (e :: es) t)
    (hdb : (x == ("__debug__" : Str)) = false := by decide) (he : starEach (e :: es) X.env = (false, eval e X.env) :: starEach es X.env := by rfl) (hpl : (backTo pos (starEach es X.env)).any (·.1) = false := by rfl) :
    PE X (.Call (.Name x p) (e :: es) [] pos) (tCallS sp (WE W) t) := by
  obtain ⟨f, fd, ps, F, hm, kp, b⟩ := c.ex
  exact pe_callS F (hr.mono hk) hg hm kp b (fun σ => passAt tk σ) ha hdb he hpl
/-- C(e, ..), C's own __init__ may raise -/
def tMakeS (C : Addr) (sp : Sp) (E : L2.St → XK) (t : TA) : TE := fun σ H Q => t σ H fun vs H1 => ∀ x dx, H1 x = none → H1 dx = none → dx ≠ x → sp (.ref x :: vs) (upd (upd H1 dx (.own x)) x (.ins C dx [])) (fun v H2 => v = .non ∧ Q (.ref x) H2) (E σ)
structure MakX (P : Program) (w : World) (K : PySem.W.Frag) (mg : Str → Option Value) (base : Heap) (k : Nat) (x : Str) (C : Addr) (sp : Sp) : Prop where
  ex : ∃ (f : Addr) (fd : FuncData) (ps : List Str), Mk K C f ∧ FnOk P w K mg base (L2.CX P w) k f fd ps sp ∧ mg x = some (.ref C) ∧ Binds K fd ps []
theorem pe_mkx {k j : Nat} {C : Addr} {sp : Sp} {W : WX} {t : TA} (c : MakX X.prog X.w X.K X.mg X.base k x C sp) (hr : Room j X.A) (hk : k + 1 ≤ j) (hg : Gl X x) (tk : Takes X W) (ha : PA X (e :: es) t)
    (hdb : (x == ("__debug__" : Str)) = false := by decide) (he : starEach (e :: es) X.env = (false, eval e X.env) :: starEach es X.env := by rfl) (hpl : (backTo pos (starEach es X.env)).any (·.1) = false := by rfl) :
    PE X (.Call (.Name x p) (e :: es) [] pos) (tMakeS C sp (WE W) t) := by
  obtain ⟨f, fd, ps, M, F, hm, b⟩ := c.ex
  refine ⟨fun pins s σ H Q I h => wpAny_Call_Name_kw (ld_glob I hg hm (PySem.W.callWith_K (h₀ := X.base) I.ok.mod.kin M.kp (thn (ha.run pos pins s σ H _ I h) fun us s1 ⟨vs, H1, I1, r, q⟩ => ⟨I1.kIn, ?_⟩) he hpl) hdb)⟩
  have new : ∀ a, s1.heap.objs.size ≤ a → H1 a = none := fun a => I1.hok.fresh
  have q1 := q (s1.heap.objs.size + 1) s1.heap.objs.size (new _ (Nat.le_succ _)) (new _ (Nat.le_refl _)) (Nat.ne_of_lt (Nat.lt_succ_self _))
  have J := Inv.made (C := C) I1
  have rr : Vals (V.ref (s1.heap.objs.size + 1) :: vs) (Value.ref (s1.heap.objs.size + 1) :: us) := .cons rfl r
  have len : (Value.ref (s1.heap.objs.size + 1) :: us).length = ps.length := by rw [← rr.length]; exact F.len _ _ _ _ q1
  have bb := b _ (Value.ref (s1.heap.objs.size + 1) :: us) J.kIn (by rw [List.append_nil]; exact len)
  rw [List.append_nil] at bb
  refine wpAny_call (make_map (f := f) I1.kIn M.makes M.init (beq_iff_eq.mp M.fn) (codeAny_mono (F.run _ X.stack _ _ ⟨_, []⟩ _ _ _ (WE W σ) ((hr.mono hk).make C us []) (J.env0.make C us []) bb rr q1) fun res s2 hres => ?_))
  cases res with
  | error ex => exact passAt tk σ pins _ _ ex s2 J hres
  | ok fl =>
    cases fl with
    | ret u =>
      obtain ⟨v, H', J2, rv, ev, q3⟩ := J.after hres
      subst ev
      exact ⟨rv, ⟨.ref _, H', J2, rfl, q3⟩⟩
    | next => exact hres.elim
    | brk => exact hres.elim
    | cont => exact hres.elim
/-! ### out of a statement that runs while a thing is locked -/
/-- the thing is as it was -/
def wUn (G0 : Hp) (W : WX) : WX := fun cls dd τ G => ∃ (d : Addr) (u : HO) (od : Obj), (∀ o' u', G0 d ≠ some (.frz o' u')) ∧ G d = some (.frz od u) ∧ W cls dd τ (upd G d u)
theorem takes_un {W : WX} (tk : Takes X W) : Takes X (wUn X.H_0 W) := fun v s' h => by
  obtain ⟨a, B, sI, pins, τ, G, cls, dd, ev, I, nb, up, sky, na, eos, bare, d, u, od, h0, hd, hw⟩ := h
  have ne : a ≠ d := fun z => by rw [z, hd] at na; cases na
  exact tk v s' ⟨a, B, sI, pins, τ, upd G d u, cls, dd, ev, I.unlock hd h0, nb, up, sky, (upd_ne ne).trans na, eos, bare, hw⟩
theorem upd_swap {G : Hp} {a b : Addr} {x y : HO} (h : a ≠ b) : upd (upd G a x) b y = upd (upd G b y) a x := by
  funext c
  by_cases ca : c = a
  · subst ca; rw [upd_ne h, upd_same, upd_same]
  · by_cases cb : c = b
    · subst cb; rw [upd_same, upd_ne (Ne.symm h), upd_same]
    · rw [upd_ne cb, upd_ne ca, upd_ne ca, upd_ne cb]
end KnX

set_option Elab.async false
set_option linter.all false
set_option maxRecDepth 100000
set_option maxHeartbeats 4000000
/-! xs[i] += e, xs a list. -/
namespace KnL
open PySem PySem.Spec PyProof.Rows L2
section
variable {X : Cx}
theorem get_list : PGet X (rIxL X.K) := by
  intro pins s σ H x y v u Q I rx ry h
  obtain ⟨p, xs, i, z, rfl, rfl, hq, he, q⟩ := h
  cases rx
  obtain ⟨t, rfl⟩ := ry
  obtain ⟨its, r, pl, hz⟩ := I.list hq
  obtain ⟨j, h1, h2, h3, h4, h5⟩ := atI_get he
  obtain ⟨w, ew, rw'⟩ := r.get h2
  have hl := r.length
  have hn := line63
  have fin : EP X pins σ Q w s := ⟨z, H, I, rw', q⟩
  by_cases h0 : 0 ≤ i
  · have hj : i.toNat = j := by
      rw [seqIndex_of h0 h5] at h1
      exact Option.some.inj h1
    exact wpAny_getItem_list pl.isList h0 (by omega) (by rw [hj]; simpa using ew) fin
  · have hj : (i + (its.toArray.size : Int)).toNat = j := by
      rw [seqIndex_neg (by omega) h4] at h1
      rw [List.size_toArray, ← hl]
      exact Option.some.inj h1
    exact wpAny_getItem_list_neg pl.isList (by omega) (by rw [List.size_toArray] <;> omega) (by omega) (by rw [hj]; simpa using ew) fin
end
end KnL

set_option Elab.async false
set_option linter.all false
set_option maxRecDepth 100000
/-! a dict comprehension that is given to a local name on the same line -/
namespace KnDc
open PySem PySem.Spec PyProof.Rows L2
variable {X : Cx}
theorem ps_setDc {i : Nat} {y : Str} {py : Pos} {kx vx tg iter : Expr} {ifs : List Expr} {scope : Scope} {own : List (Str × Nat)} {pos spos : Pos} {wi : TI} {g : TG} {tt : TT} {tk tv : TE} (cm : X.calm = true) (dn : X.N.Nodup) (iy : X.N[i]? = some y) (ly : X.env.scope.names.lookup y = some .local)
    (sw : swapsWith (.DictComp kx vx [⟨tg, iter, ifs, 0⟩] scope pos) (some (.Name y py)) spos.line X.env = pure true) (pi : PI X tg iter wi) (bo : BlkOk X.N X.env.scope scope own)
    (pg : ∀ s H C cl fp, PG (X.blk s H scope (compEnvC scope cl C X.env) fp) tg g) (pt : ∀ s H C cl fp, PTs (X.blk s H scope (compEnvC scope cl C X.env) fp) ifs tt)
    (pk : ∀ s H C cl fp, PE (X.blk s H scope (compEnvC scope cl C X.env) fp) kx tk) (pv : ∀ s H C cl fp, PE (X.blk s H scope (compEnvC scope cl C X.env) fp) vx tv)
    (hs : ∀ x, foldedSetIterable iter X.env x = pure x := by intro _; rfl) :
    PS X (.Assign [.Name y py] (.DictComp kx vx [⟨tg, iter, ifs, 0⟩] scope pos) spos) (tAsg (tDc wi g tt tk tv (own.map (·.2))) (gName i)) := by
  refine ⟨fun pins s σ H D I h => ?_⟩
  rw [exec_Assign_Name_used _ _ _ _ sw]
  refine wpAny_bind (wpAny_standAt (wpAny_bind (?_)))
  show wpAny _ X.A (do let _ ← comprehension (.DictComp kx vx [⟨tg, iter, ifs, 0⟩] scope pos) scope X.env (firstIterPos [⟨tg, iter, ifs, 0⟩] pos) newDict false (eval iter X.env) (some (assign (.Name y py) X.env))) _ _ s
  have h : tDc wi g tt tk tv (own.map (·.2)) σ H (fun x H1 => gName i x σ H1 D.nx) := h
  refine wpAny_bind (thn (dc_core (Qf := fun _ s' => SP X pins D .next s') cm dn I pi bo pg pt pk pv hs h fun L C s' m H' I' q hn f => ?_) fun _ s' hq => wpAny_pure (wpAny_pure hq))
  show wpAny _ X.A (assign (.Name y py) X.env (.ref L)) _ _ _
  refine wpAny_assign_Name (store_ok2 (v := V.ref L) I' dn iy (.inl ly) rfl (fun s2 I2 ⟨a, sb, ha⟩ => ?_) (.inr ly))
  obtain ⟨g0, g1, g2, g3, g4, g5⟩ := f
  have nCa : C ≠ a := by
    rcases ha with z | z
    · rw [z]; exact g1
    · exact fun e => (g4 y a z) e.symm
  refine ⟨m, hn.sameBut sb nCa, fun h3 sb3 => ?_⟩
  exact ⟨_, H', I2.turned (t' := s2.toks) (fun b o hb e => ((sb3.2 b hb).trans e)) g0 g1 g3 g4 g5, q⟩
theorem swD {kx vx : Expr} {gs : List Comprehension} {scope : Scope} {pos py : Pos} {y : Str} {l : Nat} {env : Env} (hk : env.scope.kind = .function) (hy : env.scope.names.lookup y = some .local) (hl : (py.line == pos.line) = true)
    (ha : (scope.names.any fun (n, k) => n == y && (k == .local || k == .cell)) = false) : swapsWith (.DictComp kx vx gs scope pos) (some (.Name y py)) l env = pure true := by
  have e1 : env.kindOf y = some .local := hy
  have e2 : env.blockKind = .function := by unfold Env.blockKind; rw [hk]; rfl
  unfold swapsWith
  simp only [e2, e1, ha, Expr.pos, hl]
  rfl
end KnDc

set_option Elab.async false
set_option linter.all false
set_option maxRecDepth 100000
/-! A dict that an expression makes, locked as soon as it is there; a try whose body raises nothing. -/
namespace KnF
open PySem PySem.Spec PyProof.Rows L2
variable {X : Cx}
def tFrz (te : TE) : TE := fun σ H Q => te σ H fun x H1 => ∃ d u, x = .ref d ∧ H1 d = some u ∧ Mut (some u) ∧ ∀ od, Q x (upd H1 d (.frz od u))
theorem pe_frz {e : Expr} {te : TE} (he : PE X e te) : PE X e (tFrz te) := by
  refine ⟨fun pins s σ H Q I h => ?_⟩
  refine thn (he.run pins s σ H _ I h) fun v s1 ⟨x, H1, I1, r1, d, u, ex, hd, mu, q⟩ => ?_
  subst ex
  obtain ⟨od, I2⟩ := I1.lock hd mu
  exact ⟨.ref d, _, I2, r1, q od⟩
theorem pi_itemsF {e : Expr} {td : TE} {apos cpos tpos : Pos} {elts : List Expr} {kk : Nat} (he : PE X e td) (hbase : attributeBase e "items" X.env (eval e X.env) = eval e X.env := by rfl) (hline : (apos.endLine == cpos.line) = true := by rfl) :
    PI X (.Tuple elts kk tpos) (.Call (.Attribute e "items" apos) [] [] cpos) (iItems (tFrz td)) := pi_items (pe_frz he) hbase hline
theorem ps_tryC {body : List Stmt} {h₀ : ExceptHandler} {hds : List ExceptHandler} {pos : Pos} {tb : TS} (hb : ∀ (pn : List (Addr × Obj)) (xe : Value → Shared → Prop), PassesOwn (model X.prog X.w) X.A X.env xe → PSs (X.tr pn xe) body tb) : PS X (.Try body (h₀ :: hds) [] [] pos) tb := by
  refine ⟨fun pins s0 σ0 H0 D I0 h => ?_⟩
  have okX := I0.ok
  refine wpAny_Try_except (wpAny_mono ((hb (X.pn ++ pins) (fun _ _ => False) ?_).run [] s0 σ0 H0 D (I0.toTry _) h) (fun fl s1 fin => ?_) (fun ex s1 hx => False.elim hx))
  · exact PassesOwn.never
  · cases fl with
    | next => obtain ⟨τ, G, J, q⟩ := fin; exact wpAny_execs_nil ⟨τ, G, J.ofTry okX, q⟩
    | brk => obtain ⟨τ, G, J, q⟩ := fin; exact ⟨τ, G, J.ofTry okX, q⟩
    | cont => obtain ⟨τ, G, J, q⟩ := fin; exact ⟨τ, G, J.ofTry okX, q⟩
    | ret u => obtain ⟨v, τ, G, J, r, q⟩ := fin; exact ⟨v, τ, G, J.ofTry okX, r, q⟩
def tJoin (ts : List TE) : TE := fun σ H Q => tJs ts Str.empty σ H fun out H1 => Q (.str out) H1
theorem pe_jn {v1 v2 : Expr} {rest : List Expr} {ts : List TE} {pos : Pos} (h : PJ X (v1 :: v2 :: rest) ts) : PE X (.JoinedStr (v1 :: v2 :: rest) pos) (tJoin ts) := pe_joined h
end KnF

set_option Elab.async false
set_option linter.all false
set_option maxRecDepth 100000
set_option maxHeartbeats 4000000
namespace Kn
open PySem PySem.Spec PyProof.Rows L2
open C8 (Cal pe_c pe_gc Mak pe_mk)
def topS (i : Nat) : Stmt := PySem.Challenge.pw_knownlate_k70_machine_text.main.body.getD i (.Pass ⟨0, 0, 0, 0⟩)
abbrev s__law_source : Stmt := topS 41
theorem sc__law_source : FnScope ["_law_script", "_law_cell"] ["_law_script"] (defScope s__law_source) := ⟨rfl, rfl, rfl, by decide +kernel, rfl, by decide +kernel, by decide +kernel⟩
abbrev s__law_draw : Stmt := topS 42
theorem sc__law_draw : FnScope ["_law_source_here", "_law_many", "_law_digit", "_law_cell", "_law_number"] ["_law_source_here", "_law_many"] (defScope s__law_draw) := ⟨rfl, rfl, rfl, by decide +kernel, rfl, by decide +kernel, by decide +kernel⟩
abbrev s__law_states : Stmt := topS 45
theorem sc__law_states : FnScope ["_law_source_here", "_law_most", "_law_states_here", "_law_k", "_law_state"] ["_law_source_here", "_law_most"] (defScope s__law_states) := ⟨rfl, rfl, rfl, by decide +kernel, rfl, by decide +kernel, by decide +kernel⟩
abbrev s__law_step : Stmt := topS 46
theorem sc__law_step : FnScope ["_law_source_here", "_law_state", "_law_states_here", "_law_words", "_law_word"] ["_law_source_here", "_law_state", "_law_states_here", "_law_words"] (defScope s__law_step) := ⟨rfl, rfl, rfl, by decide +kernel, rfl, by decide +kernel, by decide +kernel⟩
abbrev s__law_steps : Stmt := topS 47
theorem sc__law_steps : FnScope ["_law_source_here", "_law_states_here", "_law_words", "_law_extra", "_law_most", "_law_steps_here", "_law_state", "_law_row", "_law_k", "_law_many", "_law_step_here"] ["_law_source_here", "_law_states_here", "_law_words", "_law_extra", "_law_most"] (defScope s__law_steps) := ⟨rfl, rfl, rfl, by decide +kernel, rfl, by decide +kernel, by decide +kernel⟩
abbrev s__law_name : Stmt := topS 43
theorem sc__law_name : FnScope ["_law_source_here", "_law_size", "_law_letters", "_law_k"] ["_law_source_here"] (defScope s__law_name) := ⟨rfl, rfl, rfl, by decide +kernel, rfl, by decide +kernel, by decide +kernel⟩
abbrev s__law_names : Stmt := topS 44
theorem sc__law_names : FnScope ["_law_source_here", "_law_many", "_law_names_here", "_law_k", "_law_name_here"] ["_law_source_here", "_law_many"] (defScope s__law_names) := ⟨rfl, rfl, rfl, by decide +kernel, rfl, by decide +kernel, by decide +kernel⟩
abbrev s__law_faults : Stmt := topS 48
theorem sc__law_faults : FnScope ["_law_source_here", "_law_steps_here", "_law_most", "_law_names_here", "_law_used", "_law_faults_here", "_law_word", "_law_row"] ["_law_source_here", "_law_steps_here", "_law_most"] (defScope s__law_faults) := ⟨rfl, rfl, rfl, by decide +kernel, rfl, by decide +kernel, by decide +kernel⟩
abbrev s__law_machine : Stmt := topS 49
theorem sc__law_machine : FnScope ["_law_source_here", "_law_size", "_law_extra", "_law_words", "_law_most", "_law_states_here", "_law_steps_here", "_law_faults_here", "_law_fault"] ["_law_source_here", "_law_size", "_law_extra", "_law_words", "_law_most"] (defScope s__law_machine) := ⟨rfl, rfl, rfl, by decide +kernel, rfl, by decide +kernel, by decide +kernel⟩
abbrev s__law_own_words : Stmt := topS 51
theorem sc__law_own_words : FnScope ["_law_source_here", "_law_data", "_law_olds", "_law_news", "_law_table", "_law_k", "_law_steps_here", "_law_faults_here", "_law_word", "_law_row"] ["_law_source_here", "_law_data"] (defScope s__law_own_words) := ⟨rfl, rfl, rfl, by decide +kernel, rfl, by decide +kernel, by decide +kernel⟩
abbrev s_is_whole : Stmt := topS 19
theorem sc_is_whole : FnScope ["value"] ["value"] (defScope s_is_whole) := ⟨rfl, rfl, rfl, by decide +kernel, rfl, by decide +kernel, by decide +kernel⟩
abbrev s_is_state : Stmt := topS 18
theorem sc_is_state : FnScope ["value"] ["value"] (defScope s_is_state) := ⟨rfl, rfl, rfl, by decide +kernel, rfl, by decide +kernel, by decide +kernel⟩
abbrev s_is_row : Stmt := topS 20
theorem sc_is_row : FnScope ["value"] ["value"] (defScope s_is_row) := ⟨rfl, rfl, rfl, by decide +kernel, rfl, by decide +kernel, by decide +kernel⟩
abbrev s_is_name : Stmt := topS 17
theorem sc_is_name : FnScope ["value", "letter"] ["value"] (defScope s_is_name) := ⟨rfl, rfl, rfl, by decide +kernel, rfl, by decide +kernel, by decide +kernel⟩
abbrev s_is_step : Stmt := topS 23
theorem sc_is_step : FnScope ["value"] ["value"] (defScope s_is_step) := ⟨rfl, rfl, rfl, by decide +kernel, rfl, by decide +kernel, by decide +kernel⟩
abbrev s_check_steps : Stmt := topS 24
theorem sc_check_steps : FnScope ["steps", "seen", "counts", "at", "step"] ["steps"] (defScope s_check_steps) := ⟨rfl, rfl, rfl, by decide +kernel, rfl, by decide +kernel, by decide +kernel⟩
abbrev s_check_faults : Stmt := topS 25
theorem sc_check_faults : FnScope ["faults", "words", "names", "word", "name"] ["faults", "words"] (defScope s_check_faults) := ⟨rfl, rfl, rfl, by decide +kernel, rfl, by decide +kernel, by decide +kernel⟩
abbrev s_moves_by_state : Stmt := topS 26
theorem sc_moves_by_state : FnScope ["steps", "moves", "source", "word", "target"] ["steps"] (defScope s_moves_by_state) := ⟨rfl, rfl, rfl, by decide +kernel, rfl, by decide +kernel, by decide +kernel⟩
abbrev s_reached_states : Stmt := topS 27
theorem sc_reached_states : FnScope ["start", "leaving", "reached", "waiting", "moves", "word", "target"] ["start", "leaving"] (defScope s_reached_states) := ⟨rfl, rfl, rfl, by decide +kernel, rfl, by decide +kernel, by decide +kernel⟩
abbrev s_Machine_init : Stmt := inClass (topS 22) 0
theorem sc_Machine_init : FnScope ["self", "start", "steps", "faults", "words", "leaving", "states", "state", "step", "word"] ["self", "start", "steps", "faults"] (defScope s_Machine_init) := ⟨rfl, rfl, rfl, by decide +kernel, rfl, by decide +kernel, by decide +kernel⟩
abbrev s__law_text : Stmt := topS 50
theorem sc__law_text : FnScope ["_law_data", "_law_lines", "_law_row", "_law_word"] ["_law_data"] (defScope s__law_text) := ⟨rfl, rfl, rfl, by decide +kernel, rfl, by decide +kernel, by decide +kernel⟩
abbrev s_Machine_start : Stmt := inClass (topS 22) 2
theorem sc_Machine_start : FnScope ["self"] ["self"] (defScope s_Machine_start) := ⟨rfl, rfl, rfl, by decide +kernel, rfl, by decide +kernel, by decide +kernel⟩
abbrev s_Machine_steps : Stmt := inClass (topS 22) 3
theorem sc_Machine_steps : FnScope ["self"] ["self"] (defScope s_Machine_steps) := ⟨rfl, rfl, rfl, by decide +kernel, rfl, by decide +kernel, by decide +kernel⟩
abbrev s_Machine_faults : Stmt := inClass (topS 22) 6
theorem sc_Machine_faults : FnScope ["self"] ["self"] (defScope s_Machine_faults) := ⟨rfl, rfl, rfl, by decide +kernel, rfl, by decide +kernel, by decide +kernel⟩
abbrev s_machine_text : Stmt := topS 33
theorem sc_machine_text : FnScope ["machine", "lines", "source", "word", "target", "name"] ["machine"] (defScope s_machine_text) := ⟨rfl, rfl, rfl, by decide +kernel, rfl, by decide +kernel, by decide +kernel⟩
abbrev s_is_state_text : Stmt := topS 39
theorem sc_is_state_text : FnScope ["part", "digit"] ["part"] (defScope s_is_state_text) := ⟨rfl, rfl, rfl, by decide +kernel, rfl, by decide +kernel, by decide +kernel⟩
abbrev s_is_start_row : Stmt := topS 36
theorem sc_is_start_row : FnScope ["row"] ["row"] (defScope s_is_start_row) := ⟨rfl, rfl, rfl, by decide +kernel, rfl, by decide +kernel, by decide +kernel⟩
abbrev s_is_fault_row : Stmt := topS 38
theorem sc_is_fault_row : FnScope ["row"] ["row"] (defScope s_is_fault_row) := ⟨rfl, rfl, rfl, by decide +kernel, rfl, by decide +kernel, by decide +kernel⟩
abbrev s_is_step_row : Stmt := topS 37
theorem sc_is_step_row : FnScope ["row"] ["row"] (defScope s_is_step_row) := ⟨rfl, rfl, rfl, by decide +kernel, rfl, by decide +kernel, by decide +kernel⟩
abbrev s_check_rows_of_lines : Stmt := topS 35
theorem sc_check_rows_of_lines : FnScope ["rows", "last", "at", "row", "right"] ["rows"] (defScope s_check_rows_of_lines) := ⟨rfl, rfl, rfl, by decide +kernel, rfl, by decide +kernel, by decide +kernel⟩
abbrev s_read_machine : Stmt := topS 34
theorem sc_read_machine : FnScope ["text", "rows", "steps", "faults", "wrong_steps", "too_many", "wrong_faults", "not_live", "line", "row"] ["text"] (defScope s_read_machine) := ⟨rfl, rfl, rfl, by decide +kernel, rfl, by decide +kernel, by decide +kernel⟩
abbrev s_Machine_words : Stmt := inClass (topS 22) 4
theorem sc_Machine_words : FnScope ["self"] ["self"] (defScope s_Machine_words) := ⟨rfl, rfl, rfl, by decide +kernel, rfl, by decide +kernel, by decide +kernel⟩
abbrev s_Machine_states : Stmt := inClass (topS 22) 7
theorem sc_Machine_states : FnScope ["self"] ["self"] (defScope s_Machine_states) := ⟨rfl, rfl, rfl, by decide +kernel, rfl, by decide +kernel, by decide +kernel⟩
abbrev s_Machine_eq : Stmt := inClass (topS 22) 1
theorem sc_Machine_eq : FnScope ["self", "other"] ["self", "other"] (defScope s_Machine_eq) := ⟨rfl, rfl, rfl, by decide +kernel, rfl, by decide +kernel, by decide +kernel⟩
abbrev s_law : Stmt := topS 52
theorem sc_law : FnScope ["_law_script", "_law_source_here", "_law_data", "_law_kind", "_law_machine_here", "_law_due", "_law_actual", "_law_made"] ["_law_script"] (defScope s_law) := ⟨rfl, rfl, rfl, by decide +kernel, rfl, by decide +kernel, by decide +kernel⟩
structure Txt (K : PySem.W.Frag) (mg : Str → Option Value) (C : Addr) : Prop where
  m_all : mg "all" = none
  m_bool : mg "bool" = none
  m_dict : mg "dict" = none
  m_enumerate : mg "enumerate" = none
  m_int : mg "int" = none
  m_isinstance : mg "isinstance" = none
  m_len : mg "len" = none
  m_list : mg "list" = none
  m_range : mg "range" = none
  m_set : mg "set" = none
  m_sorted : mg "sorted" = none
  m_str : mg "str" = none
  m_tuple : mg "tuple" = none
  c_GREATEST_STATE : ∃ u, mg "GREATEST_STATE" = some u ∧ RelV (.int 99) u
  c_LONGEST_NAME : ∃ u, mg "LONGEST_NAME" = some u ∧ RelV (.int 12) u
  c_LETTERS : ∃ u, mg "LETTERS" = some u ∧ RelV (.str "abcdefghijklmnopqrstuvwxyz") u
  c_MOST_STEPS : ∃ u, mg "MOST_STEPS" = some u ∧ RelV (.int 80) u
  c_MOST_LEAVING : ∃ u, mg "MOST_LEAVING" = some u ∧ RelV (.int 8) u
  c_MOST_FAULTS : ∃ u, mg "MOST_FAULTS" = some u ∧ RelV (.int 3) u
  c_MOST_WORDS : ∃ u, mg "MOST_WORDS" = some u ∧ RelV (.int 14) u
  c_START : ∃ u, mg "START" = some u ∧ RelV (.str "start") u
  c_FAULT : ∃ u, mg "FAULT" = some u ∧ RelV (.str "fault") u
  c_MOST_DIGITS : ∃ u, mg "MOST_DIGITS" = some u ∧ RelV (.int 2) u
  c_DIGITS : ∃ u, mg "DIGITS" = some u ∧ RelV (.str "0123456789") u
  cl : Cls K C
  g_Machine : mg "Machine" = some (.ref C)
  ins_Machine : C8.InsC K C
  n__start : NoAttr K C "_start"
  n__steps : NoAttr K C "_steps"
  n__words : NoAttr K C "_words"
  n__faults : NoAttr K C "_faults"
  n__states : NoAttr K C "_states"
  ne_Machine : PySem.W.findIn K (.ref C) "__ne__" = some (some (.builtin "object.__ne__"))
  sob_Machine : PySem.W.subIn K (.ref C) (.type "object") = some true
  ic_M : PySem.W.isClsIn K C = true
  it_M : PySem.W.typeIn K (.ref C) = some (.type "type")
  self_M : PySem.W.subIn K (.ref C) (.ref C) = some true
theorem szl {α : Type} {l : List α} (h : Nat.ble l.length 100000 = true) : l.length ≤ sizeLine := smallE (Nat.le_of_ble_eq_true h)
/-! ### values -/
inductive Val (K : PySem.W.Frag) (H : Hp) : V → Prop where
  | non : Val K H .non
  | bl (b : Bool) : Val K H (.bl b)
  | int (i : Int) : Val K H (.int i)
  | str (z : Str) (h : z.cps.size ≤ 90000) : Val K H (.str z)
  | lst {a : Addr} {xs : List V} (e : H a = some (.lst xs)) : Val K H (.ref a)
  | tup {a : Addr} {xs : List V} (e : H a = some (.tup xs)) : Val K H (.ref a)
  | dK {a : Addr} {kvs : List (Key × V)} (e : H a = some (.dK kvs)) : Val K H (.ref a)
theorem Val.mono {K : PySem.W.Frag} {H H' : Hp} {v : V} (h : Val K H v) (s : Same H H') : Val K H' v := by
  cases h with
  | non => exact .non
  | bl b => exact .bl b
  | int i => exact .int i
  | str z h => exact .str z h
  | lst e => exact .lst (s _ _ e)
  | tup e => exact .tup (s _ _ e)
  | dK e => exact .dK (s _ _ e)
def isS : V → Bool
  | .str _ => true
  | _ => false
def isI : V → Bool
  | .int _ => true
  | .bl _ => true
  | _ => false
def isB : V → Bool
  | .bl _ => true
  | _ => false
theorem Val.ty {K : PySem.W.Frag} {H : Hp} {v : V} (h : Val K H v) : ∃ t, TyX K H v t ∧ PySem.W.kitOne K t (.type "str") = some (isS v) ∧ PySem.W.kitOne K t (.type "int") = some (isI v) ∧ PySem.W.kitOne K t (.type "bool") = some (isB v) := by
  cases h with
  | non => exact ⟨_, .base .non, kit_ty (show kitB "NoneType" "str" = some false by decide +kernel), kit_ty (show kitB "NoneType" "int" = some false by decide +kernel), kit_ty (show kitB "NoneType" "bool" = some false by decide +kernel)⟩
  | bl b => exact ⟨_, .base (.bl b), kit_ty (show kitB "bool" "str" = some false by decide +kernel), kit_ty (show kitB "bool" "int" = some true by decide +kernel), kit_ty (show kitB "bool" "bool" = some true by decide +kernel)⟩
  | int i => exact ⟨_, .base (.int i), kit_ty (show kitB "int" "str" = some false by decide +kernel), kit_ty (show kitB "int" "int" = some true by decide +kernel), kit_ty (show kitB "int" "bool" = some false by decide +kernel)⟩
  | str z h => exact ⟨_, .base (.str z), kit_ty (show kitB "str" "str" = some true by decide +kernel), kit_ty (show kitB "str" "int" = some false by decide +kernel), kit_ty (show kitB "str" "bool" = some false by decide +kernel)⟩
  | lst e => exact ⟨_, .base (.lst e), kit_ty (show kitB "list" "str" = some false by decide +kernel), kit_ty (show kitB "list" "int" = some false by decide +kernel), kit_ty (show kitB "list" "bool" = some false by decide +kernel)⟩
  | tup e => exact ⟨_, .base (.tup e), kit_ty (show kitB "tuple" "str" = some false by decide +kernel), kit_ty (show kitB "tuple" "int" = some false by decide +kernel), kit_ty (show kitB "tuple" "bool" = some false by decide +kernel)⟩
  | dK e => exact ⟨_, .base (.dK e), kit_ty (show kitB "dict" "str" = some false by decide +kernel), kit_ty (show kitB "dict" "int" = some false by decide +kernel), kit_ty (show kitB "dict" "bool" = some false by decide +kernel)⟩
/-! ### what is computed -/
def letters : Str := "abcdefghijklmnopqrstuvwxyz"
def inL (c : Nat) : Bool := decide (c ∈ letters.cps.toList)
def nameB : V → Bool
  | .str z => decide (1 ≤ z.cps.size) && decide (z.cps.size ≤ 12) && z.cps.toList.all inL
  | _ => false
def wholeB (v : V) : Bool := isI v && !isB v
def stateB : V → Bool
  | .int i => decide (0 ≤ i) && decide (i ≤ 99)
  | _ => false
/-! ### promises -/
def spPure (g : V → Bool) (K : PySem.W.Frag) : Sp := fun vs H Q _ => ∃ v, vs = [v] ∧ Val K H v ∧ ∀ H', Same H H' → Q (.bl (g v)) H'
def sp_is_name := spPure nameB
def sp__law_is_name := spPure nameB
def sp_is_whole := spPure wholeB
def sp__law_is_integer := spPure wholeB
def sp_is_state := spPure stateB
def sp__law_is_state := spPure stateB
def sp_law (K : PySem.W.Frag) : Sp := fun vs H Q _ => ∃ (a : Addr) (ns : List Int), vs = [.ref a] ∧ SqL K H a (ns.map V.int) ∧ ns.length ≤ 63 ∧ ∀ H', Q (.bl true) H'
section
variable {P : Program} {w : World} {K : PySem.W.Frag} {mg : Str → Option Value} {base : Heap}

theorem ok_is_whole {f : Addr} {C : Addr} {fd : FuncData} (T : Txt K mg C) (F : Fun K "is_whole" "is_whole" s_is_whole f fd)  : FnOk P w K mg base CX0 1 f fd ["value"] (sp_is_whole K) := by
  have nd := sc_is_whole.nd
  refine F.ok sc_is_whole (fun vs H Q E h => ?_) (fun cdv A outer s H vs Q E hr h => ?_)
  · obtain ⟨v, rfl, _⟩ := h
    rfl
  · obtain ⟨v, rfl, hv, q⟩ := h
    refine ⟨_, (pss_one (ps_ret (pe_and (pe_callB call_isi (by rfl) T.m_isinstance (by decide +kernel) (pa_cons (pv 0) (pa_cons (pe_bltn (v := .ty "int") (u := .type "int") (by rfl) T.m_int (by decide +kernel) rfl) pa_nil))) (pe_one (pe_not (pe_callB call_isi (by rfl) T.m_isinstance (by decide +kernel) (pa_cons (pv 0) (pa_cons (pe_bltn (v := .ty "bool") (u := .type "bool") (by rfl) T.m_bool (by decide +kernel) rfl) pa_nil)))))))), ?_⟩
    obtain ⟨t, ht, hs, hi, hb⟩ := hv.ty
    refine ⟨v, rfl, v, .ty "int", t, _, isI v, rfl, .ty _, ht, hi, _, rfl, ?_⟩
    have q' := q H (Same.refl H)
    unfold wholeB at q'
    by_cases e : isI v = true
    · rw [if_pos e]
      refine ⟨v, rfl, v, .ty "bool", t, _, isB v, rfl, .ty _, ht, hb, _, rfl, ?_⟩
      rw [e] at q'
      exact q'
    · rw [if_neg e]
      rw [Bool.eq_false_iff.mpr e] at q'
      exact q'

theorem ok_is_state {f : Addr} {C : Addr} {fd : FuncData} (T : Txt K mg C) (F : Fun K "is_state" "is_state" s_is_state f fd) (c_is_whole : Cal P w K mg base 1 "is_whole" (sp_is_whole K) []) : FnOk P w K mg base CX0 2 f fd ["value"] (sp_is_state K) := by
  have nd := sc_is_state.nd
  refine F.ok sc_is_state (fun vs H Q E h => ?_) (fun cdv A outer s H vs Q E hr h => ?_)
  · obtain ⟨v, rfl, _⟩ := h
    rfl
  · obtain ⟨v, rfl, hv, q⟩ := h
    refine ⟨_, (pss_one (ps_ret (pe_and (pe_c c_is_whole hr (by omega) (by rfl) (pa_cons (pv 0) pa_nil)) (pe_one (pe_chain op_le op_le pe_int (pv 0) (pe_gc (by rfl) T.c_GREATEST_STATE)))))), ?_⟩
    refine ⟨v, rfl, v, rfl, hv, fun H1 s1 => ⟨_, rfl, ?_⟩⟩
    have q' := q H1 s1
    cases hv with
    | int i =>
      refine iteT ⟨.int i, rfl, 0, i, rfl, rfl, _, rfl, ?_⟩
      by_cases e : 0 ≤ i
      · rw [decide_eq_true e]
        refine iteT ⟨i, 99, rfl, rfl, ?_⟩
        have e2 : stateB (.int i) = decide (i ≤ 99) := by
          show (decide (0 ≤ i) && decide (i ≤ 99)) = _
          rw [decide_eq_true e]; rfl
        rw [e2] at q'
        exact q'
      · rw [decide_eq_false e]
        refine iteF ?_
        have e2 : stateB (.int i) = false := by
          show (decide (0 ≤ i) && decide (i ≤ 99)) = _
          rw [decide_eq_false e]; rfl
        rw [e2] at q'
        exact q'
    | _ => exact iteF q'

theorem nameB_out {z : Str} (h : ¬ (1 ≤ z.cps.size ∧ z.cps.size ≤ 12)) : nameB (.str z) = false := by
  show (decide (1 ≤ z.cps.size) && decide (z.cps.size ≤ 12) && z.cps.toList.all inL) = false
  by_cases a : 1 ≤ z.cps.size
  · rw [decide_eq_false (p := z.cps.size ≤ 12) (fun b => h ⟨a, b⟩), Bool.and_false]; rfl
  · rw [decide_eq_false a]; rfl
theorem nameB_in {z : Str} (h1 : 1 ≤ z.cps.size) (h2 : z.cps.size ≤ 12) : nameB (.str z) = z.cps.toList.all inL := by
  show (decide (1 ≤ z.cps.size) && decide (z.cps.size ≤ 12) && z.cps.toList.all inL) = _
  rw [decide_eq_true h1, decide_eq_true h2]; rfl
theorem nameB_not {v : V} (h : isS v = false) : nameB v = false := by
  cases v <;> first | rfl | cases h
theorem isS_str {v : V} (h : isS v = true) : ∃ z, v = .str z := by
  cases v <;> first | exact ⟨_, rfl⟩ | cases h
theorem Val.size {K : PySem.W.Frag} {H : Hp} {z : Str} (h : Val K H (.str z)) : z.cps.size ≤ 90000 := by
  cases h with
  | str _ h => exact h

theorem ok_is_name {f : Addr} {C : Addr} {fd : FuncData} (T : Txt K mg C) (F : Fun K "is_name" "is_name" s_is_name f fd)  : FnOk P w K mg base CX0 1 f fd ["value"] (sp_is_name K) := by
  have nd := sc_is_name.nd
  refine F.ok sc_is_name (fun vs H Q E h => ?_) (fun cdv A outer s H vs Q E hr h => ?_)
  · obtain ⟨v, rfl, _⟩ := h
    rfl
  · obtain ⟨v, rfl, hv, q⟩ := h
    refine ⟨_, (pss_cons (ps_if (PW.pt (pw_or (pt_not (pt_val (pe_callB call_isi (by rfl) T.m_isinstance (by decide +kernel) (pa_cons (pv 0) (pa_cons (pe_bltn (v := .ty "str") (u := .type "str") (by rfl) T.m_str (by decide +kernel) rfl) pa_nil))))) (pw_or1 (pt_not (pt_chain op_le op_le pe_int (pe_callB call_len (by rfl) T.m_len (by decide +kernel) (pa_cons (pv 0) pa_nil)) (pe_gc (by rfl) T.c_LONGEST_NAME)))))) (pss_one (ps_ret pe_bl)) pss_nil)
      (pss_one (ps_ret (pe_callB (cr_all rfl) (by rfl) T.m_all (by decide +kernel) (pa_cons (pe_lc (own := [("letter", 1)]) (g := gName 1) (tt := tYes) rfl nd (pi_str (pv 0)) (blkOk_by (N := ["value", "letter"]) (sc := defScope s_is_name) (by decide +kernel)) (fun _ _ _ _ _ => (pg_name (i := 1) nd rfl (.inl rfl))) (fun _ _ _ _ _ => pts_nil) (fun _ _ _ _ _ => (pe_cmpR op_in_sign (pv 1) (pe_gc (by rfl) T.c_LETTERS) (by with_unfolding_all rfl)))) pa_nil))))), ?_⟩
    obtain ⟨t, ht, hs, hi, hb⟩ := hv.ty
    refine ⟨v, rfl, v, .ty "str", t, _, isS v, rfl, .ty _, ht, hs, _, rfl, ?_⟩
    cases e : isS v with
    | false =>
      refine iteT ?_
      have q' := q H (Same.refl H)
      rw [nameB_not e] at q'
      exact q'
    | true =>
      obtain ⟨z, rfl⟩ := isS_str e
      have hz := hv.size
      refine iteF ⟨.str z, rfl, .str z, z.cps.size, rfl, ⟨smallE (show z.cps.size ≤ 100000 by omega), rfl⟩, 1, (z.cps.size : Int), rfl, rfl, _, rfl, ?_⟩
      by_cases a : 1 ≤ z.cps.size
      · rw [decide_eq_true (show (1 : Int) ≤ (z.cps.size : Int) by omega)]
        refine iteT ⟨(z.cps.size : Int), 12, rfl, rfl, _, rfl, ?_⟩
        by_cases b : z.cps.size ≤ 12
        · rw [decide_eq_true (show (z.cps.size : Int) ≤ 12 by omega)]
          refine iteF ⟨.str z, rfl, z, rfl, fun D nD => lc_text (fun i H' => Same H H' ∧ H' D = some (.lst ((z.cps.toList.take i).map fun c => .bl (inL c)))) ⟨same_upd nD, upd_same⟩ (fun i c H' hc hP => ?_) (fun H' hP => ?_)⟩
          · obtain ⟨sm, eD⟩ := hP
            have hl : i < z.cps.toList.length := (List.getElem?_eq_some_iff.mp hc).1
            rw [Array.length_toList] at hl
            refine ⟨rfl, ?_⟩
            refine ⟨.str ⟨#[c]⟩, rfl, c, letters, rfl, rfl, _, eD, ?_, same_set nD sm, ?_⟩
            · rw [List.length_map, List.length_take]
              exact Nat.lt_of_le_of_lt (Nat.min_le_left _ _) (small (by omega))
            · rw [upd_same, take_more hc, List.map_append]; rfl
          · obtain ⟨sm, eD⟩ := hP
            rw [List.take_length] at eD
            refine ⟨D, z.cps.toList.map inL, rfl, .inl (.inl (by rw [eD, List.map_map]; rfl)), ?_⟩
            have q' := q H' sm
            rw [nameB_in a b] at q'
            rw [List.all_map]
            exact q'
        · rw [decide_eq_false (show ¬ (z.cps.size : Int) ≤ 12 by omega)]
          refine iteT ?_
          have q' := q H (Same.refl H)
          rw [nameB_out (fun h => b h.2)] at q'
          exact q'
      · rw [decide_eq_false (show ¬ (1 : Int) ≤ (z.cps.size : Int) by omega)]
        refine iteF ?_
        have q' := q H (Same.refl H)
        rw [nameB_out (fun h => a h.1)] at q'
        exact ⟨_, rfl, q'⟩

/-! ### rows, steps -/
abbrev rowO (b : Bool) (xs : List V) : HO := match b with | true => .lst xs | false => .tup xs
theorem row_sq {b : Bool} {H : Hp} {a : Addr} {xs : List V} (h : H a = some (rowO b xs)) : KnE.Sq K b H a xs := by
  cases b with
  | true => exact .inl (.inl h)
  | false => exact .inl (.inl h)
theorem row_len {b : Bool} {H : Hp} {a : Addr} {xs : List V} (h : H a = some (rowO b xs)) : LenV K (.ref a) H xs.length := by
  cases b with
  | true => exact .inl ⟨xs, .inl (.inl h), rfl⟩
  | false => exact .inr ⟨xs, .inl (.inl h), rfl⟩
abbrev tup3 (st : KnA.Stp) : HO := .tup [.int st.1, .str st.2.1, .int st.2.2]
abbrev key3 (st : KnA.Stp) : List Key := [.inl st.1, .inr st.2.1, .inl st.2.2]
theorem key3_inj {x y : KnA.Stp} (h : key3 x = key3 y) : x = y := by
  obtain ⟨a, b, c⟩ := x
  obtain ⟨a', b', c'⟩ := y
  simp only [key3, List.cons.injEq, Sum.inl.injEq, Sum.inr.injEq, and_true] at h
  obtain ⟨rfl, rfl, rfl⟩ := h
  rfl
def Stps (H : Hp) (as : List Addr) (ss : List KnA.Stp) : Prop := Paired (fun a st => H a = some (tup3 st)) as ss
theorem Stps.mono {H H' : Hp} {as : List Addr} {ss : List KnA.Stp} (h : Stps H as ss) (s : Same H H') : Stps H' as ss := Paired.mapP h fun _ _ e => s _ _ e
theorem paired_get {α β : Type} {F : α → β → Prop} {l : List α} {m : List β} (h : Paired F l m) : ∀ {i : Nat} {a : α}, l[i]? = some a → ∃ b, m[i]? = some b ∧ F a b := by
  induction h with
  | nil => intro i a e; cases e
  | cons r _ ih =>
    intro i a e
    cases i with
    | zero => cases e; exact ⟨_, rfl, r⟩
    | succ i => exact ih (i := i) e
theorem ref_get {H : Hp} {as : List Addr} {ss : List KnA.Stp} (h : Stps H as ss) {i : Nat} {x : V} (e : (as.map V.ref)[i]? = some x) : ∃ a st, x = .ref a ∧ as[i]? = some a ∧ ss[i]? = some st ∧ H a = some (tup3 st) := by
  rw [List.getElem?_map] at e
  cases g : as[i]? with
  | none => rw [g] at e; cases e
  | some a =>
    rw [g] at e
    obtain ⟨st, g2, r⟩ := paired_get h g
    exact ⟨a, st, (Option.some.inj e).symm, rfl, g2, r⟩
structure GoodStep (x : KnA.Stp) : Prop where
  s : stateB (.int x.1) = true
  w : nameB (.str x.2.1) = true
  t : stateB (.int x.2.2) = true
theorem name_size {z : Str} (h : nameB (.str z) = true) : 1 ≤ z.cps.size ∧ z.cps.size ≤ 12 := by
  by_cases a : 1 ≤ z.cps.size ∧ z.cps.size ≤ 12
  · exact a
  · rw [nameB_out a] at h; cases h
def cnt (ss : List KnA.Stp) (s : Int) : Nat := (ss.filter fun x => decide (x.1 = s)).length
structure GoodSteps (ss : List KnA.Stp) : Prop where
  lo : 1 ≤ ss.length
  hi : ss.length ≤ 80
  good : ∀ x ∈ ss, GoodStep x
  nd : ss.Nodup
  few : ∀ s, cnt ss s ≤ 8
def sp_is_row (_ : PySem.W.Frag) : Sp := fun vs H Q _ => ∃ b a xs, vs = [.ref a] ∧ H a = some (rowO b xs) ∧ ∀ H', Same H H' → Q (.bl true) H'
def sp_is_step (_ : PySem.W.Frag) : Sp := fun vs H Q _ => ∃ a st, vs = [.ref a] ∧ H a = some (tup3 st) ∧ GoodStep st ∧ ∀ H', Same H H' → Q (.bl true) H'
def sp_check_steps (_ : PySem.W.Frag) : Sp := fun vs H Q _ => ∃ b a as ss, vs = [.ref a] ∧ H a = some (rowO b (as.map V.ref)) ∧ Stps H as ss ∧ GoodSteps ss ∧ ∀ H', Same H H' → Q .non H'
theorem ok_is_row {f : Addr} {C : Addr} {fd : FuncData} (T : Txt K mg C) (F : Fun K "is_row" "is_row" s_is_row f fd)  : FnOk P w K mg base CX0 1 f fd ["value"] (sp_is_row K) := by
  have nd := sc_is_row.nd
  refine F.ok sc_is_row (fun vs H Q E h => ?_) (fun cdv A outer s H vs Q E hr h => ?_)
  · obtain ⟨b, a, xs, rfl, _⟩ := h
    rfl
  · obtain ⟨b, a, xs, rfl, ha, q⟩ := h
    refine ⟨_, (pss_one (ps_ret (pe_callB call_isiT (by rfl) T.m_isinstance (by decide +kernel) (pa_cons (pv 0) (pa_cons (pe_tup (pa_cons (pe_bltn (v := .ty "list") (u := .type "list") (by rfl) T.m_list (by decide +kernel) rfl) (pa_cons (pe_bltn (v := .ty "tuple") (u := .type "tuple") (by rfl) T.m_tuple (by decide +kernel) rfl) pa_nil))) pa_nil))))), ?_⟩
    refine ⟨.ref a, rfl, szl rfl, fun p np => ?_⟩
    have q' := q _ (same_upd (o := .tup [.ty "list", .ty "tuple"]) np)
    have ha' : (upd H p (.tup [.ty "list", .ty "tuple"])) a = some (rowO b xs) := (upd_ne (ne_of_none ha np)).trans ha
    cases b with
    | true =>
      exact ⟨.ref a, p, [.ty "list", .ty "tuple"], .type "list", [.type "list", .type "tuple"], true, rfl, upd_same, .cons (.ty _) (.cons (.ty _) .nil), .base (.lst ha'), kitAny_cons (kit_ty (show kitB "list" "list" = some true by decide +kernel)) (fun z => nomatch z) (fun _ => rfl), q'⟩
    | false =>
      exact ⟨.ref a, p, [.ty "list", .ty "tuple"], .type "tuple", [.type "list", .type "tuple"], true, rfl, upd_same, .cons (.ty _) (.cons (.ty _) .nil), .base (.tup ha'),
        kitAny_cons (kit_ty (show kitB "tuple" "list" = some false by decide +kernel)) (fun _ => kitAny_cons (kit_ty (show kitB "tuple" "tuple" = some true by decide +kernel)) (fun z => nomatch z) fun _ => rfl) (fun z => nomatch z), q'⟩
theorem ok_is_step {f : Addr} {C : Addr} {fd : FuncData} (T : Txt K mg C) (F : Fun K "is_step" "is_step" s_is_step f fd) (c_is_state : Cal P w K mg base 2 "is_state" (sp_is_state K) []) (c_is_name : Cal P w K mg base 1 "is_name" (sp_is_name K) []) : FnOk P w K mg base CX0 3 f fd ["value"] (sp_is_step K) := by
  have nd := sc_is_step.nd
  refine F.ok sc_is_step (fun vs H Q E h => ?_) (fun cdv A outer s H vs Q E hr h => ?_)
  · obtain ⟨a, st, rfl, _⟩ := h
    rfl
  · obtain ⟨a, st, rfl, ha, g, q⟩ := h
    refine ⟨_, (pss_cons (ps_if (PW.pt (pw_or (pt_not (pt_val (pe_callB call_isi (by rfl) T.m_isinstance (by decide +kernel) (pa_cons (pv 0) (pa_cons (pe_bltn (v := .ty "tuple") (u := .type "tuple") (by rfl) T.m_tuple (by decide +kernel) rfl) pa_nil))))) (pw_or1 (pt_cmpR op_ne (pe_callB call_len (by rfl) T.m_len (by decide +kernel) (pa_cons (pv 0) pa_nil)) pe_int (nomark _))))) (pss_one (ps_ret pe_bl)) pss_nil)
      (pss_one (ps_ret (pe_and (pe_c c_is_state hr (by omega) (by rfl) (pa_cons (pe_ix (r := rIxT K) ix_tup (pv 0) pe_int (fun _ _ => rfl)) pa_nil)) (pe_and (pe_c c_is_name hr (by omega) (by rfl) (pa_cons (pe_ix (r := rIxT K) ix_tup (pv 0) pe_int (fun _ _ => rfl)) pa_nil)) (pe_one (pe_c c_is_state hr (by omega) (by rfl) (pa_cons (pe_ix (r := rIxT K) ix_tup (pv 0) pe_int (fun _ _ => rfl)) pa_nil)))))))), ?_⟩
    have sq : ∀ {H' : Hp}, Same H H' → SqT K H' a [.int st.1, .str st.2.1, .int st.2.2] := fun s => .inl (.inl (s _ _ ha))
    refine ⟨.ref a, rfl, .ref a, .ty "tuple", .type "tuple", _, true, rfl, .ty _, .base (.tup ha), kit_ty (show kitB "tuple" "tuple" = some true by decide +kernel), _, rfl, ?_⟩
    refine iteF ⟨.ref a, rfl, .ref a, 3, rfl, .inr ⟨_, sq (Same.refl H), rfl⟩, rfl, _, rfl, iteNS rfl ?_⟩
    refine ⟨.ref a, rfl, a, _, 0, .int st.1, rfl, rfl, sq (Same.refl H), atI_nat (j := 0) rfl, .int st.1, rfl, .int _, fun H1 s1 => ⟨_, rfl, ?_⟩⟩
    rw [if_pos g.s]
    refine ⟨.ref a, rfl, a, _, 1, .str st.2.1, rfl, rfl, sq s1, atI_nat (j := 1) rfl, .str st.2.1, rfl, .str _ (by have := (name_size g.w).2; omega), fun H2 s2 => ⟨_, rfl, ?_⟩⟩
    rw [if_pos g.w]
    refine ⟨.ref a, rfl, a, _, 2, .int st.2.2, rfl, rfl, sq (s1.trans s2), atI_nat (j := 2) rfl, .int st.2.2, rfl, .int _, fun H3 s3 => ?_⟩
    have q' := q H3 (s1.trans (s2.trans s3))
    rw [← g.t] at q'
    exact q'
theorem valT_in {kvs : List (List Key × V)} {k : List Key} : (valV kvs k).isSome = true ↔ k ∈ kvs.map (·.1) := by
  rw [← valV_any, List.any_eq_true]
  constructor
  · rintro ⟨p, hp, e⟩
    exact List.mem_map.mpr ⟨p, hp, of_decide_eq_true e⟩
  · intro h
    obtain ⟨p, hp, e⟩ := List.mem_map.mp h
    exact ⟨p, hp, decide_eq_true e⟩
theorem cnt_take {ss : List KnA.Stp} {i : Nat} {st : KnA.Stp} (h : ss[i]? = some st) (s : Int) : cnt (ss.take (i + 1)) s = cnt (ss.take i) s + if st.1 = s then 1 else 0 := by
  unfold cnt
  rw [take_more h, List.filter_append, List.length_append]
  by_cases e : st.1 = s
  · simp [List.filter_cons, e]
  · simp [List.filter_cons, e]
theorem cnt_le (ss : List KnA.Stp) (i : Nat) (s : Int) : cnt (ss.take i) s ≤ cnt ss s := by
  unfold cnt
  exact (List.Sublist.filter _ (List.take_sublist i ss)).length_le
theorem ok_check_steps {f : Addr} {C : Addr} {fd : FuncData} (T : Txt K mg C) (F : Fun K "check_steps" "check_steps" s_check_steps f fd) (c_is_row : Cal P w K mg base 1 "is_row" (sp_is_row K) []) (c_is_step : Cal P w K mg base 3 "is_step" (sp_is_step K) []) : FnOk P w K mg base CX0 4 f fd ["steps"] (sp_check_steps K) := by
  have nd := sc_check_steps.nd
  refine F.ok sc_check_steps (fun vs H Q E h => ?_) (fun cdv A outer s H vs Q E hr h => ?_)
  · obtain ⟨b, a, as, ss, rfl, _⟩ := h
    rfl
  · obtain ⟨b, a, as, ss, rfl, ha, hst, gs, q⟩ := h
    refine ⟨_, (pss_cons (ps_if (PW.pt (pw_or (pt_not (pt_val (pe_c c_is_row hr (by omega) (by rfl) (pa_cons (pv 0) pa_nil)))) (pw_or1 (pt_not (pt_chain op_le op_le pe_int (pe_callB call_len (by rfl) T.m_len (by decide +kernel) (pa_cons (pv 0) pa_nil)) (pe_gc (by rfl) T.c_MOST_STEPS)))))) (pss_one ps_never) pss_nil)
      (pss_cons (ps_set (i := 1) nd rfl (.inl rfl) pe_dnewT)
      (pss_cons (ps_set (i := 2) nd rfl (.inl rfl) pe_dnewK)
      (pss_one (ps_for PassesOwn.never rfl (KnE.pi_en (by rfl) T.m_enumerate (pa_cons (pv 0) pa_nil)) (pg_tup (by rfl) (pgs_cons (pg_name (i := 3) nd rfl (.inl rfl)) (pgs_cons (pg_name (i := 4) nd rfl (.inl rfl)) pgs_nil))) (pss_cons (ps_if (PW.pt (pw_or (pt_not (pt_val (pe_c c_is_step hr (by omega) (by rfl) (pa_cons (pv 4) pa_nil)))) (pw_or1 (pt_cmp (pc_din (hu_of hr) (pv 4) (pv 1)))))) (pss_one ps_never) pss_nil)
      (pss_cons (ps_dput (hu_of hr) (pv 1) (pv 4) pe_bl rfl)
      (pss_cons (ps_dput (hu_of hr) (pv 2) (pe_ix (r := rIxT K) ix_tup (pv 4) pe_int (fun _ _ => rfl)) (pe_op op_add (pe_dget2 (hu_of hr) (pv 2) (pe_ix (r := rIxT K) ix_tup (pv 4) pe_int (fun _ _ => rfl)) pe_int ⟨rfl, rfl, rfl, rfl⟩) pe_int) rfl)
      (pss_one (ps_if (pt_cmpR op_gt (pe_dget (hu_of hr) (pv 2) (pe_ix (r := rIxT K) ix_tup (pv 4) pe_int (fun _ _ => rfl)) (fun _ _ => rfl)) (pe_gc (by rfl) T.c_MOST_LEAVING) (nomark _)) (pss_one ps_never) pss_nil)))))))))), ?_⟩
    have len : (as.map V.ref).length = ss.length := by rw [List.length_map, hst.length]
    have lo := gs.lo
    have hi := gs.hi
    refine ⟨.ref a, rfl, b, a, _, rfl, ha, fun H1 s1 => ⟨_, rfl, iteF ⟨.ref a, rfl, .ref a, (as.map V.ref).length, rfl, row_len (s1 _ _ ha), 1, ((as.map V.ref).length : Int), rfl, rfl, _, rfl, ?_⟩⟩⟩
    rw [decide_eq_true (show (1 : Int) ≤ ((as.map V.ref).length : Int) by omega)]
    refine iteT ⟨((as.map V.ref).length : Int), 80, rfl, rfl, _, rfl, iteNS (show ((as.map V.ref).length : Int) ≤ 80 by omega) ?_⟩
    refine fun d nD c nC => ?_
    have s2 := same_upd (o := .dT []) nD
    have s3 := same_upd (o := .dK []) nC
    have nDC : d ≠ c := fun e => by rw [e, upd_same] at nC; cases nC
    have nDH : H d = none := s1.free nD
    have nCH : H c = none := s1.free (s2.free nC)
    have S0 : Same H (upd (upd H1 d (.dT [])) c (.dK [])) := s1.trans (s2.trans s3)
    refine ⟨.ref a, rfl, a, b, as.map V.ref, rfl, row_sq (S0 _ _ ha), ?_⟩
    refine KnE.for_en (K := K) (fun i σ H' => ∃ y3 y4, σ = [some (.ref a), some (.ref d), some (.ref c), y3, y4] ∧ Same H H' ∧ (∃ kvs, H' d = some (.dT kvs) ∧ kvs.length ≤ i ∧ ∀ k, k ∈ kvs.map (·.1) ↔ k ∈ (ss.take i).map key3) ∧
        ∃ cs, H' c = some (.dK cs) ∧ cs.length ≤ i ∧ ∀ s : Int, valV cs (.inl s) = if cnt (ss.take i) s = 0 then none else some (.int (cnt (ss.take i) s)))
      ⟨none, none, rfl, S0, ⟨[], (upd_ne nDC).trans upd_same, Nat.le_refl _, fun k => Iff.rfl⟩, [], upd_same, Nat.le_refl _, fun s => rfl⟩ (fun i σ H' _ hP => row_sq (hP.choose_spec.choose_spec.2.1 _ _ ha)) (fun i x T σ H' hx nT hP => ?_) (fun σ H' hP => ?_)
    · obtain ⟨y3, y4, rfl, S, ⟨kvs, ed, lk, mk⟩, cs, ec, lc, vc⟩ := hP
      obtain ⟨ai, st, rfl, gi, gsi, hai⟩ := ref_get (hst.mono S) hx
      have hi80 : i < ss.length := (List.getElem?_eq_some_iff.mp gsi).1
      have gst := gs.good st (List.mem_of_getElem? gsi)
      have sT := same_upd (o := .tup [.int (i : Nat), .ref ai]) nT
      have S' : Same H (upd H' T (.tup [.int (i : Nat), .ref ai])) := S.trans sT
      have ed' := sT _ _ ed
      have ec' := sT _ _ ec
      have hai' := sT _ _ hai
      have eT : (upd H' T (.tup [.int (i : Nat), .ref ai])) T = some (.tup [.int (i : Nat), .ref ai]) := upd_same
      generalize upd H' T (.tup [.int (i : Nat), .ref ai]) = H2 at S' ed' ec' hai' eT ⊢
      refine ⟨T, [.int (i : Nat), .ref ai], rfl, .inl (.inl eT), rfl, .int (i : Nat), [.ref ai], rfl, .ref ai, [], rfl, rfl, ?_⟩
      refine ⟨.ref ai, rfl, ai, st, rfl, hai', gst, fun H3 s3' => ⟨_, rfl, iteF ?_⟩⟩
      have ed3 := s3' _ _ ed'
      have ec3 := s3' _ _ ec'
      have hai3 := s3' _ _ hai'
      have S3 : Same H H3 := S'.trans s3'
      refine ⟨.ref ai, rfl, .ref d, rfl, d, valV kvs (key3 st), rfl, DGet.t ed3 hai3, _, rfl, ?_⟩
      have fresh : ¬ key3 st ∈ (ss.take i).map key3 := fun z => by
        obtain ⟨x, hx', e⟩ := List.mem_map.mp z
        have e' := key3_inj e
        subst e'
        obtain ⟨j, hj, ej⟩ := List.mem_iff_getElem.mp hx'
        rw [List.getElem_take] at ej
        have lj : j < i := by rw [List.length_take] at hj; omega
        have e1 : ss[i] = x := (List.getElem?_eq_some_iff.mp gsi).2
        exact absurd ((List.getElem_inj gs.nd).mp (ej.trans e1.symm)) (by omega)
      have no : valV kvs (key3 st) = none := by
        cases e : valV kvs (key3 st) with
        | none => rfl
        | some v => exact absurd ((mk _).mp (valT_in.mp (by rw [e]; rfl))) fresh
      rw [no]
      refine iteF ?_
      -- seen[step] = True
      refine ⟨.ref d, rfl, .ref ai, rfl, d, _, rfl, DPut.t (k := key3 st) ed3 hai3 (small (by omega)), ?_⟩
      have ec4 : (upd H3 d (.dT (putK kvs (key3 st) (.bl true)))) c = some (.dK cs) := (upd_ne nDC.symm).trans ec3
      have nAi : ai ≠ d := ne_of hai3 ed3 (fun z => by cases z)
      have hai4 : (upd H3 d (.dT (putK kvs (key3 st) (.bl true)))) ai = some (tup3 st) := (upd_ne nAi).trans hai3
      have ed4 : (upd H3 d (.dT (putK kvs (key3 st) (.bl true)))) d = some (.dT (putK kvs (key3 st) (.bl true))) := upd_same
      have S4 : Same H (upd H3 d (.dT (putK kvs (key3 st) (.bl true)))) := same_set nDH S3
      generalize upd H3 d (.dT (putK kvs (key3 st) (.bl true))) = H4 at ec4 hai4 ed4 S4 ⊢
      -- counts[step[0]] = counts.get(step[0], 0) + 1
      have sq4 : SqT K H4 ai [.int st.1, .str st.2.1, .int st.2.2] := .inl (.inl hai4)
      have get0 : (valV cs (.inl st.1)).getD (.int 0) = .int (cnt (ss.take i) st.1 : Nat) := by
        rw [vc]
        by_cases z : cnt (ss.take i) st.1 = 0
        · rw [if_pos z, z]; rfl
        · rw [if_neg z]; rfl
      refine ⟨.ref c, rfl, c, rfl, .inl ⟨cs, .inl ec4⟩, .ref ai, rfl, ai, _, 0, .int st.1, rfl, rfl, sq4, atI_nat (j := 0) rfl, valV cs (.inl st.1), DGet.k (k := .inl st.1) ec4, (cnt (ss.take i) st.1 : Nat), 1, get0, rfl, ?_⟩
      refine ⟨.ref c, rfl, .ref ai, rfl, ai, _, 0, .int st.1, rfl, rfl, sq4, atI_nat (j := 0) rfl, c, _, rfl, DPut.k (k := .inl st.1) ec4 (small (by omega)), ?_⟩
      have nAc : ai ≠ c := ne_of hai4 ec4 (fun z => by cases z)
      have v1 : (V.int ((cnt (ss.take i) st.1 : Nat) + 1) : V) = .int (cnt (ss.take (i + 1)) st.1 : Nat) := by
        rw [cnt_take gsi, if_pos rfl]; rfl
      have vnew : ∀ s : Int, valV (putK cs (.inl st.1) (.int ((cnt (ss.take i) st.1 : Nat) + 1))) (.inl s) = if cnt (ss.take (i + 1)) s = 0 then none else some (.int (cnt (ss.take (i + 1)) s)) := fun s => by
        rw [valV_put]
        by_cases e : s = st.1
        · subst e
          rw [if_pos rfl, v1, if_neg (by rw [cnt_take gsi, if_pos rfl]; omega)]
        · have e0 : cnt (ss.take (i + 1)) s = cnt (ss.take i) s := by rw [cnt_take gsi, if_neg (fun z => e z.symm)]; rfl
          rw [if_neg (fun z => e (Sum.inl.inj z)), vc, e0]
      have ec5 : (upd H4 c (.dK (putK cs (.inl st.1) (.int ((cnt (ss.take i) st.1 : Nat) + 1))))) c = some (.dK (putK cs (.inl st.1) (.int ((cnt (ss.take i) st.1 : Nat) + 1)))) := upd_same
      have ed5 : (upd H4 c (.dK (putK cs (.inl st.1) (.int ((cnt (ss.take i) st.1 : Nat) + 1))))) d = some (.dT (putK kvs (key3 st) (.bl true))) := (upd_ne nDC).trans ed4
      have hai5 : (upd H4 c (.dK (putK cs (.inl st.1) (.int ((cnt (ss.take i) st.1 : Nat) + 1))))) ai = some (tup3 st) := (upd_ne nAc).trans hai4
      have S5 : Same H (upd H4 c (.dK (putK cs (.inl st.1) (.int ((cnt (ss.take i) st.1 : Nat) + 1))))) := same_set nCH S4
      have l5 := length_putK cs (.inl st.1) (.int ((cnt (ss.take i) st.1 : Nat) + 1))
      generalize upd H4 c (.dK (putK cs (.inl st.1) (.int ((cnt (ss.take i) st.1 : Nat) + 1)))) = H5 at ec5 ed5 hai5 S5 ⊢
      have g5 := vnew st.1
      rw [if_neg (by rw [cnt_take gsi, if_pos rfl]; omega)] at g5
      have le8 : (cnt (ss.take (i + 1)) st.1 : Int) ≤ 8 := by
        have h1 := cnt_le ss (i + 1) st.1
        have h2 := gs.few st.1
        omega
      refine ⟨.ref c, rfl, .ref ai, rfl, ai, _, 0, .int st.1, rfl, rfl, .inl (.inl hai5), atI_nat (j := 0) rfl, c, .int (cnt (ss.take (i + 1)) st.1 : Nat), rfl, ?_, (cnt (ss.take (i + 1)) st.1 : Nat), 8, rfl, rfl, _, rfl, ?_⟩
      · have dg := DGet.k (k := .inl st.1) ec5
        rw [g5] at dg
        exact dg
      · rw [decide_eq_false (show ¬ (8 : Int) < (cnt (ss.take (i + 1)) st.1 : Nat) by omega)]
        refine iteF ⟨_, _, rfl, S5, ⟨_, ed5, ?_, fun k => ?_⟩, _, ec5, by omega, vnew⟩
        · have := length_putK kvs (key3 st) (.bl true)
          omega
        · rw [putK_new _ no, List.map_append, List.mem_append, mk, take_more gsi, List.map_append, List.mem_append]
          exact Iff.rfl
    · obtain ⟨y3, y4, rfl, S, _⟩ := hP
      exact q H' S

/-! ### faults -/
/-- what a walk over the items of a dict asks -/
theorem for_items {d : Addr} {o : Obj} {kvs : List (Key × V)} {g : TG} {tb : TS} {D : Ends} {σ : L2.St} {H : Hp} (Pv : Nat → L2.St → Hp → Prop) (h0 : Pv 0 σ H) (hl : ∀ i σ H, i ≤ kvs.length → Pv i σ H → H d = some (.frz o (.dK kvs)))
    (hs : ∀ (i : Nat) (k : Key) (v : V) (T : Addr) (σ : L2.St) (H : Hp), kvs[i]? = some (k, v) → H T = none → Pv i σ H → g (.ref T) σ (upd H T (.tup [kV k, v])) fun σ2 H2 => tb { D with nx := Pv (i + 1), ct := Pv (i + 1), bk := D.nx } σ2 H2) (hd : ∀ σ H, Pv kvs.length σ H → D.nx σ H) :
    ∃ W : Nat → Nat → L2.St → Hp → Prop, (∃ m, W 0 m σ H) ∧ ∀ i m σ H, W i m σ H →
      ((Iti d o kvs).stop i H ∧ D.nx σ H) ∨ ((Iti d o kvs).go i H ∧ ∃ N : L2.St → Hp → Prop, (∀ σ' H', N σ' H' → ∃ m', m' < m ∧ W (i + 1) m' σ' H') ∧ ∀ x H', (Iti d o kvs).yld i H x H' → g x σ H' fun σ2 H2 => tb { D with nx := N, ct := N, bk := D.nx } σ2 H2) := by
  refine ⟨fun i m σ H => m = kvs.length - i ∧ i ≤ kvs.length ∧ Pv i σ H, ⟨kvs.length, rfl, Nat.zero_le _, h0⟩, fun i m σ H ⟨em, hi, p⟩ => ?_⟩
  have q := hl i σ H hi p
  rcases Nat.lt_or_eq_of_le hi with lt | e
  · refine .inr ⟨⟨q, lt⟩, Pv (i + 1), fun σ' H' p' => ⟨kvs.length - (i + 1), by omega, rfl, lt, p'⟩, fun v H' ⟨T, k, u, ek, ev, nT, eH⟩ => ?_⟩
    subst ev eH
    exact hs i k u T σ H ek nT p
  · subst e
    exact .inl ⟨⟨q, Nat.le_refl _⟩, hd σ H p⟩
/-- the pairs of a dict of faults -/
def fkv (fs : List (Str × Str)) : List (Key × V) := fs.map fun p => (Sum.inr p.1, .str p.2)
theorem fkv_get {fs : List (Str × Str)} {i : Nat} {k : Key} {v : V} (h : (fkv fs)[i]? = some (k, v)) : ∃ x y, fs[i]? = some (x, y) ∧ k = .inr x ∧ v = .str y := by
  unfold fkv at h
  rw [List.getElem?_map] at h
  cases e : fs[i]? with
  | none => rw [e] at h; cases h
  | some p => rw [e] at h; cases h; exact ⟨p.1, p.2, rfl, rfl, rfl⟩
structure GoodFaults (fs : List (Str × Str)) (ws : List Str) : Prop where
  word : ∀ p ∈ fs, nameB (.str p.1) = true ∧ p.1 ∈ ws ∧ nameB (.str p.2) = true
  few : (KnS.allL (fs.map fun p => Sum.inr p.2)).length ≤ 3
  len : fs.length ≤ 1000
/-- the faults as they are passed: None (no faults), or a dict -/
def FArg (H : Hp) (v : V) (fs : List (Str × Str)) : Prop := (v = .non ∧ fs = []) ∨ ∃ d, v = .ref d ∧ H d = some (.dK (fkv fs))
theorem FArg.mono {H H' : Hp} {v : V} {fs : List (Str × Str)} (h : FArg H v fs) (s : Same H H') : FArg H' v fs := by
  rcases h with h | ⟨d, e, h⟩
  · exact .inl h
  · exact .inr ⟨d, e, s _ _ h⟩
def sp_check_faults (_ : PySem.W.Frag) : Sp := fun vs H Q _ => ∃ (v : V) (fs : List (Str × Str)) (l : Addr) (ws : List Str), vs = [v, .ref l] ∧ FArg H v fs ∧ H l = some (.lst (ws.map V.str)) ∧ GoodFaults fs ws ∧ ∀ H', Same H H' → Q .non H'
theorem inV_strs {x : Str} {ws : List Str} : inV (.str x) (ws.map V.str) = decide (x ∈ ws) := by
  unfold inV
  induction ws with
  | nil => rfl
  | cons y r ih =>
    rw [List.map_cons, List.any_cons, ih]
    have e : eqV (.str y) (.str x) = decide (y = x) := by
      show (y == x) = decide (y = x)
      by_cases z : y = x
      · rw [z]; simp
      · rw [decide_eq_false z]; exact beq_eq_false_iff_ne.mpr z
    rw [e]
    by_cases z : y = x
    · subst z; simp
    · have z' : ¬ x = y := fun q => z q.symm
      simp [z, z']
theorem flat_ws (ws : List Str) : (ws.map V.str).all flatV = true := by
  rw [List.all_map]
  exact List.all_eq_true.mpr fun _ _ => rfl
theorem foldL_mono : ∀ (l acc : List Key), acc.length ≤ (l.foldl KnS.addL acc).length
  | [], _ => Nat.le_refl _
  | k :: l, acc => by
    refine Nat.le_trans ?_ (foldL_mono l (KnS.addL acc k))
    unfold KnS.addL
    by_cases z : KnS.hasL acc k = true
    · rw [if_pos z]; exact Nat.le_refl _
    · rw [if_neg z, List.length_append]; exact Nat.le_add_right _ _
theorem putK_keys {kvs : List (Key × V)} {k : Key} {v : V} : (putK kvs k v).map (·.1) = KnS.addL (kvs.map (·.1)) k := by
  unfold putK KnS.addL
  have e : (kvs.any fun kv => decide (kv.1 = k)) = KnS.hasL (kvs.map (·.1)) k := by
    unfold KnS.hasL
    rw [List.any_map]; rfl
  rw [e]
  by_cases z : KnS.hasL (kvs.map (·.1)) k = true
  · rw [if_pos z, if_pos z, List.map_map]
    refine List.map_congr_left fun p _ => ?_
    show (if p.1 = k then (p.1, v) else p).1 = p.1
    split <;> rfl
  · rw [if_neg z, if_neg z, List.map_append]; rfl
theorem ok_check_faults {f : Addr} {C : Addr} {fd : FuncData} (T : Txt K mg C) (F : Fun K "check_faults" "check_faults" s_check_faults f fd) (c_is_name : Cal P w K mg base 1 "is_name" (sp_is_name K) []) : FnOk P w K mg base CX0 2 f fd ["faults", "words"] (sp_check_faults K) := by
  have nd := sc_check_faults.nd
  refine F.ok sc_check_faults (fun vs H Q E h => ?_) (fun cdv A outer s H vs Q E hr h => ?_)
  · obtain ⟨v, fs, l, ws, rfl, _⟩ := h
    rfl
  · obtain ⟨v, fs, l, ws, rfl, hf, hl, gf, q⟩ := h
    refine ⟨_, (pss_cons (ps_if (pt_cmpR op_isN (pv 0) pe_non (nomark _)) (pss_one (ps_retN)) pss_nil)
      (pss_cons (ps_if (pt_not (pt_val (pe_callB call_isi (by rfl) T.m_isinstance (by decide +kernel) (pa_cons (pv 0) (pa_cons (pe_bltn (v := .ty "dict") (u := .type "dict") (by rfl) T.m_dict (by decide +kernel) rfl) pa_nil))))) (pss_one ps_never) pss_nil)
      (pss_cons (ps_set (i := 2) nd rfl (.inl rfl) pe_dnewK)
      (pss_one (ps_lock (ps_for PassesOwn.never rfl (pi_items (pv 0)) (pg_tup (by rfl) (pgs_cons (pg_name (i := 3) nd rfl (.inl rfl)) (pgs_cons (pg_name (i := 4) nd rfl (.inl rfl)) pgs_nil))) (pss_cons (ps_if (PW.pt (pw_or (pt_not (pt_val (pe_c c_is_name hr (by omega) (by rfl) (pa_cons (pv 3) pa_nil)))) (pw_or (pt_cmpR op_notIn_seq (pv 3) (pv 1) (by with_unfolding_all rfl)) (pw_or1 (pt_not (pt_val (pe_c c_is_name hr (by omega) (by rfl) (pa_cons (pv 4) pa_nil)))))))) (pss_one ps_never) pss_nil)
      (pss_cons (ps_dput (hu_of hr) (pv 2) (pv 4) pe_bl rfl)
      (pss_one (ps_if (pt_cmpR op_gt (pe_callB call_lenD (by rfl) T.m_len (by decide +kernel) (pa_cons (pv 2) pa_nil)) (pe_gc (by rfl) T.c_MOST_FAULTS) (nomark _)) (pss_one ps_never) pss_nil)))))))))), ?_⟩
    rcases hf with ⟨rfl, rfl⟩ | ⟨d, rfl, hd⟩
    · exact ⟨.non, rfl, rfl, _, rfl, iteT (q H (Same.refl H))⟩
    · refine ⟨.ref d, rfl, rfl, _, rfl, iteF ?_⟩
      refine ⟨.ref d, rfl, .ref d, .ty "dict", .type "dict", _, true, rfl, .ty _, .base (.dK hd), kit_ty (show kitB "dict" "dict" = some true by decide +kernel), _, rfl, iteF ?_⟩
      refine fun c nC => ?_
      have S0 := same_upd (o := .dK []) nC
      have nDC : d ≠ c := ne_of_none hd nC
      have ed0 := S0 _ _ hd
      have ec0 := upd_same (H := H) (a := c) (o := .dK [])
      generalize upd H c (.dK []) = H0 at S0 ed0 ec0 ⊢
      refine ⟨d, .dK (fkv fs), ed0, trivial, fun od => ?_⟩
      have back : ∀ {H' : Hp}, (∀ b o, b ≠ d → H b = some o → H' b = some o) → Same H (upd H' d (.dK (fkv fs))) := fun k b o e => by
        by_cases z : b = d
        · rw [z] at e ⊢
          rw [hd] at e
          cases e
          exact upd_same
        · rw [upd_ne z]; exact k b o z e
      refine ⟨.ref d, rfl, d, od, fkv fs, rfl, upd_same, ?_⟩
      refine for_items (fun i σ H' => ∃ y3 y4, σ = [some (.ref d), some (.ref l), some (.ref c), y3, y4] ∧ H' d = some (.frz od (.dK (fkv fs))) ∧ (∀ b o, b ≠ d → H b = some o → H' b = some o) ∧ ∃ cs, H' c = some (.dK cs) ∧ cs.map (·.1) = KnS.allL ((fs.take i).map fun p => Sum.inr p.2))
        ⟨none, none, rfl, upd_same, fun b o z e => (upd_ne z).trans (S0 _ _ e), [], (upd_ne nDC.symm).trans ec0, rfl⟩ (fun i σ H' _ hP => hP.choose_spec.choose_spec.2.1) (fun i k v T σ H' hx nT hP => ?_) (fun σ H' hP => ?_)
      · obtain ⟨y3, y4, rfl, ed, S, cs, ec, kc⟩ := hP
        obtain ⟨x, y, gx, rfl, rfl⟩ := fkv_get hx
        obtain ⟨g1, g2, g3⟩ := gf.word _ (List.mem_of_getElem? gx)
        have hi : i < fs.length := (List.getElem?_eq_some_iff.mp gx).1
        have lenf := gf.len
        have sT := same_upd (o := .tup [.str x, .str y]) nT
        have ed2 := sT _ _ ed
        have ec2 := sT _ _ ec
        have S2 : ∀ b o, b ≠ d → H b = some o → (upd H' T (.tup [.str x, .str y])) b = some o := fun b o z e => sT _ _ (S b o z e)
        have eT : (upd H' T (.tup [.str x, .str y])) T = some (.tup [.str x, .str y]) := upd_same
        show gTup _ _ _ _ _ (upd H' T (.tup [.str x, .str y])) _
        generalize upd H' T (.tup [.str x, .str y]) = H2 at ed2 ec2 S2 eT ⊢
        refine ⟨T, [.str x, .str y], rfl, .inl (.inl eT), rfl, .str x, [.str y], rfl, .str y, [], rfl, rfl, ?_⟩
        have zx : x.cps.size ≤ 12 := (name_size g1).2
        have zy : y.cps.size ≤ 12 := (name_size g3).2
        refine ⟨.str x, rfl, .str x, rfl, .str x (by omega), fun H3 s3 => ⟨_, rfl, ?_⟩⟩
        rw [g1]
        have nlc : l ≠ d := ne_of hl hd (fun z => by cases z)
        have hl3 : H3 l = some (.lst (ws.map V.str)) := s3 _ _ (S2 l _ nlc hl)
        refine iteF ⟨.str x, rfl, .ref l, rfl, l, ws.map V.str, rfl, .inl (.inl (.inl hl3)), rfl, flat_ws ws, _, rfl, ?_⟩
        show if (!inV (.str x) (ws.map V.str)) = true then _ else _
        rw [inV_strs, decide_eq_true g2]
        refine iteF ⟨.str y, rfl, .str y, rfl, .str y (by omega), fun H4 s4 => ⟨_, rfl, ?_⟩⟩
        rw [g3]
        refine iteF ?_
        have ec4 := s4 _ _ (s3 _ _ ec2)
        have ed4 := s4 _ _ (s3 _ _ ed2)
        have S4 : ∀ b o, b ≠ d → H b = some o → H4 b = some o := fun b o z e => s4 _ _ (s3 _ _ (S2 b o z e))
        have hcs : cs.length ≤ i := by
          have h1 := congrArg List.length kc
          have h2 := KnS.foldL_length ((fs.take i).map fun p => (Sum.inr p.2 : Key)) []
          rw [List.length_map] at h1
          rw [List.length_map, List.length_take] at h2
          have h3 : ([] : List Key).length = 0 := rfl
          unfold KnS.allL at h1
          omega
        refine ⟨.ref c, rfl, .str y, rfl, c, _, rfl, DPut.k (k := .inr y) ec4 (small (by omega)), ?_⟩
        have kn : (putK cs (.inr y) (.bl true)).map (·.1) = KnS.allL ((fs.take (i + 1)).map fun p => Sum.inr p.2) := by
          rw [putK_keys, kc, take_more gx, List.map_append]
          unfold KnS.allL
          rw [List.foldl_append]
          rfl
        have few3 : (putK cs (.inr y) (.bl true)).length ≤ 3 := by
          have h1 := congrArg List.length kn
          rw [List.length_map] at h1
          rw [h1]
          refine Nat.le_trans ?_ gf.few
          have e : (fs.map fun p => (Sum.inr p.2 : Key)) = ((fs.take (i + 1)).map fun p => Sum.inr p.2) ++ ((fs.drop (i + 1)).map fun p => Sum.inr p.2) := by
            rw [← List.map_append, List.take_append_drop]
          rw [e]
          unfold KnS.allL
          rw [List.foldl_append]
          exact foldL_mono _ _
        refine ⟨.ref c, rfl, c, putK cs (.inr y) (.bl true), rfl, upd_same, ((putK cs (.inr y) (.bl true)).length : Int), 3, rfl, rfl, _, rfl, ?_⟩
        rw [decide_eq_false (show ¬ (3 : Int) < ((putK cs (.inr y) (.bl true)).length : Int) by omega)]
        refine iteF ⟨_, _, rfl, (upd_ne nDC).trans ed4, fun b o z e => (upd_ne (ne_of_none e nC)).trans (S4 b o z e), _, upd_same, kn⟩
      · obtain ⟨y3, y4, rfl, ed, S, _⟩ := hP
        exact ⟨ed, q _ (back S)⟩

/-! ### moves by state -/
/-- the moves that leave s, in order -/
def mv (ss : List KnA.Stp) (s : Int) : List (Str × Int) := (ss.filter fun x => decide (x.1 = s)).map (·.2)
theorem mv_take {ss : List KnA.Stp} {i : Nat} {st : KnA.Stp} (h : ss[i]? = some st) (s : Int) : mv (ss.take (i + 1)) s = mv (ss.take i) s ++ if st.1 = s then [st.2] else [] := by
  unfold mv
  rw [take_more h, List.filter_append, List.map_append]
  by_cases e : st.1 = s
  · simp [List.filter_cons, e]
  · simp [List.filter_cons, e]
theorem mv_mem {ss : List KnA.Stp} {s : Int} {m : Str × Int} : m ∈ mv ss s ↔ (s, m) ∈ ss := by
  unfold mv
  rw [List.mem_map]
  constructor
  · rintro ⟨x, hx, rfl⟩
    obtain ⟨h1, h2⟩ := List.mem_filter.mp hx
    have e := of_decide_eq_true h2
    rw [← e]
    exact h1
  · intro h
    exact ⟨_, List.mem_filter.mpr ⟨h, decide_eq_true rfl⟩, rfl⟩
abbrev tup2 (m : Str × Int) : HO := .tup [.str m.1, .int m.2]
def Mvs (H : Hp) (as : List Addr) (ms : List (Str × Int)) : Prop := Paired (fun a m => H a = some (tup2 m)) as ms
theorem Mvs.mono {H H' : Hp} {as : List Addr} {ms : List (Str × Int)} (h : Mvs H as ms) (s : Same H H') : Mvs H' as ms := Paired.mapP h fun _ _ e => s _ _ e
/-- the dict at d: for each state the list of its moves -/
def Leaves (H : Hp) (d : Addr) (ss : List KnA.Stp) : Prop := ∃ kvs, H d = some (.dK kvs) ∧ ∀ s : Int, if mv ss s = [] then valV kvs (.inl s) = none else ∃ l as, valV kvs (.inl s) = some (.ref l) ∧ H l = some (.lst (as.map V.ref)) ∧ Mvs H as (mv ss s)
theorem Leaves.mono {H H' : Hp} {d : Addr} {ss : List KnA.Stp} (h : Leaves H d ss) (s : Same H H') : Leaves H' d ss := by
  obtain ⟨kvs, e, h⟩ := h
  refine ⟨kvs, s _ _ e, fun x => ?_⟩
  have q := h x
  by_cases z : mv ss x = []
  · rw [if_pos z] at q ⊢; exact q
  · rw [if_neg z] at q ⊢
    obtain ⟨l, as, a, b, c⟩ := q
    exact ⟨l, as, a, s _ _ b, c.mono s⟩
def sp_moves_by_state (_ : PySem.W.Frag) : Sp := fun vs H Q _ => ∃ b a as ss, vs = [.ref a] ∧ H a = some (rowO b (as.map V.ref)) ∧ Stps H as ss ∧ ss.length ≤ 1000 ∧ ∀ H' d, Same H H' → Leaves H' d ss → Q (.ref d) H'
/-- .. while it is built: the lists are new, one for each state -/
structure Built (H H' : Hp) (d : Addr) (kvs : List (Key × V)) (ss : List KnA.Stp) : Prop where
  at_ : H' d = some (.dK kvs)
  len : kvs.length ≤ ss.length
  no : ∀ s : Int, mv ss s = [] → valV kvs (.inl s) = none
  yes : ∀ s : Int, mv ss s ≠ [] → ∃ l as, valV kvs (.inl s) = some (.ref l) ∧ H l = none ∧ H' l = some (.lst (as.map V.ref)) ∧ Mvs H' as (mv ss s)
  apart : ∀ s t : Int, ∀ l, valV kvs (.inl s) = some (.ref l) → valV kvs (.inl t) = some (.ref l) → s = t
theorem Built.leaves {H H' : Hp} {d : Addr} {kvs : List (Key × V)} {ss : List KnA.Stp} (B : Built H H' d kvs ss) : Leaves H' d ss := by
  refine ⟨kvs, B.at_, fun s => ?_⟩
  by_cases z : mv ss s = []
  · rw [if_pos z]; exact B.no s z
  · rw [if_neg z]
    obtain ⟨l, as, a, _, b, c⟩ := B.yes s z
    exact ⟨l, as, a, b, c⟩
theorem lst_ne_tup {H : Hp} {l a : Addr} {xs ys : List V} (h1 : H l = some (.lst xs)) (h2 : H a = some (.tup ys)) : a ≠ l := ne_of h2 h1 (fun z => by cases z)
theorem Mvs.upd {H : Hp} {as : List Addr} {ms : List (Str × Int)} {l : Addr} {xs : List V} {o : HO} (h : Mvs H as ms) (hl : H l = some (.lst xs)) : Mvs (upd H l o) as ms :=
  Paired.mapP h fun _ _ e => (upd_ne (lst_ne_tup hl e)).trans e
/-- one step more, of a state that has moves already -/
theorem Built.more {H H' : Hp} {d : Addr} {kvs : List (Key × V)} {ss : List KnA.Stp} {i : Nat} {st : KnA.Stp} (B : Built H H' d kvs (ss.take i)) (g : ss[i]? = some st) {l T : Addr} {as : List Addr} (hv : valV kvs (.inl st.1) = some (.ref l)) (hl : H' l = some (.lst (as.map V.ref)))
    (hm : Mvs H' as (mv (ss.take i) st.1)) (hT : H' T = none) : Built H (upd (upd H' T (tup2 st.2)) l (.lst (as.map V.ref ++ [.ref T]))) d kvs (ss.take (i + 1)) := by
  have nd : d ≠ l := ne_of B.at_ hl (fun z => by cases z)
  have ndT : d ≠ T := ne_of_none B.at_ hT
  have nlT : l ≠ T := ne_of_none hl hT
  have sT := same_upd (o := tup2 st.2) hT
  have hl1 := sT _ _ hl
  refine ⟨(upd_ne nd).trans (sT _ _ B.at_), ?_, fun s hs => ?_, fun s hs => ?_, B.apart⟩
  · have := B.len
    have hi : i < ss.length := (List.getElem?_eq_some_iff.mp g).1
    rw [List.length_take] at this ⊢
    omega
  · rw [mv_take g] at hs
    exact B.no s (List.append_eq_nil_iff.mp hs).1
  · by_cases e : st.1 = s
    · subst e
      have nl : H l = none := by
        have z : mv (ss.take i) st.1 ≠ [] := fun z => by rw [B.no _ z] at hv; cases hv
        obtain ⟨l', _, hv', hn, _⟩ := B.yes _ z
        rw [hv] at hv'
        cases hv'
        exact hn
      refine ⟨l, as ++ [T], hv, nl, by rw [upd_same, List.map_append]; rfl, ?_⟩
      rw [mv_take g, if_pos rfl]
      exact ((hm.mono sT).upd hl1).snoc ((upd_ne (lst_ne_tup hl1 upd_same)).trans upd_same)
    · rw [mv_take g, if_neg e, List.append_nil] at hs ⊢
      obtain ⟨l', as', hv', hn', hl', hm'⟩ := B.yes s hs
      have ne : l' ≠ l := fun z => e (B.apart _ _ l hv (z ▸ hv'))
      exact ⟨l', as', hv', hn', (upd_ne ne).trans (sT _ _ hl'), (hm'.mono sT).upd hl1⟩
/-- .. of a state that has none yet -/
theorem Built.first {H H' : Hp} {d : Addr} {kvs : List (Key × V)} {ss : List KnA.Stp} {i : Nat} {st : KnA.Stp} (S : Same H H') (hd : H d = none) (B : Built H H' d kvs (ss.take i)) (g : ss[i]? = some st) {l T : Addr} (hv : valV kvs (.inl st.1) = none) (hl : H' l = none)
    (hT : (upd (upd H' l (.lst [])) d (.dK (putK kvs (.inl st.1) (.ref l)))) T = none) :
    Built H (upd (upd (upd (upd H' l (.lst [])) d (.dK (putK kvs (.inl st.1) (.ref l)))) T (tup2 st.2)) l (.lst [.ref T])) d (putK kvs (.inl st.1) (.ref l)) (ss.take (i + 1)) := by
  have ndl : d ≠ l := ne_of_none B.at_ hl
  have s1 := same_upd (o := .lst []) hl
  have hl2 : (upd (upd H' l (.lst [])) d (.dK (putK kvs (.inl st.1) (.ref l)))) l = some (.lst []) := (upd_ne ndl.symm).trans upd_same
  have hd2 : (upd (upd H' l (.lst [])) d (.dK (putK kvs (.inl st.1) (.ref l)))) d = some (.dK (putK kvs (.inl st.1) (.ref l))) := upd_same
  have old : ∀ b o, b ≠ d → H' b = some o → (upd (upd H' l (.lst [])) d (.dK (putK kvs (.inl st.1) (.ref l)))) b = some o := fun b o z e => (upd_ne z).trans (s1 _ _ e)
  have nolist : ∀ b xs, H' b = some (.lst xs) → b ≠ d := fun b xs e z => by rw [z, B.at_] at e; cases e
  have notup : ∀ b xs, H' b = some (.tup xs) → b ≠ d := fun b xs e z => by rw [z, B.at_] at e; cases e
  generalize upd (upd H' l (.lst [])) d (.dK (putK kvs (.inl st.1) (.ref l))) = H2 at hT hl2 hd2 old ⊢
  have sT := same_upd (o := tup2 st.2) hT
  have hl3 := sT _ _ hl2
  have nlT : l ≠ T := ne_of_none hl2 hT
  have empty : mv (ss.take i) st.1 = [] := by
    by_cases z : mv (ss.take i) st.1 = []
    · exact z
    · obtain ⟨_, _, hv', _⟩ := B.yes _ z
      rw [hv] at hv'
      cases hv'
  refine ⟨(upd_ne ndl).trans (sT _ _ hd2), ?_, fun s hs => ?_, fun s hs => ?_, fun s t l' h1 h2 => ?_⟩
  · have h1 := B.len
    have h2 := length_putK kvs (.inl st.1 : Key) (.ref l)
    have hi : i < ss.length := (List.getElem?_eq_some_iff.mp g).1
    rw [List.length_take] at h1 ⊢
    omega
  · rw [mv_take g] at hs
    obtain ⟨h1, h2⟩ := List.append_eq_nil_iff.mp hs
    have ne : ¬ st.1 = s := fun e => by rw [if_pos e] at h2; cases h2
    rw [valV_put, if_neg fun z => ne (Sum.inl.inj z).symm]
    exact B.no s h1
  · by_cases e : st.1 = s
    · subst e
      refine ⟨l, [T], by rw [valV_put, if_pos rfl], S.free hl, upd_same, ?_⟩
      rw [mv_take g, if_pos rfl, empty]
      exact .cons ((upd_ne nlT.symm).trans upd_same) .nil
    · rw [mv_take g, if_neg e, List.append_nil] at hs ⊢
      obtain ⟨l', as', hv', hn', hl', hm'⟩ := B.yes s hs
      have ne : l' ≠ l := ne_of_none hl' hl
      refine ⟨l', as', by rw [valV_put, if_neg fun z => e (Sum.inl.inj z).symm]; exact hv', hn', (upd_ne ne).trans (sT _ _ (old _ _ (nolist _ _ hl') hl')), ?_⟩
      have hm2 : Mvs H2 as' (mv (ss.take i) s) := Paired.mapP hm' fun _ _ q => old _ _ (notup _ _ q) q
      exact (hm2.mono sT).upd hl3
  · rw [valV_put] at h1 h2
    have nol : ∀ t : Int, valV kvs (.inl t) = some (.ref l) → False := fun t q => by
      have z : mv (ss.take i) t ≠ [] := fun z => by rw [B.no _ z] at q; cases q
      obtain ⟨l'', _, q', _, q2, _⟩ := B.yes _ z
      rw [q] at q'
      cases q'
      rw [hl] at q2
      cases q2
    by_cases e1 : s = st.1
    · by_cases e2 : t = st.1
      · rw [e1, e2]
      · rw [if_pos (congrArg Sum.inl e1)] at h1
        rw [if_neg fun z => e2 (Sum.inl.inj z)] at h2
        cases h1
        exact (nol t h2).elim
    · rw [if_neg fun z => e1 (Sum.inl.inj z)] at h1
      by_cases e2 : t = st.1
      · rw [if_pos (congrArg Sum.inl e2)] at h2
        cases h2
        exact (nol s h1).elim
      · rw [if_neg fun z => e2 (Sum.inl.inj z)] at h2
        exact B.apart s t l' h1 h2
theorem ok_moves_by_state {f : Addr} {C : Addr} {fd : FuncData} (T : Txt K mg C) (F : Fun K "moves_by_state" "moves_by_state" s_moves_by_state f fd)  : FnOk P w K mg base CX0 1 f fd ["steps"] (sp_moves_by_state K) := by
  have nd := sc_moves_by_state.nd
  refine F.ok sc_moves_by_state (fun vs H Q E h => ?_) (fun cdv A outer s H vs Q E hr h => ?_)
  · obtain ⟨b, a, as, ss, rfl, _⟩ := h
    rfl
  · obtain ⟨b, a, as, ss, rfl, ha, hst, lss, q⟩ := h
    refine ⟨_, (pss_cons (ps_set (i := 1) nd rfl (.inl rfl) pe_dnewK)
      (pss_cons (ps_for PassesOwn.never rfl (KnE.pi_seq (pv 0)) (pg_tup (by rfl) (pgs_cons (pg_name (i := 2) nd rfl (.inl rfl)) (pgs_cons (pg_name (i := 3) nd rfl (.inl rfl)) (pgs_cons (pg_name (i := 4) nd rfl (.inl rfl)) pgs_nil)))) (pss_one (ps_expr (pe_bm PySem.F.plainAttrs_list PySem.F.slot_list_append PySem.F.type_list_append mt_append (pe_dsetd (pv 1) (pv 2) (pe_lst pa_nil) ⟨rfl, rfl, rfl, rfl⟩) (pa_cons (pe_tup (pa_cons (pv 3) (pa_cons (pv 4) pa_nil))) pa_nil)))))
      (pss_one (ps_ret (pv 1))))), ?_⟩
    refine fun d nD => ?_
    have S0 := same_upd (o := .dK []) nD
    refine ⟨.ref a, rfl, a, b, rfl, ⟨_, row_sq (S0 _ _ ha)⟩, ?_⟩
    refine KnE.for_seq (K := K) (xs := as.map V.ref) (fun i σ H' => ∃ y2 y3 y4 kvs, σ = [some (.ref a), some (.ref d), y2, y3, y4] ∧ Same H H' ∧ Built H H' d kvs (ss.take i))
      ⟨none, none, none, [], rfl, S0, upd_same, Nat.zero_le _, fun _ _ => rfl, fun s hs => (hs rfl).elim, fun s t l h => by cases h⟩ (fun i σ H' _ hP => ?_) (fun i x σ H' hx hP => ?_) (fun σ H' hP => ?_)
    · obtain ⟨_, _, _, _, _, S, _⟩ := hP
      exact row_sq (S _ _ ha)
    · obtain ⟨y2, y3, y4, kvs, rfl, S, B⟩ := hP
      obtain ⟨ai, st, rfl, gi, g, hai⟩ := ref_get (hst.mono S) hx
      refine ⟨ai, _, rfl, .inl (.inl hai), rfl, .int st.1, _, rfl, .str st.2.1, _, rfl, .int st.2.2, [], rfl, rfl, ?_⟩
      refine ⟨.ref d, rfl, d, rfl, .inl ⟨kvs, .inl B.at_⟩, .int st.1, rfl, szl rfl, fun l nl => ?_⟩
      have hi : i < ss.length := (List.getElem?_eq_some_iff.mp g).1
      have lk := B.len
      rw [List.length_take] at lk
      have ndl : d ≠ l := ne_of_none B.at_ nl
      have ed1 : (upd H' l (.lst [])) d = some (.dK kvs) := (upd_ne ndl).trans B.at_
      have S1 := same_upd (o := .lst []) nl
      refine ⟨kvs, .inl st.1, ed1, rfl, small (by omega), fun v hv => ?_, fun hv => ?_⟩
      · -- the list is there
        have z : mv (ss.take i) st.1 ≠ [] := fun z => by rw [B.no _ z] at hv; cases hv
        obtain ⟨l', as', hv', hn', hl', hm'⟩ := B.yes _ z
        rw [hv] at hv'
        cases hv'
        have hl1 := S1 _ _ hl'
        have B1 : Built H (upd H' l (.lst [])) d kvs (ss.take i) := ⟨ed1, B.len, B.no, fun s hs => let ⟨l, as, a, b, c, e⟩ := B.yes s hs; ⟨l, as, a, b, S1 _ _ c, e.mono S1⟩, B.apart⟩
        refine ⟨.inl ⟨rfl, _, .inl (.inl hl1)⟩, .str st.2.1, rfl, .int st.2.2, rfl, szl rfl, fun T nT => ?_⟩
        have ST := same_upd (o := tup2 st.2) nT
        refine ⟨l', as'.map V.ref, .ref T, rfl, rfl, ST _ _ hl1, ?_, ?_⟩
        · rw [List.length_map, hm'.length]
          unfold mv
          rw [List.length_map]
          refine small (Nat.le_trans (List.length_filter_le _ _) ?_)
          rw [List.length_take]
          omega
        · exact ⟨_, _, _, kvs, rfl, same_set hn' (S.trans (S1.trans ST)), B1.more g hv hl1 (hm'.mono S1) nT⟩
      · -- it is the state's first
        have hl1 : (upd (upd H' l (.lst [])) d (.dK (putK kvs (.inl st.1) (.ref l)))) l = some (.lst []) := (upd_ne ndl.symm).trans upd_same
        refine ⟨.inl ⟨rfl, _, .inl (.inl hl1)⟩, .str st.2.1, rfl, .int st.2.2, rfl, szl rfl, fun T nT => ?_⟩
        have ST := same_upd (o := tup2 st.2) nT
        refine ⟨l, [], .ref T, rfl, rfl, ST _ _ hl1, small (by decide), ?_⟩
        refine ⟨_, _, _, _, rfl, same_set (S.free nl) ((same_set nD (S.trans S1)).trans ST), B.first S nD g hv nl nT⟩
    · obtain ⟨y2, y3, y4, kvs, rfl, S, B⟩ := hP
      rw [List.length_map, hst.length, List.take_length] at B
      exact ⟨.ref d, rfl, q H' d S B.leaves⟩

/-! ### reached states -/
def sp_reached_states (_ : PySem.W.Frag) : Sp := fun vs H Q _ => ∃ (s0 : Int) (d : Addr) (ss : List KnA.Stp), vs = [.int s0, .ref d] ∧ stateB (.int s0) = true ∧ GoodSteps ss ∧ Leaves H d ss ∧ ∀ H' a ns, Same H H' → H a = none → H' a = some (.lst (ns.map V.int)) → KnA.States ns ss s0 → Q (.ref a) H'
theorem few_nat : ∀ (n : Nat) (l : List Nat), l.Nodup → (∀ x ∈ l, x < n) → l.length ≤ n
  | 0, l, _, h => by
    cases l with
    | nil => exact Nat.le_refl _
    | cons x r => exact absurd (h x List.mem_cons_self) (Nat.not_lt_zero _)
  | n + 1, l, d, h => by
    have ih := few_nat n (l.erase n) (d.erase n) (fun x hx => by
      have h1 := h x (List.mem_of_mem_erase hx)
      have h2 := ((List.Nodup.mem_erase_iff d).mp hx).1
      omega)
    have := List.length_erase (a := n) (l := l)
    by_cases z : n ∈ l
    · rw [if_pos z] at this; omega
    · rw [if_neg z] at this; omega
theorem few_int {l : List Int} (d : l.Nodup) (h : ∀ x ∈ l, 0 ≤ x ∧ x ≤ 99) : l.length ≤ 100 := by
  have := few_nat 100 (l.map Int.toNat) (List.pairwise_map.mpr (d.imp_of_mem fun ha hb ne e => ne (by have := h _ ha; have := h _ hb; omega))) (fun x hx => by
    obtain ⟨y, hy, rfl⟩ := List.mem_map.mp hx
    have := h y hy
    omega)
  rwa [List.length_map] at this
theorem state_in {x : Int} (h : stateB (.int x) = true) : 0 ≤ x ∧ x ≤ 99 := by
  have h' : (decide (0 ≤ x) && decide (x ≤ 99)) = true := h
  rw [Bool.and_eq_true] at h'
  exact ⟨of_decide_eq_true h'.1, of_decide_eq_true h'.2⟩
/-- the dict of the reached states -/
def rkv (R : List Int) : List (Key × V) := R.map fun x => (Sum.inl x, .bl true)
theorem rkv_in (R : List Int) (y : Int) : (valV (rkv R) (.inl y)).isSome = decide (y ∈ R) := by
  rw [← valV_any]
  unfold rkv
  induction R with
  | nil => rfl
  | cons x r ih =>
    rw [List.map_cons, List.any_cons, ih]
    by_cases e : x = y
    · subst e; simp
    · have e' : ¬ y = x := fun q => e q.symm
      simp [e, e']
theorem rkv_put {R : List Int} {y : Int} (h : y ∉ R) : putK (rkv R) (.inl y) (.bl true) = rkv (R ++ [y]) := by
  rw [putK_new]
  · unfold rkv; rw [List.map_append]; rfl
  · have := rkv_in R y
    rw [decide_eq_false h] at this
    cases e : valV (rkv R) (.inl y) with
    | none => rfl
    | some v => rw [e] at this; cases this
/-- the walk: R is reached, W waits; x is under way, its moves up to the i-th are done -/
structure Walk (ss : List KnA.Stp) (s0 : Int) (R W : List Int) (un : Int → Prop) : Prop where
  nd : R.Nodup
  le : W.length ≤ R.length
  sub : ∀ x ∈ W, x ∈ R
  re : ∀ x ∈ R, KnA.Reach ss s0 x
  st : ∀ x ∈ R, 0 ≤ x ∧ x ≤ 99
  s0 : s0 ∈ R
  cl : ∀ x w y, x ∈ R → x ∉ W → ¬ un x → (x, w, y) ∈ ss → y ∈ R
theorem Walk.few {ss : List KnA.Stp} {s0 : Int} {R W : List Int} {un : Int → Prop} (h : Walk ss s0 R W un) : R.length ≤ 100 := few_int h.nd h.st
theorem Walk.push {ss : List KnA.Stp} {s0 : Int} {R W : List Int} {un : Int → Prop} (h : Walk ss s0 R W un) {y : Int} (hy : y ∉ R) (hr : KnA.Reach ss s0 y) (hs : 0 ≤ y ∧ y ≤ 99) : Walk ss s0 (R ++ [y]) (W ++ [y]) un := by
  have mem : ∀ {l : List Int} {x : Int}, x ∈ l ++ [y] ↔ x ∈ l ∨ x = y := fun {l x} => by rw [List.mem_append, List.mem_singleton]
  refine ⟨?_, by rw [List.length_append, List.length_append]; exact Nat.add_le_add_right h.le _, fun x hx => ?_, fun x hx => ?_, fun x hx => ?_, mem.mpr (.inl h.s0), fun x w z hx hw hu hm => ?_⟩
  · refine List.nodup_append.mpr ⟨h.nd, by simp, fun a ha b hb e => ?_⟩
    rw [List.mem_singleton] at hb
    exact hy (hb ▸ e ▸ ha)
  · rcases mem.mp hx with q | q
    · exact mem.mpr (.inl (h.sub x q))
    · exact mem.mpr (.inr q)
  · rcases mem.mp hx with q | q
    · exact h.re x q
    · rw [q]; exact hr
  · rcases mem.mp hx with q | q
    · exact h.st x q
    · rw [q]; exact hs
  · have nw : x ∉ W := fun q => hw (mem.mpr (.inl q))
    have ny : ¬ x = y := fun q => hw (mem.mpr (.inr q))
    exact mem.mpr (.inl (h.cl x w z ((mem.mp hx).resolve_right ny) nw hu hm))
theorem ok_reached_states {f : Addr} {C : Addr} {fd : FuncData} (T : Txt K mg C) (F : Fun K "reached_states" "reached_states" s_reached_states f fd)  : FnOk P w K mg base CX0 1 f fd ["start", "leaving"] (sp_reached_states K) := by
  have nd := sc_reached_states.nd
  refine F.ok sc_reached_states (fun vs H Q E h => ?_) (fun cdv A outer s H vs Q E hr h => ?_)
  · obtain ⟨s0, d, ss, rfl, _⟩ := h
    rfl
  · obtain ⟨s0, d, ss, rfl, st0, gs, hd, q⟩ := h
    refine ⟨_, (pss_cons (ps_set (i := 2) nd rfl (.inl rfl) (pe_disp (pps_cons (pv 0) pe_bl pps_nil) (by rfl) (by rfl) (fun z => by cases z) (by decide)))
      (pss_cons (ps_set (i := 3) nd rfl (.inl rfl) (pe_lst (pa_cons (pv 0) pa_nil)))
      (pss_cons (ps_while PassesOwn.never (pt_cmpR op_gt (pe_callB call_len (by rfl) T.m_len (by decide +kernel) (pa_cons (pv 3) pa_nil)) pe_int (nomark _)) (pss_cons (ps_set (i := 4) nd rfl (.inl rfl) (pe_dget2 (hu_of hr) (pv 1) (pe_bm0 PySem.F.plainAttrs_list PySem.F.slot_list_pop PySem.F.type_list_pop mt_pop (pv 3)) (pe_lst pa_nil) ⟨rfl, rfl, rfl, rfl⟩))
      (pss_one (ps_for PassesOwn.never rfl (pi_list (pv 4)) (pg_tup (by rfl) (pgs_cons (pg_name (i := 5) nd rfl (.inl rfl)) (pgs_cons (pg_name (i := 6) nd rfl (.inl rfl)) pgs_nil))) (pss_one (ps_if (pt_cmp (pc_dnotin (hu_of hr) (pv 6) (pv 2))) (pss_cons (ps_dput (hu_of hr) (pv 2) (pv 6) pe_bl rfl)
      (pss_one (ps_expr (pe_bm PySem.F.plainAttrs_list PySem.F.slot_list_append PySem.F.type_list_append mt_append (pv 3) (pa_cons (pv 6) pa_nil))))) pss_nil))))))
      (pss_one (ps_ret (pe_callB cr_sortedI (by rfl) T.m_sorted (by decide +kernel) (pa_cons (pe_callTy (call_listD rfl) (by rfl) T.m_list (by decide +kernel) (pa_cons (pv 2) pa_nil)) pa_nil))))))), ?_⟩
    refine fun r nr => ⟨.int s0, rfl, upd_same, [(.inl s0, .bl true)], rfl, Nat.le_of_ble_eq_true rfl, .int s0, rfl, szl rfl, fun wa nw => ?_⟩
    rw [upd_upd] at nw ⊢
    have s1 := same_upd (o := .dK (mergeK [] [((.inl s0 : Key), V.bl true)])) nr
    have s2 := same_upd (o := .lst [.int s0]) nw
    have nrw : r ≠ wa := fun e => by rw [e, upd_same] at nw; cases nw
    have nwH : H wa = none := s1.free nw
    refine ⟨fun m σ H' => ∃ y4 y5 y6 R W, σ = [some (.int s0), some (.ref d), some (.ref r), some (.ref wa), y4, y5, y6] ∧ Same H H' ∧ H' r = some (.dK (rkv R)) ∧ H' wa = some (.lst (W.map V.int)) ∧ Walk ss s0 R W (fun _ => False) ∧ m = 2 * (101 - R.length) + W.length,
      ⟨_, none, none, none, [s0], [s0], rfl, s1.trans s2, (upd_ne nrw).trans upd_same, upd_same, ⟨by simp, Nat.le_refl _, fun x hx => hx, fun x hx => by rw [List.mem_singleton.mp hx]; exact .start, fun x hx => by rw [List.mem_singleton.mp hx]; exact state_in st0, List.mem_singleton.mpr rfl, fun x w y hx hn => absurd hx hn⟩, rfl⟩, fun m σ H' hW => ?_⟩
    obtain ⟨y4, y5, y6, R, W, rfl, S, er, ew, wk, rfl⟩ := hW
    refine ⟨.ref wa, rfl, .ref wa, (W.map V.int).length, rfl, .inl ⟨_, .inl (.inl ew), rfl⟩, ((W.map V.int).length : Int), 0, rfl, rfl, _, rfl, ?_⟩
    rw [List.length_map]
    by_cases z : W = []
    · subst z
      refine iteF ⟨.ref r, rfl, r, rkv R, rfl, .inl er, fun p np => ?_⟩
      have em : (rkv R).map (fun kv => kV kv.1) = R.map V.int := by unfold rkv; rw [List.map_map]; rfl
      rw [em]
      have sp := same_upd (o := .lst (R.map V.int)) np
      refine ⟨p, R, rfl, .inl (.inl upd_same), fun ns o hp hs no => ?_⟩
      refine q _ o ns (S.trans (sp.trans (same_upd no))) (S.free (sp.free no)) upd_same ⟨KnA.lt_of_le hs (hp.symm.nodup wk.nd), fun x => ?_⟩
      rw [hp.mem_iff]
      exact KnA.reach_of wk.s0 (fun x w y hx => wk.cl x w y hx (fun z => nomatch z) id) wk.re x
    · have lw : 0 < W.length := List.length_pos_iff.mpr z
      rw [decide_eq_true (show (0 : Int) < (W.length : Int) by omega)]
      refine iteT ⟨fun σ' H'' => ∃ y4 y5 y6 R' W', σ' = [some (.int s0), some (.ref d), some (.ref r), some (.ref wa), y4, y5, y6] ∧ Same H H'' ∧ H'' r = some (.dK (rkv R')) ∧ H'' wa = some (.lst (W'.map V.int)) ∧ Walk ss s0 R' W' (fun _ => False) ∧ 2 * (101 - R'.length) + W'.length < 2 * (101 - R.length) + W.length,
        fun σ' H'' ⟨y4, y5, y6, R', W', e, a1, a2, a3, a4, a5⟩ => ⟨_, a5, y4, y5, y6, R', W', e, a1, a2, a3, a4, rfl⟩, ?_⟩
      have hD : ∀ {G : Hp}, Same H G → IsD G d := fun s => let ⟨kvs, e, _⟩ := hd; .inl ⟨kvs, .inl (s _ _ e)⟩
      obtain ⟨x, hx⟩ : ∃ x, W[W.length - 1]? = some x := ⟨_, List.getElem?_eq_getElem (by omega)⟩
      have hxR := wk.sub x (List.mem_of_getElem? hx)
      refine ⟨.ref d, rfl, d, rfl, hD S, .ref wa, rfl, .inl ⟨rfl, _, .inl (.inl ew)⟩, wa, W.map V.int, .int x, rfl, rfl, ew, by rw [List.length_map, List.getElem?_map, hx]; rfl, szl rfl, fun p np => ?_⟩
      have nr2 : r ≠ wa := nrw
      have S2 : Same H (upd H' wa (.lst (W.map V.int).dropLast)) := same_set nwH S
      have er2 : (upd H' wa (.lst (W.map V.int).dropLast)) r = some (.dK (rkv R)) := (upd_ne nr2).trans er
      have ew2 : (upd H' wa (.lst (W.map V.int).dropLast)) wa = some (.lst (W.dropLast.map V.int)) := by rw [upd_same, List.map_dropLast]
      generalize upd H' wa (.lst (W.map V.int).dropLast) = H2 at np S2 er2 ew2 ⊢
      have sp := same_upd (o := .lst []) np
      have S3 := S2.trans sp
      have er3 := sp _ _ er2
      have ew3 := sp _ _ ew2
      obtain ⟨o, ml, as, dg, eo, hml, hms, nmr, nmw⟩ : ∃ o ml as, DGet (upd H2 p (.lst [])) d (.int x) o ∧ o.getD (.ref p) = .ref ml ∧ (upd H2 p (.lst [])) ml = some (.lst (as.map V.ref)) ∧ Mvs (upd H2 p (.lst [])) as (mv ss x) ∧ ml ≠ r ∧ ml ≠ wa := by
        obtain ⟨kvs, ed, hk⟩ := hd
        refine ⟨valV kvs (.inl x), ?_⟩
        have hkx := hk x
        have dg : DGet (upd H2 p (.lst [])) d (.int x) (valV kvs (.inl x)) := DGet.k (k := .inl x) (S3 _ _ ed)
        by_cases e : mv ss x = []
        · rw [if_pos e] at hkx
          refine ⟨p, [], dg, by rw [hkx]; rfl, upd_same, by rw [e]; exact .nil, (ne_of_none er2 np).symm, (ne_of_none ew2 np).symm⟩
        · rw [if_neg e] at hkx
          obtain ⟨l, as, h1, h2, h3⟩ := hkx
          exact ⟨l, as, dg, by rw [h1]; rfl, S3 _ _ h2, h3.mono S3, ne_of_none h2 nr, ne_of_none h2 nwH⟩
      refine ⟨o, dg, ?_⟩
      rw [eo]
      generalize upd H2 p (.lst []) = H3 at S3 er3 ew3 hml hms
      have wk0 : Walk ss s0 R W.dropLast (fun u => u = x) := ⟨wk.nd, by rw [List.length_dropLast]; have := wk.le; omega, fun u hu => wk.sub u ((List.dropLast_sublist W).subset hu), wk.re, wk.st, wk.s0, fun u w y hu hn hne hm => wk.cl u w y hu (fun hin => by
          have sp : W = W.dropLast ++ [x] := by
            have := List.dropLast_concat_getLast z
            rw [List.getLast_eq_getElem] at this
            have e2 : W[W.length - 1]'(by omega) = x := (List.getElem?_eq_some_iff.mp hx).2
            rw [e2] at this
            exact this.symm
          rw [sp, List.mem_append, List.mem_singleton] at hin
          exact hin.elim hn hne) id hm⟩
      refine ⟨.ref ml, rfl, ml, rfl, ⟨_, .inl (.inl hml)⟩, ?_⟩
      refine for_list (K := K) (xs := as.map V.ref) (fun i σ H' => ∃ y5 y6 R' W', σ = [some (.int s0), some (.ref d), some (.ref r), some (.ref wa), some (.ref ml), y5, y6] ∧ Same H H' ∧ H' r = some (.dK (rkv R')) ∧ H' wa = some (.lst (W'.map V.int)) ∧ Walk ss s0 R' W' (fun u => u = x) ∧
          H' ml = some (.lst (as.map V.ref)) ∧ Mvs H' as (mv ss x) ∧ (∀ y ∈ (mv ss x).take i, y.2 ∈ R') ∧ x ∈ R' ∧ 2 * (101 - R'.length) + W'.length < 2 * (101 - R.length) + W.length)
        ⟨_, _, R, W.dropLast, rfl, S3, er3, ew3, wk0, hml, hms, fun y hy => absurd hy (by simp), hxR, by rw [List.length_dropLast]; omega⟩
        (fun i σ H' _ ⟨_, _, _, _, _, _, _, _, _, h, _⟩ => .inl (.inl h)) (fun i v σ H' hv hP => ?_) (fun σ H' hP => ?_)
      · obtain ⟨y5, y6, R', W', rfl, S, er, ew, wk, hml, hms, hin, hxR, lt⟩ := hP
        rw [List.getElem?_map] at hv
        cases ga : as[i]? with
        | none => rw [ga] at hv; cases hv
        | some ai =>
        rw [ga] at hv
        cases hv
        obtain ⟨m, gm, hai⟩ := paired_get hms ga
        have hss : (x, m.1, m.2) ∈ ss := mv_mem.mp (List.mem_of_getElem? gm)
        have takeM := take_more gm
        refine ⟨ai, _, rfl, .inl (.inl hai), rfl, .str m.1, _, rfl, .int m.2, [], rfl, rfl, ?_⟩
        refine ⟨.int m.2, rfl, .ref r, rfl, r, valV (rkv R') (.inl m.2), rfl, DGet.k (k := .inl m.2) er, _, rfl, ?_⟩
        rw [rkv_in]
        by_cases y : m.2 ∈ R'
        · rw [decide_eq_true y]
          refine iteF ⟨_, _, R', W', rfl, S, er, ew, wk, hml, hms, fun u hu => ?_, hxR, lt⟩
          rw [takeM, List.mem_append, List.mem_singleton] at hu
          rcases hu with hu | hu
          · exact hin u hu
          · rw [hu]; exact y
        · rw [decide_eq_false y]
          have few := wk.few
          have lrk : (rkv R').length = R'.length := List.length_map _
          refine iteT ⟨.ref r, rfl, .int m.2, rfl, r, _, rfl, DPut.k (k := .inl m.2) er (small (by omega)), ?_⟩
          rw [rkv_put y]
          have ew4 : (upd H' r (.dK (rkv (R' ++ [m.2])))) wa = some (.lst (W'.map V.int)) := (upd_ne nrw.symm).trans ew
          have S4 : Same H (upd H' r (.dK (rkv (R' ++ [m.2])))) := same_set nr S
          have hml4 : (upd H' r (.dK (rkv (R' ++ [m.2])))) ml = some (.lst (as.map V.ref)) := (upd_ne nmr).trans hml
          have hms4 : Mvs (upd H' r (.dK (rkv (R' ++ [m.2])))) as (mv ss x) := Paired.mapP hms fun _ _ e => (upd_ne (ne_of e er (fun z => by cases z))).trans e
          have er4 : (upd H' r (.dK (rkv (R' ++ [m.2])))) r = some (.dK (rkv (R' ++ [m.2]))) := upd_same
          generalize upd H' r (.dK (rkv (R' ++ [m.2]))) = H4 at S4 ew4 hml4 hms4 er4
          have le := wk.le
          refine ⟨.ref wa, rfl, .inl ⟨rfl, _, .inl (.inl ew4)⟩, .int m.2, rfl, wa, _, .int m.2, rfl, rfl, ew4, small (by rw [List.length_map]; omega), ?_⟩
          refine ⟨_, _, R' ++ [m.2], W' ++ [m.2], rfl, same_set nwH S4, (upd_ne nrw).trans er4, by rw [upd_same, List.map_append]; rfl, wk.push y (.step (wk.re x hxR) hss) (state_in (gs.good _ hss).t), (upd_ne nmw).trans hml4, Paired.mapP hms4 fun _ _ e => (upd_ne (ne_of e ew4 (fun z => by cases z))).trans e, fun u hu => ?_, List.mem_append.mpr (.inl hxR), ?_⟩
          · rw [takeM, List.mem_append, List.mem_singleton] at hu
            rcases hu with hu | hu
            · exact List.mem_append.mpr (.inl (hin u hu))
            · rw [hu]; exact List.mem_append.mpr (.inr (List.mem_singleton.mpr rfl))
          · have f2 := (wk.push y (.step (wk.re x hxR) hss) (state_in (gs.good _ hss).t)).few
            rw [List.length_append] at f2 ⊢
            rw [List.length_append]
            have e1 : [m.2].length = 1 := rfl
            rw [e1] at f2 ⊢
            omega
      · obtain ⟨y5, y6, R', W', rfl, S, er, ew, wk, hml, hms, hin, hxR, lt⟩ := hP
        refine ⟨_, _, _, R', W', rfl, S, er, ew, ⟨wk.nd, wk.le, wk.sub, wk.re, wk.st, wk.s0, fun u w y hu hn _ hm => ?_⟩, lt⟩
        by_cases e : u = x
        · subst e
          rw [List.length_map, hms.length, List.take_length] at hin
          exact hin _ (mv_mem.mpr hm)
        · exact wk.cl u w y hu hn e hm

/-! ### a machine -/
def look (fs : List (Str × Str)) (x : Str) : Option Str := (fs.find? fun p => decide (p.1 = x)).map (·.2)
/-- the faults in the order of the words -/
def orderF (ws : List Str) (fs : List (Str × Str)) : List (Str × Str) := ws.filterMap fun x => (look fs x).map fun n => (x, n)
theorem look_val (fs : List (Str × Str)) (x : Str) : valV (fkv fs) (.inr x) = (look fs x).map V.str := by
  unfold look fkv
  induction fs with
  | nil => rfl
  | cons p r ih =>
    obtain ⟨y, n⟩ := p
    by_cases e : y = x
    · rw [List.find?_cons_of_pos (by simp [e])]
      unfold valV
      rw [List.map_cons, List.find?_cons_of_pos (by simp [e])]
      rfl
    · rw [List.find?_cons_of_neg (by simp [e]), ← ih]
      unfold valV
      rw [List.map_cons, List.find?_cons_of_neg (by simp [e])]
theorem order_take {ws : List Str} {fs : List (Str × Str)} {i : Nat} {x : Str} (h : ws[i]? = some x) : orderF (ws.take (i + 1)) fs = orderF (ws.take i) fs ++ (match look fs x with | none => [] | some n => [(x, n)]) := by
  unfold orderF
  rw [take_more h, List.filterMap_append]
  congr 1
  rw [List.filterMap_cons]
  cases look fs x <;> rfl
theorem order_keys {ws : List Str} {fs : List (Str × Str)} {p : Str × Str} (h : p ∈ orderF ws fs) : p.1 ∈ ws := by
  unfold orderF at h
  obtain ⟨x, hx, e⟩ := List.mem_filterMap.mp h
  cases g : look fs x with
  | none => rw [g] at e; cases e
  | some n => rw [g] at e; cases e; exact hx
theorem order_len (ws : List Str) (fs : List (Str × Str)) : (orderF ws fs).length ≤ ws.length := List.length_filterMap_le _ _
theorem order_nil (ws : List Str) : orderF ws [] = [] := by
  unfold orderF
  induction ws with
  | nil => rfl
  | cons x r ih => rw [List.filterMap_cons]; exact ih
theorem val_none {fs : List (Str × Str)} {x : Str} (h : ∀ p ∈ fs, p.1 ≠ x) : valV (fkv fs) (.inr x) = none := by
  rw [look_val]
  unfold look
  rw [List.find?_eq_none.mpr fun p hp => by simp [h p hp]]; rfl
def mflds (s0 : Int) (ls lw df lt : Addr) : List (Str × V) := putF "_states" (.ref lt) (putF "_faults" (.ref df) (putF "_words" (.ref lw) (putF "_steps" (.ref ls) (putF "_start" (.int s0) []))))
theorem mf_start (s0 : Int) (ls lw df lt : Addr) : (mflds s0 ls lw df lt).lookup ("_start" : Str) = some (.int s0) := by
  unfold mflds; simp only [lookup_putF]; rw [if_neg (by decide +kernel), if_neg (by decide +kernel), if_neg (by decide +kernel), if_neg (by decide +kernel), if_pos True.intro]
theorem mf_steps (s0 : Int) (ls lw df lt : Addr) : (mflds s0 ls lw df lt).lookup ("_steps" : Str) = some (.ref ls) := by
  unfold mflds; simp only [lookup_putF]; rw [if_neg (by decide +kernel), if_neg (by decide +kernel), if_neg (by decide +kernel), if_pos True.intro]
theorem mf_words (s0 : Int) (ls lw df lt : Addr) : (mflds s0 ls lw df lt).lookup ("_words" : Str) = some (.ref lw) := by
  unfold mflds; simp only [lookup_putF]; rw [if_neg (by decide +kernel), if_neg (by decide +kernel), if_pos True.intro]
theorem mf_faults (s0 : Int) (ls lw df lt : Addr) : (mflds s0 ls lw df lt).lookup ("_faults" : Str) = some (.ref df) := by
  unfold mflds; simp only [lookup_putF]; rw [if_neg (by decide +kernel), if_pos True.intro]
theorem mf_states (s0 : Int) (ls lw df lt : Addr) : (mflds s0 ls lw df lt).lookup ("_states" : Str) = some (.ref lt) := by
  unfold mflds; simp only [lookup_putF]; rw [if_pos True.intro]
structure MachO (C : Addr) (H : Hp) (p dx ls lw df lt : Addr) (as : List Addr) (ws : List Str) (ns : List Int) (s0 : Int) (ss : List KnA.Stp) (fs : List (Str × Str)) : Prop where
  ob : H p = some (.ins C dx (mflds s0 ls lw df lt))
  hs : H ls = some (.lst (as.map V.ref))
  st : Stps H as ss
  hw : H lw = some (.lst (ws.map V.str))
  wo : KnA.Words ws (ss.map (·.2.1))
  hf : H df = some (.dK (fkv (orderF ws fs)))
  ht : H lt = some (.lst (ns.map V.int))
  re : KnA.States ns ss s0
/-- a machine stands at p -/
def MachAt (C : Addr) (H : Hp) (p : Addr) (s0 : Int) (ss : List KnA.Stp) (fs : List (Str × Str)) : Prop := ∃ dx ls lw df lt as ws ns, MachO C H p dx ls lw df lt as ws ns s0 ss fs
theorem MachAt.mono {C : Addr} {H H' : Hp} {p : Addr} {s0 : Int} {ss : List KnA.Stp} {fs : List (Str × Str)} (h : MachAt C H p s0 ss fs) (s : Same H H') : MachAt C H' p s0 ss fs := by
  obtain ⟨dx, ls, lw, df, lt, as, ws, ns, m⟩ := h
  exact ⟨dx, ls, lw, df, lt, as, ws, ns, s _ _ m.ob, s _ _ m.hs, m.st.mono s, s _ _ m.hw, m.wo, s _ _ m.hf, s _ _ m.ht, m.re⟩
/-- what makes a machine -/
structure GoodMach (s0 : Int) (ss : List KnA.Stp) (fs : List (Str × Str)) : Prop where
  st0 : stateB (.int s0) = true
  gs : GoodSteps ss
  few : ∀ ws, KnA.Words ws (ss.map (·.2.1)) → ws.length ≤ 14
  gf : GoodFaults fs (ss.map (·.2.1))
  live : ∀ x, KnA.Reach ss s0 x → ∃ w y, (x, w, y) ∈ ss
theorem GoodFaults.at_ {fs : List (Str × Str)} {ws xs : List Str} (g : GoodFaults fs xs) (h : KnA.Words ws xs) : GoodFaults fs ws := ⟨fun p hp => let ⟨a, b, c⟩ := g.word p hp; ⟨a, (h.mem _).mpr b, c⟩, g.few, g.len⟩
def sp_Machine_init (K : PySem.W.Frag) (C : Addr) : Sp := fun vs H Q _ => ∃ (p dx a : Addr) (s0 : Int) (v : V) (b : Bool) (as : List Addr) (ss : List KnA.Stp) (fs : List (Str × Str)), vs = [.ref p, .int s0, .ref a, v] ∧ H p = some (.ins C dx []) ∧
  H a = some (rowO b (as.map V.ref)) ∧ Stps H as ss ∧ FArg H v fs ∧ GoodMach s0 ss fs ∧ ∀ H' dx ls lw df lt ws ns, (∀ b o, H b = some o → b ≠ p → H' b = some o) → MachO C H' p dx ls lw df lt as ws ns s0 ss fs → H ls = none → H lw = none → H df = none → H lt = none → Q .non H'
theorem ok_Machine_init {f : Addr} {C : Addr} {fd : FuncData} (T : Txt K mg C) (F : KnD.FunX K "__init__" "Machine.__init__" s_Machine_init f fd) (c_is_state : Cal P w K mg base 2 "is_state" (sp_is_state K) []) (c_check_steps : Cal P w K mg base 4 "check_steps" (sp_check_steps K) []) (c_check_faults : Cal P w K mg base 2 "check_faults" (sp_check_faults K) []) (c_moves_by_state : Cal P w K mg base 1 "moves_by_state" (sp_moves_by_state K) []) (c_reached_states : Cal P w K mg base 1 "reached_states" (sp_reached_states K) []) : FnOk P w K mg base CX0 5 f fd ["self", "start", "steps", "faults"] (sp_Machine_init K C) := by
  have nd := sc_Machine_init.nd
  refine F.ok sc_Machine_init (fun vs H Q E h => ?_) (fun cdv A outer s H vs Q E hr h => ?_)
  · obtain ⟨p, dx, a, s0, v, b, as, ss, fs, rfl, _⟩ := h
    rfl
  · obtain ⟨p, dx, a, s0, v, b, as, ss, fs, rfl, hp, ha, hst, hf, gm, q⟩ := h
    refine ⟨_, (pss_cons (ps_if (pt_not (pt_val (pe_c c_is_state hr (by omega) (by rfl) (pa_cons (pv 1) pa_nil)))) (pss_one ps_never) pss_nil)
      (pss_cons (ps_expr (pe_c c_check_steps hr (by omega) (by rfl) (pa_cons (pv 2) pa_nil)))
      (pss_cons (ps_set (i := 4) nd rfl (.inl rfl) (pe_callB (show CallR _ (.builtin "sorted") (KnS.rSortedL P w) from KnS.cr_sortedL rfl) (by rfl) T.m_sorted (by decide +kernel) (pa_cons (KnS.scL (own := [("step", 8)]) (g := gName 8) (tt := tYes) rfl nd (KnE.pi_seq (pv 2)) (blkOk_by (own := [("step", 8)]) (N := ["self", "start", "steps", "faults", "words", "leaving", "states", "state", "step", "word"]) (sc := defScope s_Machine_init) (by decide +kernel)) (fun _ _ _ _ _ => (pg_name (i := 8) nd rfl (.inl rfl))) (fun _ _ _ _ _ => pts_nil) (fun _ _ _ _ _ => (pe_ix (r := rIxT K) ix_tup (pv 8) pe_int (fun _ _ => rfl)))) pa_nil)))
      (pss_cons (ps_if (pt_cmpR op_gt (pe_callB call_len (by rfl) T.m_len (by decide +kernel) (pa_cons (pv 4) pa_nil)) (pe_gc (by rfl) T.c_MOST_WORDS) (nomark _)) (pss_one ps_never) pss_nil)
      (pss_cons (ps_expr (pe_c c_check_faults hr (by omega) (by rfl) (pa_cons (pv 3) (pa_cons (pv 4) pa_nil))))
      (pss_cons (ps_set (i := 5) nd rfl (.inl rfl) (pe_c c_moves_by_state hr (by omega) (by rfl) (pa_cons (pv 2) pa_nil)))
      (pss_cons (ps_set (i := 6) nd rfl (.inl rfl) (pe_c c_reached_states hr (by omega) (by rfl) (pa_cons (pv 1) (pa_cons (pv 5) pa_nil))))
      (pss_cons (ps_for PassesOwn.never rfl (pi_list (pv 6)) (pg_name (i := 7) nd rfl (.inl rfl)) (pss_one (ps_if (pt_cmp (pc_dnotin (hu_of hr) (pv 7) (pv 5))) (pss_one ps_never) pss_nil)))
      (pss_cons (ps_fld (pv 0) (pv 1) rfl)
      (pss_cons (ps_fld (pv 0) (pe_callTy call_list_of (by rfl) T.m_list (by decide +kernel) (pa_cons (pv 2) pa_nil)) rfl)
      (pss_cons (ps_fld (pv 0) (pv 4) rfl)
      (pss_cons (ps_fld (pv 0) (pe_ifExp (pt_cmpR op_isN (pv 3) pe_non (nomark _)) pe_dnewK (pe_dc (own := [("word", 9)]) (g := gName 9) rfl nd (pi_list (pv 4)) (blkOk_by (own := [("word", 9)]) (N := ["self", "start", "steps", "faults", "words", "leaving", "states", "state", "step", "word"]) (sc := defScope s_Machine_init) (by decide +kernel)) (fun _ _ _ _ _ => (pg_name (i := 9) nd rfl (.inl rfl))) (fun _ _ _ _ _ => (pts_one (pt_cmp (pc_din (hu_of hr) (pv 9) (pv 3))))) (fun _ _ _ _ _ => (pv 9)) (fun _ _ _ _ _ => (pe_dget (hu_of hr) (pv 3) (pv 9) (fun _ _ => rfl))))) rfl)
      (pss_one (ps_fld (pv 0) (pv 6) rfl)))))))))))))), ?_⟩
    have gs := gm.gs
    refine ⟨.int s0, rfl, .int s0, rfl, .int _, fun H1 s1 => ⟨_, rfl, ?_⟩⟩
    rw [gm.st0]
    refine iteF ?_
    refine ⟨.ref a, rfl, b, a, as, ss, rfl, s1 _ _ ha, hst.mono s1, gs, fun H2 s2' => ?_⟩
    have s2 := s1.trans s2'
    refine ⟨.ref a, rfl, a, b, rfl, ⟨_, row_sq (s2 _ _ ha)⟩, fun D nD => ?_⟩
    have nDH : H D = none := s2.free nD
    have hi := gs.hi
    have lst : (as.map V.ref).length = ss.length := by rw [List.length_map, hst.length]
    refine KnC.sc_seq (P := P) (w := w) (K := K) (b := b) (a := a) (xs := as.map V.ref) (fun i H' => Same H H' ∧ ∃ xs : List Str, H' D = some (KnS.SetL P w D (xs.map Sum.inr)) ∧ xs.Nodup ∧ xs.length ≤ i ∧ ∀ x, x ∈ xs ↔ x ∈ (ss.take i).map (·.2.1))
      ⟨same_set nDH s2, [], upd_same, List.nodup_nil, Nat.le_refl _, fun x => Iff.rfl⟩ (fun i H' _ hP => row_sq (hP.1 _ _ ha)) (fun i x H' hx hP => ?_) (fun H' hP => ?_)
    · obtain ⟨S, xs, eD, nx, lx, mx⟩ := hP
      obtain ⟨ai, st, rfl, gi, gsi, hai⟩ := ref_get (hst.mono S) hx
      have hi80 : i < ss.length := (List.getElem?_eq_some_iff.mp gsi).1
      refine ⟨rfl, ?_⟩
      unfold tYes
      refine iteT ?_
      refine ⟨.ref ai, rfl, ai, [.int st.1, .str st.2.1, .int st.2.2], 1, .str st.2.1, rfl, rfl, .inl (.inl hai), atI_nat (j := 1) rfl, .inr st.2.1, _, rfl, eD, by rw [List.length_map]; unfold scanBound; omega, same_set nDH S, _, by rw [upd_same, KnC.addL_strs], ?_, ?_, fun x => ?_⟩
      · by_cases z : st.2.1 ∈ xs
        · rw [if_pos z]; exact nx
        · rw [if_neg z]
          refine List.nodup_append.mpr ⟨nx, by simp, fun a ha b hb e => ?_⟩
          rw [List.mem_singleton] at hb
          exact z (hb ▸ e ▸ ha)
      · by_cases z : st.2.1 ∈ xs
        · rw [if_pos z]; omega
        · rw [if_neg z, List.length_append]; exact Nat.succ_le_succ lx
      · rw [take_more gsi, List.map_append, List.mem_append, ← mx]
        by_cases z : st.2.1 ∈ xs
        · rw [if_pos z]
          refine ⟨.inl, fun y => y.elim id fun e => ?_⟩
          rw [List.mem_singleton.mp e]; exact z
        · rw [if_neg z, List.mem_append]; exact Iff.rfl
    · obtain ⟨S, xs, eD, nx, lx, mx⟩ := hP
      rw [lst, List.take_length] at mx
      refine ⟨D, xs, rfl, eD, fun ws lw pw sw nw => ?_⟩
      have hws : KnA.Words ws (ss.map (·.2.1)) := ⟨KnA.sorted_pair sw, pw.symm.nodup nx, fun x => pw.mem_iff.trans (mx x)⟩
      have few := gm.few ws hws
      have S3 := S.trans (same_upd (o := .lst (ws.map V.str)) nw)
      have ew : (upd H' lw (.lst (ws.map V.str))) lw = some (.lst (ws.map V.str)) := upd_same
      have nwH : H lw = none := S.free nw
      generalize upd H' lw (.lst (ws.map V.str)) = H3 at S3 ew
      refine ⟨.ref lw, rfl, .ref lw, (ws.map V.str).length, rfl, .inl ⟨_, .inl (.inl ew), rfl⟩, ((ws.map V.str).length : Int), 14, rfl, rfl, _, rfl, ?_⟩
      rw [List.length_map, decide_eq_false (show ¬ (14 : Int) < (ws.length : Int) by omega)]
      refine iteF ⟨v, rfl, .ref lw, rfl, v, fs, lw, ws, rfl, hf.mono S3, ew, gm.gf.at_ hws, fun H4 s4' => ?_⟩
      have S4 := S3.trans s4'
      have ew4 := s4' _ _ ew
      refine ⟨.ref a, rfl, b, a, as, ss, rfl, S4 _ _ ha, hst.mono S4, Nat.le_trans hi (by decide), fun H5 d s5' hd => ?_⟩
      have S5 := S4.trans s5'
      have ew5 := s5' _ _ ew4
      refine ⟨.int s0, rfl, .ref d, rfl, s0, d, ss, rfl, gm.st0, gs, hd, fun H6 lt ns s6' nlt elt hns => ?_⟩
      have S6 := S5.trans s6'
      have ew6 := s6' _ _ ew5
      have hd6 := hd.mono s6'
      have nltH : H lt = none := S5.free nlt
      refine ⟨.ref lt, rfl, lt, rfl, ⟨_, .inl (.inl elt)⟩, ?_⟩
      refine for_list (K := K) (xs := ns.map V.int) (fun i σ H' => ∃ y7, σ = [some (.ref p), some (.int s0), some (.ref a), some v, some (.ref lw), some (.ref d), some (.ref lt), y7, none, none] ∧ H' = H6) ⟨none, rfl, rfl⟩ (fun i σ H' _ ⟨_, _, e⟩ => by rw [e]; exact .inl (.inl elt)) (fun i x σ H' hx hP => ?_) (fun σ H' hP => ?_)
      · obtain ⟨y7, rfl, rfl⟩ := hP
        rw [List.getElem?_map] at hx
        cases gx : ns[i]? with
        | none => rw [gx] at hx; cases hx
        | some n =>
        rw [gx] at hx
        cases hx
        obtain ⟨kvs, ed, hk⟩ := hd6
        obtain ⟨w', y', hm⟩ := gm.live n ((hns.mem n).mp (List.mem_of_getElem? gx))
        have hkn := hk n
        have ne : mv ss n ≠ [] := List.ne_nil_of_mem (mv_mem.mpr (show (n, (w', y')) ∈ ss from hm))
        rw [if_neg ne] at hkn
        obtain ⟨l, as', hv, _⟩ := hkn
        have dg : DGet H' d (.int n) (valV kvs (.inl n)) := DGet.k (k := .inl n) ed
        rw [hv] at dg
        exact ⟨.int n, rfl, .ref d, rfl, d, _, rfl, dg, _, rfl, iteF ⟨_, rfl, rfl⟩⟩
      · obtain ⟨y7, rfl, rfl⟩ := hP
        have kp : ∀ {G : Hp} {o : HO} {b : Addr}, b ≠ p → (upd G p o) b = G b := fun h => upd_ne h
        have hp6 := S6 _ _ hp
        -- self._start = start
        refine ⟨.int s0, rfl, .ref p, rfl, p, C, dx, [], rfl, hp6, T.cl, T.n__start, by show 0 < 1000; decide, ?_⟩
        -- self._steps = list(steps)
        have npa : a ≠ p := ne_of ha hp (fun z => by cases b <;> cases z)
        have eah : (upd H' p (.ins C dx (putF "_start" (.int s0) []))) a = some (rowO b (as.map V.ref)) := (kp npa).trans (S6 _ _ ha)
        have len1 : ∀ (f : Str) (x : V) (l : List (Str × V)) (n : Nat), l.length ≤ n → (putF f x l).length ≤ n + 1 := fun f x l n h => Nat.le_trans (length_putF f x l) (Nat.succ_le_succ h)
        have l1 : (putF ("_start" : Str) (.int s0) []).length ≤ 1 := len1 _ _ [] 0 (Nat.le_refl _)
        refine ⟨.ref a, rfl, a, as.map V.ref, rfl, by cases b with | true => exact .inl (.inl (.inl eah)) | false => exact .inr (.inl (.inl eah)), fun ls nls => ?_⟩
        have nls6 : H' ls = none := by
          by_cases e : ls = p
          · rw [e, upd_same] at nls; cases nls
          · rwa [kp e] at nls
        have nlsp : ls ≠ p := fun e => by rw [e, hp6] at nls6; cases nls6
        have s7 := same_upd (o := .lst (as.map V.ref)) nls
        refine ⟨.ref p, rfl, p, C, dx, _, rfl, s7 _ _ upd_same, T.cl, T.n__steps, by omega, ?_⟩
        have l2 := len1 "_steps" (.ref ls) _ _ l1
        -- self._words = words
        refine ⟨.ref lw, rfl, .ref p, rfl, p, C, dx, _, rfl, upd_same, T.cl, T.n__words, by omega, ?_⟩
        have l3 := len1 "_words" (.ref lw) _ _ l2
        -- the heap so far: all of H', the list of steps, the object
        have S7 : ∀ {G : Hp} (o : HO), (∀ b x, b ≠ p → H' b = some x → G b = some x) → ∀ b x, b ≠ p → H' b = some x → (upd G p o) b = some x := fun o k b x h e => (kp h).trans (k b x h e)
        have B7 : ∀ b x, b ≠ p → H' b = some x → (upd (upd (upd (upd H' p (.ins C dx (putF "_start" (.int s0) []))) ls (.lst (as.map V.ref))) p (.ins C dx (putF "_steps" (.ref ls) (putF "_start" (.int s0) [])))) p (.ins C dx (putF "_words" (.ref lw) (putF "_steps" (.ref ls) (putF "_start" (.int s0) []))))) b = some x := fun b x h e =>
          (kp h).trans ((kp h).trans (s7 _ _ ((kp h).trans e)))
        have els : (upd (upd (upd (upd H' p (.ins C dx (putF "_start" (.int s0) []))) ls (.lst (as.map V.ref))) p (.ins C dx (putF "_steps" (.ref ls) (putF "_start" (.int s0) [])))) p (.ins C dx (putF "_words" (.ref lw) (putF "_steps" (.ref ls) (putF "_start" (.int s0) []))))) ls = some (.lst (as.map V.ref)) := (kp nlsp).trans ((kp nlsp).trans upd_same)
        have ep : (upd (upd (upd (upd H' p (.ins C dx (putF "_start" (.int s0) []))) ls (.lst (as.map V.ref))) p (.ins C dx (putF "_steps" (.ref ls) (putF "_start" (.int s0) [])))) p (.ins C dx (putF "_words" (.ref lw) (putF "_steps" (.ref ls) (putF "_start" (.int s0) []))))) p = some (.ins C dx (putF "_words" (.ref lw) (putF "_steps" (.ref ls) (putF "_start" (.int s0) [])))) := upd_same
        generalize upd (upd (upd (upd H' p (.ins C dx (putF "_start" (.int s0) []))) ls (.lst (as.map V.ref))) p (.ins C dx (putF "_steps" (.ref ls) (putF "_start" (.int s0) [])))) p (.ins C dx (putF "_words" (.ref lw) (putF "_steps" (.ref ls) (putF "_start" (.int s0) [])))) = G at B7 els ep
        have nlwp : lw ≠ p := ne_of_none hp nwH |>.symm
        have nltp : lt ≠ p := ne_of_none hp nltH |>.symm
        have SG : ∀ b o, H b = some o → b ≠ p → G b = some o := fun b o e h => B7 b o h (S6 _ _ e)
        have stG : Stps G as ss := Paired.mapP hst fun b _ e => SG b _ e (ne_of e hp (fun z => by cases z))
        have fin : ∀ {G' : Hp} {df : Addr}, Same G G' → G df = none → G' df = some (.dK (fkv (orderF ws fs))) → (sFld K (fun σ H Q => Q (.ref p) H) (fun σ H Q => Q (.ref df) H) "_faults" { nx := fun σ' G2 => sFld K (tVar 0) (tVar 6) "_states" { nx := fun x H' => Q V.non H', rt := Q } σ' G2, rt := Q } [some (.ref p), some (.int s0), some (.ref a), some v, some (.ref lw), some (.ref d), some (.ref lt), y7, none, none] G') := fun {G' df} sG nfG edf => by
          have ndfp : df ≠ p := ne_of edf (sG _ _ ep) (fun z => by cases z)
          refine ⟨p, C, dx, _, rfl, sG _ _ ep, T.cl, T.n__faults, by omega, ?_⟩
          have l4 := len1 "_faults" (.ref df) _ _ l3
          refine ⟨.ref lt, rfl, .ref p, rfl, p, C, dx, _, rfl, upd_same, T.cl, T.n__states, by omega, ?_⟩
          have keep : ∀ b o, b ≠ p → G' b = some o → (upd (upd G' p (.ins C dx (putF "_faults" (.ref df) (putF "_words" (.ref lw) (putF "_steps" (.ref ls) (putF "_start" (.int s0) [])))))) p (.ins C dx (putF "_states" (.ref lt) (putF "_faults" (.ref df) (putF "_words" (.ref lw) (putF "_steps" (.ref ls) (putF "_start" (.int s0) []))))))) b = some o := fun b o h e => (kp h).trans ((kp h).trans e)
          have ndfH : H df = none := by
            cases e : H df with
            | none => rfl
            | some o =>
              have e2 := SG df o e ndfp
              rw [nfG] at e2
              cases e2
          refine q _ dx ls lw df lt ws ns (fun b o e h => keep b o h (sG _ _ (SG b o e h))) ⟨upd_same, keep _ _ nlsp (sG _ _ els), ?_, keep _ _ nlwp (sG _ _ (B7 _ _ nlwp ew6)), hws, keep _ _ ndfp edf, keep _ _ nltp (sG _ _ (B7 _ _ nltp elt)), hns⟩ (S6.free nls6) nwH ndfH nltH
          exact Paired.mapP (stG.mono sG) fun b _ e => keep b _ (ne_of e (sG _ _ ep) (fun z => by cases z)) e
        rcases hf with ⟨rfl, rfl⟩ | ⟨fd, rfl, efd⟩
        · refine ⟨.non, rfl, rfl, _, rfl, iteT fun df ndf => ⟨.ref p, rfl, ?_⟩⟩
          exact fin (same_upd ndf) ndf (by rw [upd_same, order_nil]; rfl)
        · refine ⟨.ref fd, rfl, rfl, _, rfl, ?_⟩
          rw [decide_eq_false (show ¬ V.ref fd = V.non from fun z => by cases z)]
          have nfp : fd ≠ p := ne_of efd hp (fun z => by cases z)
          have efG := SG _ _ efd nfp
          have ewG := B7 _ _ nlwp ew6
          refine iteF ⟨.ref lw, rfl, lw, rfl, ⟨_, .inl (.inl ewG)⟩, fun df ndf => ?_⟩
          refine KnC.dc_list (K := K) (xs := ws.map V.str) (fun i G' => Same G G' ∧ G' df = some (.dK (fkv (orderF (ws.take i) fs)))) ⟨same_upd ndf, upd_same⟩ (fun i G' _ hP => .inl (.inl (hP.1 _ _ ewG))) (fun i x G' hx hP => ?_) (fun G' hP => ?_)
          · obtain ⟨SG', edf⟩ := hP
            rw [List.getElem?_map] at hx
            cases gx : ws[i]? with
            | none => rw [gx] at hx; cases hx
            | some z =>
            rw [gx] at hx
            cases hx
            have hiw : i < ws.length := (List.getElem?_eq_some_iff.mp gx).1
            have dg : DGet G' fd (.str z) (valV (fkv fs) (.inr z)) := DGet.k (k := .inr z) (SG' _ _ efG)
            rw [look_val] at dg
            refine ⟨rfl, .str z, rfl, .ref fd, rfl, fd, _, rfl, dg, _, rfl, ?_⟩
            have tk := order_take (fs := fs) gx
            cases lk : look fs z with
            | none =>
              rw [lk] at tk
              refine iteF ⟨SG', ?_⟩
              rw [tk, List.append_nil]; exact edf
            | some n =>
              rw [lk] at tk dg
              have no : valV (fkv (orderF (ws.take i) fs)) (.inr z) = none := val_none fun p hp e => by
                have hm := order_keys hp
                rw [e] at hm
                obtain ⟨j, hj, ej⟩ := List.mem_iff_getElem.mp hm
                rw [List.getElem_take] at ej
                have lj : j < i := by rw [List.length_take] at hj; omega
                have e1 : ws[i] = z := (List.getElem?_eq_some_iff.mp gx).2
                exact absurd ((List.getElem_inj hws.nd).mp (ej.trans e1.symm)) (by omega)
              have lf : (fkv (orderF (ws.take i) fs)).length ≤ 14 := by
                unfold fkv
                rw [List.length_map]
                refine Nat.le_trans (order_len _ _) ?_
                rw [List.length_take]; omega
              refine iteT ⟨.str z, rfl, .ref fd, rfl, .str z, rfl, fd, .str n, rfl, dg, _, .inr z, rfl, edf, small (by omega), ?_⟩
              refine ⟨same_set ndf SG', ?_⟩
              rw [upd_same, putK_new _ no, tk]
              unfold fkv
              rw [List.map_append]; rfl
          · obtain ⟨SG', edf⟩ := hP
            rw [List.length_map, List.take_length] at edf
            exact ⟨.ref p, rfl, fin SG' ndf edf⟩

theorem sub_len {α : Type} [DecidableEq α] : ∀ {l m : List α}, l.Nodup → (∀ x ∈ l, x ∈ m) → l.length ≤ m.length
  | [], _, _, _ => Nat.zero_le _
  | x :: r, m, d, h => by
    obtain ⟨d1, d2⟩ := List.nodup_cons.mp d
    have hx := h x List.mem_cons_self
    have ih := sub_len (m := m.erase x) d2 (fun y hy => (List.mem_erase_of_ne (fun e : y = x => d1 (by rw [← e]; exact hy))).mpr (h y (List.mem_cons_of_mem _ hy)))
    have e := List.length_erase_of_mem hx
    have : 0 < m.length := List.length_pos_of_mem hx
    rw [List.length_cons]
    omega
theorem words_le {ws xs : List Str} (h : KnA.Words ws xs) : ws.length ≤ xs.length := sub_len h.nd fun x hx => (h.mem x).mp hx
/-- set(xs), xs texts -/
theorem foldL_strs : ∀ (xs acc : List Str), acc.Nodup → ∃ ys : List Str, (xs.map Sum.inr).foldl KnS.addL (acc.map Sum.inr) = ys.map Sum.inr ∧ ys.Nodup ∧ ∀ x, x ∈ ys ↔ x ∈ acc ∨ x ∈ xs
  | [], acc, h => ⟨acc, rfl, h, fun x => by simp⟩
  | z :: xs, acc, h => by
    obtain ⟨ys, e, n, m⟩ := foldL_strs xs (if z ∈ acc then acc else acc ++ [z]) (by
      by_cases q : z ∈ acc
      · rw [if_pos q]; exact h
      · rw [if_neg q]
        refine List.nodup_append.mpr ⟨h, by simp, fun a ha b hb e => ?_⟩
        rw [List.mem_singleton] at hb
        exact q (hb ▸ e ▸ ha))
    refine ⟨ys, ?_, n, fun x => ?_⟩
    · rw [List.map_cons, List.foldl_cons, KnC.addL_strs, e]
    · rw [m]
      by_cases q : z ∈ acc
      · rw [if_pos q, List.mem_cons]
        exact ⟨fun y => y.elim .inl fun t => .inr (.inr t), fun y => y.elim .inl fun t => t.elim (fun t => .inl (t ▸ q)) .inr⟩
      · rw [if_neg q, List.mem_append, List.mem_singleton, List.mem_cons, or_assoc]
theorem allL_strs (xs : List Str) : ∃ ys : List Str, KnS.allL (xs.map Sum.inr) = ys.map Sum.inr ∧ ys.Nodup ∧ ∀ x, x ∈ ys ↔ x ∈ xs := by
  obtain ⟨ys, e, n, m⟩ := foldL_strs xs [] List.nodup_nil
  exact ⟨ys, e, n, fun x => (m x).trans (by simp)⟩

/-! ### what a machine tells -/
def sp_Machine_start (_ : PySem.W.Frag) (C : Addr) : Sp := fun vs H Q _ => ∃ (p : Addr) (s0 : Int) (ss : List KnA.Stp) (fs : List (Str × Str)), vs = [.ref p] ∧ MachAt C H p s0 ss fs ∧ Q (.int s0) H
def sp_Machine_steps (_ : PySem.W.Frag) (C : Addr) : Sp := fun vs H Q _ => ∃ (p : Addr) (s0 : Int) (ss : List KnA.Stp) (fs : List (Str × Str)), vs = [.ref p] ∧ MachAt C H p s0 ss fs ∧ ∀ H' l as, Same H H' → H l = none → H' l = some (.lst (as.map V.ref)) → Stps H' as ss → Q (.ref l) H'
theorem ok_Machine_start {f : Addr} {C : Addr} {fd : FuncData} (T : Txt K mg C) (F : Fun K "start" "Machine.start" s_Machine_start f fd)  : FnOk P w K mg base CX0 1 f fd ["self"] (sp_Machine_start K C) := by
  have nd := sc_Machine_start.nd
  refine F.ok sc_Machine_start (fun vs H Q E h => ?_) (fun cdv A outer s H vs Q E hr h => ?_)
  · obtain ⟨p, s0, ss, fs, rfl, _⟩ := h
    rfl
  · obtain ⟨p, s0, ss, fs, rfl, ⟨dx, ls, lw, df, lt, as, ws, ns, m⟩, q⟩ := h
    refine ⟨_, (pss_one (ps_ret (pe_fld (pv 0) rfl))), ?_⟩
    exact ⟨.ref p, rfl, p, C, dx, _, _, rfl, m.ob, T.cl, T.n__start, mf_start _ _ _ _ _, q⟩
theorem ok_Machine_steps {f : Addr} {C : Addr} {fd : FuncData} (T : Txt K mg C) (F : Fun K "steps" "Machine.steps" s_Machine_steps f fd)  : FnOk P w K mg base CX0 1 f fd ["self"] (sp_Machine_steps K C) := by
  have nd := sc_Machine_steps.nd
  refine F.ok sc_Machine_steps (fun vs H Q E h => ?_) (fun cdv A outer s H vs Q E hr h => ?_)
  · obtain ⟨p, s0, ss, fs, rfl, _⟩ := h
    rfl
  · obtain ⟨p, s0, ss, fs, rfl, ⟨dx, ls, lw, df, lt, as, ws, ns, m⟩, q⟩ := h
    refine ⟨_, (pss_one (ps_ret (pe_callTy call_list_of (by rfl) T.m_list (by decide +kernel) (pa_cons (pe_fld (pv 0) rfl) pa_nil)))), ?_⟩
    exact ⟨.ref p, rfl, p, C, dx, _, _, rfl, m.ob, T.cl, T.n__steps, mf_steps _ _ _ _ _, ls, as.map V.ref, rfl, .inl (.inl (.inl m.hs)), fun l nl => q _ l as (same_upd nl) nl upd_same (m.st.mono (same_upd nl))⟩

def sp_Machine_states (_ : PySem.W.Frag) (C : Addr) : Sp := fun vs H Q _ => ∃ (p : Addr) (s0 : Int) (ss : List KnA.Stp) (fs : List (Str × Str)), vs = [.ref p] ∧ MachAt C H p s0 ss fs ∧ ∀ H' l ns, Same H H' → H l = none → H' l = some (.lst (ns.map V.int)) → KnA.States ns ss s0 → Q (.ref l) H'
theorem ok_Machine_states {f : Addr} {C : Addr} {fd : FuncData} (T : Txt K mg C) (F : Fun K "states" "Machine.states" s_Machine_states f fd)  : FnOk P w K mg base CX0 1 f fd ["self"] (sp_Machine_states K C) := by
  have nd := sc_Machine_states.nd
  refine F.ok sc_Machine_states (fun vs H Q E h => ?_) (fun cdv A outer s H vs Q E hr h => ?_)
  · obtain ⟨p, s0, ss, fs, rfl, _⟩ := h
    rfl
  · obtain ⟨p, s0, ss, fs, rfl, ⟨dx, ls, lw, df, lt, as, ws, ns, m⟩, q⟩ := h
    refine ⟨_, (pss_one (ps_ret (pe_callTy call_list_of (by rfl) T.m_list (by decide +kernel) (pa_cons (pe_fld (pv 0) rfl) pa_nil)))), ?_⟩
    exact ⟨.ref p, rfl, p, C, dx, _, _, rfl, m.ob, T.cl, T.n__states, mf_states _ _ _ _ _, lt, ns.map V.int, rfl, .inl (.inl (.inl m.ht)), fun l nl => q _ l ns (same_upd nl) nl upd_same m.re⟩

def sp_Machine_words (_ : PySem.W.Frag) (C : Addr) : Sp := fun vs H Q _ => ∃ (p : Addr) (s0 : Int) (ss : List KnA.Stp) (fs : List (Str × Str)), vs = [.ref p] ∧ MachAt C H p s0 ss fs ∧ ∀ H' l ws, Same H H' → H l = none → H' l = some (.lst (ws.map V.str)) → KnA.Words ws (ss.map (·.2.1)) → Q (.ref l) H'
def sp_Machine_faults (_ : PySem.W.Frag) (C : Addr) : Sp := fun vs H Q _ => ∃ (p : Addr) (s0 : Int) (ss : List KnA.Stp) (fs : List (Str × Str)), vs = [.ref p] ∧ MachAt C H p s0 ss fs ∧ ∀ H' d ws, Same H H' → H d = none → H' d = some (.dK (fkv (orderF ws fs))) → KnA.Words ws (ss.map (·.2.1)) → Q (.ref d) H'
theorem ok_Machine_words {f : Addr} {C : Addr} {fd : FuncData} (T : Txt K mg C) (F : Fun K "words" "Machine.words" s_Machine_words f fd)  : FnOk P w K mg base CX0 1 f fd ["self"] (sp_Machine_words K C) := by
  have nd := sc_Machine_words.nd
  refine F.ok sc_Machine_words (fun vs H Q E h => ?_) (fun cdv A outer s H vs Q E hr h => ?_)
  · obtain ⟨p, s0, ss, fs, rfl, _⟩ := h
    rfl
  · obtain ⟨p, s0, ss, fs, rfl, ⟨dx, ls, lw, df, lt, as, ws, ns, m⟩, q⟩ := h
    refine ⟨_, (pss_one (ps_ret (pe_callTy call_list_of (by rfl) T.m_list (by decide +kernel) (pa_cons (pe_fld (pv 0) rfl) pa_nil)))), ?_⟩
    exact ⟨.ref p, rfl, p, C, dx, _, _, rfl, m.ob, T.cl, T.n__words, mf_words _ _ _ _ _, lw, ws.map V.str, rfl, .inl (.inl (.inl m.hw)), fun l nl => q _ l ws (same_upd nl) nl upd_same m.wo⟩
theorem ok_Machine_faults {f : Addr} {C : Addr} {fd : FuncData} (T : Txt K mg C) (F : Fun K "faults" "Machine.faults" s_Machine_faults f fd)  : FnOk P w K mg base CX0 1 f fd ["self"] (sp_Machine_faults K C) := by
  have nd := sc_Machine_faults.nd
  refine F.ok sc_Machine_faults (fun vs H Q E h => ?_) (fun cdv A outer s H vs Q E hr h => ?_)
  · obtain ⟨p, s0, ss, fs, rfl, _⟩ := h
    rfl
  · obtain ⟨p, s0, ss, fs, rfl, ⟨dx, ls, lw, df, lt, as, ws, ns, m⟩, q⟩ := h
    refine ⟨_, (pss_one (ps_ret (pe_callTy call_dictD (by rfl) T.m_dict (by decide +kernel) (pa_cons (pe_fld (pv 0) rfl) pa_nil)))), ?_⟩
    exact ⟨.ref p, rfl, p, C, dx, _, _, rfl, m.ob, T.cl, T.n__faults, mf_faults _ _ _ _ _, df, _, rfl, .inl m.hf, fun d nd => q _ d ws (same_upd nd) nd upd_same m.wo⟩

end
end Kn

set_option Elab.async false
set_option linter.all false
set_option maxRecDepth 100000
set_option maxHeartbeats 4000000
namespace Kn
open PySem PySem.Spec PyProof.Rows L2
open C8 (Cal pe_c pe_gc Mak pe_mk)
section
variable {P : Program} {w : World} {K : PySem.W.Frag} {mg : Str → Option Value} {base : Heap}
/-- steps as data -/
def dat (x : KnA.Stp) : PyData := .tuple [.int x.1, .str x.2.1, .int x.2.2]
theorem dat_eq (x y : KnA.Stp) : PyData.eqv (dat x) (dat y) = decide (x = y) := by
  obtain ⟨a, b, c⟩ := x
  obtain ⟨a', b', c'⟩ := y
  show ((a == a') && ((b == b') && ((c == c') && true))) = decide ((a, b, c) = (a', b', c'))
  by_cases e1 : a = a' <;> by_cases e2 : b = b' <;> by_cases e3 : c = c' <;> simp [e1, e2, e3]
theorem dat_any (ss : List KnA.Stp) (x : KnA.Stp) : ((ss.map dat).any fun z => PyData.eqv z (dat x)) = decide (x ∈ ss) := by
  induction ss with
  | nil => rfl
  | cons y r ih =>
    rw [List.map_cons, List.any_cons, ih, dat_eq]
    by_cases e : y = x
    · subst e; simp
    · have e' : ¬ x = y := fun q => e q.symm
      simp [e, e']
theorem strOk_name {z : Str} (h : nameB (.str z) = true) : PyData.strOk z = true := by
  have h' : (decide (1 ≤ z.cps.size) && decide (z.cps.size ≤ 12) && z.cps.toList.all inL) = true := h
  rw [Bool.and_eq_true] at h'
  have hl : ∀ c ∈ letters.cps.toList, c < 0x110000 := by decide +kernel
  unfold PyData.strOk
  rw [Array.all_eq_true]
  intro i hi
  have hm : z.cps[i] ∈ z.cps.toList := Array.getElem_mem_toList hi
  exact decide_eq_true (hl _ (of_decide_eq_true (List.all_eq_true.mp h'.2 _ hm)))
theorem dat_shaped {x : KnA.Stp} (h : nameB (.str x.2.1) = true) : SeqAt.shaped (dat x) = true := by
  unfold SeqAt.shaped
  have h1 : (dat x).canLay0 = true := by
    show (true && (PyData.strOk x.2.1 && (true && true))) = true
    rw [strOk_name h]; rfl
  have h2 : (dat x).depth = 1 := by
    show max 0 (max 0 (max 0 0)) + 1 = 1
    rfl
  rw [h1, h2]; rfl
theorem dats_shaped {ss : List KnA.Stp} (h : ∀ x ∈ ss, nameB (.str x.2.1) = true) : SeqAt.shaped (.list (ss.map dat)) = true := by
  have h1 : PyData.canLayAll0 (ss.map dat) = true ∧ PyData.depthAll (ss.map dat) ≤ 1 := by
    induction ss with
    | nil => exact ⟨rfl, Nat.zero_le _⟩
    | cons x r ih =>
      obtain ⟨a, b⟩ := ih fun y hy => h y (List.mem_cons_of_mem _ hy)
      refine ⟨?_, ?_⟩
      · show ((true && (PyData.strOk x.2.1 && (true && true))) && PyData.canLayAll0 (r.map dat)) = true
        rw [strOk_name (h x List.mem_cons_self), a]; rfl
      · show max (max 0 (max 0 (max 0 0)) + 1) (PyData.depthAll (r.map dat)) ≤ 1
        omega
  unfold SeqAt.shaped
  have h2 : (PyData.list (ss.map dat)).canLay0 = true := h1.1
  have h3 : (PyData.list (ss.map dat)).depth ≤ 64 := by
    show PyData.depthAll (ss.map dat) + 1 ≤ 64
    omega
  rw [h2, decide_eq_true h3]; rfl
theorem dps {K : PySem.W.Frag} {H : Hp} {as : List Addr} {ss : List KnA.Stp} (h : Stps H as ss) : DpAll K H (as.map V.ref) (ss.map dat) := by
  induction h with
  | nil => exact .nil
  | cons r _ ih => exact .cons (.tup (.inl (.inl r)) (.cons (.int _) (.cons (.str _) (.cons (.int _) .nil)))) ih
theorem cut_from {xs : List V} {a : Nat} : cutV xs (some (a : Int)) none = xs.drop a := by
  unfold cutV
  rw [HT.sIx_nat, HT.sIx_none]
  by_cases h : a ≤ xs.length
  · rw [Nat.min_eq_left h, List.take_of_length_le (by rw [List.length_drop]; omega)]
  · rw [Nat.min_eq_right (by omega : xs.length ≤ a), List.drop_of_length_le (Nat.le_refl _), List.drop_of_length_le (by omega), List.take_nil]
theorem cut_to {xs : List V} {a : Nat} : cutV xs none (some (a : Int)) = xs.take a := by
  unfold cutV
  rw [HT.sIx_nat, HT.sIx_none, List.drop_zero, Nat.sub_zero]
  by_cases h : a ≤ xs.length
  · rw [Nat.min_eq_left h]
  · rw [Nat.min_eq_right (by omega : xs.length ≤ a), List.take_of_length_le (Nat.le_refl _), List.take_of_length_le (by omega)]
theorem str_dec {a b : Str} : decide (V.str a = V.str b) = decide (a = b) := by
  by_cases e : a = b
  · subst e; simp
  · rw [decide_eq_false e, decide_eq_false fun z => e (V.str.inj z)]

/-! ### the source of digits -/
/-- all stands as it stood, but for one cell -/
def But (s : Addr) (H H' : Hp) : Prop := ∀ b o, H b = some o → b ≠ s → H' b = some o
theorem But.refl {s : Addr} {H : Hp} : But s H H := fun _ _ e _ => e
theorem But.trans {s : Addr} {H H' H'' : Hp} (a : But s H H') (b : But s H' H'') : But s H H'' := fun x o e n => b x o (a x o e n) n
theorem Same.but {s : Addr} {H H' : Hp} (a : Same H H') : But s H H' := fun x o e _ => a x o e
theorem But.ne {s x : Addr} {H : Hp} {o : HO} (hs : H s = some o) (hx : H x = none) : x ≠ s := fun z => by rw [z, hs] at hx; cases hx
structure SrcO (H : Hp) (s c : Addr) (ns : List Int) (i j k : Int) : Prop where
  at_ : H s = some (.lst [.ref c, .int i, .int j, .int k])
  cs : H c = some (.lst (ns.map V.int))
  lo : 0 ≤ i
  hi : i < ns.length
  l : ns.length ≤ 64
  j0 : 0 ≤ j
def SrcAt (H : Hp) (s c : Addr) : Prop := ∃ ns i j k, SrcO H s c ns i j k
theorem SrcO.ne {H : Hp} {s c : Addr} {ns : List Int} {i j k : Int} (h : SrcO H s c ns i j k) : c ≠ s := fun z => by
  have a := h.at_
  rw [← z, h.cs] at a
  have b := HO.lst.inj (Option.some.inj a)
  cases ns with
  | nil => cases b
  | cons x r => cases b
theorem SrcAt.mono {H H' : Hp} {s c : Addr} (h : SrcAt H s c) (k : Same H H') : SrcAt H' s c := by
  obtain ⟨ns, i, j, n, o⟩ := h
  exact ⟨ns, i, j, n, k _ _ o.at_, k _ _ o.cs, o.lo, o.hi, o.l, o.j0⟩
theorem SrcAt.occ {H : Hp} {s c : Addr} (h : SrcAt H s c) : ∃ o, H s = some o := by
  obtain ⟨ns, i, j, n, o⟩ := h
  exact ⟨_, o.at_⟩
theorem SrcAt.ne {H : Hp} {s c x : Addr} (h : SrcAt H s c) (n : H x = none) : x ≠ s := by
  obtain ⟨o, e⟩ := h.occ
  exact But.ne e n
theorem SrcAt.nec {H : Hp} {s c x : Addr} (h : SrcAt H s c) (n : H x = none) : x ≠ c := by
  obtain ⟨ns, i, j, m, o⟩ := h
  exact But.ne o.cs n
theorem SrcAt.set {H : Hp} {s c x : Addr} {u : HO} (h : SrcAt H s c) (n1 : x ≠ s) (n2 : x ≠ c) : SrcAt (upd H x u) s c := by
  obtain ⟨ns, i, j, m, o⟩ := h
  exact ⟨ns, i, j, m, (upd_ne n1.symm).trans o.at_, (upd_ne n2.symm).trans o.cs, o.lo, o.hi, o.l, o.j0⟩
theorem But.set {s x : Addr} {H G : Hp} {u : HO} (n : H x = none) (b : But s H G) : But s H (upd G x u) := fun y o e ne => (upd_ne (ne_of_none e n)).trans (b y o e ne)
theorem But.fresh {s c x : Addr} {H H' : Hp} (b : But s H H') (h : SrcAt H' s c) (n : H' x = none) : H x = none := by
  cases e : H x with
  | none => rfl
  | some o =>
    by_cases z : x = s
    · exact (h.ne n z).elim
    · rw [b x o e z] at n; cases n
theorem SrcO.put {H : Hp} {s c : Addr} {ns : List Int} {i j k : Int} (h : SrcO H s c ns i j k) {i' j' k' : Int} (lo : 0 ≤ i') (hi : i' < ns.length) (j0 : 0 ≤ j') : SrcO (upd H s (.lst [.ref c, .int i', .int j', .int k'])) s c ns i' j' k' :=
  ⟨upd_same, (upd_ne h.ne).trans h.cs, lo, hi, h.l, j0⟩
theorem But.put {s : Addr} {H : Hp} {x : HO} : But s H (upd H s x) := fun _ _ e n => (upd_ne n).trans e
def sp__law_source (K : PySem.W.Frag) : Sp := fun vs H Q _ => ∃ (a : Addr) (ns : List Int), vs = [.ref a] ∧ SqL K H a (ns.map V.int) ∧ ns.length ≤ 63 ∧ ∀ H' s c, Same H H' → H s = none → SrcAt H' s c → Q (.ref s) H'
def sp__law_draw (_ : PySem.W.Frag) : Sp := fun vs H Q _ => ∃ (s c : Addr) (n : Int), vs = [.ref s, .int n] ∧ 0 < n ∧ n < 1073741824 ∧ SrcAt H s c ∧ ∀ H' r, But s H H' → SrcAt H' s c → 0 ≤ r → r < n → Q (.int r) H'
theorem ok__law_source {f : Addr} {C : Addr} {fd : FuncData} (T : Txt K mg C) (F : Fun K "_law_source" "_law_source" s__law_source f fd)  : FnOk P w K mg base CX0 1 f fd ["_law_script"] (sp__law_source K) := by
  have nd := sc__law_source.nd
  refine F.ok sc__law_source (fun vs H Q E h => ?_) (fun cdv A outer s H vs Q E hr h => ?_)
  · obtain ⟨a, ns, rfl, _⟩ := h
    rfl
  · obtain ⟨a, ns, rfl, ha, ln, q⟩ := h
    refine ⟨_, (pss_one (ps_ret (pe_lst (pa_cons (pe_op op_cat (pe_lc (own := [("_law_cell", 1)]) (g := gName 1) (tt := tYes) rfl nd (pi_list (pe_slice sl_list (pv 0) po_none (po_some pe_int))) (blkOk_by (N := ["_law_script", "_law_cell"]) (sc := defScope s__law_source) (by decide +kernel)) (fun _ _ _ _ _ => (pg_name (i := 1) nd rfl (.inl rfl))) (fun _ _ _ _ _ => pts_nil) (fun _ _ _ _ _ => (pe_callTy call_int1 (by rfl) T.m_int (by decide +kernel) (pa_cons (pv 1) pa_nil)))) (pe_lst (pa_cons pe_int pa_nil))) (pa_cons pe_int (pa_cons pe_int (pa_cons pe_int pa_nil))))))), ?_⟩
    refine ⟨.ref a, rfl, 63, rfl, a, ns.map V.int, rfl, ha, fun l nl => ?_⟩
    have ec : cutV (ns.map V.int) none (some (63 : Int)) = ns.map V.int := by
      rw [show (some (63 : Int)) = some ((63 : Nat) : Int) from rfl, cut_to, List.take_of_length_le (by rw [List.length_map]; omega)]
    rw [ec]
    have sl := same_upd (o := .lst (ns.map V.int)) nl
    have el : (upd H l (.lst (ns.map V.int))) l = some (.lst (ns.map V.int)) := upd_same
    generalize upd H l (.lst (ns.map V.int)) = H1 at sl el ⊢
    refine ⟨l, rfl, ⟨_, .inl (.inl el)⟩, fun LD nLD => ?_⟩
    refine lc_list (K := K) (xs := ns.map V.int) (fun i G => Same H1 G ∧ G LD = some (.lst ((ns.take i).map V.int))) ⟨same_upd nLD, upd_same⟩ (fun i G _ hP => .inl (.inl (hP.1 _ _ el))) (fun i x G hx hP => ?_) (fun G hP => ?_)
    · obtain ⟨S, eD⟩ := hP
      rw [List.getElem?_map] at hx
      cases gx : ns[i]? with
      | none => rw [gx] at hx; cases hx
      | some u =>
      rw [gx] at hx
      cases hx
      have hi : i < ns.length := (List.getElem?_eq_some_iff.mp gx).1
      refine ⟨rfl, ?_⟩
      unfold tYes
      refine iteT ⟨.int u, rfl, .inl ⟨u, rfl, _, eD, small (by rw [List.length_map, List.length_take]; omega), same_set nLD S, ?_⟩⟩
      rw [upd_same, take_more gx, List.map_append]; rfl
    · obtain ⟨S, eD⟩ := hP
      rw [List.length_map, List.take_length] at eD
      refine ⟨szl rfl, fun t3 n3 => ?_⟩
      have s3 := same_upd (o := .lst [V.int 0]) n3
      refine ⟨LD, t3, _, [V.int 0], rfl, rfl, s3 _ _ eD, upd_same, smallE (by rw [List.length_map]; show ns.length + 1 ≤ 100000; omega), fun t4 n4 => ?_⟩
      have s4 := s3.trans (same_upd (o := .lst (ns.map V.int ++ [V.int 0])) n4)
      have e4 : (upd (upd G t3 (.lst [V.int 0])) t4 (.lst (ns.map V.int ++ [V.int 0]))) t4 = some (.lst ((ns ++ [0]).map V.int)) := by rw [upd_same, List.map_append]; rfl
      generalize upd (upd G t3 (.lst [V.int 0])) t4 (.lst (ns.map V.int ++ [V.int 0])) = G4 at s4 e4 ⊢
      refine ⟨szl rfl, fun s ns_ => ?_⟩
      have s5 := same_upd (o := .lst [.ref t4, .int 0, .int 0, .int 0]) ns_
      have S5 := sl.trans (S.trans (s4.trans s5))
      refine q _ s t4 S5 ((sl.trans (S.trans s4)).free ns_) ⟨ns ++ [0], 0, 0, 0, upd_same, s5 _ _ e4, Int.le_refl _, ?_, ?_, Int.le_refl _⟩
      · rw [List.length_append]; exact Int.lt_of_lt_of_le (show (0 : Int) < 1 by decide) (by show (1 : Int) ≤ ((ns.length + 1 : Nat) : Int); omega)
      · rw [List.length_append]; show ns.length + 1 ≤ 64; omega
theorem ok__law_draw {f : Addr} {C : Addr} {fd : FuncData} (T : Txt K mg C) (F : Fun K "_law_draw" "_law_draw" s__law_draw f fd)  : FnOk P w K mg base CX0 1 f fd ["_law_source_here", "_law_many"] (sp__law_draw K) := by
  have nd := sc__law_draw.nd
  refine F.ok sc__law_draw (fun vs H Q E h => ?_) (fun cdv A outer s H vs Q E hr h => ?_)
  · obtain ⟨a, c, n, rfl, _⟩ := h
    rfl
  · obtain ⟨a, c, n, rfl, n0, n1, ⟨ns, i, j, k, o⟩, q⟩ := h
    refine ⟨_, (pss_cons (ps_augS (pv 0) pe_int KnL.get_list pe_int ip_add set_list)
      (pss_cons (ps_if (pt_cmpR op_gt (pe_ix (r := rIxL K) ix_list (pv 0) pe_int (fun _ _ => rfl)) pe_int (nomark _)) (pss_cons (ps_set (i := 2) nd rfl (.inl rfl) (pe_op op_mod (pe_callTy call_int1 (by rfl) T.m_int (by decide +kernel) (pa_cons (pe_ix (r := rIxL K) ix_list (pv 0) pe_int (fun _ _ => rfl)) pa_nil)) (pv 1)))
      (pss_cons (ps_asg (pe_op op_fdiv (pe_ix (r := rIxL K) ix_list (pv 0) pe_int (fun _ _ => rfl)) (pv 1)) (pg_sub (pv 0) pe_int set_list))
      (pss_one (ps_ret (pv 2))))) pss_nil)
      (pss_cons (ps_set (i := 3) nd rfl (.inl rfl) (pe_callTy call_int1 (by rfl) T.m_int (by decide +kernel) (pa_cons (pe_ix (r := rIxL K) ix_list (pe_ix (r := rIxL K) ix_list (pv 0) pe_int (fun _ _ => rfl)) (pe_ix (r := rIxL K) ix_list (pv 0) pe_int (fun _ _ => rfl)) (fun _ _ => rfl)) pa_nil)))
      (pss_cons (ps_asg (pe_op op_mod (pe_callTy call_int1 (by rfl) T.m_int (by decide +kernel) (pa_cons (pe_op op_add (pe_ix (r := rIxL K) ix_list (pv 0) pe_int (fun _ _ => rfl)) pe_int) pa_nil)) (pe_callB call_len (by rfl) T.m_len (by decide +kernel) (pa_cons (pe_ix (r := rIxL K) ix_list (pv 0) pe_int (fun _ _ => rfl)) pa_nil))) (pg_sub (pv 0) pe_int set_list))
      (pss_cons (ps_if (pt_cmpR op_ge (pv 3) (pe_op op_pow pe_int pe_int) (nomark _)) (pss_cons (ps_asg (pe_op op_fdiv (pv 3) (pv 1)) (pg_sub (pv 0) pe_int set_list))
      (pss_one (ps_ret (pe_op op_mod (pe_callTy call_int1 (by rfl) T.m_int (by decide +kernel) (pa_cons (pv 3) pa_nil)) (pv 1))))) pss_nil)
      (pss_cons (ps_set (i := 4) nd rfl (.inl rfl) (pe_op op_mod (pe_callTy call_int1 (by rfl) T.m_int (by decide +kernel) (pa_cons (pe_op op_mul (pe_op op_add (pe_op op_add (pv 3) (pe_op op_mul pe_int (pe_ix (r := rIxL K) ix_list (pv 0) pe_int (fun _ _ => rfl)))) pe_int) pe_int) pa_nil)) pe_int))
      (pss_cons (ps_set (i := 4) nd rfl (.inl rfl) (pe_op op_mod (pe_callTy call_int1 (by rfl) T.m_int (by decide +kernel) (pa_cons (pe_op op_mul (pv 4) (pe_op op_add (pe_op op_fdiv (pv 4) pe_int) pe_int)) pa_nil)) pe_int))
      (pss_cons (ps_set (i := 4) nd rfl (.inl rfl) (pe_op op_mod (pe_callTy call_int1 (by rfl) T.m_int (by decide +kernel) (pa_cons (pe_op op_mul (pv 4) (pe_op op_add (pe_op op_fdiv (pv 4) pe_int) pe_int)) pa_nil)) pe_int))
      (pss_one (ps_ret (pe_op op_mod (pe_callTy call_int1 (by rfl) T.m_int (by decide +kernel) (pa_cons (pe_op op_fdiv (pv 4) pe_int) pa_nil)) (pv 1)))))))))))), ?_⟩
    refine ⟨.ref a, rfl, a, _, 3, .int k, rfl, rfl, .inl (.inl o.at_), atI_nat (j := 3) rfl, k, 1, rfl, rfl, a, _, 3, 3, rfl, rfl, o.at_, rfl, ?_⟩
    have o1 := o.put (i' := i) (j' := j) (k' := k + 1) o.lo o.hi o.j0
    have b1 : But a H (upd H a (.lst [.ref c, .int i, .int j, .int (k + 1)])) := But.put
    show Ends.nx _ _ (upd H a (.lst [.ref c, .int i, .int j, .int (k + 1)]))
    generalize upd H a (.lst [.ref c, .int i, .int j, .int (k + 1)]) = G1 at o1 b1 ⊢
    refine ⟨.ref a, rfl, a, _, 2, .int j, rfl, rfl, .inl (.inl o1.at_), atI_nat (j := 2) rfl, j, 0, rfl, rfl, _, rfl, ite2 (fun c0 => ?_) (fun c0 => ?_)⟩
    · refine ⟨.ref a, rfl, a, _, 2, .int j, rfl, rfl, .inl (.inl o1.at_), atI_nat (j := 2) rfl, .inl ⟨j, rfl, .int n, rfl, j, n, rfl, rfl, n0, ?_⟩⟩
      refine ⟨.ref a, rfl, a, _, 2, .int j, rfl, rfl, .inl (.inl o1.at_), atI_nat (j := 2) rfl, .int n, rfl, j, n, rfl, rfl, ⟨n0, n1⟩, .ref a, rfl, a, _, 2, 2, rfl, rfl, o1.at_, rfl, ?_⟩
      have o2 := o1.put (i' := i) (j' := j / n) (k' := k + 1) o1.lo o1.hi (Int.ediv_nonneg o1.j0 (by omega))
      exact ⟨.int (j % n), rfl, q _ (j % n) (b1.trans But.put) ⟨_, _, _, _, o2⟩ (Int.emod_nonneg _ (by omega)) (Int.emod_lt_of_pos _ n0)⟩
    · obtain ⟨ii, rfl⟩ : ∃ m : Nat, i = (m : Int) := ⟨i.toNat, by have := o.lo; omega⟩
      have hi := o.hi
      have l64 := o.l
      have hii : ii < ns.length := by omega
      obtain ⟨x, gx⟩ : ∃ x, ns[ii]? = some x := ⟨_, List.getElem?_eq_getElem hii⟩
      have gx' : (ns.map V.int)[ii]? = some (.int x) := by rw [List.getElem?_map, gx]; rfl
      have lp : (0 : Int) < (ns.length : Int) := by omega
      refine ⟨.ref a, rfl, a, _, 0, .ref c, rfl, rfl, .inl (.inl o1.at_), atI_nat (j := 0) rfl, .ref a, rfl, a, _, 1, .int (ii : Int), rfl, rfl, .inl (.inl o1.at_), atI_nat (j := 1) rfl, c, ns.map V.int, (ii : Int), .int x, rfl, rfl, .inl (.inl o1.cs), atI_nat gx', .inl ⟨x, rfl, ?_⟩⟩
      refine ⟨.ref a, rfl, a, _, 1, .int (ii : Int), rfl, rfl, .inl (.inl o1.at_), atI_nat (j := 1) rfl, (ii : Int), 1, rfl, rfl, .inl ⟨_, rfl, .ref a, rfl, a, _, 0, .ref c, rfl, rfl, .inl (.inl o1.at_), atI_nat (j := 0) rfl, .ref c, ns.length, rfl, .inl ⟨_, .inl (.inl o1.cs), (List.length_map _).symm⟩, _, (ns.length : Int), rfl, rfl, lp, .ref a, rfl, a, _, 1, 1, rfl, rfl, o1.at_, rfl, ?_⟩⟩
      have o2 := o1.put (i' := ((ii : Int) + 1) % (ns.length : Int)) (j' := j) (k' := k + 1) (Int.emod_nonneg _ (by omega)) (Int.emod_lt_of_pos _ lp) o1.j0
      have b2 : But a H (upd G1 a (.lst [.ref c, .int (((ii : Int) + 1) % (ns.length : Int)), .int j, .int (k + 1)])) := b1.trans But.put
      show Ends.nx _ _ (upd G1 a (.lst [.ref c, .int (((ii : Int) + 1) % (ns.length : Int)), .int j, .int (k + 1)]))
      generalize upd G1 a (.lst [.ref c, .int (((ii : Int) + 1) % (ns.length : Int)), .int j, .int (k + 1)]) = G2 at o2 b2 ⊢
      refine ⟨.int x, rfl, 10, 18, rfl, rfl, ⟨by decide, by decide, by decide⟩, _, _, rfl, rfl, _, rfl, ite2 (fun c1 => ?_) (fun c1 => ?_)⟩
      · have c1 := of_decide_eq_true c1
        have x0 : 0 ≤ x := Int.le_trans (by decide) c1
        refine ⟨.int x, rfl, .int n, rfl, x, n, rfl, rfl, ⟨n0, n1⟩, .ref a, rfl, a, _, 2, 2, rfl, rfl, o2.at_, rfl, ?_⟩
        have o3 := o2.put (i' := ((ii : Int) + 1) % (ns.length : Int)) (j' := x / n) (k' := k + 1) o2.lo o2.hi (Int.ediv_nonneg x0 (by omega))
        exact ⟨.int x, rfl, .inl ⟨x, rfl, .int n, rfl, x, n, rfl, rfl, n0, q _ (x % n) (b2.trans But.put) ⟨_, _, _, _, o3⟩ (Int.emod_nonneg _ (by omega)) (Int.emod_lt_of_pos _ n0)⟩⟩
      · refine ⟨.int x, rfl, .ref a, rfl, a, _, 3, .int (k + 1), rfl, rfl, .inl (.inl o2.at_), atI_nat (j := 3) rfl, 7919, k + 1, rfl, rfl, .inl ⟨by decide, by decide⟩, x, _, rfl, rfl, _, 1, rfl, rfl, _, 48271, rfl, rfl, .inr ⟨by decide, by decide⟩, .inl ⟨_, rfl, _, 2147483647, rfl, rfl, (show (0 : Int) < 2147483647 by decide), ?_⟩⟩
        have m1 : ∀ y : Int, 0 ≤ y % 2147483647 ∧ y % 2147483647 < 2147483647 := fun y => ⟨Int.emod_nonneg _ (by decide), Int.emod_lt_of_pos _ (by decide)⟩
        obtain ⟨y1, y2⟩ := m1 ((x + 7919 * (k + 1) + 1) * 48271)
        obtain ⟨y, hy⟩ : ∃ y, ((x + 7919 * (k + 1) + 1) * 48271) % 2147483647 = y := ⟨_, rfl⟩
        rw [hy] at y1 y2
        have ey := congrArg (fun t => some (some (V.int t))) hy
        refine ⟨.int y, ey, .int y, ey, y, 1009, rfl, rfl, ⟨by decide, by decide⟩, y / 1009, 69621, rfl, rfl, y, _, rfl, rfl, .inl ⟨by omega, by omega⟩, .inl ⟨_, rfl, _, 2147483647, rfl, rfl, (show (0 : Int) < 2147483647 by decide), ?_⟩⟩
        obtain ⟨z1, z2⟩ := m1 (y * (y / 1009 + 69621))
        obtain ⟨z, hz⟩ : ∃ z, (y * (y / 1009 + 69621)) % 2147483647 = z := ⟨_, rfl⟩
        rw [hz] at z1 z2
        have ez := congrArg (fun t => some (some (V.int t))) hz
        refine ⟨.int z, ez, .int z, ez, z, 2003, rfl, rfl, ⟨by decide, by decide⟩, z / 2003, 40692, rfl, rfl, z, _, rfl, rfl, .inl ⟨by omega, by omega⟩, .inl ⟨_, rfl, _, 2147483399, rfl, rfl, (show (0 : Int) < 2147483399 by decide), ?_⟩⟩
        obtain ⟨u, hu⟩ : ∃ u, (z * (z / 2003 + 40692)) % 2147483399 = u := ⟨_, rfl⟩
        have eu := congrArg (fun t => some (some (V.int t))) hu
        exact ⟨.int u, eu, u, 3, rfl, rfl, ⟨by decide, by decide⟩, .inl ⟨_, rfl, .int n, rfl, u / 3, n, rfl, rfl, n0, q _ (u / 3 % n) b2 ⟨_, _, _, _, o2⟩ (Int.emod_nonneg _ (by omega)) (Int.emod_lt_of_pos _ n0)⟩⟩

/-! ### names, states, a step -/
def abc : Str := "abcdefghijklmnopqrstuvwxyz"
theorem abc_in : ∀ c ∈ abc.cps.toList, inL c = true := by decide +kernel
theorem cutS_mem {z : Str} {lo hi : Option Int} {c : Nat} (h : c ∈ (cutS z lo hi).cps.toList) : c ∈ z.cps.toList := by
  have h' : c ∈ (z.cps.toList.drop (HT.sIx z.length 0 lo)).take (HT.sIx z.length z.length hi - HT.sIx z.length 0 lo) := h
  exact List.mem_of_mem_drop (List.mem_of_mem_take h')
theorem join_size : ∀ {ys : List Str}, (∀ y ∈ ys, y.cps.size = 1) → (Txt.join "" ys).cps.size = ys.length := by
  intro ys
  rw [TL.join_eq]
  induction ys with
  | nil => intro _; rfl
  | cons x r ih =>
    intro h
    cases r with
    | nil => exact h x List.mem_cons_self
    | cons z r =>
      have h1 := h x List.mem_cons_self
      have h2 := ih fun y hy => h y (List.mem_cons_of_mem _ hy)
      have e : (Str.join "" (x :: z :: r)).cps.size = x.cps.size + 0 + (Str.join "" (z :: r)).cps.size := by
        show ((x.cps ++ #[]) ++ (Str.join "" (z :: r)).cps).size = _
        rw [Array.size_append, Array.size_append]; rfl
      rw [e, List.length_cons]
      omega
theorem join_mem {p : Nat → Prop} : ∀ {ys : List Str}, (∀ y ∈ ys, ∀ c ∈ y.cps.toList, p c) → ∀ c ∈ (Txt.join "" ys).cps.toList, p c := by
  intro ys
  rw [TL.join_eq]
  induction ys with
  | nil => intro _ c hc; exact absurd hc (by decide +revert)
  | cons x r ih =>
    intro h c hc
    cases r with
    | nil => exact h x List.mem_cons_self c hc
    | cons z r =>
      have h2 := ih fun y hy => h y (List.mem_cons_of_mem _ hy)
      have hc' : c ∈ ((x.cps ++ #[]) ++ (Str.join "" (z :: r)).cps).toList := hc
      rw [Array.toList_append, Array.toList_append, List.mem_append, List.mem_append] at hc'
      rcases hc' with (hc' | hc') | hc'
      · exact h x List.mem_cons_self c hc'
      · exact absurd hc' (by simp)
      · exact h2 c hc'
theorem join_sum {zs : List Str} (h : ∀ y ∈ zs, y.cps.size = 1) : (zs.map (·.length)).sum + zs.length * ("" : Str).length = zs.length := by
  have z0 : ("" : Str).length = 0 := rfl
  rw [z0, Nat.mul_zero, Nat.add_zero]
  induction zs with
  | nil => rfl
  | cons x r ih =>
    rw [List.map_cons, List.sum_cons, ih fun y hy => h y (List.mem_cons_of_mem _ hy), List.length_cons]
    have : x.length = 1 := h x List.mem_cons_self
    omega
theorem name_of {z : Str} (h1 : 1 ≤ z.cps.size) (h2 : z.cps.size ≤ 12) (h3 : ∀ c ∈ z.cps.toList, inL c = true) : nameB (.str z) = true := by
  rw [nameB_in h1 h2]
  exact List.all_eq_true.mpr h3
def sp__law_name (_ : PySem.W.Frag) : Sp := fun vs H Q _ => ∃ s c : Addr, vs = [.ref s] ∧ SrcAt H s c ∧ ∀ H' z, But s H H' → SrcAt H' s c → nameB (.str z) = true → Q (.str z) H'
theorem ok__law_name {f : Addr} {C : Addr} {fd : FuncData} (T : Txt K mg C) (F : Fun K "_law_name" "_law_name" s__law_name f fd) (c__law_draw : Cal P w K mg base 1 "_law_draw" (sp__law_draw K) []) : FnOk P w K mg base CX0 2 f fd ["_law_source_here"] (sp__law_name K) := by
  have nd := sc__law_name.nd
  refine F.ok sc__law_name (fun vs H Q E h => ?_) (fun cdv A outer s H vs Q E hr h => ?_)
  · obtain ⟨a, c, rfl, _⟩ := h
    rfl
  · obtain ⟨a, c, rfl, src, q⟩ := h
    refine ⟨_, (pss_cons (ps_set (i := 1) nd rfl (.inl rfl) (pe_ix (r := rIxL K) ix_list (pe_lst (pa_cons pe_int (pa_cons pe_int (pa_cons pe_int (pa_cons pe_int (pa_cons pe_int pa_nil)))))) (pe_c c__law_draw hr (by omega) (by rfl) (pa_cons (pv 0) (pa_cons pe_int pa_nil))) (fun _ _ => rfl)))
      (pss_cons (ps_setLc (i := 2) (own := [("_law_k", 3)]) (g := gName 3) (tt := tYes) rfl nd rfl rfl (sw_true rfl rfl rfl (by decide +kernel)) (pi_range1 (by rfl) T.m_range (pa_cons (pv 1) pa_nil)) (blkOk_by (N := ["_law_source_here", "_law_size", "_law_letters", "_law_k"]) (sc := defScope s__law_name) (by decide +kernel)) (fun _ _ _ _ _ => (pg_name (i := 3) nd rfl (.inl rfl))) (fun _ _ _ _ _ => pts_nil) (fun _ _ _ _ _ => (pe_c c__law_draw hr (by omega) (by rfl) (pa_cons (pv 0) (pa_cons pe_int pa_nil)))))
      (pss_one (ps_ret (pe_join pe_str (pe_lc (own := [("_law_k", 3)]) (g := gName 3) (tt := tYes) rfl nd (pi_list (pv 2)) (blkOk_by (N := ["_law_source_here", "_law_size", "_law_letters", "_law_k"]) (sc := defScope s__law_name) (by decide +kernel)) (fun _ _ _ _ _ => (pg_name (i := 3) nd rfl (.inl rfl))) (fun _ _ _ _ _ => pts_nil) (fun _ _ _ _ _ => (pe_ix ix_str pe_str (pv 3) (fun _ _ => rfl))))))))), ?_⟩
    refine ⟨szl rfl, fun p1 n1 => ?_⟩
    have s1 := same_upd (o := .lst [.int 1, .int 2, .int 3, .int 1, .int 12]) n1
    have e1 : (upd H p1 (.lst [V.int 1, .int 2, .int 3, .int 1, .int 12])) p1 = some (.lst [.int 1, .int 2, .int 3, .int 1, .int 12]) := upd_same
    have src1 := src.mono s1
    have n1a := src.ne n1
    have b1 := Same.but (s := a) s1
    generalize upd H p1 (.lst [V.int 1, .int 2, .int 3, .int 1, .int 12]) = H1 at s1 e1 src1 b1 ⊢
    refine ⟨.ref a, rfl, a, c, 5, rfl, by decide, by decide, src1, fun H2 r b2 src2 l0 u0 => ?_⟩
    have e2 := b2 _ _ e1 n1a
    obtain ⟨m, hm, m1, m12⟩ : ∃ m : Nat, atI [V.int 1, .int 2, .int 3, .int 1, .int 12] r = some (.int (m : Int)) ∧ 1 ≤ m ∧ m ≤ 12 := by
      obtain ⟨j, rfl⟩ : ∃ j : Nat, r = (j : Int) := ⟨r.toNat, by omega⟩
      match j, u0 with
      | 0, _ => exact ⟨1, atI_nat (j := 0) rfl, by decide, by decide⟩
      | 1, _ => exact ⟨2, atI_nat (j := 1) rfl, by decide, by decide⟩
      | 2, _ => exact ⟨3, atI_nat (j := 2) rfl, by decide, by decide⟩
      | 3, _ => exact ⟨1, atI_nat (j := 3) rfl, by decide, by decide⟩
      | 4, _ => exact ⟨12, atI_nat (j := 4) rfl, by decide, by decide⟩
      | j + 5, h => omega
    refine ⟨p1, _, r, .int (m : Int), rfl, rfl, .inl (.inl e2), hm, ?_⟩
    have B2 := b1.trans b2
    refine ⟨.int (m : Int), rfl, (m : Int), rfl, by omega, by omega, fun LD nLD => ?_⟩
    rw [Int.toNat_natCast]
    have nLa := src2.ne nLD
    have nLc := src2.nec nLD
    refine lc_range (lo := 0) (n := m) (fun i G => But a H2 G ∧ SrcAt G a c ∧ ∃ ks : List Int, G LD = some (.lst (ks.map V.int)) ∧ ks.length = i ∧ ∀ x ∈ ks, 0 ≤ x ∧ x < 26) ⟨But.set nLD But.refl, src2.set nLa nLc, [], upd_same, rfl, fun x hx => nomatch hx⟩ (fun i G hi hP => ?_) (fun G hP => ?_)
    · obtain ⟨b, sG, ks, eD, lk, hk⟩ := hP
      refine ⟨rfl, ?_⟩
      unfold tYes
      refine iteT ⟨.ref a, rfl, a, c, 26, rfl, by decide, by decide, sG, fun G2 r2 b3 sG2 l2 u2 => ?_⟩
      refine ⟨_, b3 _ _ eD nLa, small (by rw [List.length_map]; omega), But.set nLD (b.trans b3), sG2.set nLa nLc, ks ++ [r2], by rw [upd_same, List.map_append]; rfl, by rw [List.length_append, lk]; rfl, fun x hx => ?_⟩
      rcases List.mem_append.mp hx with hx | hx
      · exact hk x hx
      · rw [List.mem_singleton.mp hx]; exact ⟨l2, u2⟩
    · obtain ⟨b, sG, ks, eD, lk, hk⟩ := hP
      have B3 := B2.trans b
      refine ⟨⟨"", rfl⟩, .ref LD, rfl, LD, rfl, ⟨_, .inl (.inl eD)⟩, fun D nD => lc_list (K := K) (a := LD) (xs := ks.map V.int) (fun i G' => Same G G' ∧ ∃ ys : List Str, G' D = some (.lst (ys.map V.str)) ∧ ys.length = i ∧ (∀ y ∈ ys, y.cps.size = 1) ∧ ∀ y ∈ ys, ∀ c ∈ y.cps.toList, inL c = true)
        ⟨same_upd nD, [], upd_same, rfl, (fun y hy => nomatch hy), fun y hy => nomatch hy⟩ (fun i G' _ hP => hP.1.seq (.inl (.inl eD))) (fun i x G' hx hP => ?_) (fun G' hP => ?_)⟩
      · obtain ⟨sm', ys, eY, hl, h1, h2⟩ := hP
        rw [List.getElem?_map] at hx
        cases gx : ks[i]? with
        | none => rw [gx] at hx; cases hx
        | some r =>
        rw [gx] at hx
        cases hx
        obtain ⟨l, u⟩ := hk r (List.mem_of_getElem? gx)
        have hi : i < ks.length := (List.getElem?_eq_some_iff.mp gx).1
        obtain ⟨j, rfl⟩ : ∃ j : Nat, r = (j : Int) := ⟨r.toNat, by omega⟩
        have hj : j < abc.cps.toList.length := by
          have : abc.cps.toList.length = 26 := by decide
          omega
        refine ⟨rfl, ?_⟩
        unfold tYes
        refine iteT ?_
        refine ⟨.int j, rfl, abc, (j : Int), abc.cps.toList[j], rfl, rfl, smallE (by decide), atI_nat (List.getElem?_eq_getElem hj), ys.map V.str, eY, ?_, same_set nD sm', ys ++ [⟨#[abc.cps.toList[j]]⟩], ?_, ?_, ?_, ?_⟩
        · rw [List.length_map]; exact small (by omega)
        · rw [upd_same, List.map_append]; rfl
        · rw [List.length_append, hl]; rfl
        · intro y hy
          rcases List.mem_append.mp hy with hy | hy
          · exact h1 y hy
          · rw [List.mem_singleton.mp hy]; rfl
        · intro y hy c hc
          rcases List.mem_append.mp hy with hy | hy
          · exact h2 y hy c hc
          · rw [List.mem_singleton.mp hy] at hc
            rw [List.mem_singleton.mp (show c ∈ [abc.cps.toList[j]] from hc)]
            exact abc_in _ (List.getElem_mem hj)
      · obtain ⟨sm', ys, eY, hl, h1, h2⟩ := hP
        rw [List.length_map] at hl
        have hz1 := join_size h1
        have hin := join_mem h2
        have hs : (ys.map (·.length)).sum + ys.length * ("" : Str).length ≤ 16777216 := by rw [join_sum h1]; omega
        refine ⟨"", D, ys, rfl, rfl, .inl (.inl (.inl eY)), hs, ?_⟩
        exact q _ _ (B3.trans (Same.but sm')) (sG.mono sm') (name_of (by omega) (by omega) hin)

theorem inV_ints {x : Int} {ws : List Int} : inV (.int x) (ws.map V.int) = decide (x ∈ ws) := by
  unfold inV
  induction ws with
  | nil => rfl
  | cons y r ih =>
    rw [List.map_cons, List.any_cons, ih]
    have e : eqV (.int y) (.int x) = decide (y = x) := by
      show (y == x) = decide (y = x)
      by_cases z : y = x
      · rw [z]; simp
      · rw [decide_eq_false z]; exact beq_eq_false_iff_ne.mpr z
    rw [e]
    by_cases z : y = x
    · subst z; simp
    · have z' : ¬ x = y := fun q => z q.symm
      simp [z, z']
theorem flat_is (ws : List Int) : (ws.map V.int).all flatV = true := by
  rw [List.all_map]
  exact List.all_eq_true.mpr fun _ _ => rfl
theorem nodup_snoc {α : Type} {l : List α} {x : α} (n : l.Nodup) (h : x ∉ l) : (l ++ [x]).Nodup :=
  List.nodup_append.mpr ⟨n, by simp, fun a ha b hb e => h (by rw [List.mem_singleton] at hb; exact hb ▸ e ▸ ha)⟩
def sp__law_names (_ : PySem.W.Frag) : Sp := fun vs H Q _ => ∃ (s c : Addr) (m : Nat), vs = [.ref s, .int (m : Int)] ∧ 1 ≤ m ∧ m ≤ 1000 ∧ SrcAt H s c ∧ ∀ H' l (zs : List Str), But s H H' → SrcAt H' s c → H l = none → H' l = some (.lst (zs.map V.str)) → zs.Nodup → (∀ z ∈ zs, nameB (.str z) = true) → 1 ≤ zs.length → zs.length ≤ m → Q (.ref l) H'
theorem ok__law_names {f : Addr} {C : Addr} {fd : FuncData} (T : Txt K mg C) (F : Fun K "_law_names" "_law_names" s__law_names f fd) (c__law_name : Cal P w K mg base 2 "_law_name" (sp__law_name K) []) : FnOk P w K mg base CX0 3 f fd ["_law_source_here", "_law_many"] (sp__law_names K) := by
  have nd := sc__law_names.nd
  refine F.ok sc__law_names (fun vs H Q E h => ?_) (fun cdv A outer s H vs Q E hr h => ?_)
  · obtain ⟨a, c, m, rfl, _⟩ := h
    rfl
  · obtain ⟨a, c, m, rfl, m1, m2, src, q⟩ := h
    refine ⟨_, (pss_cons (ps_set (i := 2) nd rfl (.inl rfl) (pe_lst pa_nil))
      (pss_cons (ps_for PassesOwn.never rfl (pi_range1 (by rfl) T.m_range (pa_cons (pv 1) pa_nil)) (pg_name (i := 3) nd rfl (.inl rfl)) (pss_cons (ps_set (i := 4) nd rfl (.inl rfl) (pe_c c__law_name hr (by omega) (by rfl) (pa_cons (pv 0) pa_nil)))
      (pss_one (ps_if (pt_cmpR op_notIn_seq (pv 4) (pv 2) (by with_unfolding_all rfl)) (pss_one (ps_expr (pe_bm PySem.F.plainAttrs_list PySem.F.slot_list_append PySem.F.type_list_append mt_append (pv 2) (pa_cons (pv 4) pa_nil)))) pss_nil))))
      (pss_one (ps_ret (pv 2))))), ?_⟩
    refine ⟨szl rfl, fun l nl => ?_⟩
    have nla := src.ne nl
    have nlc := src.nec nl
    refine ⟨.int (m : Int), rfl, (m : Int), rfl, by omega, by omega, ?_⟩
    rw [Int.toNat_natCast]
    refine for_range (lo := 0) (n := m) (fun i σ G => ∃ (y3 y4 : Option V) (zs : List Str), σ = [some (.ref a), some (.int (m : Int)), some (.ref l), y3, y4] ∧ But a H G ∧ SrcAt G a c ∧ G l = some (.lst (zs.map V.str)) ∧ zs.Nodup ∧ (∀ z ∈ zs, nameB (.str z) = true) ∧ zs.length ≤ i ∧ (1 ≤ i → 1 ≤ zs.length))
      ⟨none, none, [], rfl, But.set nl But.refl, src.set nla nlc, upd_same, List.nodup_nil, (fun z hz => nomatch hz), Nat.le_refl _, fun h => by omega⟩ (fun i σ G hi hP => ?_) (fun σ G hP => ?_)
    · obtain ⟨y3, y4, zs, rfl, b, sG, el, nz, hz, lz, l1⟩ := hP
      refine ⟨.ref a, rfl, a, c, rfl, sG, fun G2 z b2 sG2 nmz => ?_⟩
      have el2 := b2 _ _ el nla
      refine ⟨.str z, rfl, .ref l, rfl, l, zs.map V.str, rfl, .inl (.inl (.inl el2)), rfl, flat_ws _, _, rfl, ?_⟩
      show if (!inV (.str z) (zs.map V.str)) = true then _ else _
      rw [inV_strs]
      by_cases hc : z ∈ zs
      · rw [decide_eq_true hc]
        exact iteF ⟨_, _, zs, rfl, b.trans b2, sG2, el2, nz, hz, by omega, fun _ => List.length_pos_of_mem hc⟩
      · rw [decide_eq_false hc]
        refine iteT ⟨.ref l, rfl, .inl ⟨rfl, _, .inl (.inl el2)⟩, .str z, rfl, l, _, .str z, rfl, rfl, el2, small (by rw [List.length_map]; omega), ?_⟩
        refine ⟨_, _, zs ++ [z], rfl, But.set nl (b.trans b2), sG2.set nla nlc, by rw [upd_same, List.map_append]; rfl, nodup_snoc nz hc, fun x hx => ?_, by rw [List.length_append]; exact Nat.succ_le_succ lz, fun _ => by rw [List.length_append]; exact Nat.le_add_left _ _⟩
        rcases List.mem_append.mp hx with hx | hx
        · exact hz x hx
        · rw [List.mem_singleton.mp hx]; exact nmz
    · obtain ⟨y3, y4, zs, rfl, b, sG, el, nz, hz, lz, l1⟩ := hP
      exact ⟨.ref l, rfl, q G l zs b sG nl el nz hz (l1 m1) lz⟩
def sp__law_states (_ : PySem.W.Frag) : Sp := fun vs H Q _ => ∃ (s c : Addr) (m : Int), vs = [.ref s, .int m] ∧ 1 ≤ m ∧ m ≤ 1000 ∧ SrcAt H s c ∧ ∀ H' l (xs : List Int), But s H H' → SrcAt H' s c → H l = none → H' l = some (.lst (xs.map V.int)) → xs.Nodup → (∀ x ∈ xs, 0 ≤ x ∧ x ≤ 99) → 1 ≤ xs.length → (xs.length : Int) ≤ m → Q (.ref l) H'
theorem ok__law_states {f : Addr} {C : Addr} {fd : FuncData} (T : Txt K mg C) (F : Fun K "_law_states" "_law_states" s__law_states f fd) (c__law_draw : Cal P w K mg base 1 "_law_draw" (sp__law_draw K) []) : FnOk P w K mg base CX0 2 f fd ["_law_source_here", "_law_most"] (sp__law_states K) := by
  have nd := sc__law_states.nd
  refine F.ok sc__law_states (fun vs H Q E h => ?_) (fun cdv A outer s H vs Q E hr h => ?_)
  · obtain ⟨a, c, m, rfl, _⟩ := h
    rfl
  · obtain ⟨a, c, m, rfl, m1, m2, src, q⟩ := h
    refine ⟨_, (pss_cons (ps_set (i := 2) nd rfl (.inl rfl) (pe_lst pa_nil))
      (pss_cons (ps_for PassesOwn.never rfl (pi_range1 (by rfl) T.m_range (pa_cons (pe_op op_add pe_int (pe_c c__law_draw hr (by omega) (by rfl) (pa_cons (pv 0) (pa_cons (pv 1) pa_nil)))) pa_nil)) (pg_name (i := 3) nd rfl (.inl rfl)) (pss_cons (ps_set (i := 4) nd rfl (.inl rfl) (pe_c c__law_draw hr (by omega) (by rfl) (pa_cons (pv 0) (pa_cons pe_int pa_nil))))
      (pss_one (ps_if (pt_cmpR op_notIn_seq (pv 4) (pv 2) (by with_unfolding_all rfl)) (pss_one (ps_expr (pe_bm PySem.F.plainAttrs_list PySem.F.slot_list_append PySem.F.type_list_append mt_append (pv 2) (pa_cons (pv 4) pa_nil)))) pss_nil))))
      (pss_one (ps_ret (pv 2))))), ?_⟩
    refine ⟨szl rfl, fun l nl => ?_⟩
    have nla := src.ne nl
    have nlc := src.nec nl
    refine ⟨.ref a, rfl, .int m, rfl, a, c, m, rfl, by omega, by omega, src.set nla nlc, fun G1 r b1 s1 l0 u0 => ?_⟩
    have el1 := b1 _ _ upd_same nla
    have B1 : But a H G1 := (But.set nl But.refl).trans b1
    obtain ⟨n, hn, n1, n2⟩ : ∃ n : Nat, 1 + r = (n : Int) ∧ 1 ≤ n ∧ (n : Int) ≤ m := ⟨(1 + r).toNat, by omega, by omega, by omega⟩
    refine ⟨1, r, rfl, rfl, 1 + r, rfl, by omega, by omega, ?_⟩
    rw [hn, Int.toNat_natCast]
    refine for_range (lo := 0) (n := n) (fun i σ G => ∃ (y3 y4 : Option V) (zs : List Int), σ = [some (.ref a), some (.int m), some (.ref l), y3, y4] ∧ But a H G ∧ SrcAt G a c ∧ G l = some (.lst (zs.map V.int)) ∧ zs.Nodup ∧ (∀ z ∈ zs, 0 ≤ z ∧ z ≤ 99) ∧ zs.length ≤ i ∧ (1 ≤ i → 1 ≤ zs.length))
      ⟨none, none, [], rfl, B1, s1, el1, List.nodup_nil, (fun z hz => nomatch hz), Nat.le_refl _, fun h => by omega⟩ (fun i σ G hi hP => ?_) (fun σ G hP => ?_)
    · obtain ⟨y3, y4, zs, rfl, b, sG, el, nz, hz, lz, l1⟩ := hP
      refine ⟨.ref a, rfl, a, c, 100, rfl, by decide, by decide, sG, fun G2 z b2 sG2 z0 z1 => ?_⟩
      have el2 := b2 _ _ el nla
      refine ⟨.int z, rfl, .ref l, rfl, l, zs.map V.int, rfl, .inl (.inl (.inl el2)), rfl, flat_is _, _, rfl, ?_⟩
      show if (!inV (.int z) (zs.map V.int)) = true then _ else _
      rw [inV_ints]
      by_cases hc : z ∈ zs
      · rw [decide_eq_true hc]
        exact iteF ⟨_, _, zs, rfl, b.trans b2, sG2, el2, nz, hz, by omega, fun _ => List.length_pos_of_mem hc⟩
      · rw [decide_eq_false hc]
        refine iteT ⟨.ref l, rfl, .inl ⟨rfl, _, .inl (.inl el2)⟩, .int z, rfl, l, _, .int z, rfl, rfl, el2, small (by rw [List.length_map]; omega), ?_⟩
        refine ⟨_, _, zs ++ [z], rfl, But.set nl (b.trans b2), sG2.set nla nlc, by rw [upd_same, List.map_append]; rfl, nodup_snoc nz hc, fun x hx => ?_, by rw [List.length_append]; exact Nat.succ_le_succ lz, fun _ => by rw [List.length_append]; exact Nat.le_add_left _ _⟩
        rcases List.mem_append.mp hx with hx | hx
        · exact hz x hx
        · rw [List.mem_singleton.mp hx]; exact ⟨z0, by omega⟩
    · obtain ⟨y3, y4, zs, rfl, b, sG, el, nz, hz, lz, l1⟩ := hP
      exact ⟨.ref l, rfl, q G l zs b sG nl el nz hz (l1 n1) (by omega)⟩
def sp__law_step (_ : PySem.W.Frag) : Sp := fun vs H Q _ => ∃ (s c ls lw : Addr) (st : Int) (xs : List Int) (zs : List Str), vs = [.ref s, .int st, .ref ls, .ref lw] ∧ SrcAt H s c ∧ H ls = some (.lst (xs.map V.int)) ∧ H lw = some (.lst (zs.map V.str)) ∧ 1 ≤ xs.length ∧ xs.length ≤ 1000 ∧ 1 ≤ zs.length ∧ zs.length ≤ 1000 ∧ ls ≠ s ∧ lw ≠ s ∧
  ∀ H' t w y, But s H H' → SrcAt H' s c → H t = none → H' t = some (tup3 (st, w, y)) → w ∈ zs → y ∈ xs → Q (.ref t) H'
theorem ok__law_step {f : Addr} {C : Addr} {fd : FuncData} (T : Txt K mg C) (F : Fun K "_law_step" "_law_step" s__law_step f fd) (c__law_draw : Cal P w K mg base 1 "_law_draw" (sp__law_draw K) []) : FnOk P w K mg base CX0 2 f fd ["_law_source_here", "_law_state", "_law_states_here", "_law_words"] (sp__law_step K) := by
  have nd := sc__law_step.nd
  refine F.ok sc__law_step (fun vs H Q E h => ?_) (fun cdv A outer s H vs Q E hr h => ?_)
  · obtain ⟨a, c, ls, lw, st, xs, zs, rfl, _⟩ := h
    rfl
  · obtain ⟨a, c, ls, lw, st, xs, zs, rfl, src, els, elw, x1, x2, z1, z2, nsa, nwa, q⟩ := h
    refine ⟨_, (pss_cons (ps_set (i := 4) nd rfl (.inl rfl) (pe_ix (r := rIxL K) ix_list (pv 3) (pe_c c__law_draw hr (by omega) (by rfl) (pa_cons (pv 0) (pa_cons (pe_callB call_len (by rfl) T.m_len (by decide +kernel) (pa_cons (pv 3) pa_nil)) pa_nil))) (fun _ _ => rfl)))
      (pss_one (ps_ret (pe_tup (pa_cons (pv 1) (pa_cons (pv 4) (pa_cons (pe_ix (r := rIxL K) ix_list (pv 2) (pe_c c__law_draw hr (by omega) (by rfl) (pa_cons (pv 0) (pa_cons (pe_callB call_len (by rfl) T.m_len (by decide +kernel) (pa_cons (pv 2) pa_nil)) pa_nil))) (fun _ _ => rfl)) pa_nil))))))), ?_⟩
    refine ⟨.ref lw, rfl, .ref a, rfl, .ref lw, rfl, .ref lw, zs.length, rfl, .inl ⟨_, .inl (.inl elw), (List.length_map _).symm⟩, a, c, (zs.length : Int), rfl, by omega, by omega, src, fun G1 r b1 s1 l0 u0 => ?_⟩
    have elw1 := b1 _ _ elw nwa
    have els1 := b1 _ _ els nsa
    obtain ⟨j, rfl⟩ : ∃ j : Nat, r = (j : Int) := ⟨r.toNat, by omega⟩
    have hj : j < zs.length := by omega
    refine ⟨lw, zs.map V.str, (j : Int), .str zs[j], rfl, rfl, .inl (.inl elw1), atI_nat (by rw [List.getElem?_map, List.getElem?_eq_getElem hj]; rfl), ?_⟩
    refine ⟨.int st, rfl, .str zs[j], rfl, .ref ls, rfl, .ref a, rfl, .ref ls, rfl, .ref ls, xs.length, rfl, .inl ⟨_, .inl (.inl els1), (List.length_map _).symm⟩, a, c, (xs.length : Int), rfl, by omega, by omega, s1, fun G2 r2 b2 s2 l2 u2 => ?_⟩
    have els2 := b2 _ _ els1 nsa
    obtain ⟨i, rfl⟩ : ∃ i : Nat, r2 = (i : Int) := ⟨r2.toNat, by omega⟩
    have hi : i < xs.length := by omega
    refine ⟨ls, xs.map V.int, (i : Int), .int xs[i], rfl, rfl, .inl (.inl els2), atI_nat (by rw [List.getElem?_map, List.getElem?_eq_getElem hi]; rfl), szl rfl, fun t nt => ?_⟩
    have B : But a H G2 := b1.trans b2
    exact q _ t zs[j] xs[i] (B.trans (Same.but (same_upd nt))) (s2.mono (same_upd nt)) (B.fresh s2 nt) upd_same (List.getElem_mem hj) (List.getElem_mem hi)

/-! ### a drawn machine -/
theorem paired_take {α β : Type} {F : α → β → Prop} {l : List α} {m : List β} (h : Paired F l m) : ∀ n, Paired F (l.take n) (m.take n) := by
  induction h with
  | nil => intro n; rw [List.take_nil, List.take_nil]; exact .nil
  | cons r _ ih =>
    intro n
    cases n with
    | zero => exact .nil
    | succ n => exact .cons r (ih n)
theorem paired_drop {α β : Type} {F : α → β → Prop} {l : List α} {m : List β} (h : Paired F l m) : ∀ n, Paired F (l.drop n) (m.drop n) := by
  induction h with
  | nil => intro n; rw [List.drop_nil, List.drop_nil]; exact .nil
  | cons r k ih =>
    intro n
    cases n with
    | zero => exact .cons r k
    | succ n => exact ih n
theorem paired_app {α β : Type} {F : α → β → Prop} {l l' : List α} {m m' : List β} (h : Paired F l m) (h' : Paired F l' m') : Paired F (l ++ l') (m ++ m') := by
  induction h with
  | nil => exact h'
  | cons r _ ih => exact .cons r ih
/-- steps of a drawn machine: `most` the greatest number that leave one state -/
structure Drawn (ls : List Int) (names : List Str) (ss : List KnA.Stp) (most : Nat) : Prop where
  nd : ss.Nodup
  good : ∀ x ∈ ss, x.1 ∈ ls ∧ x.2.1 ∈ names ∧ x.2.2 ∈ ls
  few : ∀ s, cnt ss s ≤ most
theorem cnt_app (l m : List KnA.Stp) (s : Int) : cnt (l ++ m) s = cnt l s + cnt m s := by
  unfold cnt
  rw [List.filter_append, List.length_append]
theorem cnt_one (x : KnA.Stp) (s : Int) : cnt [x] s ≤ 1 := List.length_filter_le _ _
theorem Drawn.push {ls : List Int} {names : List Str} {ss : List KnA.Stp} {most : Nat} (h : Drawn ls names ss most) {x : KnA.Stp} (hx : x ∉ ss) (g : x.1 ∈ ls ∧ x.2.1 ∈ names ∧ x.2.2 ∈ ls) : Drawn ls names (ss ++ [x]) (most + 1) := by
  refine ⟨?_, fun y hy => ?_, fun s => ?_⟩
  · refine List.nodup_append.mpr ⟨h.nd, by simp, fun a ha b hb e => ?_⟩
    rw [List.mem_singleton] at hb
    exact hx (hb ▸ e ▸ ha)
  · rcases List.mem_append.mp hy with q | q
    · exact h.good y q
    · rw [List.mem_singleton.mp q]; exact g
  · rw [cnt_app]
    have := h.few s
    have := cnt_one x s
    omega
theorem Drawn.up {ls : List Int} {names : List Str} {ss : List KnA.Stp} {m n : Nat} (h : Drawn ls names ss m) (k : m ≤ n) : Drawn ls names ss n := ⟨h.nd, h.good, fun s => Nat.le_trans (h.few s) k⟩
theorem Drawn.turn {ls : List Int} {names : List Str} {ss : List KnA.Stp} {m : Nat} (h : Drawn ls names ss m) (t : Nat) : Drawn ls names (ss.drop t ++ ss.take t) m := by
  have p : (ss.drop t ++ ss.take t).Perm ss := by
    have := List.perm_append_comm (l₁ := ss.drop t) (l₂ := ss.take t)
    rwa [List.take_append_drop] at this
  refine ⟨p.symm.nodup h.nd, fun x hx => h.good x (p.mem_iff.mp hx), fun s => ?_⟩
  have e : cnt (ss.drop t ++ ss.take t) s = cnt ss s := (p.filter _).length_eq
  rw [e]
  exact h.few s
/-- the base: each label has one step -/
theorem cnt_base {ss : List KnA.Stp} (h : (ss.map (·.1)).Nodup) (s : Int) : cnt ss s ≤ 1 := by
  unfold cnt
  induction ss with
  | nil => exact Nat.zero_le _
  | cons x r ih =>
    rw [List.map_cons, List.nodup_cons] at h
    by_cases e : x.1 = s
    · rw [List.filter_cons_of_pos (by simp [e])]
      have : r.filter (fun y => decide (y.1 = s)) = [] := List.filter_eq_nil_iff.mpr fun y hy z => h.1 (by
        have e2 := of_decide_eq_true z
        exact List.mem_map.mpr ⟨y, hy, e2.trans e.symm⟩)
      rw [this]
      exact Nat.le_refl _
    · rw [List.filter_cons_of_neg (by simp [e])]
      exact ih h.2
theorem nodup_base {ss : List KnA.Stp} (h : (ss.map (·.1)).Nodup) : ss.Nodup := by
  have := List.pairwise_map.mp h
  exact this.imp fun hne e => hne (congrArg (·.1) e)
theorem stateB_of {x : Int} (h : 0 ≤ x ∧ x ≤ 99) : stateB (.int x) = true := by
  show (decide (0 ≤ x) && decide (x ≤ 99)) = true
  rw [decide_eq_true h.1, decide_eq_true h.2]; rfl

/-! ### drawn steps -/
theorem ins_perm {α : Type} (l : List α) (x : α) (n : Nat) : (l.take n ++ [x] ++ l.drop n).Perm (x :: l) := by
  have h := (List.perm_middle (a := x) (l₁ := l.take n) (l₂ := l.drop n))
  rw [List.take_append_drop] at h
  rw [List.append_assoc]
  exact h
theorem Drawn.perm {xs : List Int} {zs : List Str} {ss tt : List KnA.Stp} {m : Nat} (h : Drawn xs zs ss m) (p : tt.Perm ss) : Drawn xs zs tt m :=
  ⟨p.symm.nodup h.nd, fun x hx => h.good x (p.mem_iff.mp hx), fun s => by
    have e : cnt tt s = cnt ss s := (p.filter _).length_eq
    rw [e]
    exact h.few s⟩
theorem cnt_cons (x : KnA.Stp) (ss : List KnA.Stp) (s : Int) : cnt (x :: ss) s = cnt ss s + if x.1 = s then 1 else 0 := by
  unfold cnt
  by_cases e : x.1 = s
  · rw [List.filter_cons_of_pos (by simp [e]), if_pos e]; rfl
  · rw [List.filter_cons_of_neg (by simp [e]), if_neg e]; rfl
theorem Drawn.cons {xs : List Int} {zs : List Str} {ss : List KnA.Stp} {m : Nat} {x : KnA.Stp} (h : Drawn xs zs ss m) (hx : x ∉ ss) (g : x.1 ∈ xs ∧ x.2.1 ∈ zs ∧ x.2.2 ∈ xs) (c : cnt ss x.1 < m) : Drawn xs zs (x :: ss) m := by
  refine ⟨List.nodup_cons.mpr ⟨hx, h.nd⟩, fun y hy => ?_, fun s => ?_⟩
  · rcases List.mem_cons.mp hy with q | q
    · rw [q]; exact g
    · exact h.good y q
  · rw [cnt_cons]
    by_cases e : x.1 = s
    · rw [if_pos e, ← e]; omega
    · rw [if_neg e]; exact h.few s
theorem stps_ins {H : Hp} {as : List Addr} {ss : List KnA.Stp} (h : Stps H as ss) (n : Nat) {t : Addr} {x : KnA.Stp} (e : H t = some (tup3 x)) : Stps H (as.take n ++ [t] ++ as.drop n) (ss.take n ++ [x] ++ ss.drop n) :=
  paired_app (paired_app (paired_take h n) (.cons e .nil)) (paired_drop h n)
theorem stps_set {H : Hp} {as : List Addr} {ss : List KnA.Stp} {l : Addr} {o o' : HO} (h : Stps H as ss) (e : H l = some o) (no : ∀ xs, o ≠ .tup xs) : Stps (upd H l o') as ss :=
  Paired.mapP h fun _ _ q => (upd_ne (fun z => by rw [z, e] at q; exact no _ (Option.some.inj q))).trans q
theorem Stps.but {s : Addr} {H H' : Hp} {as : List Addr} {ss : List KnA.Stp} (h : Stps H as ss) (b : But s H H') (hs : ∃ o, H s = some o ∧ ∀ xs, o ≠ .tup xs) : Stps H' as ss := by
  obtain ⟨o, eo, no⟩ := hs
  exact Paired.mapP h fun _ _ q => b _ _ q fun z => by rw [z, eo] at q; exact no _ (Option.some.inj q)
theorem SrcAt.notT {H : Hp} {s c : Addr} (h : SrcAt H s c) : ∃ o, H s = some o ∧ ∀ xs, o ≠ .tup xs := by
  obtain ⟨ns, i, j, n, o⟩ := h
  exact ⟨_, o.at_, fun xs z => by cases z⟩
def sp__law_steps (_ : PySem.W.Frag) : Sp := fun vs H Q _ => ∃ (s c lx lw : Addr) (xs : List Int) (zs : List Str) (ex mo : Nat), vs = [.ref s, .ref lx, .ref lw, .int (ex : Int), .int (mo : Int)] ∧ SrcAt H s c ∧ H lx = some (.lst (xs.map V.int)) ∧ H lw = some (.lst (zs.map V.str)) ∧ lx ≠ s ∧ lw ≠ s ∧
  xs.Nodup ∧ (∀ z ∈ zs, nameB (.str z) = true) ∧ 1 ≤ xs.length ∧ xs.length ≤ 100 ∧ 1 ≤ zs.length ∧ zs.length ≤ 100 ∧ ex ≤ 100 ∧ 1 ≤ mo ∧
  ∀ H' l as ss, But s H H' → SrcAt H' s c → H l = none → H' l = some (.lst (as.map V.ref)) → Stps H' as ss → Drawn xs zs ss mo → (∀ x ∈ xs, ∃ w y, (x, w, y) ∈ ss) → ss.length ≤ xs.length + ex → Q (.ref l) H'
theorem ok__law_steps {f : Addr} {C : Addr} {fd : FuncData} (T : Txt K mg C) (F : Fun K "_law_steps" "_law_steps" s__law_steps f fd) (c__law_step : Cal P w K mg base 2 "_law_step" (sp__law_step K) []) (c__law_draw : Cal P w K mg base 1 "_law_draw" (sp__law_draw K) []) : FnOk P w K mg base CX0 3 f fd ["_law_source_here", "_law_states_here", "_law_words", "_law_extra", "_law_most"] (sp__law_steps K) := by
  have nd := sc__law_steps.nd
  refine F.ok sc__law_steps (fun vs H Q E h => ?_) (fun cdv A outer s H vs Q E hr h => ?_)
  · obtain ⟨a, c, lx, lw, xs, zs, ex, mo, rfl, _⟩ := h
    rfl
  · obtain ⟨a, c, lx, lw, xs, zs, ex, mo, rfl, src, elx, elw, nxa, nwa, ndx, hz, x1, x2, z1, z2, ex2, mo1, q⟩ := h
    refine ⟨_, (pss_cons (ps_set (i := 5) nd rfl (.inl rfl) (pe_lst pa_nil))
      (pss_cons (ps_for PassesOwn.never rfl (pi_list (pv 1)) (pg_name (i := 6) nd rfl (.inr rfl)) (pss_cons (ps_set (i := 7) nd rfl (.inl rfl) (pe_c c__law_step hr (by omega) (by rfl) (pa_cons (pv 0) (pa_cons (pv 6) (pa_cons (pv 1) (pa_cons (pv 2) pa_nil))))))
      (pss_one (ps_expr (pe_bm PySem.F.plainAttrs_list PySem.F.slot_list_insert PySem.F.type_list_insert mt_insert (pv 5) (pa_cons (pe_c c__law_draw hr (by omega) (by rfl) (pa_cons (pv 0) (pa_cons (pe_op op_add (pe_callB call_len (by rfl) T.m_len (by decide +kernel) (pa_cons (pv 5) pa_nil)) pe_int) pa_nil))) (pa_cons (pv 7) pa_nil)))))))
      (pss_cons (ps_for PassesOwn.never rfl (pi_range1 (by rfl) T.m_range (pa_cons (pe_c c__law_draw hr (by omega) (by rfl) (pa_cons (pv 0) (pa_cons (pe_op op_add (pv 3) pe_int) pa_nil))) pa_nil)) (pg_name (i := 8) nd rfl (.inl rfl)) (pss_cons (ps_set (i := 6) nd rfl (.inr rfl) (pe_ix (r := rIxL K) ix_list (pv 1) (pe_c c__law_draw hr (by omega) (by rfl) (pa_cons (pv 0) (pa_cons (pe_callB call_len (by rfl) T.m_len (by decide +kernel) (pa_cons (pv 1) pa_nil)) pa_nil))) (fun _ _ => rfl)))
      (pss_cons (ps_set (i := 7) nd rfl (.inl rfl) (pe_c c__law_step hr (by omega) (by rfl) (pa_cons (pv 0) (pa_cons (pv 6) (pa_cons (pv 1) (pa_cons (pv 2) pa_nil))))))
      (pss_cons (ps_set (i := 9) nd rfl (.inl rfl) (pe_callB call_len (by rfl) T.m_len (by decide +kernel) (pa_cons (pe_lc (own := [("_law_step_here", 10)]) (g := gName 10) rfl nd (pi_list (pv 5)) (blkOk_by (N := ["_law_source_here", "_law_states_here", "_law_words", "_law_extra", "_law_most", "_law_steps_here", "_law_state", "_law_row", "_law_k", "_law_many", "_law_step_here"]) (sc := defScope s__law_steps) (by decide +kernel)) (fun _ _ _ _ _ => (pg_name (i := 10) nd rfl (.inl rfl))) (fun _ _ _ _ _ => (pts_one (pt_cmpR op_eq (pe_ix (r := rIxT K) ix_tup (pv 10) pe_int (fun _ _ => rfl)) (pv 6) (nomark _)))) (fun _ _ _ _ _ => (pv 10))) pa_nil)))
      (pss_one (ps_if (PW.pt (pw_and (pt_cmpR (op_notInD (KnC.un65 hr)) (pv 7) (pv 5) (by with_unfolding_all rfl)) (pw_and1 (pt_cmpR op_lt (pv 9) (pv 4) (nomark _))))) (pss_one (ps_expr (pe_bm PySem.F.plainAttrs_list PySem.F.slot_list_insert PySem.F.type_list_insert mt_insert (pv 5) (pa_cons (pe_c c__law_draw hr (by omega) (by rfl) (pa_cons (pv 0) (pa_cons (pe_op op_add (pe_callB call_len (by rfl) T.m_len (by decide +kernel) (pa_cons (pv 5) pa_nil)) pe_int) pa_nil))) (pa_cons (pv 7) pa_nil))))) pss_nil))))))
      (pss_one (ps_ret (pv 5)))))), ?_⟩
    refine ⟨szl rfl, fun l nl => ?_⟩
    have nla := src.ne nl
    have nlc := src.nec nl
    refine ⟨.ref lx, rfl, lx, rfl, ⟨_, .inl (.inl ((upd_ne (ne_of_none elx nl)).trans elx))⟩, ?_⟩
    refine for_list (K := K) (xs := xs.map V.int) (fun i σ G => ∃ (y6 y7 y8 y9 y10 : Option V) (as : List Addr) (ss : List KnA.Stp), σ = [some (.ref a), some (.ref lx), some (.ref lw), some (.int (ex : Int)), some (.int (mo : Int)), some (.ref l), y6, y7, y8, y9, y10] ∧ But a H G ∧ SrcAt G a c ∧ G l = some (.lst (as.map V.ref)) ∧ Stps G as ss ∧ (ss.map (·.1)).Perm (xs.take i) ∧ (∀ x ∈ ss, x.1 ∈ xs ∧ x.2.1 ∈ zs ∧ x.2.2 ∈ xs))
      ⟨none, none, none, none, none, [], [], rfl, But.set nl But.refl, src.set nla nlc, upd_same, .nil, .refl _, fun x hx => nomatch hx⟩ (fun i σ G _ hP => ?_) (fun i v σ G hv hP => ?_) (fun σ G hP => ?_)
    · obtain ⟨_, _, _, _, _, _, _, _, b, _⟩ := hP
      exact .inl (.inl (b _ _ elx nxa))
    · obtain ⟨y6, y7, y8, y9, y10, as, ss, rfl, b, sG, el, hst, pm, hg⟩ := hP
      rw [List.getElem?_map] at hv
      cases gx : xs[i]? with
      | none => rw [gx] at hv; cases hv
      | some x =>
      rw [gx] at hv
      cases hv
      have hxm := List.mem_of_getElem? gx
      have lss : ss.length ≤ 100 := by
        have h1 := pm.length_eq
        rw [List.length_map, List.length_take] at h1
        omega
      refine ⟨.ref a, rfl, .int x, rfl, .ref lx, rfl, .ref lw, rfl, a, c, lx, lw, x, xs, zs, rfl, sG, b _ _ elx nxa, b _ _ elw nwa, x1, by omega, z1, by omega, nxa, nwa, fun G2 t w y b2 s2 nt et hw hy => ?_⟩
      have el2 := b2 _ _ el nla
      have hst2 := hst.but b2 sG.notT
      have las : as.length = ss.length := hst.length
      refine ⟨.ref l, rfl, .inl ⟨rfl, _, .inl (.inl el2)⟩, .ref a, rfl, .ref l, rfl, .ref l, as.length, rfl, .inl ⟨_, .inl (.inl el2), (List.length_map _).symm⟩, (as.length : Int), 1, rfl, rfl, a, c, (as.length : Int) + 1, rfl, by omega, by omega, s2, fun G3 r b3 s3 l0 u0 => ?_⟩
      have el3 := b3 _ _ el2 nla
      have hst3 := hst2.but b3 s2.notT
      have et3 := b3 _ _ et (sG.ne nt)
      refine ⟨.ref t, rfl, l, as.map V.ref, r, .ref t, rfl, rfl, el3, small (by rw [List.length_map]; omega), l0, by omega, ?_⟩
      have pp := ins_perm ss (x, w, y) r.toNat
      refine ⟨_, _, y8, y9, y10, as.take r.toNat ++ [t] ++ as.drop r.toNat, ss.take r.toNat ++ [(x, w, y)] ++ ss.drop r.toNat, rfl, But.set nl ((b.trans b2).trans b3), s3.set nla nlc, ?_, stps_set (stps_ins hst3 _ et3) el3 (fun _ z => by cases z), ?_, fun u hu => ?_⟩
      · rw [upd_same, List.map_append, List.map_append, List.map_take, List.map_drop]; rfl
      · rw [take_more gx]
        exact (pp.map (fun x : KnA.Stp => x.1)).trans ((List.Perm.cons _ pm).trans (List.perm_append_comm (l₁ := [x])))
      · rcases List.mem_cons.mp (pp.mem_iff.mp hu) with e | e
        · rw [e]; exact ⟨hxm, hw, hy⟩
        · exact hg u e
    · obtain ⟨y6, y7, y8, y9, y10, as, ss, rfl, b, sG, el, hst, pm, hg⟩ := hP
      rw [List.length_map, List.take_length] at pm
      have nd1 : (ss.map (·.1)).Nodup := pm.symm.nodup ndx
      have dr : Drawn xs zs ss mo := ⟨nodup_base nd1, hg, fun s => Nat.le_trans (cnt_base nd1 s) mo1⟩
      have al : ∀ x ∈ xs, ∃ w y, (x, w, y) ∈ ss := fun x hx => by
        obtain ⟨⟨x', w, y⟩, hu, e⟩ := List.mem_map.mp (pm.mem_iff.mpr hx)
        cases e
        exact ⟨w, y, hu⟩
      have l0 : ss.length = xs.length := by have := pm.length_eq; rwa [List.length_map] at this
      refine ⟨.ref a, rfl, .int (ex : Int), rfl, (ex : Int), 1, rfl, rfl, a, c, (ex : Int) + 1, rfl, by omega, by omega, sG, fun G1 r b1 s1 r0 u0 => ?_⟩
      obtain ⟨n, rfl⟩ : ∃ n : Nat, r = (n : Int) := ⟨r.toNat, by omega⟩
      refine ⟨(n : Int), rfl, by omega, by omega, ?_⟩
      rw [Int.toNat_natCast]
      refine for_range (lo := 0) (n := n) (fun i σ G => ∃ (y6 y7 y8 y9 y10 : Option V) (as : List Addr) (ss : List KnA.Stp), σ = [some (.ref a), some (.ref lx), some (.ref lw), some (.int (ex : Int)), some (.int (mo : Int)), some (.ref l), y6, y7, y8, y9, y10] ∧ But a H G ∧ SrcAt G a c ∧ G l = some (.lst (as.map V.ref)) ∧ Stps G as ss ∧ Drawn xs zs ss mo ∧ (∀ x ∈ xs, ∃ w y, (x, w, y) ∈ ss) ∧ ss.length ≤ xs.length + i)
        ⟨_, _, _, _, _, as, ss, rfl, b.trans b1, s1, b1 _ _ el nla, hst.but b1 sG.notT, dr, al, by omega⟩ (fun i σ G hi hP => ?_) (fun σ G hP => ?_)
      · obtain ⟨y6, y7, y8, y9, y10, as, ss, rfl, b, sG, el, hst, dr, al, lss⟩ := hP
        refine ⟨.ref lx, rfl, .ref a, rfl, .ref lx, rfl, .ref lx, xs.length, rfl, .inl ⟨_, .inl (.inl (b _ _ elx nxa)), (List.length_map _).symm⟩, a, c, (xs.length : Int), rfl, by omega, by omega, sG, fun G2 r b2 s2 r0 u0 => ?_⟩
        obtain ⟨j, rfl⟩ : ∃ n : Nat, r = (n : Int) := ⟨r.toNat, by omega⟩
        have hj : j < xs.length := by omega
        have B2 := b.trans b2
        have el2 := b2 _ _ el nla
        have hst2 := hst.but b2 sG.notT
        refine ⟨lx, xs.map V.int, (j : Int), .int xs[j], rfl, rfl, .inl (.inl (B2 _ _ elx nxa)), atI_nat (by rw [List.getElem?_map, List.getElem?_eq_getElem hj]; rfl), ?_⟩
        have hxm : xs[j] ∈ xs := List.getElem_mem hj
        generalize xs[j] = x at hxm ⊢
        refine ⟨.ref a, rfl, .int x, rfl, .ref lx, rfl, .ref lw, rfl, a, c, lx, lw, x, xs, zs, rfl, s2, B2 _ _ elx nxa, B2 _ _ elw nwa, x1, by omega, z1, by omega, nxa, nwa, fun G3 t w y b3 s3 nt et hw hy => ?_⟩
        have el3 := b3 _ _ el2 nla
        have hst3 := hst2.but b3 s2.notT
        have B3 := B2.trans b3
        have nta : t ≠ a := s2.ne nt
        refine ⟨.ref l, rfl, l, rfl, ⟨_, .inl (.inl el3)⟩, fun D nD => lc_list (K := K) (a := l) (xs := as.map V.ref) (fun i G => Same G3 G ∧ ∃ ys : List V, G D = some (.lst ys) ∧ ys.length = cnt (ss.take i) x)
          ⟨same_upd nD, [], upd_same, rfl⟩ (fun i G _ hP => .inl (.inl (hP.1 _ _ el3))) (fun i v G hv hP => ?_) (fun G hP => ?_)⟩
        · obtain ⟨S, ys, eD, ly⟩ := hP
          obtain ⟨ai, st, rfl, gi, g, hai⟩ := ref_get (hst3.mono S) hv
          have hi2 : i < ss.length := (List.getElem?_eq_some_iff.mp g).1
          have ec : cnt (ss.take (i + 1)) x = cnt (ss.take i) x + if st.1 = x then 1 else 0 := by
            rw [take_more g, cnt_app]
            congr 1
            rw [cnt_cons]
            show 0 + _ = _
            omega
          refine ⟨rfl, .ref ai, rfl, ai, [.int st.1, .str st.2.1, .int st.2.2], 0, .int st.1, rfl, rfl, .inl (.inl hai), atI_nat (j := 0) rfl, .int x, rfl, rfl, _, rfl, ite2 (fun c0 => ?_) (fun c0 => ?_)⟩
          · have e : st.1 = x := V.int.inj (of_decide_eq_true c0)
            refine ⟨.ref ai, rfl, _, eD, small (by have := List.length_filter_le (fun y : KnA.Stp => decide (y.1 = x)) (ss.take i); rw [ly]; unfold cnt; rw [List.length_take] at this; omega), same_set nD S, _, upd_same, ?_⟩
            rw [List.length_append, ly, ec, if_pos e]; rfl
          · have e : ¬ st.1 = x := fun z => c0 (decide_eq_true (by rw [z]))
            exact ⟨S, ys, eD, by rw [ec, if_neg e]; exact ly⟩
        · obtain ⟨S, ys, eD, ly⟩ := hP
          have las : as.length = ss.length := hst.length
          rw [List.length_map, las, List.take_length] at ly
          have eld := S _ _ el3
          have hstd := hst3.mono S
          have s4 := s3.mono S
          have B4 := B3.trans (Same.but S)
          have etd := S _ _ et
          have hnm : ∀ u ∈ ss, nameB (.str u.2.1) = true := fun u hu => hz _ (dr.good u hu).2.1
          refine ⟨.ref D, ys.length, rfl, .inl ⟨_, .inl (.inl eD), rfl⟩, .ref t, rfl, .ref l, rfl, dat (x, w, y), ss.map dat, .tup (.inl (.inl etd)) (.cons (.int _) (.cons (.str _) (.cons (.int _) .nil))), .lst (.inl (.inl eld)) (dps hstd), dat_shaped (hz w hw), dats_shaped hnm, ?_⟩
          rw [dat_any]
          have base : ∃ (v6 v7 v8 v9 v10 : Option V) (as' : List Addr) (ss' : List KnA.Stp), ([some (.ref a), some (.ref lx), some (.ref lw), some (.int (ex : Int)), some (.int (mo : Int)), some (.ref l), some (.int x), some (.ref t), some (.int (0 + (i : Int))), some (.int (ys.length : Int)), y10] : L2.St) = [some (.ref a), some (.ref lx), some (.ref lw), some (.int (ex : Int)), some (.int (mo : Int)), some (.ref l), v6, v7, v8, v9, v10] ∧ But a H G ∧ SrcAt G a c ∧ G l = some (.lst (as'.map V.ref)) ∧ Stps G as' ss' ∧ Drawn xs zs ss' mo ∧ (∀ x ∈ xs, ∃ w y, (x, w, y) ∈ ss') ∧ ss'.length ≤ xs.length + (i + 1) :=
            ⟨_, _, _, _, _, as, ss, rfl, B4, s4, eld, hstd, dr, al, by omega⟩
          refine ⟨_, rfl, ?_⟩
          by_cases hm : (x, w, y) ∈ ss
          · rw [decide_eq_true hm]
            exact iteF base
          · rw [decide_eq_false hm]
            refine iteT ⟨.int (ys.length : Int), rfl, .int (mo : Int), rfl, _, _, rfl, rfl, _, rfl, ite2 (fun c0 => ?_) (fun _ => base)⟩
            have c0 : (ys.length : Int) < (mo : Int) := of_decide_eq_true c0
            refine ⟨.ref l, rfl, .inl ⟨rfl, _, .inl (.inl eld)⟩, .ref a, rfl, .ref l, rfl, .ref l, as.length, rfl, .inl ⟨_, .inl (.inl eld), (List.length_map _).symm⟩, (as.length : Int), 1, rfl, rfl, a, c, (as.length : Int) + 1, rfl, by omega, by omega, s4, fun G5 r b5 s5 l0 u0 => ?_⟩
            have el5 := b5 _ _ eld nla
            have hst5 := hstd.but b5 s4.notT
            have et5 := b5 _ _ etd nta
            refine ⟨.ref t, rfl, l, as.map V.ref, r, .ref t, rfl, rfl, el5, small (by rw [List.length_map]; omega), l0, by omega, ?_⟩
            have pp := ins_perm ss (x, w, y) r.toNat
            refine ⟨_, _, _, _, _, as.take r.toNat ++ [t] ++ as.drop r.toNat, ss.take r.toNat ++ [(x, w, y)] ++ ss.drop r.toNat, rfl, But.set nl (B4.trans b5), s5.set nla nlc, ?_, stps_set (stps_ins hst5 _ et5) el5 (fun _ z => by cases z), (dr.cons hm ⟨hxm, hw, hy⟩ (by show cnt ss x < mo; omega)).perm pp, fun u hu => ?_, ?_⟩
            · rw [upd_same, List.map_append, List.map_append, List.map_take, List.map_drop]; rfl
            · obtain ⟨w', y', h⟩ := al u hu
              exact ⟨w', y', pp.mem_iff.mpr (List.mem_cons.mpr (.inr h))⟩
            · have := pp.length_eq
              rw [List.length_cons] at this
              omega
      · obtain ⟨y6, y7, y8, y9, y10, as, ss, rfl, b, sG, el, hst, dr, al, lss⟩ := hP
        exact ⟨.ref l, rfl, q G l as ss b sG nl el hst dr al (by omega)⟩

/-! ### drawn faults, a drawn machine -/
theorem in_names {names : List Str} {i : Nat} {x : Str} (h : names[i]? = some x) : (names.map V.str)[i]? = some (.str x) := by rw [List.getElem?_map, h]; rfl
structure DrawF (fs : List (Str × Str)) (ws names : List Str) : Prop where
  nd : (fs.map (·.1)).Nodup
  mem : ∀ p ∈ fs, p.1 ∈ ws ∧ p.2 ∈ names
theorem DrawF.good {fs : List (Str × Str)} {ws names : List Str} (f : DrawF fs ws names) (h1 : ∀ z ∈ ws, nameB (.str z) = true) (h2 : ∀ z ∈ names, nameB (.str z) = true) (l3 : names.length ≤ 3) (l1 : ws.length ≤ 1000) : GoodFaults fs ws := by
  refine ⟨fun p hp => ⟨h1 _ (f.mem p hp).1, (f.mem p hp).1, h2 _ (f.mem p hp).2⟩, ?_, ?_⟩
  · obtain ⟨ys, ey, ny, my⟩ := allL_strs (fs.map (·.2))
    have e : (fs.map fun p => (Sum.inr p.2 : Key)) = (fs.map (·.2)).map Sum.inr := by rw [List.map_map]; rfl
    rw [e, ey, List.length_map]
    refine Nat.le_trans (sub_len ny fun x hx => ?_) l3
    obtain ⟨p, hp, e⟩ := List.mem_map.mp ((my x).mp hx)
    rw [← e]
    exact (f.mem p hp).2
  · have := sub_len f.nd (m := ws) fun x hx => by
      obtain ⟨p, hp, e⟩ := List.mem_map.mp hx
      rw [← e]
      exact (f.mem p hp).1
    rw [List.length_map] at this
    omega
def sp__law_faults (_ : PySem.W.Frag) : Sp := fun vs H Q _ => ∃ (s c l : Addr) (as : List Addr) (ss : List KnA.Stp) (m : Nat), vs = [.ref s, .ref l, .int (m : Int)] ∧ SrcAt H s c ∧ H l = some (.lst (as.map V.ref)) ∧ Stps H as ss ∧ l ≠ s ∧ 1 ≤ ss.length ∧ ss.length ≤ 1000 ∧ 1 ≤ m ∧ m ≤ 100 ∧
  ∀ H' t d fs z (names : List Str), But s H H' → SrcAt H' s c → H t = none → H d = none → t ≠ d → H' t = some (.lst [.ref d, .str z]) → H' d = some (.dK (fkv fs)) → DrawF fs (ss.map (·.2.1)) names → names.length ≤ m → (∀ x ∈ names, nameB (.str x) = true) → z ∈ fs.map (·.2) → Q (.ref t) H'
theorem ok__law_faults {f : Addr} {C : Addr} {fd : FuncData} (T : Txt K mg C) (F : Fun K "_law_faults" "_law_faults" s__law_faults f fd) (c__law_names : Cal P w K mg base 3 "_law_names" (sp__law_names K) []) (c__law_draw : Cal P w K mg base 1 "_law_draw" (sp__law_draw K) []) : FnOk P w K mg base CX0 4 f fd ["_law_source_here", "_law_steps_here", "_law_most"] (sp__law_faults K) := by
  have nd := sc__law_faults.nd
  refine F.ok sc__law_faults (fun vs H Q E h => ?_) (fun cdv A outer s H vs Q E hr h => ?_)
  · obtain ⟨a, c, l, as, ss, m, rfl, _⟩ := h
    rfl
  · obtain ⟨a, c, l, as, ss, m, rfl, src, el, hst, nla, ss1, ss2, m1, m2, q⟩ := h
    refine ⟨_, (pss_cons (ps_set (i := 3) nd rfl (.inl rfl) (pe_c c__law_names hr (by omega) (by rfl) (pa_cons (pv 0) (pa_cons (pe_op op_add pe_int (pe_c c__law_draw hr (by omega) (by rfl) (pa_cons (pv 0) (pa_cons (pv 2) pa_nil)))) pa_nil))))
      (pss_cons (ps_set (i := 4) nd rfl (.inl rfl) (pe_callB (show CallR _ (.builtin "sorted") (KnS.rSortedL P w) from KnS.cr_sortedL rfl) (by rfl) T.m_sorted (by decide +kernel) (pa_cons (pe_callTy (show CallR _ (.type "set") (KnS.rSetOf K P w) from KnS.cr_setOf rfl) (by rfl) T.m_set (by decide +kernel) (pa_cons (pe_lc (own := [("_law_row", 7)]) (g := gName 7) (tt := tYes) rfl nd (pi_list (pv 1)) (blkOk_by (N := ["_law_source_here", "_law_steps_here", "_law_most", "_law_names_here", "_law_used", "_law_faults_here", "_law_word", "_law_row"]) (sc := defScope s__law_faults) (by decide +kernel)) (fun _ _ _ _ _ => (pg_name (i := 7) nd rfl (.inl rfl))) (fun _ _ _ _ _ => pts_nil) (fun _ _ _ _ _ => (pe_ix (r := rIxT K) ix_tup (pv 7) pe_int (fun _ _ => rfl)))) pa_nil)) pa_nil)))
      (pss_cons (ps_set (i := 5) nd rfl (.inl rfl) (pe_disp (pps_cons (pe_ix (r := rIxL K) ix_list (pv 4) (pe_c c__law_draw hr (by omega) (by rfl) (pa_cons (pv 0) (pa_cons (pe_callB call_len (by rfl) T.m_len (by decide +kernel) (pa_cons (pv 4) pa_nil)) pa_nil))) (fun _ _ => rfl)) (pe_ix (r := rIxL K) ix_list (pv 3) pe_int (fun _ _ => rfl)) pps_nil) (by rfl) (by rfl) (fun z => by cases z) (by decide)))
      (pss_cons (ps_for PassesOwn.never rfl (pi_list (pv 4)) (pg_name (i := 6) nd rfl (.inl rfl)) (pss_one (ps_if (PW.pt (pw_and (pt_cmp (pc_dnotin (hu_of hr) (pv 6) (pv 5))) (pw_and1 (pt_cmpR op_eq (pe_c c__law_draw hr (by omega) (by rfl) (pa_cons (pv 0) (pa_cons pe_int pa_nil))) pe_int (nomark _))))) (pss_one (ps_dput (hu_of hr) (pv 5) (pv 6) (pe_ix (r := rIxL K) ix_list (pv 3) (pe_c c__law_draw hr (by omega) (by rfl) (pa_cons (pv 0) (pa_cons (pe_callB call_len (by rfl) T.m_len (by decide +kernel) (pa_cons (pv 3) pa_nil)) pa_nil))) (fun _ _ => rfl)) rfl)) pss_nil)))
      (pss_one (ps_ret (pe_lst (pa_cons (pv 5) (pa_cons (pe_ix (r := rIxL K) ix_list (pv 3) pe_int (fun _ _ => rfl)) pa_nil))))))))), ?_⟩
    refine ⟨.ref a, rfl, .ref a, rfl, .int (m : Int), rfl, a, c, (m : Int), rfl, by omega, by omega, src, fun H1 r b1 s1 r0 u0 => ?_⟩
    obtain ⟨n, hn, n1, n2⟩ : ∃ n : Nat, 1 + r = (n : Int) ∧ 1 ≤ n ∧ n ≤ m := ⟨(1 + r).toNat, by omega, by omega, by omega⟩
    refine ⟨1, r, rfl, rfl, a, c, n, (by show [V.ref a, V.int (1 + r)] = _; rw [hn]), n1, by omega, s1, fun H2 ln names b2 s2 nln eln ndn hnm ln1 lnn => ?_⟩
    have B2 := b1.trans b2
    have el2 := B2 _ _ el nla
    have hst2 := hst.but B2 src.notT
    have nlna : ln ≠ a := s1.ne nln
    refine ⟨.ref l, rfl, l, rfl, ⟨_, .inl (.inl el2)⟩, fun D nD => ?_⟩
    refine lc_list (K := K) (a := l) (xs := as.map V.ref) (fun i G => Same H2 G ∧ G D = some (.lst (((ss.take i).map (·.2.1)).map V.str))) ⟨same_upd nD, upd_same⟩ (fun i G _ hP => .inl (.inl (hP.1 _ _ el2))) (fun i v G hv hP => ?_) (fun G hP => ?_)
    · obtain ⟨S, eD⟩ := hP
      obtain ⟨ai, st, rfl, gi, g, hai⟩ := ref_get (hst2.mono S) hv
      refine ⟨rfl, ?_⟩
      unfold tYes
      refine iteT ?_
      refine ⟨.ref ai, rfl, ai, [.int st.1, .str st.2.1, .int st.2.2], 1, .str st.2.1, rfl, rfl, .inl (.inl hai), atI_nat (j := 1) rfl, _, eD, small (by rw [List.length_map, List.length_map, List.length_take]; omega), same_set nD S, ?_⟩
      rw [upd_same, take_more g, List.map_append, List.map_append]; rfl
    · obtain ⟨S, eD⟩ := hP
      rw [List.length_map, hst.length, List.take_length] at eD
      have nDa : D ≠ a := s2.ne nD
      have ek : (((ss.map (·.2.1)).map Sum.inr).map kV : List V) = (ss.map (·.2.1)).map V.str := by rw [List.map_map]; rfl
      refine ⟨D, (ss.map (·.2.1)).map Sum.inr, rfl, .inl (.inl (by rw [ek]; exact eD)), by rw [List.length_map, List.length_map]; unfold scanBound; omega, fun SS nSS => ?_⟩
      have sSS := same_upd (o := KnS.SetL P w SS (KnS.allL ((ss.map (·.2.1)).map Sum.inr))) nSS
      obtain ⟨ys, ey, ny, my⟩ := allL_strs (ss.map (·.2.1))
      refine ⟨SS, ys, rfl, by rw [← ey]; exact upd_same, fun ws lu pw sw nlu => ?_⟩
      have slu := same_upd (o := .lst (ws.map V.str)) nlu
      have elu : (upd (upd G SS (KnS.SetL P w SS (KnS.allL ((ss.map (·.2.1)).map Sum.inr)))) lu (.lst (ws.map V.str))) lu = some (.lst (ws.map V.str)) := upd_same
      have nlu2 : H2 lu = none := S.free (sSS.free nlu)
      have S3 := S.trans (sSS.trans slu)
      generalize upd (upd G SS (KnS.SetL P w SS (KnS.allL ((ss.map (·.2.1)).map Sum.inr)))) lu (.lst (ws.map V.str)) = H3 at S3 elu ⊢
      have mw : ∀ x, x ∈ ws ↔ x ∈ ss.map (·.2.1) := fun x => pw.mem_iff.trans (my x)
      have s3 := s2.mono S3
      have B3 : But a H H3 := B2.trans (Same.but S3)
      have nlua : lu ≠ a := s2.ne nlu2
      have eln3 := S3 _ _ eln
      have hlw : 1 ≤ ws.length ∧ ws.length ≤ 1000 := by
        have hp := pw.length_eq
        have h1 := sub_len ny fun x hx => (my x).mp hx
        rw [List.length_map] at h1
        refine ⟨?_, by omega⟩
        obtain ⟨x, hx⟩ : ∃ x, x ∈ ss.map (·.2.1) := ⟨(ss[0]'(by omega)).2.1, List.mem_map.mpr ⟨_, List.getElem_mem _, rfl⟩⟩
        exact List.length_pos_of_mem ((mw x).mpr hx)
      refine fun d nd_ => ?_
      have nda : d ≠ a := s3.ne nd_
      have ndc := s3.nec nd_
      have sd := same_upd (o := .dK []) nd_
      refine ⟨.ref lu, rfl, .ref a, rfl, .ref lu, rfl, .ref lu, ws.length, rfl, .inl ⟨_, .inl (.inl (sd _ _ elu)), (List.length_map _).symm⟩, a, c, (ws.length : Int), rfl, by omega, by omega, s3.set nda ndc, fun H4 r4 b4 s4 r40 u4 => ?_⟩
      obtain ⟨j, rfl⟩ : ∃ n : Nat, r4 = (n : Int) := ⟨r4.toNat, by omega⟩
      have hj : j < ws.length := by omega
      have elu4 := b4 _ _ (sd _ _ elu) nlua
      have eln4 := b4 _ _ (sd _ _ eln3) nlna
      have ed4 := b4 _ _ (upd_same (H := H3) (a := d) (o := .dK [])) nda
      have hxm : ws[j] ∈ ws := List.getElem_mem hj
      obtain ⟨z0, gz⟩ : ∃ z, names[0]? = some z := ⟨_, List.getElem?_eq_getElem (by omega)⟩
      refine ⟨lu, ws.map V.str, (j : Int), .str ws[j], rfl, rfl, .inl (.inl elu4), atI_nat (by rw [List.getElem?_map, List.getElem?_eq_getElem hj]; rfl), .ref ln, rfl, ln, names.map V.str, 0, .str z0, rfl, rfl, .inl (.inl eln4), atI_nat (j := 0) (in_names gz), ed4, [(.inr ws[j], .str z0)], rfl, Nat.le_of_ble_eq_true rfl, ?_⟩
      generalize ws[j] = x at hxm ⊢
      have B4 : But a H H4 := ((B3.trans (Same.but sd)).trans b4)
      have nd2 : H d = none := B3.fresh s3 nd_
      have nlnd : ln ≠ d := ne_of_none eln3 nd_
      have nlud : lu ≠ d := ne_of_none elu nd_
      refine ⟨.ref lu, rfl, lu, rfl, ⟨_, .inl (.inl ((upd_ne nlud).trans elu4))⟩, ?_⟩
      refine for_list (K := K) (xs := ws.map V.str) (fun i σ G => ∃ (y6 y7 : Option V) (fs : List (Str × Str)), σ = [some (.ref a), some (.ref l), some (.int (m : Int)), some (.ref ln), some (.ref lu), some (.ref d), y6, y7] ∧ But a H G ∧ SrcAt G a c ∧ G lu = some (.lst (ws.map V.str)) ∧ G ln = some (.lst (names.map V.str)) ∧ G d = some (.dK (fkv fs)) ∧ DrawF fs (ss.map (·.2.1)) names ∧ fs.length ≤ i + 1 ∧ z0 ∈ fs.map (·.2))
        ⟨_, _, [(x, z0)], rfl, But.set nd2 B4, s4.set nda ndc, (upd_ne nlud).trans elu4, (upd_ne nlnd).trans eln4, upd_same, ⟨by simp, fun p hp => by rw [List.mem_singleton.mp hp]; exact ⟨(mw x).mp hxm, List.mem_of_getElem? gz⟩⟩, by simp, by simp⟩
        (fun i σ G _ hP => ?_) (fun i v σ G hv hP => ?_) (fun σ G hP => ?_)
      · obtain ⟨_, _, _, _, _, _, h, _⟩ := hP
        exact .inl (.inl h)
      · obtain ⟨y6, y7, fs, rfl, b, sG, elu, eln, ed, df, lf, z0m⟩ := hP
        rw [List.getElem?_map] at hv
        cases gx : ws[i]? with
        | none => rw [gx] at hv; cases hv
        | some y =>
        rw [gx] at hv
        cases hv
        have hi : i < ws.length := (List.getElem?_eq_some_iff.mp gx).1
        refine ⟨.str y, rfl, .ref d, rfl, d, valV (fkv fs) (.inr y), rfl, DGet.k (k := .inr y) ed, _, rfl, ?_⟩
        rw [look_val]
        cases hl : look fs y with
        | some _ => exact iteF ⟨_, _, fs, rfl, b, sG, elu, eln, ed, df, by omega, z0m⟩
        | none =>
        refine iteT ⟨.ref a, rfl, a, c, 4, rfl, by decide, by decide, sG, fun G2 r b2 s2 r0 u0 => ?_⟩
        have elu2 := b2 _ _ elu nlua
        have eln2 := b2 _ _ eln nlna
        have ed2 := b2 _ _ ed nda
        refine ⟨rfl, _, rfl, ite2 (fun c0 => ?_) (fun c0 => ?_)⟩
        · refine ⟨.ref ln, rfl, .ref a, rfl, .ref ln, rfl, .ref ln, names.length, rfl, .inl ⟨_, .inl (.inl eln2), (List.length_map _).symm⟩, a, c, (names.length : Int), rfl, by omega, by omega, s2, fun G3 r3 b3 s3 r30 u3 => ?_⟩
          obtain ⟨k, rfl⟩ : ∃ n : Nat, r3 = (n : Int) := ⟨r3.toNat, by omega⟩
          have hk : k < names.length := by omega
          have elu3 := b3 _ _ elu2 nlua
          have eln3 := b3 _ _ eln2 nlna
          have ed3 := b3 _ _ ed2 nda
          refine ⟨ln, names.map V.str, (k : Int), .str names[k], rfl, rfl, .inl (.inl eln3), atI_nat (by rw [List.getElem?_map, List.getElem?_eq_getElem hk]; rfl), ?_⟩
          refine ⟨.ref d, rfl, .str y, rfl, d, _, rfl, DPut.k (k := .inr y) ed3 (small (by unfold fkv; rw [List.length_map]; omega)), ?_⟩
          have hk' : ∀ p ∈ fs, p.1 ≠ y := fun p hp e => by
            unfold look at hl
            cases hf : fs.find? fun p => decide (p.1 = y) with
            | none => exact List.find?_eq_none.mp hf p hp (decide_eq_true e)
            | some _ => rw [hf] at hl; cases hl
          refine ⟨_, _, fs ++ [(y, names[k])], rfl, But.set nd2 ((b.trans b2).trans b3), s3.set nda ndc, (upd_ne nlud).trans elu3, (upd_ne nlnd).trans eln3, ?_, ⟨?_, fun p hp => ?_⟩, by rw [List.length_append]; exact Nat.succ_le_succ lf, ?_⟩
          · rw [upd_same, putK_new _ (val_none hk')]
            unfold fkv
            rw [List.map_append]; rfl
          · rw [List.map_append]
            refine nodup_snoc df.nd fun hm => ?_
            obtain ⟨p, hp, e⟩ := List.mem_map.mp hm
            exact hk' p hp e
          · rcases List.mem_append.mp hp with h | h
            · exact df.mem p h
            · rw [List.mem_singleton.mp h]
              exact ⟨(mw y).mp (List.mem_of_getElem? gx), List.getElem_mem hk⟩
          · rw [List.map_append]; exact List.mem_append.mpr (.inl z0m)
        · exact ⟨_, _, fs, rfl, b.trans b2, s2, elu2, eln2, ed2, df, by omega, z0m⟩
      · obtain ⟨y6, y7, fs, rfl, b, sG, elu, eln, ed, df, lf, z0m⟩ := hP
        refine ⟨.ref d, rfl, .ref ln, rfl, ln, names.map V.str, 0, .str z0, rfl, rfl, .inl (.inl eln), atI_nat (j := 0) (in_names gz), szl rfl, fun t nt => ?_⟩
        have st := same_upd (o := .lst [.ref d, .str z0]) nt
        exact q _ t d fs z0 names (b.trans (Same.but st)) (sG.mono st) (b.fresh sG nt) nd2 (ne_of_none ed nt).symm upd_same (st _ _ ed) df (Nat.le_trans lnn n2) hnm z0m
def sp__law_machine (_ : PySem.W.Frag) : Sp := fun vs H Q _ => ∃ (s c : Addr) (sz ex wo mo : Nat), vs = [.ref s, .int (sz : Int), .int (ex : Int), .int (wo : Int), .int (mo : Int)] ∧ SrcAt H s c ∧ 1 ≤ sz ∧ sz ≤ 20 ∧ ex ≤ 60 ∧ 1 ≤ wo ∧ wo ≤ 14 ∧ 1 ≤ mo ∧ mo ≤ 8 ∧
  ∀ H' t l d as ss fs s0 z, But s H H' → SrcAt H' s c → H t = none → H l = none → H d = none → t ≠ d → l ≠ d → t ≠ l → H' t = some (.lst [.int s0, .ref l, .ref d, .str z]) → H' l = some (.lst (as.map V.ref)) → Stps H' as ss → H' d = some (.dK (fkv fs)) → GoodMach s0 ss fs → (fs.map (·.1)).Nodup → z ∈ fs.map (·.2) → Q (.ref t) H'
theorem ok__law_machine {f : Addr} {C : Addr} {fd : FuncData} (T : Txt K mg C) (F : Fun K "_law_machine" "_law_machine" s__law_machine f fd) (c__law_states : Cal P w K mg base 2 "_law_states" (sp__law_states K) []) (c__law_steps : Cal P w K mg base 3 "_law_steps" (sp__law_steps K) []) (c__law_names : Cal P w K mg base 3 "_law_names" (sp__law_names K) []) (c__law_draw : Cal P w K mg base 1 "_law_draw" (sp__law_draw K) []) (c__law_faults : Cal P w K mg base 4 "_law_faults" (sp__law_faults K) []) : FnOk P w K mg base CX0 5 f fd ["_law_source_here", "_law_size", "_law_extra", "_law_words", "_law_most"] (sp__law_machine K) := by
  have nd := sc__law_machine.nd
  refine F.ok sc__law_machine (fun vs H Q E h => ?_) (fun cdv A outer s H vs Q E hr h => ?_)
  · obtain ⟨a, c, sz, ex, wo, mo, rfl, _⟩ := h
    rfl
  · obtain ⟨a, c, sz, ex, wo, mo, rfl, src, sz1, sz2, ex2, wo1, wo2, mo1, mo2, q⟩ := h
    refine ⟨_, (pss_cons (ps_set (i := 5) nd rfl (.inl rfl) (pe_c c__law_states hr (by omega) (by rfl) (pa_cons (pv 0) (pa_cons (pv 1) pa_nil))))
      (pss_cons (ps_set (i := 6) nd rfl (.inl rfl) (pe_c c__law_steps hr (by omega) (by rfl) (pa_cons (pv 0) (pa_cons (pv 5) (pa_cons (pe_c c__law_names hr (by omega) (by rfl) (pa_cons (pv 0) (pa_cons (pe_op op_add pe_int (pe_c c__law_draw hr (by omega) (by rfl) (pa_cons (pv 0) (pa_cons (pv 3) pa_nil)))) pa_nil))) (pa_cons (pv 2) (pa_cons (pv 4) pa_nil)))))))
      (pss_cons (ps_asg (pe_c c__law_faults hr (by omega) (by rfl) (pa_cons (pv 0) (pa_cons (pv 6) (pa_cons pe_int pa_nil)))) (pg_lst (by rfl) (pgs_cons (pg_name (i := 7) nd rfl (.inl rfl)) (pgs_cons (pg_name (i := 8) nd rfl (.inl rfl)) pgs_nil))))
      (pss_one (ps_ret (pe_lst (pa_cons (pe_ix (r := rIxL K) ix_list (pv 5) (pe_c c__law_draw hr (by omega) (by rfl) (pa_cons (pv 0) (pa_cons (pe_callB call_len (by rfl) T.m_len (by decide +kernel) (pa_cons (pv 5) pa_nil)) pa_nil))) (fun _ _ => rfl)) (pa_cons (pv 6) (pa_cons (pv 7) (pa_cons (pv 8) pa_nil)))))))))), ?_⟩
    refine ⟨.ref a, rfl, .int (sz : Int), rfl, a, c, (sz : Int), rfl, by omega, by omega, src, fun H1 lx xs b1 s1 nlx elx ndx hx lx1 lx2 => ?_⟩
    have nxa : lx ≠ a := src.ne nlx
    refine ⟨.ref a, rfl, .ref lx, rfl, .ref a, rfl, .ref a, rfl, .int (wo : Int), rfl, a, c, (wo : Int), rfl, by omega, by omega, s1, fun H2 r b2 s2 r0 u0 => ?_⟩
    obtain ⟨n, hn, n1, n2⟩ : ∃ n : Nat, 1 + r = (n : Int) ∧ 1 ≤ n ∧ n ≤ wo := ⟨(1 + r).toNat, by omega, by omega, by omega⟩
    refine ⟨1, r, rfl, rfl, a, c, n, (by show [V.ref a, V.int (1 + r)] = _; rw [hn]), n1, by omega, s2, fun H3 lw zs b3 s3 nlw elw ndz hz z1 z2 => ?_⟩
    have nwa : lw ≠ a := s2.ne nlw
    have elx3 := b3 _ _ (b2 _ _ elx nxa) nxa
    refine ⟨.int (ex : Int), rfl, .int (mo : Int), rfl, a, c, lx, lw, xs, zs, ex, mo, rfl, s3, elx3, elw, nxa, nwa, ndx, hz, lx1, by omega, z1, by omega, by omega, mo1, fun H4 l as ss b4 s4 nl el hst dr al lss => ?_⟩
    have nla : l ≠ a := s3.ne nl
    have B3 : But a H H3 := (b1.trans b2).trans b3
    have B4 := B3.trans b4
    have ss1 : 1 ≤ ss.length := by
      obtain ⟨w, y, hm⟩ := al xs[0] (List.getElem_mem (by omega))
      exact List.length_pos_of_mem hm
    refine ⟨.ref a, rfl, .ref l, rfl, a, c, l, as, ss, 3, rfl, s4, el, hst, nla, ss1, by omega, by decide, by decide, fun H5 t d fs z names b5 s5 nt nd_ ntd et ed df l3 hnm zm => ?_⟩
    have B5 := B4.trans b5
    have elx5 := b5 _ _ (b4 _ _ elx3 nxa) nxa
    have el5 := b5 _ _ el nla
    have hst5 := hst.but b5 s4.notT
    refine ⟨t, _, rfl, .inl (.inl et), rfl, .ref d, _, rfl, .str z, [], rfl, rfl, ?_⟩
    refine ⟨.ref lx, rfl, .ref a, rfl, .ref lx, rfl, .ref lx, xs.length, rfl, .inl ⟨_, .inl (.inl elx5), (List.length_map _).symm⟩, a, c, (xs.length : Int), rfl, by omega, by omega, s5, fun H6 r6 b6 s6 r60 u6 => ?_⟩
    obtain ⟨j, rfl⟩ : ∃ n : Nat, r6 = (n : Int) := ⟨r6.toNat, by omega⟩
    have hj : j < xs.length := by omega
    have elx6 := b6 _ _ elx5 nxa
    refine ⟨lx, xs.map V.int, (j : Int), .int xs[j], rfl, rfl, .inl (.inl elx6), atI_nat (by rw [List.getElem?_map, List.getElem?_eq_getElem hj]; rfl), .ref l, rfl, .ref d, rfl, .str z, rfl, szl rfl, fun T nT => ?_⟩
    have hxm : xs[j] ∈ xs := List.getElem_mem hj
    generalize xs[j] = s0 at hxm ⊢
    have sT := same_upd (o := .lst [.int s0, .ref l, .ref d, .str z]) nT
    have B6 := B5.trans b6
    have nda : d ≠ a := s4.ne nd_
    have el6 := b6 _ _ el5 nla
    have ed6 := b6 _ _ ed nda
    have hst6 := hst5.but b6 s5.notT
    have hst' : ∀ x ∈ xs, stateB (.int x) = true := fun x h => stateB_of (hx x h)
    have gs : GoodSteps ss := ⟨ss1, by omega, fun x h => ⟨hst' _ (dr.good x h).1, hz _ (dr.good x h).2.1, hst' _ (dr.good x h).2.2⟩, dr.nd, fun s => Nat.le_trans (dr.few s) mo2⟩
    have gm : GoodMach s0 ss fs := ⟨hst' _ hxm, gs, fun w2 hw2 => by
        have := sub_len (m := zs) hw2.nd (fun x hx => by
          obtain ⟨u, hu, e⟩ := List.mem_map.mp ((hw2.mem x).mp hx)
          rw [← e]
          exact (dr.good u hu).2.1)
        omega, df.good (fun z h => by
          obtain ⟨u, hu, e⟩ := List.mem_map.mp h
          rw [← e]
          exact hz _ (dr.good u hu).2.1) hnm l3 (by rw [List.length_map]; omega), fun x r => al x (by
        induction r with
        | start => exact hxm
        | step _ m _ => exact (dr.good _ m).2.2)⟩
    have nl0 : H l = none := B3.fresh s3 nl
    have nd0 : H d = none := B4.fresh s4 nd_
    exact q _ T l d as ss fs s0 z (B6.trans (Same.but sT)) (s6.mono sT) (B6.fresh s6 nT) nl0 nd0 (ne_of_none ed6 nT).symm (ne_of_none el nd_) (ne_of_none el6 nT).symm upd_same (sT _ _ el6) (hst6.mono sT) (sT _ _ ed6) gm df.nd zm

theorem look_cons (x n : Str) (r : List (Str × Str)) (y : Str) : look ((x, n) :: r) y = if x = y then some n else look r y := by
  unfold look
  by_cases e : x = y
  · rw [List.find?_cons_of_pos (by simp [e]), if_pos e]; rfl
  · rw [List.find?_cons_of_neg (by simp [e]), if_neg e]
theorem look_mem {fs : List (Str × Str)} (nd : (fs.map (·.1)).Nodup) {x n : Str} : look fs x = some n ↔ (x, n) ∈ fs := by
  induction fs with
  | nil => exact ⟨fun h => (by cases h), fun h => nomatch h⟩
  | cons p r ih =>
    obtain ⟨y, m⟩ := p
    rw [List.map_cons, List.nodup_cons] at nd
    rw [look_cons]
    by_cases e : y = x
    · subst e
      rw [if_pos rfl]
      constructor
      · intro h; cases h; exact List.mem_cons_self
      · intro h
        rcases List.mem_cons.mp h with h | h
        · cases h; rfl
        · exact absurd (List.mem_map.mpr ⟨_, h, rfl⟩) nd.1
    · rw [if_neg e, ih nd.2]
      constructor
      · intro h; exact List.mem_cons_of_mem _ h
      · intro h
        rcases List.mem_cons.mp h with h | h
        · cases h; exact absurd rfl e
        · exact h
theorem order_mem {ws : List Str} {fs : List (Str × Str)} {p : Str × Str} : p ∈ orderF ws fs ↔ p.1 ∈ ws ∧ look fs p.1 = some p.2 := by
  unfold orderF
  rw [List.mem_filterMap]
  constructor
  · rintro ⟨x, hx, e⟩
    cases g : look fs x with
    | none => rw [g] at e; cases e
    | some n => rw [g] at e; cases e; exact ⟨hx, g⟩
  · rintro ⟨h1, h2⟩
    exact ⟨p.1, h1, by rw [h2]; rfl⟩
theorem order_fst (ws : List Str) (fs : List (Str × Str)) : (orderF ws fs).map (·.1) = ws.filter fun x => (look fs x).isSome := by
  unfold orderF
  induction ws with
  | nil => rfl
  | cons x r ih =>
    rw [List.filterMap_cons]
    cases e : look fs x with
    | none => rw [List.filter_cons_of_neg (by simp [e])]; exact ih
    | some n => rw [List.filter_cons_of_pos (by simp [e]), ← ih]; rfl
theorem order_same {ws : List Str} {fs : List (Str × Str)} (nws : ws.Nodup) (nd : (fs.map (·.1)).Nodup) (h : ∀ p ∈ fs, p.1 ∈ ws) : (orderF ws fs).Perm fs := by
  have n1 : ((orderF ws fs).map (·.1)).Nodup := by rw [order_fst]; exact List.filter_sublist.nodup nws
  have ndp : ∀ {l : List (Str × Str)}, (l.map (·.1)).Nodup → l.Nodup := fun {l} hl => (List.pairwise_map.mp hl).imp fun hne e => hne (congrArg (·.1) e)
  refine (List.perm_ext_iff_of_nodup (ndp n1) (ndp nd)).mpr fun p => ?_
  rw [order_mem, look_mem nd]
  exact ⟨fun q => q.2, fun q => ⟨h p q, q⟩⟩
def wordAt (ss : List KnA.Stp) (k : Nat) : Str := match ss[k]? with
  | some st => st.2.1
  | none => ""
theorem look_order {ws : List Str} {fs : List (Str × Str)} {x : Str} (nws : ws.Nodup) (hx : x ∈ ws) : look (orderF ws fs) x = look fs x := by
  have nd : ((orderF ws fs).map (·.1)).Nodup := by
    rw [order_fst]
    exact nws.filter _
  cases h : look fs x with
  | some n => exact (look_mem nd).mpr (order_mem.mpr ⟨hx, h⟩)
  | none =>
    cases h2 : look (orderF ws fs) x with
    | none => rfl
    | some n =>
      have := order_mem.mp ((look_mem nd).mp h2)
      rw [this.2] at h
      cases h

end
end Kn

set_option Elab.async false
set_option linter.all false
set_option maxRecDepth 100000
set_option maxHeartbeats 4000000
namespace Kn
open PySem PySem.Spec PyProof.Rows L2
open C8 (Cal pe_c pe_gc Mak pe_mk)
section
variable {P : Program} {w : World} {K : PySem.W.Frag} {mg : Str → Option Value} {base : Heap}
/-! ### texts: numbers, lines -/
def sN (n : Int) : Str := Str.ofString (toString n)
def digs : Str := "0123456789"
def inD (c : Nat) : Bool := decide (c ∈ digs.cps.toList)
/-- the text of a state -/
def stateT (z : Str) : Bool := decide (1 ≤ z.cps.size) && decide (z.cps.size ≤ 2) && z.cps.toList.all inD && (decide (z.cps.size = 1) || !decide (z.cps.toList[0]? = some 48))
theorem sN_all : ∀ n ∈ List.range 100, stateT (sN (n : Int)) = true := by decide +kernel
theorem sN_st {n : Int} (h : 0 ≤ n ∧ n ≤ 99) : stateT (sN n) = true := by
  have := sN_all n.toNat (List.mem_range.mpr (by omega))
  rwa [show ((n.toNat : Nat) : Int) = n by omega] at this
theorem sN_int_all : ∀ n ∈ List.range 100, intText? (sN (n : Int)) = some (n : Int) := by decide +kernel
theorem sN_int {n : Int} (h : 0 ≤ n ∧ n ≤ 99) : intText? (sN n) = some n := by
  have := sN_int_all n.toNat (List.mem_range.mpr (by omega))
  rwa [show ((n.toNat : Nat) : Int) = n by omega] at this
theorem inD_all : ∀ c ∈ digs.cps.toList, c ≠ 10 ∧ c ≠ 32 := by decide +kernel
theorem stateT_size {z : Str} (h : stateT z = true) : 1 ≤ z.cps.size ∧ z.cps.size ≤ 2 ∧ ∀ c ∈ z.cps.toList, inD c = true := by
  unfold stateT at h
  simp only [Bool.and_eq_true, decide_eq_true_eq] at h
  exact ⟨h.1.1.1, h.1.1.2, List.all_eq_true.mp h.1.2⟩
theorem abc_no : ∀ c ∈ letters.cps.toList, c ≠ 10 ∧ c ≠ 32 := by decide +kernel
theorem app_assoc (a b c : Str) : a ++ b ++ c = a ++ (b ++ c) := by
  show Str.mk (a.cps ++ b.cps ++ c.cps) = Str.mk (a.cps ++ (b.cps ++ c.cps))
  rw [Array.append_assoc]
theorem emp_app (a : Str) : Str.empty ++ a = a := by
  show Str.mk (#[] ++ a.cps) = a
  rw [Array.empty_append]
theorem size_app (a b : Str) : (a ++ b).cps.size = a.cps.size + b.cps.size := Array.size_append
def rowS (x : KnA.Stp) : List Str := [sN x.1, x.2.1, sN x.2.2]
def rowF (p : Str × Str) : List Str := ["fault", p.1, p.2]
def row0 (s0 : Int) : List Str := ["start", sN s0]
def lineOf (r : List Str) : Str := Txt.join " " r
theorem line2 (a b : Str) : lineOf [a, b] = a ++ " " ++ b := by
  unfold lineOf
  rw [TL.join_eq]; rfl
theorem line3 (a b c : Str) : lineOf [a, b, c] = a ++ " " ++ b ++ " " ++ c := by
  unfold lineOf
  rw [TL.join_eq]
  show a ++ " " ++ (b ++ " " ++ c) = _
  simp only [app_assoc]
def rowsOf (s0 : Int) (ss : List KnA.Stp) (fs : List (Str × Str)) : List (List Str) := row0 s0 :: (ss.map rowS ++ fs.map rowF)
def linesOf (s0 : Int) (ss : List KnA.Stp) (fs : List (Str × Str)) : List Str := (rowsOf s0 ss fs).map lineOf
def textOf (s0 : Int) (ss : List KnA.Stp) (fs : List (Str × Str)) : Str := Txt.join "\n" (linesOf s0 ss fs)
/-- parts that stand in a line: no space, no newline -/
def Plain (z : Str) : Prop := ∀ c ∈ z.cps.toList, c ≠ 10 ∧ c ≠ 32
theorem plain_name {z : Str} (h : nameB (.str z) = true) : Plain z := by
  obtain ⟨h1, h2⟩ := name_size h
  rw [nameB_in h1 h2] at h
  exact fun c hc => abc_no c (of_decide_eq_true (List.all_eq_true.mp h c hc))
theorem plain_state {z : Str} (h : stateT z = true) : Plain z := fun c hc => inD_all c (of_decide_eq_true ((stateT_size h).2.2 c hc))
theorem plain_start : Plain "start" := by unfold Plain; decide +kernel
theorem plain_fault : Plain "fault" := by unfold Plain; decide +kernel
theorem split_row {r : List Str} (h : r ≠ []) (p : ∀ z ∈ r, Plain z) : Txt.split (lineOf r) " " = r :=
  TL.split_join (y := " ") (s := 32) (S := []) (by decide +kernel) (by decide +kernel) h fun z hz hm => (p z hz 32 hm).2 rfl
theorem line_no {r : List Str} (p : ∀ z ∈ r, Plain z) : ∀ c ∈ (lineOf r).cps.toList, c ≠ 10 := by
  unfold lineOf
  rw [TL.join_eq]
  induction r with
  | nil => intro c hc; exact absurd hc (by decide +revert)
  | cons x t ih =>
    intro c hc
    cases t with
    | nil => exact (p x List.mem_cons_self c hc).1
    | cons y t =>
      have hc' : c ∈ ((x.cps ++ (" " : Str).cps) ++ (Str.join " " (y :: t)).cps).toList := hc
      rw [Array.toList_append, Array.toList_append, List.mem_append, List.mem_append] at hc'
      rcases hc' with (hc' | hc') | hc'
      · exact (p x List.mem_cons_self c hc').1
      · have : (" " : Str).cps.toList = [32] := by decide +kernel
        rw [this, List.mem_singleton] at hc'
        omega
      · exact ih (fun z hz => p z (List.mem_cons_of_mem _ hz)) c hc'
theorem split_lines {rows : List (List Str)} (h : rows ≠ []) (p : ∀ r ∈ rows, ∀ z ∈ r, Plain z) : Txt.split (Txt.join "\n" (rows.map lineOf)) "\n" = rows.map lineOf :=
  TL.split_join (y := "\n") (s := 10) (S := []) (by decide +kernel) (by decide +kernel) (fun e => h (List.map_eq_nil_iff.mp e)) fun z hz hm => by
    obtain ⟨r, hr, rfl⟩ := List.mem_map.mp hz
    exact line_no (p r hr) 10 hm rfl
structure GoodText (s0 : Int) (ss : List KnA.Stp) (fs : List (Str × Str)) : Prop where
  st : stateB (.int s0) = true
  gs : ∀ x ∈ ss, GoodStep x
  gf : ∀ p ∈ fs, nameB (.str p.1) = true ∧ nameB (.str p.2) = true
theorem GoodText.plain {s0 : Int} {ss : List KnA.Stp} {fs : List (Str × Str)} (g : GoodText s0 ss fs) : ∀ r ∈ rowsOf s0 ss fs, ∀ z ∈ r, Plain z := by
  intro r hr z hz
  unfold rowsOf at hr
  rcases List.mem_cons.mp hr with rfl | hr
  · unfold row0 at hz
    simp only [List.mem_cons, List.not_mem_nil, or_false] at hz
    rcases hz with rfl | rfl
    · exact plain_start
    · exact plain_state (sN_st (state_in g.st))
  · rcases List.mem_append.mp hr with hr | hr
    · obtain ⟨x, hx, rfl⟩ := List.mem_map.mp hr
      have := g.gs x hx
      unfold rowS at hz
      simp only [List.mem_cons, List.not_mem_nil, or_false] at hz
      rcases hz with rfl | rfl | rfl
      · exact plain_state (sN_st (state_in this.s))
      · exact plain_name this.w
      · exact plain_state (sN_st (state_in this.t))
    · obtain ⟨p, hp, rfl⟩ := List.mem_map.mp hr
      have := g.gf p hp
      unfold rowF at hz
      simp only [List.mem_cons, List.not_mem_nil, or_false] at hz
      rcases hz with rfl | rfl | rfl
      · exact plain_fault
      · exact plain_name this.1
      · exact plain_name this.2

end
end Kn

set_option Elab.async false
set_option linter.all false
set_option maxRecDepth 100000
set_option maxHeartbeats 4000000
namespace Kn
open PySem PySem.Spec PyProof.Rows L2
open C8 (Cal pe_c pe_gc Mak pe_mk)
section
variable {P : Program} {w : World} {K : PySem.W.Frag} {mg : Str → Option Value} {base : Heap}
theorem lc_items {d : Addr} {o : Obj} {kvs : List (Key × V)} {g : TG} {tt : TT} {te : TE} {vs : List Nat} {σ : L2.St} {H1 : Hp} {D : Addr} {Qd : Hp → Prop} (Pv : Nat → Hp → Prop) (h0 : Pv 0 (upd H1 D (.lst []))) (hl : ∀ i H, i ≤ kvs.length → Pv i H → H d = some (.frz o (.dK kvs)))
    (hs : ∀ (i : Nat) (k : Key) (v : V) (T : Addr) (H : Hp), kvs[i]? = some (k, v) → H T = none → Pv i H → g (.ref T) (wipe σ vs) (upd H T (.tup [kV k, v])) fun σ2 H2 => wipe σ2 vs = wipe σ vs ∧ tt σ2 H2 fun b H3 =>
      if b = true then te σ2 H3 fun y H4 => ∃ acc, H4 D = some (.lst acc) ∧ acc.length < sizeLine ∧ Pv (i + 1) (upd H4 D (.lst (acc ++ [y]))) else Pv (i + 1) H3) (hd : ∀ H, Pv kvs.length H → Qd H) :
    ∃ W : Nat → Nat → Hp → Prop, (∃ m, W 0 m (upd H1 D (.lst []))) ∧ ∀ i m H, W i m H →
      ((Iti d o kvs).stop i H ∧ Qd H) ∨ ((Iti d o kvs).go i H ∧ ∃ Nx : Hp → Prop, (∀ H', Nx H' → ∃ m', m' < m ∧ W (i + 1) m' H') ∧ ∀ x H', (Iti d o kvs).yld i H x H' → g x (wipe σ vs) H' fun σ2 H2 => wipe σ2 vs = wipe σ vs ∧ tt σ2 H2 fun b H3 =>
        if b = true then te σ2 H3 fun y H4 => ∃ acc, H4 D = some (.lst acc) ∧ acc.length < sizeLine ∧ Nx (upd H4 D (.lst (acc ++ [y]))) else Nx H3) := by
  refine ⟨fun i m H => m = kvs.length - i ∧ i ≤ kvs.length ∧ Pv i H, ⟨kvs.length, by simp, Nat.zero_le _, h0⟩, ?_⟩
  rintro i m H ⟨rfl, hi, p⟩
  have q := hl i H hi p
  rcases Nat.lt_or_eq_of_le hi with lt | e
  · refine .inr ⟨⟨q, lt⟩, Pv (i + 1), fun H' p' => ⟨kvs.length - (i + 1), by omega, rfl, lt, p'⟩, fun v H' ⟨T, k, u, ek, ev, nT, eH⟩ => ?_⟩
    subst ev eH
    exact hs i k u T H ek nT p
  · subst e
    exact .inl ⟨⟨q, Nat.le_refl _⟩, hd H p⟩

/-! ### machine_text -/
def SZ (n : Nat) (z : Str) : Prop := z.cps.size ≤ n
theorem SZ.app {a b : Str} {m n : Nat} (ha : SZ m a) (hb : SZ n b) : SZ (m + n) (a ++ b) := by
  unfold SZ at *
  rw [size_app]; omega
theorem SZ.ln {a : Str} {m : Nat} (h : SZ m a) (k : m ≤ 90000) : a.length ≤ sizeLine := smallE (show a.cps.size ≤ 100000 by unfold SZ at h; omega)
theorem sz_emp : SZ 0 Str.empty := Nat.le_refl _
theorem sz_sp : SZ 1 " " := by unfold SZ; decide +kernel
theorem sz_start : SZ 5 "start" := by unfold SZ; decide +kernel
theorem sz_fault : SZ 5 "fault" := by unfold SZ; decide +kernel
theorem sz_num {n : Int} (h : 0 ≤ n ∧ n ≤ 99) : SZ 2 (sN n) := (stateT_size (sN_st h)).2.1
theorem sz_name {z : Str} (h : nameB (.str z) = true) : SZ 12 z := (name_size h).2
theorem log_st {n : Int} (h : 0 ≤ n ∧ n ≤ 99) : n.natAbs.log2 < 1920 := by
  have h1 : n.natAbs < 2 ^ 7 := by omega
  by_cases z : n.natAbs = 0
  · rw [z]; decide
  · have := (Nat.log2_lt z).mpr h1
    omega
theorem line_size {r : List Str} {m : Nat} (h : ∀ z ∈ r, SZ m z) : SZ (r.length * (m + 1)) (lineOf r) := by
  unfold lineOf
  rw [TL.join_eq]
  induction r with
  | nil => exact Nat.zero_le _
  | cons x t ih =>
    cases t with
    | nil => exact Nat.le_trans (h x List.mem_cons_self) (by rw [List.length_singleton]; omega)
    | cons y t =>
      have h1 := ih fun z hz => h z (List.mem_cons_of_mem _ hz)
      have h2 := ((h x List.mem_cons_self).app sz_sp).app h1
      unfold SZ at h2 ⊢
      refine Nat.le_trans h2 ?_
      rw [List.length_cons (a := x), Nat.add_mul]
      omega
theorem GoodText.sizes {s0 : Int} {ss : List KnA.Stp} {fs : List (Str × Str)} (g : GoodText s0 ss fs) : ∀ r ∈ rowsOf s0 ss fs, SZ 39 (lineOf r) := by
  have three : ∀ {r : List Str}, r.length ≤ 3 → (∀ z ∈ r, SZ 12 z) → SZ 39 (lineOf r) := fun {r} l h => Nat.le_trans (line_size h) (by omega)
  intro r hr
  unfold rowsOf at hr
  rcases List.mem_cons.mp hr with rfl | hr
  · refine three (Nat.le_of_ble_eq_true rfl) fun z hz => ?_
    unfold row0 at hz
    simp only [List.mem_cons, List.not_mem_nil, or_false] at hz
    rcases hz with rfl | rfl
    · exact Nat.le_trans sz_start (by decide)
    · exact Nat.le_trans (sz_num (state_in g.st)) (by decide)
  · rcases List.mem_append.mp hr with hr | hr
    · obtain ⟨x, hx, rfl⟩ := List.mem_map.mp hr
      have := g.gs x hx
      refine three (Nat.le_refl _) fun z hz => ?_
      unfold rowS at hz
      simp only [List.mem_cons, List.not_mem_nil, or_false] at hz
      rcases hz with rfl | rfl | rfl
      · exact Nat.le_trans (sz_num (state_in this.s)) (by decide)
      · exact sz_name this.w
      · exact Nat.le_trans (sz_num (state_in this.t)) (by decide)
    · obtain ⟨p, hp, rfl⟩ := List.mem_map.mp hr
      have := g.gf p hp
      refine three (Nat.le_refl _) fun z hz => ?_
      unfold rowF at hz
      simp only [List.mem_cons, List.not_mem_nil, or_false] at hz
      rcases hz with rfl | rfl | rfl
      · exact Nat.le_trans sz_fault (by decide)
      · exact sz_name this.1
      · exact sz_name this.2
theorem sum_le {ls : List Str} {m : Nat} (h : ∀ z ∈ ls, SZ m z) : (ls.map (·.length)).sum ≤ ls.length * m := by
  induction ls with
  | nil => exact Nat.zero_le _
  | cons x r ih =>
    have h1 := ih fun z hz => h z (List.mem_cons_of_mem _ hz)
    have h2 : x.length ≤ m := h x List.mem_cons_self
    rw [List.map_cons, List.sum_cons, List.length_cons, Nat.add_mul]
    omega
theorem GoodText.sum {s0 : Int} {ss : List KnA.Stp} {fs : List (Str × Str)} (g : GoodText s0 ss fs) (l : ss.length + fs.length ≤ 2000) : ((linesOf s0 ss fs).map (·.length)).sum + (linesOf s0 ss fs).length * ("\n" : Str).length ≤ 16777216 := by
  have h1 := sum_le (ls := linesOf s0 ss fs) (m := 39) fun z hz => by
    obtain ⟨r, hr, rfl⟩ := List.mem_map.mp hz
    exact g.sizes r hr
  have h2 : (linesOf s0 ss fs).length = 1 + (ss.length + fs.length) := by
    unfold linesOf rowsOf
    rw [List.length_map, List.length_cons, List.length_append, List.length_map, List.length_map]; omega
  have h3 : ("\n" : Str).length = 1 := by decide +kernel
  rw [h3]
  omega
def sp_machine_text (_ : PySem.W.Frag) (C : Addr) : Sp := fun vs H Q _ => ∃ (p : Addr) (s0 : Int) (ss : List KnA.Stp) (fs : List (Str × Str)), vs = [.ref p] ∧ MachAt C H p s0 ss fs ∧ GoodMach s0 ss fs ∧ ∀ H' ws, Same H H' → KnA.Words ws (ss.map (·.2.1)) → Q (.str (textOf s0 ss (orderF ws fs))) H'
theorem good_text {s0 : Int} {ss : List KnA.Stp} {fs : List (Str × Str)} (gm : GoodMach s0 ss fs) : GoodText s0 ss fs := ⟨gm.st0, gm.gs.good, fun p hp => ⟨(gm.gf.word p hp).1, (gm.gf.word p hp).2.2⟩⟩
theorem order_in {ws : List Str} {fs : List (Str × Str)} {p : Str × Str} (h : p ∈ orderF ws fs) : p ∈ fs := by
  unfold orderF at h
  obtain ⟨x, hx, e⟩ := List.mem_filterMap.mp h
  cases g : look fs x with
  | none => rw [g] at e; cases e
  | some n =>
    rw [g] at e
    cases e
    unfold look at g
    cases hf : fs.find? (fun p => decide (p.1 = x)) with
    | none => rw [hf] at g; cases g
    | some q =>
      rw [hf] at g
      have h1 := List.mem_of_find?_eq_some hf
      have h2 : q.1 = x := of_decide_eq_true (List.find?_some (p := fun p : Str × Str => decide (p.1 = x)) hf)
      rw [← h2, ← Option.some.inj g]
      exact h1
theorem good_order {s0 : Int} {ss : List KnA.Stp} {fs : List (Str × Str)} {ws : List Str} (g : GoodText s0 ss fs) : GoodText s0 ss (orderF ws fs) := ⟨g.st, g.gs, fun p hp => g.gf p (order_in hp)⟩
theorem ok_machine_text {f : Addr} {C : Addr} {fd : FuncData} (T : Txt K mg C) (F : Fun K "machine_text" "machine_text" s_machine_text f fd) (c_Machine_start : KnP.Prp P w K mg base 1 C "start" (sp_Machine_start K C)) (c_Machine_steps : KnP.Prp P w K mg base 1 C "steps" (sp_Machine_steps K C)) (c_Machine_faults : KnP.Prp P w K mg base 1 C "faults" (sp_Machine_faults K C)) : FnOk P w K mg base CX0 3 f fd ["machine"] (sp_machine_text K C) := by
  have nd := sc_machine_text.nd
  refine F.ok sc_machine_text (fun vs H Q E h => ?_) (fun cdv A outer s H vs Q E hr h => ?_)
  · obtain ⟨p, s0, ss, fs, rfl, _⟩ := h
    rfl
  · obtain ⟨p, s0, ss, fs, rfl, hm, gm, q⟩ := h
    refine ⟨_, (pss_cons (ps_set (i := 1) nd rfl (.inl rfl) (pe_lst (pa_cons (KnF.pe_jn (.cons (pe_fmt (pe_gc (by rfl) T.c_START)) (.cons pe_str (.cons (pe_fmt (KnP.pe_prp T.cl c_Machine_start hr (by decide) (pv 0) (by rfl))) .nil)))) pa_nil)))
      (pss_cons (ps_expr (pe_bm PySem.F.plainAttrs_list PySem.F.slot_list_extend PySem.F.type_list_extend mt_extend (pv 1) (pa_cons (pe_lc (own := [("source", 2), ("word", 3), ("target", 4)]) (g := gTup K 3 (gCons (gName 2) (gCons (gName 3) (gCons (gName 4) gNil)))) (tt := tYes) rfl nd (pi_list (KnP.pe_prp T.cl c_Machine_steps hr (by decide) (pv 0) (by rfl))) (blkOk_by (N := ["machine", "lines", "source", "word", "target", "name"]) (sc := defScope s_machine_text) (by decide +kernel)) (fun _ _ _ _ _ => (pg_tup (by rfl) (pgs_cons (pg_name (i := 2) nd rfl (.inl rfl)) (pgs_cons (pg_name (i := 3) nd rfl (.inl rfl)) (pgs_cons (pg_name (i := 4) nd rfl (.inl rfl)) pgs_nil))))) (fun _ _ _ _ _ => pts_nil) (fun _ _ _ _ _ => (KnF.pe_jn (.cons (pe_fmt (pv 2)) (.cons pe_str (.cons (pe_fmt (pv 3)) (.cons pe_str (.cons (pe_fmt (pv 4)) .nil)))))))) pa_nil)))
      (pss_cons (ps_expr (pe_bm PySem.F.plainAttrs_list PySem.F.slot_list_extend PySem.F.type_list_extend mt_extend (pv 1) (pa_cons (pe_lc (own := [("word", 3), ("name", 5)]) (g := gTup K 2 (gCons (gName 3) (gCons (gName 5) gNil))) (tt := tYes) rfl nd (KnF.pi_itemsF (KnP.pe_prp T.cl c_Machine_faults hr (by decide) (pv 0) (by rfl))) (blkOk_by (N := ["machine", "lines", "source", "word", "target", "name"]) (sc := defScope s_machine_text) (by decide +kernel)) (fun _ _ _ _ _ => (pg_tup (by rfl) (pgs_cons (pg_name (i := 3) nd rfl (.inl rfl)) (pgs_cons (pg_name (i := 5) nd rfl (.inl rfl)) pgs_nil)))) (fun _ _ _ _ _ => pts_nil) (fun _ _ _ _ _ => (KnF.pe_jn (.cons (pe_fmt (pe_gc (by rfl) T.c_FAULT)) (.cons pe_str (.cons (pe_fmt (pv 3)) (.cons pe_str (.cons (pe_fmt (pv 5)) .nil)))))))) pa_nil)))
      (pss_one (ps_ret (pe_join pe_str (pv 1))))))), ?_⟩
    obtain ⟨dx, ls, lw, df, lt, as, ws, ns, mm⟩ := id hm
    have gt := good_text gm
    have go : GoodText s0 ss (orderF ws fs) := good_order gt
    have st0 := state_in gm.st0
    have hi80 := gm.gs.hi
    refine .inl ⟨"start", rfl, sz_start.ln (by decide), "start", rfl, (sz_emp.app sz_start).ln (by decide), " ", rfl, ((sz_emp.app sz_start).app sz_sp).ln (by decide), .ref p, rfl, p, dx, _, rfl, mm.ob, p, s0, ss, fs, rfl, hm, .inr ⟨s0, rfl, log_st st0, sN s0, rfl, (((sz_emp.app sz_start).app sz_sp).app (sz_num st0)).ln (by decide), ?_⟩⟩
    refine ⟨szl rfl, fun l1 n1 => ?_⟩
    have e0 : Str.empty ++ "start" ++ " " ++ sN s0 = lineOf (row0 s0) := by rw [emp_app]; exact (line2 _ _).symm
    rw [e0]
    have s1 := same_upd (o := .lst [.str (lineOf (row0 s0))]) n1
    have e1 : (upd H l1 (.lst [.str (lineOf (row0 s0))])) l1 = some (.lst [.str (lineOf (row0 s0))]) := upd_same
    generalize upd H l1 (.lst [.str (lineOf (row0 s0))]) = H1 at s1 e1 ⊢
    refine ⟨.ref l1, rfl, .inl ⟨rfl, _, .inl (.inl e1)⟩, .ref p, rfl, p, dx, _, rfl, s1 _ _ mm.ob, p, s0, ss, fs, rfl, hm.mono s1, fun H2 l as2 s2 nl el hst => ⟨l, rfl, ⟨_, .inl (.inl el)⟩, fun D nD => ?_⟩⟩
    refine lc_list (K := K) (a := l) (xs := as2.map V.ref) (fun i G => Same H2 G ∧ G D = some (.lst (((ss.take i).map fun x => lineOf (rowS x)).map V.str)))
      ⟨same_upd nD, upd_same⟩ (fun i G _ hP => .inl (.inl (hP.1 _ _ el))) (fun i v G hv hP => ?_) (fun G hP => ?_)
    · obtain ⟨S, eD⟩ := hP
      obtain ⟨ai, x, rfl, gi, g, hai⟩ := ref_get (hst.mono S) hv
      have gx := gm.gs.good x (List.mem_of_getElem? g)
      have hx := state_in gx.s
      have hy := state_in gx.t
      refine ⟨ai, _, rfl, .inl (.inl hai), rfl, .int x.1, _, rfl, .str x.2.1, _, rfl, .int x.2.2, [], rfl, rfl, rfl, ?_⟩
      unfold tYes
      have z1 := sz_emp.app (sz_num hx)
      have z2 := z1.app sz_sp
      have z3 := z2.app (sz_name gx.w)
      have z4 := z3.app sz_sp
      have z5 := z4.app (sz_num hy)
      refine iteT ⟨.int x.1, rfl, .inr ⟨x.1, rfl, log_st hx, sN x.1, rfl, z1.ln (by decide), " ", rfl, z2.ln (by decide), .str x.2.1, rfl, .inl ⟨x.2.1, rfl, (sz_name gx.w).ln (by decide), x.2.1, rfl, z3.ln (by decide), " ", rfl, z4.ln (by decide), .int x.2.2, rfl, .inr ⟨x.2.2, rfl, log_st hy, sN x.2.2, rfl, z5.ln (by decide), ?_⟩⟩⟩⟩
      have ex : Str.empty ++ sN x.1 ++ " " ++ x.2.1 ++ " " ++ sN x.2.2 = lineOf (rowS x) := by rw [emp_app]; exact (line3 _ _ _).symm
      refine ⟨_, eD, small (by rw [List.length_map, List.length_map, List.length_take]; omega), same_set nD S, ?_⟩
      rw [upd_same, take_more g, List.map_append, List.map_append]
      show some (HO.lst (_ ++ [V.str (Str.empty ++ sN x.1 ++ " " ++ x.2.1 ++ " " ++ sN x.2.2)])) = _
      rw [ex]; rfl
    · obtain ⟨S, eD⟩ := hP
      rw [List.length_map, hst.length, List.take_length] at eD
      have S2 := s2.trans S
      have e1' := S2 _ _ e1
      refine ⟨l1, D, _, _, rfl, rfl, e1', eD, smallE (by rw [List.length_map, List.length_map]; show 1 + _ ≤ _; omega), ?_⟩
      have nl1H : H l1 = none := n1
      have e2 : (upd G l1 (.lst ([V.str (lineOf (row0 s0))] ++ (ss.map fun x => lineOf (rowS x)).map V.str))) l1 = some (.lst (((row0 s0 :: ss.map rowS).map lineOf).map V.str)) := by
        rw [upd_same]
        simp only [List.map_cons, List.map_map, List.singleton_append]
        rfl
      have S3 : Same H (upd G l1 (.lst ([V.str (lineOf (row0 s0))] ++ (ss.map fun x => lineOf (rowS x)).map V.str))) := same_set n1 (s1.trans S2)
      generalize upd G l1 (.lst ([V.str (lineOf (row0 s0))] ++ (ss.map fun x => lineOf (rowS x)).map V.str)) = H3 at e2 S3 ⊢
      refine ⟨.ref l1, rfl, .inl ⟨rfl, _, .inl (.inl e2)⟩, .ref p, rfl, p, dx, _, rfl, S3 _ _ mm.ob, p, s0, ss, fs, rfl, hm.mono S3, fun H4 d ws' s4 nd4 ed4 hws' => ?_⟩
      rw [hws'.uniq mm.wo] at ed4
      refine ⟨d, .dK (fkv (orderF ws fs)), rfl, ed4, trivial, fun od => ⟨d, od, _, rfl, upd_same, fun D2 nD2 => ?_⟩⟩
      have nl1d : l1 ≠ d := ne_of_none e2 nd4
      have ef : (upd H4 d (.frz od (.dK (fkv (orderF ws fs))))) d = some (.frz od (.dK (fkv (orderF ws fs)))) := upd_same
      have e24 : (upd H4 d (.frz od (.dK (fkv (orderF ws fs))))) l1 = some (.lst (((row0 s0 :: ss.map rowS).map lineOf).map V.str)) := (upd_ne nl1d).trans (s4 _ _ e2)
      have S4 : Same H (upd H4 d (.frz od (.dK (fkv (orderF ws fs))))) := same_set (S3.free nd4) (S3.trans s4)
      generalize upd H4 d (.frz od (.dK (fkv (orderF ws fs)))) = H5 at ef e24 S4 nD2 ⊢
      have lf : (orderF ws fs).length ≤ 80 := by
        have h1 := order_len ws fs
        have h2 := words_le mm.wo
        rw [List.length_map] at h2
        omega
      refine lc_items (kvs := fkv (orderF ws fs)) (fun i G => Same H5 G ∧ G D2 = some (.lst ((((orderF ws fs).take i).map fun x => lineOf (rowF x)).map V.str)))
        ⟨same_upd nD2, upd_same⟩ (fun i G _ hP => hP.1 _ _ ef) (fun i k v T G hx nT hP => ?_) (fun G hP => ?_)
      · obtain ⟨S, eD⟩ := hP
        obtain ⟨x, y, gx, rfl, rfl⟩ := fkv_get hx
        have gxy := go.gf _ (List.mem_of_getElem? gx)
        have sT := same_upd (o := .tup [.str x, .str y]) nT
        have eD' := sT _ _ eD
        have S' : Same H5 (upd G T (.tup [.str x, .str y])) := S.trans sT
        have eT : (upd G T (.tup [.str x, .str y])) T = some (.tup [.str x, .str y]) := upd_same
        show gTup _ _ _ _ _ (upd G T (.tup [.str x, .str y])) _
        generalize upd G T (.tup [.str x, .str y]) = G2 at eD' S' eT ⊢
        have z1 := sz_emp.app sz_fault
        have z2 := z1.app sz_sp
        have z3 := z2.app (sz_name gxy.1)
        have z4 := z3.app sz_sp
        have z5 := z4.app (sz_name gxy.2)
        refine ⟨T, _, rfl, .inl (.inl eT), rfl, .str x, _, rfl, .str y, [], rfl, rfl, rfl, ?_⟩
        unfold tYes
        refine iteT (.inl ⟨"fault", rfl, sz_fault.ln (by decide), "fault", rfl, z1.ln (by decide), " ", rfl, z2.ln (by decide), .str x, rfl, .inl ⟨x, rfl, (sz_name gxy.1).ln (by decide), x, rfl, z3.ln (by decide), " ", rfl, z4.ln (by decide), .str y, rfl, .inl ⟨y, rfl, (sz_name gxy.2).ln (by decide), y, rfl, z5.ln (by decide), ?_⟩⟩⟩)
        have ex : Str.empty ++ "fault" ++ " " ++ x ++ " " ++ y = lineOf (rowF (x, y)) := by rw [emp_app]; exact (line3 _ _ _).symm
        refine ⟨_, eD', small (by rw [List.length_map, List.length_map, List.length_take]; omega), same_set nD2 S', ?_⟩
        rw [upd_same, take_more gx, List.map_append, List.map_append]
        show some (HO.lst (_ ++ [V.str (Str.empty ++ "fault" ++ " " ++ x ++ " " ++ y)])) = _
        rw [ex]; rfl
      · obtain ⟨S, eD⟩ := hP
        have lk : (fkv (orderF ws fs)).length = (orderF ws fs).length := by unfold fkv; rw [List.length_map]
        rw [lk, List.take_length] at eD
        have e2' := S _ _ e24
        refine ⟨l1, D2, _, _, rfl, rfl, e2', eD, smallE (by simp only [List.length_map, List.length_cons]; omega), ?_⟩
        have e3 : (upd G l1 (.lst (((row0 s0 :: ss.map rowS).map lineOf).map V.str ++ ((orderF ws fs).map fun x => lineOf (rowF x)).map V.str))) l1 = some (.lst ((linesOf s0 ss (orderF ws fs)).map V.str)) := by
          rw [upd_same]
          unfold linesOf rowsOf
          simp only [List.map_cons, List.map_map, List.map_append, List.cons_append]
          rfl
        have S6 : Same H (upd G l1 (.lst (((row0 s0 :: ss.map rowS).map lineOf).map V.str ++ ((orderF ws fs).map fun x => lineOf (rowF x)).map V.str))) := same_set n1 (S4.trans S)
        generalize upd G l1 (.lst (((row0 s0 :: ss.map rowS).map lineOf).map V.str ++ ((orderF ws fs).map fun x => lineOf (rowF x)).map V.str)) = H6 at e3 S6 ⊢
        exact ⟨⟨"\n", rfl⟩, .ref l1, rfl, "\n", l1, linesOf s0 ss (orderF ws fs), rfl, rfl, .inl (.inl (.inl e3)), go.sum (by omega), q _ ws S6 mm.wo⟩

end
end Kn

set_option Elab.async false
set_option linter.all false
set_option maxRecDepth 100000
set_option maxHeartbeats 4000000
namespace Kn
open PySem PySem.Spec PyProof.Rows L2
open C8 (Cal pe_c pe_gc Mak pe_mk)
section
variable {P : Program} {w : World} {K : PySem.W.Frag} {mg : Str → Option Value} {base : Heap}
/-! ### the rows of a text -/
def sp_is_state_text (_ : PySem.W.Frag) : Sp := fun vs H Q _ => ∃ z : Str, vs = [.str z] ∧ z.cps.size ≤ 90000 ∧ ∀ H', Same H H' → Q (.bl (stateT z)) H'
theorem stateT_out {z : Str} (h : ¬ (1 ≤ z.cps.size ∧ z.cps.size ≤ 2)) : stateT z = false := by
  unfold stateT
  by_cases a : 1 ≤ z.cps.size
  · rw [decide_eq_false (p := z.cps.size ≤ 2) (fun b => h ⟨a, b⟩), Bool.and_false]; rfl
  · rw [decide_eq_false a]; rfl
theorem stateT_in {z : Str} (h1 : 1 ≤ z.cps.size) (h2 : z.cps.size ≤ 2) : stateT z = (z.cps.toList.all inD && (decide (z.cps.size = 1) || !decide (z.cps.toList[0]? = some 48))) := by
  unfold stateT
  rw [decide_eq_true h1, decide_eq_true h2]; rfl
theorem ok_is_state_text {f : Addr} {C : Addr} {fd : FuncData} (T : Txt K mg C) (F : Fun K "is_state_text" "is_state_text" s_is_state_text f fd)  : FnOk P w K mg base CX0 1 f fd ["part"] (sp_is_state_text K) := by
  have nd := sc_is_state_text.nd
  refine F.ok sc_is_state_text (fun vs H Q E h => ?_) (fun cdv A outer s H vs Q E hr h => ?_)
  · obtain ⟨z, rfl, _⟩ := h
    rfl
  · obtain ⟨z, rfl, hz, q⟩ := h
    refine ⟨_, (pss_cons (ps_if (PW.pt (pw_or (pt_not (pt_chain op_le op_le pe_int (pe_callB call_len (by rfl) T.m_len (by decide +kernel) (pa_cons (pv 0) pa_nil)) (pe_gc (by rfl) T.c_MOST_DIGITS))) (pw_or1 (pt_not (pt_val (pe_callB (cr_all rfl) (by rfl) T.m_all (by decide +kernel) (pa_cons (pe_lc (own := [("digit", 1)]) (g := gName 1) (tt := tYes) rfl nd (pi_str (pv 0)) (blkOk_by (N := ["part", "digit"]) (sc := defScope s_is_state_text) (by decide +kernel)) (fun _ _ _ _ _ => (pg_name (i := 1) nd rfl (.inl rfl))) (fun _ _ _ _ _ => pts_nil) (fun _ _ _ _ _ => (pe_cmpR op_in_sign (pv 1) (pe_gc (by rfl) T.c_DIGITS) (by with_unfolding_all rfl)))) pa_nil))))))) (pss_one (ps_ret pe_bl)) pss_nil)
      (pss_one (ps_ret (pe_or (pe_cmpR op_eq (pe_callB call_len (by rfl) T.m_len (by decide +kernel) (pa_cons (pv 0) pa_nil)) pe_int (nomark _)) (pe_one (pe_cmpR op_ne (pe_ix ix_str (pv 0) pe_int (fun _ _ => rfl)) pe_str (nomark _))))))), ?_⟩
    refine ⟨.str z, rfl, .str z, z.cps.size, rfl, ⟨smallE (show z.cps.size ≤ 100000 by omega), rfl⟩, 1, (z.cps.size : Int), rfl, rfl, _, rfl, ?_⟩
    by_cases a : 1 ≤ z.cps.size
    · rw [decide_eq_true (show (1 : Int) ≤ (z.cps.size : Int) by omega)]
      refine iteT ⟨(z.cps.size : Int), 2, rfl, rfl, _, rfl, ?_⟩
      by_cases b : z.cps.size ≤ 2
      · rw [decide_eq_true (show (z.cps.size : Int) ≤ 2 by omega)]
        refine iteF ⟨.str z, rfl, z, rfl, fun D nD => lc_text (fun i H' => Same H H' ∧ H' D = some (.lst ((z.cps.toList.take i).map fun c => .bl (inD c)))) ⟨same_upd nD, upd_same⟩ (fun i c H' hc hP => ?_) (fun H' hP => ?_)⟩
        · obtain ⟨sm, eD⟩ := hP
          have hl : i < z.cps.toList.length := (List.getElem?_eq_some_iff.mp hc).1
          rw [Array.length_toList] at hl
          refine ⟨rfl, ?_⟩
          refine ⟨.str ⟨#[c]⟩, rfl, c, digs, rfl, rfl, _, eD, ?_, same_set nD sm, ?_⟩
          · rw [List.length_map, List.length_take]
            exact Nat.lt_of_le_of_lt (Nat.min_le_left _ _) (small (by omega))
          · rw [upd_same, take_more hc, List.map_append]; rfl
        · obtain ⟨sm, eD⟩ := hP
          rw [List.take_length] at eD
          refine ⟨D, z.cps.toList.map inD, rfl, .inl (.inl (by rw [eD, List.map_map]; rfl)), ?_⟩
          have q' := q H' sm
          rw [stateT_in a b] at q'
          rw [List.all_map]
          show ∃ k, V.bl (z.cps.toList.all inD) = V.bl k ∧ _
          refine ⟨_, rfl, ?_⟩
          cases e : z.cps.toList.all inD with
          | false =>
            rw [e] at q'
            exact iteT q'
          | true =>
            rw [e, Bool.true_and] at q'
            refine iteF ⟨.str z, rfl, .str z, z.cps.size, rfl, ⟨smallE (show z.cps.size ≤ 100000 by omega), rfl⟩, rfl, _, rfl, ite2 (fun c0 => ?_) (fun c0 => ?_)⟩
            · have c0 : z.cps.size = 1 := by have := V.int.inj (of_decide_eq_true c0); omega
              rw [decide_eq_true c0] at q'
              exact q'
            · have c0 : ¬ z.cps.size = 1 := fun h => c0 (decide_eq_true (by rw [h]; rfl))
              rw [decide_eq_false c0, Bool.false_or] at q'
              have hl : 0 < z.cps.toList.length := by rw [Array.length_toList]; omega
              refine ⟨.str z, rfl, z, 0, z.cps.toList[0], rfl, rfl, smallE (show z.cps.size ≤ 100000 by omega), atI_nat (j := 0) (List.getElem?_eq_getElem hl), rfl, ?_⟩
              have e48 : decide (V.str ⟨#[z.cps.toList[0]]⟩ = V.str "0") = decide (z.cps.toList[0]? = some 48) := by
                have e0 : ("0" : Str) = ⟨#[48]⟩ := by decide +kernel
                rw [List.getElem?_eq_getElem hl]
                refine decide_eq_decide.mpr ⟨fun h => ?_, fun h => ?_⟩
                · have h1 := V.str.inj h
                  rw [e0] at h1
                  have h2 := congrArg (fun s : Str => s.cps.toList) h1
                  exact congrArg some (List.cons.inj h2).1
                · rw [Option.some.inj h, e0]
              show Q (.bl (!decide (V.str ⟨#[z.cps.toList[0]]⟩ = V.str "0"))) H'
              rw [e48]
              exact q'
      · rw [decide_eq_false (show ¬ (z.cps.size : Int) ≤ 2 by omega)]
        refine iteT ?_
        have q' := q H (Same.refl H)
        rw [stateT_out (fun h => b h.2)] at q'
        exact q'
    · rw [decide_eq_false (show ¬ (1 : Int) ≤ (z.cps.size : Int) by omega)]
      refine iteF ?_
      have q' := q H (Same.refl H)
      rw [stateT_out (fun h => a h.1)] at q'
      exact ⟨_, rfl, iteT q'⟩
def startR : List Str → Bool
  | [a, b] => decide (a = "start") && stateT b
  | _ => false
def stepR : List Str → Bool
  | [a, b, c] => stateT a && nameB (.str b) && stateT c
  | _ => false
def faultR : List Str → Bool
  | [a, b, c] => decide (a = "fault") && nameB (.str b) && nameB (.str c)
  | _ => false
theorem startR_is {a b : Str} : startR [a, b] = (decide (a = "start") && stateT b) := rfl
theorem stepR_is {a b c : Str} : stepR [a, b, c] = (stateT a && nameB (.str b) && stateT c) := rfl
theorem faultR_is {a b c : Str} : faultR [a, b, c] = (decide (a = "fault") && nameB (.str b) && nameB (.str c)) := rfl
def spRow (g : List Str → Bool) (K : PySem.W.Frag) : Sp := fun vs H Q _ => ∃ (a : Addr) (r : List Str), vs = [.ref a] ∧ SqL K H a (r.map V.str) ∧ (∀ z ∈ r, z.cps.size ≤ 90000) ∧ ∀ H', Same H H' → Q (.bl (g r)) H'
def sp_is_start_row := spRow startR
def sp_is_step_row := spRow stepR
def sp_is_fault_row := spRow faultR
theorem len_ne {r : List Str} {n : Nat} : decide (V.int (r.length : Int) = V.int (n : Int)) = decide (r.length = n) := decide_eq_decide.mpr ⟨fun h => by have := V.int.inj h; omega, fun h => by rw [h]⟩
theorem two_of {α : Type} {r : List α} (h : r.length = 2) : ∃ a b, r = [a, b] := by
  match r, h with
  | [a, b], _ => exact ⟨a, b, rfl⟩
theorem three_of {α : Type} {r : List α} (h : r.length = 3) : ∃ a b c, r = [a, b, c] := by
  match r, h with
  | [a, b, c], _ => exact ⟨a, b, c, rfl⟩
theorem startR_no {r : List Str} (h : ¬ r.length = 2) : startR r = false := by
  match r, h with
  | [], _ => rfl
  | [_], _ => rfl
  | [_, _], h => exact (h rfl).elim
  | _ :: _ :: _ :: _, _ => rfl
theorem stepR_no {r : List Str} (h : ¬ r.length = 3) : stepR r = false := by
  match r, h with
  | [], _ => rfl
  | [_], _ => rfl
  | [_, _], _ => rfl
  | [_, _, _], h => exact (h rfl).elim
  | _ :: _ :: _ :: _ :: _, _ => rfl
theorem faultR_no {r : List Str} (h : ¬ r.length = 3) : faultR r = false := by
  match r, h with
  | [], _ => rfl
  | [_], _ => rfl
  | [_, _], _ => rfl
  | [_, _, _], h => exact (h rfl).elim
  | _ :: _ :: _ :: _ :: _, _ => rfl
theorem ok_is_start_row {f : Addr} {C : Addr} {fd : FuncData} (T : Txt K mg C) (F : Fun K "is_start_row" "is_start_row" s_is_start_row f fd) (c_is_state_text : Cal P w K mg base 1 "is_state_text" (sp_is_state_text K) []) : FnOk P w K mg base CX0 2 f fd ["row"] (sp_is_start_row K) := by
  have nd := sc_is_start_row.nd
  refine F.ok sc_is_start_row (fun vs H Q E h => ?_) (fun cdv A outer s H vs Q E hr h => ?_)
  · obtain ⟨a, r, rfl, _⟩ := h
    rfl
  · obtain ⟨a, r, rfl, hS, hz, q⟩ := h
    refine ⟨_, (pss_one (ps_ret (pe_and (pe_cmpR op_eq (pe_callB call_len (by rfl) T.m_len (by decide +kernel) (pa_cons (pv 0) pa_nil)) pe_int (nomark _)) (pe_and (pe_cmpR op_eq (pe_ix (r := rIxL K) ix_list (pv 0) pe_int (fun _ _ => rfl)) (pe_gc (by rfl) T.c_START) (nomark _)) (pe_one (pe_c c_is_state_text hr (by omega) (by rfl) (pa_cons (pe_ix (r := rIxL K) ix_list (pv 0) pe_int (fun _ _ => rfl)) pa_nil))))))), ?_⟩
    refine ⟨.ref a, rfl, .ref a, r.length, rfl, .inl ⟨_, hS, (List.length_map _).symm⟩, rfl, _, rfl, ?_⟩
    rw [show decide (V.int (r.length : Int) = V.int 2) = decide (r.length = 2) from len_ne]
    by_cases h : r.length = 2
    · obtain ⟨x, y, rfl⟩ := two_of h
      rw [decide_eq_true h]
      refine iteT ⟨.ref a, rfl, a, _, 0, .str x, rfl, rfl, hS, atI_nat (j := 0) rfl, rfl, _, rfl, ?_⟩
      have q' := q H (Same.refl H)
      rw [show decide (V.str x = V.str "start") = decide (x = "start") from str_dec]
      by_cases e : x = "start"
      · rw [decide_eq_true e]
        refine iteT ⟨.ref a, rfl, a, _, 1, .str y, rfl, rfl, hS, atI_nat (j := 1) rfl, y, rfl, hz y (by simp), fun H1 s1 => ?_⟩
        have q' := q H1 s1
        rw [startR_is] at q'
        rw [decide_eq_true e, Bool.true_and] at q'
        exact q'
      · rw [startR_is] at q'
        rw [decide_eq_false e] at q' ⊢
        exact iteF q'
    · rw [decide_eq_false h]
      have q' := q H (Same.refl H)
      rw [startR_no h] at q'
      exact iteF q'
theorem ok_is_step_row {f : Addr} {C : Addr} {fd : FuncData} (T : Txt K mg C) (F : Fun K "is_step_row" "is_step_row" s_is_step_row f fd) (c_is_state_text : Cal P w K mg base 1 "is_state_text" (sp_is_state_text K) []) (c_is_name : Cal P w K mg base 1 "is_name" (sp_is_name K) []) : FnOk P w K mg base CX0 2 f fd ["row"] (sp_is_step_row K) := by
  have nd := sc_is_step_row.nd
  refine F.ok sc_is_step_row (fun vs H Q E h => ?_) (fun cdv A outer s H vs Q E hr h => ?_)
  · obtain ⟨a, r, rfl, _⟩ := h
    rfl
  · obtain ⟨a, r, rfl, hS, hz, q⟩ := h
    refine ⟨_, (pss_one (ps_ret (pe_and (pe_cmpR op_eq (pe_callB call_len (by rfl) T.m_len (by decide +kernel) (pa_cons (pv 0) pa_nil)) pe_int (nomark _)) (pe_and (pe_c c_is_state_text hr (by omega) (by rfl) (pa_cons (pe_ix (r := rIxL K) ix_list (pv 0) pe_int (fun _ _ => rfl)) pa_nil)) (pe_and (pe_c c_is_name hr (by omega) (by rfl) (pa_cons (pe_ix (r := rIxL K) ix_list (pv 0) pe_int (fun _ _ => rfl)) pa_nil)) (pe_one (pe_c c_is_state_text hr (by omega) (by rfl) (pa_cons (pe_ix (r := rIxL K) ix_list (pv 0) pe_int (fun _ _ => rfl)) pa_nil)))))))), ?_⟩
    refine ⟨.ref a, rfl, .ref a, r.length, rfl, .inl ⟨_, hS, (List.length_map _).symm⟩, rfl, _, rfl, ?_⟩
    rw [show decide (V.int (r.length : Int) = V.int 3) = decide (r.length = 3) from len_ne]
    by_cases h : r.length = 3
    · obtain ⟨x, y, z, rfl⟩ := three_of h
      rw [decide_eq_true h]
      refine iteT ⟨.ref a, rfl, a, _, 0, .str x, rfl, rfl, hS, atI_nat (j := 0) rfl, x, rfl, hz x (by simp), fun H1 s1 => ⟨_, rfl, ?_⟩⟩
      have q1 := q H1 s1
      rw [stepR_is] at q1
      by_cases e : stateT x = true
      · rw [e] at q1 ⊢
        rw [Bool.true_and] at q1
        refine iteT ⟨.ref a, rfl, a, _, 1, .str y, rfl, rfl, s1.seq hS, atI_nat (j := 1) rfl, .str y, rfl, .str y (hz y (by simp)), fun H2 s2 => ⟨_, rfl, ?_⟩⟩
        have q2 := q H2 (s1.trans s2)
        rw [stepR_is] at q2
        rw [e, Bool.true_and] at q2
        by_cases e2 : nameB (.str y) = true
        · rw [e2] at q2 ⊢
          rw [Bool.true_and] at q2
          refine iteT ⟨.ref a, rfl, a, _, 2, .str z, rfl, rfl, (s1.trans s2).seq hS, atI_nat (j := 2) rfl, z, rfl, hz z (by simp), fun H3 s3 => ?_⟩
          have q3 := q H3 ((s1.trans s2).trans s3)
          rw [stepR_is] at q3
          rw [e, e2, Bool.true_and, Bool.true_and] at q3
          exact q3
        · rw [Bool.eq_false_iff.mpr e2] at q2 ⊢
          exact iteF q2
      · rw [Bool.eq_false_iff.mpr e] at q1 ⊢
        exact iteF q1
    · rw [decide_eq_false h]
      have q' := q H (Same.refl H)
      rw [stepR_no h] at q'
      exact iteF q'
theorem ok_is_fault_row {f : Addr} {C : Addr} {fd : FuncData} (T : Txt K mg C) (F : Fun K "is_fault_row" "is_fault_row" s_is_fault_row f fd) (c_is_name : Cal P w K mg base 1 "is_name" (sp_is_name K) []) : FnOk P w K mg base CX0 2 f fd ["row"] (sp_is_fault_row K) := by
  have nd := sc_is_fault_row.nd
  refine F.ok sc_is_fault_row (fun vs H Q E h => ?_) (fun cdv A outer s H vs Q E hr h => ?_)
  · obtain ⟨a, r, rfl, _⟩ := h
    rfl
  · obtain ⟨a, r, rfl, hS, hz, q⟩ := h
    refine ⟨_, (pss_one (ps_ret (pe_and (pe_cmpR op_eq (pe_callB call_len (by rfl) T.m_len (by decide +kernel) (pa_cons (pv 0) pa_nil)) pe_int (nomark _)) (pe_and (pe_cmpR op_eq (pe_ix (r := rIxL K) ix_list (pv 0) pe_int (fun _ _ => rfl)) (pe_gc (by rfl) T.c_FAULT) (nomark _)) (pe_and (pe_c c_is_name hr (by omega) (by rfl) (pa_cons (pe_ix (r := rIxL K) ix_list (pv 0) pe_int (fun _ _ => rfl)) pa_nil)) (pe_one (pe_c c_is_name hr (by omega) (by rfl) (pa_cons (pe_ix (r := rIxL K) ix_list (pv 0) pe_int (fun _ _ => rfl)) pa_nil)))))))), ?_⟩
    refine ⟨.ref a, rfl, .ref a, r.length, rfl, .inl ⟨_, hS, (List.length_map _).symm⟩, rfl, _, rfl, ?_⟩
    rw [show decide (V.int (r.length : Int) = V.int 3) = decide (r.length = 3) from len_ne]
    by_cases h : r.length = 3
    · obtain ⟨x, y, z, rfl⟩ := three_of h
      rw [decide_eq_true h]
      refine iteT ⟨.ref a, rfl, a, _, 0, .str x, rfl, rfl, hS, atI_nat (j := 0) rfl, rfl, _, rfl, ?_⟩
      have q1 := q H (Same.refl H)
      rw [faultR_is] at q1
      rw [show decide (V.str x = V.str "fault") = decide (x = "fault") from str_dec]
      by_cases e : x = "fault"
      · rw [decide_eq_true e] at q1 ⊢
        rw [Bool.true_and] at q1
        refine iteT ⟨.ref a, rfl, a, _, 1, .str y, rfl, rfl, hS, atI_nat (j := 1) rfl, .str y, rfl, .str y (hz y (by simp)), fun H2 s2 => ⟨_, rfl, ?_⟩⟩
        have q2 := q H2 s2
        rw [faultR_is] at q2
        rw [decide_eq_true e, Bool.true_and] at q2
        by_cases e2 : nameB (.str y) = true
        · rw [e2] at q2 ⊢
          rw [Bool.true_and] at q2
          refine iteT ⟨.ref a, rfl, a, _, 2, .str z, rfl, rfl, s2.seq hS, atI_nat (j := 2) rfl, .str z, rfl, .str z (hz z (by simp)), fun H3 s3 => ?_⟩
          have q3 := q H3 (s2.trans s3)
          rw [faultR_is] at q3
          rw [decide_eq_true e, e2, Bool.true_and, Bool.true_and] at q3
          exact q3
        · rw [Bool.eq_false_iff.mpr e2] at q2 ⊢
          exact iteF q2
      · rw [decide_eq_false e] at q1 ⊢
        exact iteF q1
    · rw [decide_eq_false h]
      have q' := q H (Same.refl H)
      rw [faultR_no h] at q'
      exact iteF q'

end
end Kn

set_option Elab.async false
set_option linter.all false
set_option maxRecDepth 100000
set_option maxHeartbeats 4000000
namespace Kn
open PySem PySem.Spec PyProof.Rows L2
open C8 (Cal pe_c pe_gc Mak pe_mk)
section
variable {P : Program} {w : World} {K : PySem.W.Frag} {mg : Str → Option Value} {base : Heap}
/-! ### read_machine, of the text of a machine -/
def ltS (a b : Str) : Prop := a.cps.toList < b.cps.toList
theorem lt_nil {b : Str} (h : nameB (.str b) = true) : ltS "" b := by
  have h1 := (name_size h).1
  unfold ltS
  have e : ("" : Str).cps.toList = [] := by decide +kernel
  rw [e]
  cases hb : b.cps.toList with
  | nil =>
    have : b.cps.toList.length = b.cps.size := Array.length_toList
    rw [hb] at this
    simp at this
    omega
  | cons x r => exact List.nil_lt_cons x r
def Rws (H : Hp) (las : List Addr) (rows : List (List Str)) : Prop := Paired (fun a r => H a = some (.lst (r.map V.str))) las rows
theorem Rws.mono {H H' : Hp} {las : List Addr} {rows : List (List Str)} (h : Rws H las rows) (s : Same H H') : Rws H' las rows := Paired.mapP h fun _ _ e => s _ _ e
theorem Rws.set {H : Hp} {las : List Addr} {rows : List (List Str)} {l : Addr} {o o' : HO} (h : Rws H las rows) (e : H l = some o) (no : l ∉ las) : Rws (upd H l o') las rows := by
  unfold Rws at h ⊢
  induction h with
  | nil => exact .nil
  | cons r _ ih => exact .cons ((upd_ne fun z => no (by rw [z]; exact List.mem_cons_self)).trans r) (ih fun z => no (List.mem_cons_of_mem _ z))
theorem rws_get {H : Hp} {las : List Addr} {rows : List (List Str)} (h : Rws H las rows) {i : Nat} {x : V} (e : (las.map V.ref)[i]? = some x) : ∃ a r, x = .ref a ∧ las[i]? = some a ∧ rows[i]? = some r ∧ H a = some (.lst (r.map V.str)) := by
  rw [List.getElem?_map] at e
  cases g : las[i]? with
  | none => rw [g] at e; cases e
  | some a =>
    rw [g] at e
    obtain ⟨r, g2, q⟩ := paired_get h g
    exact ⟨a, r, (Option.some.inj e).symm, rfl, g2, q⟩
theorem st_ne_fault {z : Str} (h : stateT z = true) : ¬ z = "fault" := fun e => by
  have := (stateT_size h).2.1
  rw [e] at this
  have h5 : ("fault" : Str).cps.size = 5 := by decide +kernel
  omega
/-- which row stands where -/
theorem rows_at {s0 : Int} {ss : List KnA.Stp} {fs : List (Str × Str)} {i : Nat} {r : List Str} (h : (rowsOf s0 ss fs)[i]? = some r) :
    (i = 0 ∧ r = row0 s0) ∨ (∃ k x, i = k + 1 ∧ k < ss.length ∧ ss[k]? = some x ∧ r = rowS x) ∨ ∃ k p, i = ss.length + k + 1 ∧ fs[k]? = some p ∧ r = rowF p := by
  cases i with
  | zero => exact .inl ⟨rfl, (Option.some.inj h).symm⟩
  | succ i =>
    have h' : (ss.map rowS ++ fs.map rowF)[i]? = some r := h
    by_cases c : i < ss.length
    · rw [List.getElem?_append_left (by rw [List.length_map]; exact c), List.getElem?_map] at h'
      cases g : ss[i]? with
      | none => rw [g] at h'; cases h'
      | some x => rw [g] at h'; exact .inr (.inl ⟨i, x, rfl, c, g, (Option.some.inj h').symm⟩)
    · rw [List.getElem?_append_right (by rw [List.length_map]; omega), List.length_map, List.getElem?_map] at h'
      cases g : fs[i - ss.length]? with
      | none => rw [g] at h'; cases h'
      | some p => rw [g] at h'; exact .inr (.inr ⟨i - ss.length, p, by omega, g, (Option.some.inj h').symm⟩)
theorem GoodText.small {s0 : Int} {ss : List KnA.Stp} {fs : List (Str × Str)} (g : GoodText s0 ss fs) : ∀ r ∈ rowsOf s0 ss fs, ∀ z ∈ r, z.cps.size ≤ 90000 := by
  intro r hr z hz
  unfold rowsOf at hr
  rcases List.mem_cons.mp hr with rfl | hr
  · unfold row0 at hz
    simp only [List.mem_cons, List.not_mem_nil, or_false] at hz
    rcases hz with rfl | rfl
    · exact Nat.le_trans sz_start (by decide)
    · exact Nat.le_trans (sz_num (state_in g.st)) (by decide)
  · rcases List.mem_append.mp hr with hr | hr
    · obtain ⟨x, hx, rfl⟩ := List.mem_map.mp hr
      have := g.gs x hx
      unfold rowS at hz
      simp only [List.mem_cons, List.not_mem_nil, or_false] at hz
      rcases hz with rfl | rfl | rfl
      · exact Nat.le_trans (sz_num (state_in this.s)) (by decide)
      · exact Nat.le_trans (sz_name this.w) (by decide)
      · exact Nat.le_trans (sz_num (state_in this.t)) (by decide)
    · obtain ⟨p, hp, rfl⟩ := List.mem_map.mp hr
      have := g.gf p hp
      unfold rowF at hz
      simp only [List.mem_cons, List.not_mem_nil, or_false] at hz
      rcases hz with rfl | rfl | rfl
      · exact Nat.le_trans sz_fault (by decide)
      · exact Nat.le_trans (sz_name this.1) (by decide)
      · exact Nat.le_trans (sz_name this.2) (by decide)
def sp_check_rows_of_lines (_ : PySem.W.Frag) : Sp := fun vs H Q _ => ∃ (a : Addr) (las : List Addr) (s0 : Int) (ss : List KnA.Stp) (fs : List (Str × Str)), vs = [.ref a] ∧ H a = some (.lst (las.map V.ref)) ∧ Rws H las (rowsOf s0 ss fs) ∧ GoodText s0 ss fs ∧ (fs.map (·.1)).Pairwise ltS ∧ ∀ H', Same H H' → Q .non H'
theorem ok_check_rows_of_lines {f : Addr} {C : Addr} {fd : FuncData} (T : Txt K mg C) (F : Fun K "check_rows_of_lines" "check_rows_of_lines" s_check_rows_of_lines f fd) (c_is_start_row : Cal P w K mg base 2 "is_start_row" (sp_is_start_row K) []) (c_is_fault_row : Cal P w K mg base 2 "is_fault_row" (sp_is_fault_row K) []) (c_is_step_row : Cal P w K mg base 2 "is_step_row" (sp_is_step_row K) []) : FnOk P w K mg base CX0 3 f fd ["rows"] (sp_check_rows_of_lines K) := by
  have nd := sc_check_rows_of_lines.nd
  refine F.ok sc_check_rows_of_lines (fun vs H Q E h => ?_) (fun cdv A outer s H vs Q E hr h => ?_)
  · obtain ⟨a, las, s0, ss, fs, rfl, _⟩ := h
    rfl
  · obtain ⟨a, las, s0, ss, fs, rfl, ea, hR, gt, up, q⟩ := h
    refine ⟨_, (pss_cons (ps_set (i := 1) nd rfl (.inl rfl) pe_str)
      (pss_one (ps_for PassesOwn.never rfl (KnE.pi_en (by rfl) T.m_enumerate (pa_cons (pv 0) pa_nil)) (pg_tup (by rfl) (pgs_cons (pg_name (i := 2) nd rfl (.inl rfl)) (pgs_cons (pg_name (i := 3) nd rfl (.inl rfl)) pgs_nil))) (pss_cons (ps_if (pt_cmpR op_eq (pv 2) pe_int (nomark _)) (pss_one (ps_set (i := 4) nd rfl (.inl rfl) (pe_c c_is_start_row hr (by omega) (by rfl) (pa_cons (pv 3) pa_nil)))) (pss_one (ps_if (pt_val (pe_c c_is_fault_row hr (by omega) (by rfl) (pa_cons (pv 3) pa_nil))) (pss_cons (ps_set (i := 4) nd rfl (.inl rfl) (pe_cmpR op_gt_str (pe_ix (r := rIxL K) ix_list (pv 3) pe_int (fun _ _ => rfl)) (pv 1) (nomark _)))
      (pss_one (ps_set (i := 1) nd rfl (.inl rfl) (pe_ix (r := rIxL K) ix_list (pv 3) pe_int (fun _ _ => rfl))))) (pss_one (ps_set (i := 4) nd rfl (.inl rfl) (pe_and (pe_c c_is_step_row hr (by omega) (by rfl) (pa_cons (pv 3) pa_nil)) (pe_one (pe_cmpR op_eq (pv 1) pe_str (nomark _)))))))))
      (pss_one (ps_if (pt_not (pt_val (pv 4))) (pss_one ps_never) pss_nil)))))), ?_⟩
    refine ⟨.ref a, rfl, a, true, las.map V.ref, rfl, row_sq (b := true) ea, ?_⟩
    refine KnE.for_en (K := K) (b := true) (a := a) (xs := las.map V.ref) (fun i σ G => ∃ (last : Str) (y2 y3 y4 : Option V), σ = [some (.ref a), some (.str last), y2, y3, y4] ∧ Same H G ∧ (i ≤ ss.length + 1 → last = "") ∧ ∀ k p, i = ss.length + k + 2 → fs[k]? = some p → last = p.1)
      ⟨"", none, none, none, rfl, Same.refl _, fun _ => rfl, fun k p h => by omega⟩ (fun i σ G _ ⟨_, _, _, _, _, S, _⟩ => row_sq (b := true) (S _ _ ea)) (fun i x T σ G hx nT hP => ?_) (fun σ G ⟨_, _, _, _, _, S, _⟩ => q G S)
    obtain ⟨last, y2, y3, y4, rfl, S, h1, h2⟩ := hP
    obtain ⟨ai, r, rfl, gi, gr, hai⟩ := rws_get (hR.mono S) hx
    have sT := same_upd (o := .tup [.int (i : Nat), .ref ai]) nT
    have S' : Same H (upd G T (.tup [.int (i : Nat), .ref ai])) := S.trans sT
    have hai' := sT _ _ hai
    have eT : (upd G T (.tup [.int (i : Nat), .ref ai])) T = some (.tup [.int (i : Nat), .ref ai]) := upd_same
    show gTup _ _ _ _ _ (upd G T (.tup [.int (i : Nat), .ref ai])) _
    generalize upd G T (.tup [.int (i : Nat), .ref ai]) = G2 at S' hai' eT ⊢
    have hsm := gt.small r (List.mem_of_getElem? gr)
    refine ⟨T, [.int (i : Nat), .ref ai], rfl, .inl (.inl eT), rfl, .int (i : Nat), [.ref ai], rfl, .ref ai, [], rfl, rfl, ?_⟩
    refine ⟨.int (i : Nat), rfl, rfl, _, rfl, ?_⟩
    rcases rows_at gr with ⟨e, er⟩ | ⟨k, x, e, hk, gk, er⟩ | ⟨k, p, e, gk, er⟩
    · subst e er
      refine iteT ⟨.ref ai, rfl, ai, row0 s0, rfl, .inl (.inl hai'), hsm, fun H3 s3 => ⟨.bl (startR (row0 s0)), rfl, ?_⟩⟩
      have e1 : startR (row0 s0) = true := by unfold row0; rw [startR_is, sN_st (state_in gt.st)]; simp
      rw [e1]
      exact ⟨_, rfl, iteF ⟨last, _, _, _, rfl, S'.trans s3, fun _ => h1 (by omega), fun k p h => by omega⟩⟩
    · subst e er
      have gx := gt.gs x (List.mem_of_getElem? gk)
      rw [decide_eq_false (show ¬ V.int ((k + 1 : Nat) : Int) = V.int 0 from fun z => by have := V.int.inj z; omega)]
      refine iteF ⟨.ref ai, rfl, ai, rowS x, rfl, .inl (.inl hai'), hsm, fun H3 s3 => ⟨_, rfl, ?_⟩⟩
      have e1 : faultR (rowS x) = false := by unfold rowS; rw [faultR_is, decide_eq_false (st_ne_fault (sN_st (state_in gx.s)))]; rfl
      rw [e1]
      refine iteF ⟨.ref ai, rfl, ai, rowS x, rfl, .inl (.inl (s3 _ _ hai')), hsm, fun H4 s4 => ⟨_, rfl, ?_⟩⟩
      have e2 : stepR (rowS x) = true := by unfold rowS; rw [stepR_is, sN_st (state_in gx.s), gx.w, sN_st (state_in gx.t)]; rfl
      rw [e2]
      have el := h1 (by omega)
      subst el
      refine iteT ⟨.str "", rfl, rfl, ?_⟩
      exact ⟨_, rfl, _, rfl, iteF ⟨"", _, _, _, rfl, S'.trans (s3.trans s4), fun _ => rfl, fun k p h => by omega⟩⟩
    · subst e er
      have gp := gt.gf p (List.mem_of_getElem? gk)
      rw [decide_eq_false (show ¬ V.int ((ss.length + k + 1 : Nat) : Int) = V.int 0 from fun z => by have := V.int.inj z; omega)]
      refine iteF ⟨.ref ai, rfl, ai, rowF p, rfl, .inl (.inl hai'), hsm, fun H3 s3 => ⟨_, rfl, ?_⟩⟩
      have e1 : faultR (rowF p) = true := by unfold rowF; rw [faultR_is, gp.1, gp.2]; simp
      rw [e1]
      have hai3 := s3 _ _ hai'
      have lt : ltS last p.1 := by
        cases k with
        | zero => rw [h1 (by omega)]; exact lt_nil gp.1
        | succ k =>
          have hk : k + 1 < fs.length := (List.getElem?_eq_some_iff.mp gk).1
          have gk0 : fs[k]? = some fs[k] := List.getElem?_eq_getElem (by omega)
          rw [h2 k _ (by omega) gk0]
          have ep : fs[k + 1] = p := (List.getElem?_eq_some_iff.mp gk).2
          have := List.pairwise_iff_getElem.mp up k (k + 1) (by rw [List.length_map]; omega) (by rw [List.length_map]; omega) (by omega)
          rw [List.getElem_map, List.getElem_map, ep] at this
          exact this
      refine iteT ⟨.ref ai, rfl, ai, _, 1, .str p.1, rfl, rfl, .inl (.inl hai3), atI_nat (j := 1) rfl, .str last, rfl, _, _, rfl, rfl, ?_⟩
      rw [decide_eq_true (show last.cps.toList < p.1.cps.toList from lt)]
      refine ⟨.ref ai, rfl, ai, _, 1, .str p.1, rfl, rfl, .inl (.inl hai3), atI_nat (j := 1) rfl, ?_⟩
      refine ⟨_, rfl, _, rfl, iteF ⟨p.1, _, _, _, rfl, S'.trans s3, fun h => by omega, fun k' p' h g => ?_⟩⟩
      have ek : k' = k := by omega
      rw [ek, gk] at g
      rw [Option.some.inj g]

end
end Kn

set_option Elab.async false
set_option linter.all false
set_option maxRecDepth 100000
set_option maxHeartbeats 4000000
namespace Kn
open PySem PySem.Spec PyProof.Rows L2
open C8 (Cal pe_c pe_gc Mak pe_mk)
section
variable {P : Program} {w : World} {K : PySem.W.Frag} {mg : Str → Option Value} {base : Heap}
theorem join_sz {m : Nat} {sep : Str} (hs : SZ 1 sep) : ∀ {r : List Str}, (∀ z ∈ r, SZ m z) → SZ (r.length * (m + 1)) (Txt.join sep r) := by
  intro r
  rw [TL.join_eq]
  induction r with
  | nil => intro _; exact Nat.zero_le _
  | cons x t ih =>
    intro h
    cases t with
    | nil => exact Nat.le_trans (h x List.mem_cons_self) (by rw [List.length_singleton]; omega)
    | cons y t =>
      have h1 := ih fun z hz => h z (List.mem_cons_of_mem _ hz)
      have h2 := ((h x List.mem_cons_self).app hs).app h1
      unfold SZ at h2 ⊢
      refine Nat.le_trans h2 ?_
      rw [List.length_cons (a := x), Nat.add_mul]
      omega
theorem sz_nl : SZ 1 "\n" := by unfold SZ; decide +kernel
theorem lines_len (s0 : Int) (ss : List KnA.Stp) (fs : List (Str × Str)) : (linesOf s0 ss fs).length = 1 + (ss.length + fs.length) := by
  unfold linesOf rowsOf
  rw [List.length_map, List.length_cons, List.length_append, List.length_map, List.length_map]; omega
theorem GoodText.size {s0 : Int} {ss : List KnA.Stp} {fs : List (Str × Str)} (g : GoodText s0 ss fs) (l : ss.length + fs.length ≤ 500) : SZ 30000 (textOf s0 ss fs) := by
  have h := join_sz (m := 39) sz_nl (r := linesOf s0 ss fs) fun z hz => by
    obtain ⟨r, hr, rfl⟩ := List.mem_map.mp hz
    exact g.sizes r hr
  rw [lines_len] at h
  exact Nat.le_trans h (by omega)
theorem sN_len {n : Int} (h : 0 ≤ n ∧ n ≤ 99) : (sN n).length ≤ 640 := Nat.le_trans (sz_num h) (by decide)
/-- the rows below the first, their first part looked at -/
theorem drop_rows (s0 : Int) (ss : List KnA.Stp) (fs : List (Str × Str)) : (rowsOf s0 ss fs).drop 1 = ss.map rowS ++ fs.map rowF := rfl
theorem below_at {ss : List KnA.Stp} {fs : List (Str × Str)} {i : Nat} {r : List Str} (h : (ss.map rowS ++ fs.map rowF)[i]? = some r) :
    (∃ x, i < ss.length ∧ ss[i]? = some x ∧ r = rowS x) ∨ ∃ k p, i = ss.length + k ∧ fs[k]? = some p ∧ r = rowF p := by
  by_cases c : i < ss.length
  · rw [List.getElem?_append_left (by rw [List.length_map]; exact c), List.getElem?_map] at h
    cases g : ss[i]? with
    | none => rw [g] at h; cases h
    | some x => rw [g] at h; exact .inl ⟨x, c, rfl, (Option.some.inj h).symm⟩
  · rw [List.getElem?_append_right (by rw [List.length_map]; omega), List.length_map, List.getElem?_map] at h
    cases g : fs[i - ss.length]? with
    | none => rw [g] at h; cases h
    | some p => rw [g] at h; exact .inr ⟨i - ss.length, p, by omega, g, (Option.some.inj h).symm⟩
def sp_read_machine (_ : PySem.W.Frag) (C : Addr) : Sp := fun vs H Q _ => ∃ (s0 : Int) (ss : List KnA.Stp) (fs : List (Str × Str)), vs = [.str (textOf s0 ss fs)] ∧ GoodMach s0 ss fs ∧ (fs.map (·.1)).Pairwise ltS ∧ fs.length ≤ 100 ∧ ∀ H' x, Same H H' → MachAt C H' x s0 ss fs → Q (.ref x) H'
theorem lt_nd {l : List Str} (h : l.Pairwise ltS) : l.Nodup := h.imp fun {a b} hlt e => by
  rw [e] at hlt
  exact absurd hlt (List.lt_irrefl _)
theorem ok_read_machine {f : Addr} {C : Addr} {fd : FuncData} (T : Txt K mg C) (F : Fun K "read_machine" "read_machine" s_read_machine f fd) (c_check_rows_of_lines : Cal P w K mg base 3 "check_rows_of_lines" (sp_check_rows_of_lines K) []) (c_Machine_init : Mak P w K mg base 5 "Machine" C (sp_Machine_init K C) []) : FnOk P w K mg base CX0 7 f fd ["text"] (sp_read_machine K C) := by
  have nd := sc_read_machine.nd
  refine F.ok sc_read_machine (fun vs H Q E h => ?_) (fun cdv A outer s H vs Q E hr h => ?_)
  · obtain ⟨s0, ss, fs, rfl, _⟩ := h
    rfl
  · obtain ⟨s0, ss, fs, rfl, gm, up, lfs, q⟩ := h
    refine ⟨_, (pss_cons (ps_if (pt_not (pt_val (pe_callB call_isi (by rfl) T.m_isinstance (by decide +kernel) (pa_cons (pv 0) (pa_cons (pe_bltn (v := .ty "str") (u := .type "str") (by rfl) T.m_str (by decide +kernel) rfl) pa_nil))))) (pss_one ps_never) pss_nil)
      (pss_cons (ps_setLc (i := 1) (own := [("line", 8)]) (g := gName 8) (tt := tYes) rfl nd rfl rfl (sw_true rfl rfl rfl (by decide +kernel)) (pi_list (pe_split (pv 0) pe_str)) (blkOk_by (N := ["text", "rows", "steps", "faults", "wrong_steps", "too_many", "wrong_faults", "not_live", "line", "row"]) (sc := defScope s_read_machine) (by decide +kernel)) (fun _ _ _ _ _ => (pg_name (i := 8) nd rfl (.inl rfl))) (fun _ _ _ _ _ => pts_nil) (fun _ _ _ _ _ => (pe_split (pv 8) pe_str)))
      (pss_cons (ps_expr (pe_c c_check_rows_of_lines hr (by omega) (by rfl) (pa_cons (pv 1) pa_nil)))
      (pss_cons (ps_setLc (i := 2) (own := [("row", 9)]) (g := gName 9) rfl nd rfl rfl (sw_true rfl rfl rfl (by decide +kernel)) (pi_list (pe_slice sl_list (pv 1) (po_some pe_int) po_none)) (blkOk_by (N := ["text", "rows", "steps", "faults", "wrong_steps", "too_many", "wrong_faults", "not_live", "line", "row"]) (sc := defScope s_read_machine) (by decide +kernel)) (fun _ _ _ _ _ => (pg_name (i := 9) nd rfl (.inl rfl))) (fun _ _ _ _ _ => (pts_one (pt_cmpR op_ne (pe_ix (r := rIxL K) ix_list (pv 9) pe_int (fun _ _ => rfl)) (pe_gc (by rfl) T.c_FAULT) (nomark _)))) (fun _ _ _ _ _ => (pe_tup (pa_cons (pe_callTy call_int_str (by rfl) T.m_int (by decide +kernel) (pa_cons (pe_ix (r := rIxL K) ix_list (pv 9) pe_int (fun _ _ => rfl)) pa_nil)) (pa_cons (pe_ix (r := rIxL K) ix_list (pv 9) pe_int (fun _ _ => rfl)) (pa_cons (pe_callTy call_int_str (by rfl) T.m_int (by decide +kernel) (pa_cons (pe_ix (r := rIxL K) ix_list (pv 9) pe_int (fun _ _ => rfl)) pa_nil)) pa_nil))))))
      (pss_cons (KnDc.ps_setDc (i := 3) (own := [("row", 9)]) (g := gName 9) rfl nd rfl rfl (KnDc.swD rfl rfl rfl (by decide +kernel)) (pi_list (pe_slice sl_list (pv 1) (po_some pe_int) po_none)) (blkOk_by (own := [("row", 9)]) (N := ["text", "rows", "steps", "faults", "wrong_steps", "too_many", "wrong_faults", "not_live", "line", "row"]) (sc := defScope s_read_machine) (by decide +kernel)) (fun _ _ _ _ _ => (pg_name (i := 9) nd rfl (.inl rfl))) (fun _ _ _ _ _ => (pts_one (pt_cmpR op_eq (pe_ix (r := rIxL K) ix_list (pv 9) pe_int (fun _ _ => rfl)) (pe_gc (by rfl) T.c_FAULT) (nomark _)))) (fun _ _ _ _ _ => (pe_ix (r := rIxL K) ix_list (pv 9) pe_int (fun _ _ => rfl))) (fun _ _ _ _ _ => (pe_ix (r := rIxL K) ix_list (pv 9) pe_int (fun _ _ => rfl))))
      (pss_one (KnF.ps_tryC (fun pn xe po => (pss_one (ps_ret (pe_mk c_Machine_init hr (by omega) (by rfl) (pa_cons (pe_callTy call_int_str (by rfl) T.m_int (by decide +kernel) (pa_cons (pe_ix (r := rIxL K) ix_list (pe_ix (r := rIxL K) ix_list (pv 1) pe_int (fun _ _ => rfl)) pe_int (fun _ _ => rfl)) pa_nil)) (pa_cons (pv 2) (pa_cons (pv 3) pa_nil)))))))))))))), ?_⟩
    have gt := good_text gm
    have hi80 := gm.gs.hi
    have hlen := gt.size (show ss.length + fs.length ≤ 500 by omega)
    refine ⟨.str (textOf s0 ss fs), rfl, .str (textOf s0 ss fs), .ty "str", .type "str", _, true, rfl, .ty _, .base (.str _), kit_ty (show kitB "str" "str" = some true by decide +kernel), _, rfl, iteF ?_⟩
    refine ⟨.str (textOf s0 ss fs), rfl, ⟨_, rfl⟩, _, "\n", rfl, rfl, rfl, smallE (show (textOf s0 ss fs).cps.size + 2 ≤ 100000 by unfold SZ at hlen; omega), fun L nL => ?_⟩
    have esp : Txt.split (textOf s0 ss fs) "\n" = linesOf s0 ss fs := split_lines (fun z => by cases z) gt.plain
    rw [esp]
    have sL := same_upd (o := .lst ((linesOf s0 ss fs).map V.str)) nL
    have eL : (upd H L (.lst ((linesOf s0 ss fs).map V.str))) L = some (.lst ((linesOf s0 ss fs).map V.str)) := upd_same
    generalize upd H L (.lst ((linesOf s0 ss fs).map V.str)) = H1 at sL eL ⊢
    refine ⟨L, rfl, ⟨_, .inl (.inl eL)⟩, fun R nR => ?_⟩
    refine lc_list (K := K) (a := L) (xs := (linesOf s0 ss fs).map V.str) (fun i G => Same H1 G ∧ ∃ las, G R = some (.lst (las.map V.ref)) ∧ Rws G las ((rowsOf s0 ss fs).take i))
      ⟨same_upd nR, [], upd_same, .nil⟩ (fun i G _ hP => .inl (.inl (hP.1 _ _ eL))) (fun i v G hv hP => ?_) (fun G hP => ?_)
    · obtain ⟨S, las, eR, hR⟩ := hP
      rw [List.getElem?_map] at hv
      unfold linesOf at hv
      rw [List.getElem?_map] at hv
      cases gr : (rowsOf s0 ss fs)[i]? with
      | none => rw [gr] at hv; cases hv
      | some r =>
      rw [gr] at hv
      cases hv
      have hrm := List.mem_of_getElem? gr
      have hi : i < (rowsOf s0 ss fs).length := (List.getElem?_eq_some_iff.mp gr).1
      have lro : (rowsOf s0 ss fs).length = 1 + (ss.length + fs.length) := by have := lines_len s0 ss fs; unfold linesOf at this; rwa [List.length_map] at this
      have szr := gt.sizes r hrm
      have rne : r ≠ [] := by
        rcases rows_at gr with ⟨_, e⟩ | ⟨_, _, _, _, _, e⟩ | ⟨_, _, _, _, e⟩ <;> rw [e] <;> exact fun z => by cases z
      refine ⟨rfl, ?_⟩
      unfold tYes
      refine iteT ⟨.str (lineOf r), rfl, ⟨_, rfl⟩, _, " ", rfl, rfl, rfl, smallE (show (lineOf r).cps.size + 2 ≤ 100000 by unfold SZ at szr; omega), fun t nt => ?_⟩
      rw [split_row rne (gt.plain r hrm)]
      have st := same_upd (o := .lst (r.map V.str)) nt
      have et : (upd G t (.lst (r.map V.str))) t = some (.lst (r.map V.str)) := upd_same
      have eR' := st _ _ eR
      have hR' := hR.mono st
      have S' : Same H1 (upd G t (.lst (r.map V.str))) := S.trans st
      have ntR : t ≠ R := (ne_of_none eR nt).symm
      generalize upd G t (.lst (r.map V.str)) = G2 at et eR' hR' S' ⊢
      have llas : las.length ≤ 500 := by rw [hR.length, List.length_take]; omega
      have nlas : R ∉ las := fun hm => by
        obtain ⟨k, hk, e⟩ := List.mem_iff_getElem.mp hm
        obtain ⟨r', _, q'⟩ := paired_get hR (List.getElem?_eq_getElem hk)
        rw [e] at q'
        have q' : G R = some (.lst (r'.map V.str)) := q'
        rw [eR] at q'
        have q2 := HO.lst.inj (Option.some.inj q')
        cases las with
        | nil => exact absurd hk (Nat.not_lt_zero _)
        | cons a l =>
          cases r' with
          | nil => cases q2
          | cons b m => cases (List.cons.inj q2).1
      refine ⟨_, eR', small (by rw [List.length_map]; omega), same_set nR S', las ++ [t], by rw [upd_same, List.map_append]; rfl, ?_⟩
      rw [take_more gr]
      exact (hR'.set eR' nlas).snoc ((upd_ne ntR).trans et)
    · obtain ⟨S, las, eR, hR⟩ := hP
      have lro : (rowsOf s0 ss fs).length = 1 + (ss.length + fs.length) := by have := lines_len s0 ss fs; unfold linesOf at this; rwa [List.length_map] at this
      rw [List.length_map, show (linesOf s0 ss fs).length = (rowsOf s0 ss fs).length from List.length_map _, List.take_length] at hR
      have S1 := sL.trans S
      clear S eL
      refine ⟨.ref R, rfl, R, las, s0, ss, fs, rfl, eR, hR, gt, up, fun H2 s2 => ?_⟩
      have eR2 := s2 _ _ eR
      have hR2 := hR.mono s2
      have S2 := S1.trans s2
      have llas : las.length = 1 + (ss.length + fs.length) := by rw [hR.length, lro]
      have hdrop : ∀ G, Same H2 G → Rws G (las.drop 1) (ss.map rowS ++ fs.map rowF) := fun G s => by
        have := paired_drop (hR2.mono s) 1
        exact this
      have ecut : cutV (las.map V.ref) (some ((1 : Nat) : Int)) none = (las.drop 1).map V.ref := by rw [cut_from, List.map_drop]
      -- the steps
      refine ⟨.ref R, rfl, 1, rfl, R, las.map V.ref, rfl, .inl (.inl eR2), fun l nl => ?_⟩
      rw [show (some (1 : Int)) = some ((1 : Nat) : Int) from rfl, ecut]
      have sl := same_upd (o := .lst ((las.drop 1).map V.ref)) nl
      have el : (upd H2 l (.lst ((las.drop 1).map V.ref))) l = some (.lst ((las.drop 1).map V.ref)) := upd_same
      generalize upd H2 l (.lst ((las.drop 1).map V.ref)) = H3 at sl el ⊢
      have lro2 : (ss.map rowS ++ fs.map rowF).length = ss.length + fs.length := by rw [List.length_append, List.length_map, List.length_map]
      refine ⟨l, rfl, ⟨_, .inl (.inl el)⟩, fun D nD => ?_⟩
      refine lc_list (K := K) (a := l) (xs := (las.drop 1).map V.ref) (fun i G => Same H3 G ∧ ∃ as, G D = some (.lst (as.map V.ref)) ∧ Stps G as (ss.take i))
        ⟨same_upd nD, [], upd_same, .nil⟩ (fun i G _ hP => .inl (.inl (hP.1 _ _ el))) (fun i v G hv hP => ?_) (fun G hP => ?_)
      · obtain ⟨S, as, eD, hst⟩ := hP
        obtain ⟨ai, r, rfl, gi, gr, hai⟩ := rws_get (hdrop G (sl.trans S)) hv
        have lim : as.length ≤ 80 := by rw [hst.length, List.length_take]; omega
        rcases below_at gr with ⟨x, hi, gx, er⟩ | ⟨k, p, e, gk, er⟩
        · subst er
          have gxx := gt.gs x (List.mem_of_getElem? gx)
          have h1 := state_in gxx.s
          have h2 := state_in gxx.t
          have ne1 : decide (V.str (sN x.1) = V.str "fault") = false := decide_eq_false fun z => st_ne_fault (sN_st h1) (V.str.inj z)
          refine ⟨rfl, .ref ai, rfl, ai, _, 0, .str (sN x.1), rfl, rfl, .inl (.inl hai), atI_nat (j := 0) rfl, rfl, _, rfl, ?_⟩
          rw [ne1]
          refine iteT ⟨.ref ai, rfl, ai, _, 0, .str (sN x.1), rfl, rfl, .inl (.inl hai), atI_nat (j := 0) rfl, sN x.1, x.1, rfl, sN_int h1, sN_len h1, .ref ai, rfl, ai, _, 1, .str x.2.1, rfl, rfl, .inl (.inl hai), atI_nat (j := 1) rfl, .ref ai, rfl, ai, _, 2, .str (sN x.2.2), rfl, rfl, .inl (.inl hai), atI_nat (j := 2) rfl, sN x.2.2, x.2.2, rfl, sN_int h2, sN_len h2, szl rfl, fun T nT => ?_⟩
          have sT := same_upd (o := tup3 x) nT
          have eD' := sT _ _ eD
          refine ⟨_, eD', small (by rw [List.length_map]; omega), same_set nD (S.trans sT), as ++ [T], by rw [upd_same, List.map_append]; rfl, ?_⟩
          rw [take_more gx]
          exact (stps_set (hst.mono sT) eD' (fun _ z => by cases z)).snoc ((upd_ne (ne_of_none eD nT).symm).trans upd_same)
        · subst er e
          refine ⟨rfl, .ref ai, rfl, ai, _, 0, .str "fault", rfl, rfl, .inl (.inl hai), atI_nat (j := 0) rfl, rfl, _, rfl, ?_⟩
          rw [decide_eq_true (rfl : V.str "fault" = V.str "fault")]
          refine iteF ⟨S, as, eD, ?_⟩
          rw [List.take_of_length_le (by omega)] at hst ⊢
          exact hst
      · obtain ⟨S, as, eD, hst⟩ := hP
        have ll : ((las.drop 1).map V.ref).length = ss.length + fs.length := by rw [List.length_map, List.length_drop, llas]; omega
        rw [ll, List.take_of_length_le (by omega)] at hst
        have S3 := sl.trans S
        clear S el
        -- the faults
        refine ⟨.ref R, rfl, 1, rfl, R, las.map V.ref, rfl, .inl (.inl (S3 _ _ eR2)), fun l2 nl2 => ?_⟩
        rw [show (some (1 : Int)) = some ((1 : Nat) : Int) from rfl, ecut]
        have sl2 := same_upd (o := .lst ((las.drop 1).map V.ref)) nl2
        have el2 : (upd G l2 (.lst ((las.drop 1).map V.ref))) l2 = some (.lst ((las.drop 1).map V.ref)) := upd_same
        have hst4 := hst.mono sl2
        have eD4 := sl2 _ _ eD
        generalize upd G l2 (.lst ((las.drop 1).map V.ref)) = H4 at sl2 el2 hst4 eD4 ⊢
        have S4 := S3.trans sl2
        refine ⟨l2, rfl, ⟨_, .inl (.inl el2)⟩, fun FD nFD => ?_⟩
        refine KnC.dc_list (K := K) (a := l2) (xs := (las.drop 1).map V.ref) (fun i G => Same H4 G ∧ G FD = some (.dK (fkv (fs.take (i - ss.length)))))
          ⟨same_upd nFD, by rw [upd_same, Nat.zero_sub]; rfl⟩ (fun i G _ hP => .inl (.inl (hP.1 _ _ el2))) (fun i v G hv hP => ?_) (fun G hP => ?_)
        · obtain ⟨S, eFD⟩ := hP
          obtain ⟨ai, r, rfl, gi, gr, hai⟩ := rws_get (hdrop G (S4.trans S)) hv
          rcases below_at gr with ⟨x, hi, gx, er⟩ | ⟨k, p, e, gk, er⟩
          · subst er
            have gxx := gt.gs x (List.mem_of_getElem? gx)
            have ne1 : decide (V.str (sN x.1) = V.str "fault") = false := decide_eq_false fun z => st_ne_fault (sN_st (state_in gxx.s)) (V.str.inj z)
            refine ⟨rfl, .ref ai, rfl, ai, _, 0, .str (sN x.1), rfl, rfl, .inl (.inl hai), atI_nat (j := 0) rfl, rfl, _, rfl, ?_⟩
            rw [ne1]
            refine iteF ⟨S, ?_⟩
            rw [show i + 1 - ss.length = i - ss.length by omega]
            exact eFD
          · subst er e
            have hk : k < fs.length := (List.getElem?_eq_some_iff.mp gk).1
            rw [show ss.length + k - ss.length = k by omega] at eFD
            refine ⟨rfl, .ref ai, rfl, ai, _, 0, .str "fault", rfl, rfl, .inl (.inl hai), atI_nat (j := 0) rfl, rfl, _, rfl, ?_⟩
            rw [decide_eq_true (rfl : V.str "fault" = V.str "fault")]
            refine iteT ⟨.ref ai, rfl, ai, _, 1, .str p.1, rfl, rfl, .inl (.inl hai), atI_nat (j := 1) rfl, .ref ai, rfl, ai, _, 2, .str p.2, rfl, rfl, .inl (.inl hai), atI_nat (j := 2) rfl, _, .inr p.1, rfl, eFD, small (by unfold fkv; rw [List.length_map, List.length_take]; omega), same_set nFD S, ?_⟩
            have no : ∀ q ∈ fs.take k, q.1 ≠ p.1 := fun q hq e => by
              obtain ⟨j, hj, ej⟩ := List.mem_iff_getElem.mp hq
              rw [List.length_take] at hj
              rw [List.getElem_take] at ej
              have ndf := lt_nd up
              have e2 : (fs.map (·.1))[j]'(by rw [List.length_map]; omega) = (fs.map (·.1))[k]'(by rw [List.length_map]; omega) := by
                rw [List.getElem_map, List.getElem_map, ej, e, (List.getElem?_eq_some_iff.mp gk).2]
              have := (List.getElem_inj ndf).mp e2
              omega
            rw [upd_same, putK_new _ (val_none no), show ss.length + k + 1 - ss.length = k + 1 by omega, take_more gk]
            unfold fkv
            rw [List.map_append]; rfl
        · obtain ⟨S, eFD⟩ := hP
          rw [ll, show ss.length + fs.length - ss.length = fs.length by omega, List.take_length] at eFD
          have S5 := S4.trans S
          obtain ⟨a0, ga0⟩ : ∃ a0, las[0]? = some a0 := ⟨_, List.getElem?_eq_getElem (by omega)⟩
          obtain ⟨r0, gr0, h0⟩ := paired_get (hR2.mono S5) ga0
          have er0 : r0 = row0 s0 := (Option.some.inj gr0).symm
          subst er0
          have hs0 := state_in gm.st0
          have h0 : G a0 = some (.lst ((row0 s0).map V.str)) := h0
          refine ⟨.ref R, rfl, R, las.map V.ref, 0, .ref a0, rfl, rfl, .inl (.inl (S5 _ _ eR2)), atI_nat (j := 0) (by rw [List.getElem?_map, ga0]; rfl), a0, _, 1, .str (sN s0), rfl, rfl, .inl (.inl h0), atI_nat (j := 1) rfl, sN s0, s0, rfl, sN_int hs0, sN_len hs0, .ref D, rfl, .ref FD, rfl, fun x dx nx ndx nex => ?_⟩
          have sx : Same G (upd (upd G dx (.own x)) x (.ins C dx [])) := fun b o e => (upd_ne (ne_of_none e nx)).trans ((upd_ne (ne_of_none e ndx)).trans e)
          refine ⟨x, dx, D, s0, .ref FD, true, as, ss, fs, rfl, upd_same, sx _ _ (S _ _ eD4), (hst4.mono S).mono sx, .inr ⟨FD, rfl, sx _ _ eFD⟩, gm, fun H5 dx' l1 l2' l3 l4 w2 n2' kp mo f1 f2 f3 f4 => ⟨rfl, ?_⟩⟩
          have s5 : Same G H5 := fun b o e => kp b o (sx _ _ e) (ne_of_none e nx)
          exact q _ x (S2.trans (S5.trans s5)) ⟨_, _, _, _, _, _, _, _, mo⟩

end
end Kn

set_option Elab.async false
set_option linter.all false
set_option maxRecDepth 100000
set_option maxHeartbeats 4000000
namespace Kn
open PySem PySem.Spec PyProof.Rows L2
open C8 (Cal pe_c pe_gc Mak pe_mk)
section
variable {P : Program} {w : World} {K : PySem.W.Frag} {mg : Str → Option Value} {base : Heap}
/-! ### the law's own text -/
theorem SZ.ln2 {a b : Str} {m n : Nat} (ha : SZ m a) (hb : SZ n b) (k : m + n ≤ 90000) : a.length + b.length ≤ sizeLine := smallE (show a.cps.size + b.cps.size ≤ 100000 by unfold SZ at ha hb; omega)
structure DatO (H : Hp) (t l d : Addr) (s0 : Int) (z : Str) (as : List Addr) (ss : List KnA.Stp) (fs : List (Str × Str)) : Prop where
  at_ : H t = some (.lst [.int s0, .ref l, .ref d, .str z])
  hl : H l = some (.lst (as.map V.ref))
  st : Stps H as ss
  hd : H d = some (.dK (fkv fs))
theorem DatO.mono {H H' : Hp} {t l d : Addr} {s0 : Int} {z : Str} {as : List Addr} {ss : List KnA.Stp} {fs : List (Str × Str)} (h : DatO H t l d s0 z as ss fs) (s : Same H H') : DatO H' t l d s0 z as ss fs := ⟨s _ _ h.at_, s _ _ h.hl, h.st.mono s, s _ _ h.hd⟩
theorem order_filter (ws : List Str) (fs : List (Str × Str)) : orderF (ws.filter fun x => (look fs x).isSome) fs = orderF ws fs := by
  unfold orderF
  induction ws with
  | nil => rfl
  | cons x r ih =>
    cases h : look fs x with
    | none => rw [List.filter_cons_of_neg (by simp [h]), ih, List.filterMap_cons, h]; rfl
    | some n => rw [List.filter_cons_of_pos (by simp [h]), List.filterMap_cons, List.filterMap_cons, h, ih]
theorem look_keys {fs : List (Str × Str)} {x : Str} : (look fs x).isSome = true ↔ x ∈ fs.map (·.1) := by
  unfold look
  rw [Option.isSome_map, List.find?_isSome]
  constructor
  · rintro ⟨p, hp, e⟩
    exact List.mem_map.mpr ⟨p, hp, of_decide_eq_true e⟩
  · intro h
    obtain ⟨p, hp, e⟩ := List.mem_map.mp h
    exact ⟨p, hp, decide_eq_true e⟩
/-- the faults by the sorted keys, and by the sorted words -/
theorem order_keys_eq {ws ks : List Str} {fs : List (Str × Str)} (hu : ws.Pairwise KnA.leS) (hn : ws.Nodup) (hw : ∀ p ∈ fs, p.1 ∈ ws) (ku : ks.Pairwise KnA.leS) (pk : ks.Perm (fs.map (·.1))) (ndf : (fs.map (·.1)).Nodup) : orderF ks fs = orderF ws fs := by
  have e : ks = ws.filter fun x => (look fs x).isSome := by
    refine KnA.perm_sorted KnA.leS_anti (pk.trans ?_) ku (hu.filter _)
    refine (List.perm_ext_iff_of_nodup ndf (hn.filter _)).mpr fun x => ?_
    rw [List.mem_filter, look_keys]
    exact ⟨fun h => ⟨by obtain ⟨p, hp, e⟩ := List.mem_map.mp h; rw [← e]; exact hw p hp, h⟩, fun h => h.2⟩
  rw [e, order_filter]
def sp__law_text (_ : PySem.W.Frag) : Sp := fun vs H Q _ => ∃ (t l d : Addr) (s0 : Int) (z : Str) (as : List Addr) (ss : List KnA.Stp) (fs : List (Str × Str)), vs = [.ref t] ∧ DatO H t l d s0 z as ss fs ∧ GoodText s0 ss fs ∧ ss.length ≤ 100 ∧ fs.length ≤ 60 ∧ (fs.map (·.1)).Nodup ∧
  ∀ H' L ks, Same H H' → ks.Pairwise KnA.leS → ks.Perm (fs.map (·.1)) → H' L = some (.lst ((linesOf s0 ss (orderF ks fs)).map V.str)) → Q (.ref L) H'
theorem ok__law_text {f : Addr} {C : Addr} {fd : FuncData} (T : Txt K mg C) (F : Fun K "_law_text" "_law_text" s__law_text f fd)  : FnOk P w K mg base CX0 1 f fd ["_law_data"] (sp__law_text K) := by
  have nd := sc__law_text.nd
  refine F.ok sc__law_text (fun vs H Q E h => ?_) (fun cdv A outer s H vs Q E hr h => ?_)
  · obtain ⟨t, l, d, s0, z, as, ss, fs, rfl, _⟩ := h
    rfl
  · obtain ⟨t, l, d, s0, z, as, ss, fs, rfl, da, gt, lss, lfs, ndf, q⟩ := h
    refine ⟨_, (pss_cons (ps_set (i := 1) nd rfl (.inl rfl) (pe_lst (pa_cons (pe_op op_add_str pe_str (pe_callTy call_str_int (by rfl) T.m_str (by decide +kernel) (pa_cons (pe_ix (r := rIxL K) ix_list (pv 0) pe_int (fun _ _ => rfl)) pa_nil))) pa_nil)))
      (pss_cons (ps_for PassesOwn.never rfl (pi_list (pe_ix (r := rIxL K) ix_list (pv 0) pe_int (fun _ _ => rfl))) (pg_name (i := 2) nd rfl (.inl rfl)) (pss_one (ps_expr (pe_bm PySem.F.plainAttrs_list PySem.F.slot_list_append PySem.F.type_list_append mt_append (pv 1) (pa_cons (pe_op op_add_str (pe_op op_add_str (pe_op op_add_str (pe_op op_add_str (pe_callTy call_str_int (by rfl) T.m_str (by decide +kernel) (pa_cons (pe_ix (r := rIxT K) ix_tup (pv 2) pe_int (fun _ _ => rfl)) pa_nil)) pe_str) (pe_ix (r := rIxT K) ix_tup (pv 2) pe_int (fun _ _ => rfl))) pe_str) (pe_callTy call_str_int (by rfl) T.m_str (by decide +kernel) (pa_cons (pe_ix (r := rIxT K) ix_tup (pv 2) pe_int (fun _ _ => rfl)) pa_nil))) pa_nil)))))
      (pss_cons (ps_for PassesOwn.never rfl (pi_list (pe_callB cr_sortedS (by rfl) T.m_sorted (by decide +kernel) (pa_cons (pe_callTy (call_listD rfl) (by rfl) T.m_list (by decide +kernel) (pa_cons (pe_ix (r := rIxL K) ix_list (pv 0) pe_int (fun _ _ => rfl)) pa_nil)) pa_nil))) (pg_name (i := 3) nd rfl (.inl rfl)) (pss_one (ps_expr (pe_bm PySem.F.plainAttrs_list PySem.F.slot_list_append PySem.F.type_list_append mt_append (pv 1) (pa_cons (pe_op op_add_str (pe_op op_add_str (pe_op op_add_str pe_str (pv 3)) pe_str) (pe_dget (hu_of hr) (pe_ix (r := rIxL K) ix_list (pv 0) pe_int (fun _ _ => rfl)) (pv 3) (fun _ _ => rfl))) pa_nil)))))
      (pss_one (ps_ret (pv 1)))))), ?_⟩
    have hs0 := state_in gt.st
    have sz6 : SZ 6 "start " := by unfold SZ; decide +kernel
    have szf : SZ 6 "fault " := by unfold SZ; decide +kernel
    have e6 : ("start " : Str) = "start" ++ " " := by decide +kernel
    have ef6 : ("fault " : Str) = "fault" ++ " " := by decide +kernel
    refine ⟨.ref t, rfl, t, _, 0, .int s0, rfl, rfl, .inl (.inl da.at_), atI_nat (j := 0) rfl, s0, rfl, log_st hs0, "start ", sN s0, rfl, rfl, sz6.ln2 (sz_num hs0) (by decide), szl rfl, fun L nL => ?_⟩
    have e0 : ("start " : Str) ++ sN s0 = lineOf (row0 s0) := by rw [e6]; exact (line2 _ _).symm
    have s1 := same_upd (o := .lst [.str ("start " ++ sN s0)]) nL
    have eL : (upd H L (.lst [.str ("start " ++ sN s0)])) L = some (.lst (([row0 s0].map lineOf).map V.str)) := by rw [upd_same, e0]; rfl
    generalize upd H L (.lst [.str ("start " ++ sN s0)]) = H1 at s1 eL ⊢
    refine ⟨.ref t, rfl, t, _, 1, .ref l, rfl, rfl, .inl (.inl (s1 _ _ da.at_)), atI_nat (j := 1) rfl, l, rfl, ⟨_, .inl (.inl (s1 _ _ da.hl))⟩, ?_⟩
    refine for_list (K := K) (xs := as.map V.ref) (fun i σ G => ∃ (y2 y3 : Option V), σ = [some (.ref t), some (.ref L), y2, y3] ∧ Same H G ∧ G L = some (.lst (((row0 s0 :: (ss.take i).map rowS).map lineOf).map V.str)))
      ⟨_, _, rfl, s1, eL⟩ (fun i σ G _ hP => ?_) (fun i v σ G hv hP => ?_) (fun σ G hP => ?_)
    · obtain ⟨_, _, _, S, _⟩ := hP
      exact .inl (.inl (S _ _ da.hl))
    · obtain ⟨y2, y3, rfl, S, eL⟩ := hP
      obtain ⟨ai, x, rfl, gi, g, hai⟩ := ref_get (da.st.mono S) hv
      have gx := gt.gs x (List.mem_of_getElem? g)
      have hx := state_in gx.s
      have hy := state_in gx.t
      have z1 := sz_num hx
      have z2 := z1.app sz_sp
      have z3 := z2.app (sz_name gx.w)
      have z4 := z3.app sz_sp
      refine ⟨.ref L, rfl, .inl ⟨rfl, _, .inl (.inl eL)⟩, .ref ai, rfl, ai, [.int x.1, .str x.2.1, .int x.2.2], 0, .int x.1, rfl, rfl, .inl (.inl hai), atI_nat (j := 0) rfl, x.1, rfl, log_st hx, sN x.1, " ", rfl, rfl, z1.ln2 sz_sp (by decide),
        .ref ai, rfl, ai, [.int x.1, .str x.2.1, .int x.2.2], 1, .str x.2.1, rfl, rfl, .inl (.inl hai), atI_nat (j := 1) rfl, sN x.1 ++ " ", x.2.1, rfl, rfl, z2.ln2 (sz_name gx.w) (by decide), sN x.1 ++ " " ++ x.2.1, " ", rfl, rfl, z3.ln2 sz_sp (by decide),
        .ref ai, rfl, ai, [.int x.1, .str x.2.1, .int x.2.2], 2, .int x.2.2, rfl, rfl, .inl (.inl hai), atI_nat (j := 2) rfl, x.2.2, rfl, log_st hy, sN x.1 ++ " " ++ x.2.1 ++ " ", sN x.2.2, rfl, rfl, z4.ln2 (sz_num hy) (by decide), L, _, _, rfl, rfl, eL, small (by simp only [List.length_map, List.length_cons, List.length_take]; omega), ?_⟩
      refine ⟨_, _, rfl, same_set nL S, ?_⟩
      have ex : sN x.1 ++ " " ++ x.2.1 ++ " " ++ sN x.2.2 = lineOf (rowS x) := (line3 _ _ _).symm
      rw [upd_same, ex, take_more g]
      simp only [List.map_append, List.map_cons, List.map_nil, List.cons_append]
    · obtain ⟨y2, y3, rfl, S, eL⟩ := hP
      rw [List.length_map, da.st.length, List.take_length] at eL
      have da1 := da.mono S
      refine ⟨.ref t, rfl, t, _, 2, .ref d, rfl, rfl, .inl (.inl da1.at_), atI_nat (j := 2) rfl, d, _, rfl, .inl da1.hd, fun k1 nk1 => ?_⟩
      have ek : (fkv fs).map (fun kv => kV kv.1) = (fs.map (·.1)).map V.str := by unfold fkv; rw [List.map_map, List.map_map]; rfl
      rw [ek]
      have sk := same_upd (o := .lst ((fs.map (·.1)).map V.str)) nk1
      refine ⟨k1, fs.map (·.1), rfl, .inl (.inl upd_same), by rw [List.length_map]; omega, fun ks k2 pk sk2 nk2 => ?_⟩
      have sk' := same_upd (o := .lst (ks.map V.str)) nk2
      have ek2 : (upd (upd G k1 (.lst ((fs.map (·.1)).map V.str))) k2 (.lst (ks.map V.str))) k2 = some (.lst (ks.map V.str)) := upd_same
      have S2 := sk.trans sk'
      have nkL : k2 ≠ L := (ne_of_none (sk _ _ eL) nk2).symm
      generalize upd (upd G k1 (.lst ((fs.map (·.1)).map V.str))) k2 (.lst (ks.map V.str)) = H2 at S2 ek2 ⊢
      have eL2 := S2 _ _ eL
      refine ⟨k2, rfl, ⟨_, .inl (.inl ek2)⟩, ?_⟩
      have lin : ∀ ofs : List (Str × Str), (rowsOf s0 ss ofs).map lineOf = linesOf s0 ss ofs := fun _ => rfl
      have lk := pk.length_eq
      rw [List.length_map] at lk
      refine for_list (K := K) (xs := ks.map V.str) (fun i σ G' => ∃ (y2 y3 : Option V), σ = [some (.ref t), some (.ref L), y2, y3] ∧ Same H G' ∧ G' k2 = some (.lst (ks.map V.str)) ∧ G' L = some (.lst ((linesOf s0 ss (orderF (ks.take i) fs)).map V.str)))
        ⟨_, _, rfl, S.trans S2, ek2, by rw [eL2]; simp [linesOf, rowsOf, orderF]⟩ (fun i σ G hi hP => ?_) (fun i v σ G hv hP => ?_) (fun σ G hP => ?_)
      · obtain ⟨_, _, _, _, h, _⟩ := hP
        exact .inl (.inl h)
      · obtain ⟨y2, y3, rfl, S, ek2, eL⟩ := hP
        have da2 := da.mono S
        rw [List.getElem?_map] at hv
        cases gx : ks[i]? with
        | none => rw [gx] at hv; cases hv
        | some x =>
        rw [gx] at hv
        cases hv
        have hxm : x ∈ fs.map (·.1) := pk.mem_iff.mp (List.mem_of_getElem? gx)
        have hi : i < ks.length := (List.getElem?_eq_some_iff.mp gx).1
        obtain ⟨n, hn⟩ := Option.isSome_iff_exists.mp (look_keys.mpr hxm)
        have gp := gt.gf _ ((look_mem ndf).mp hn)
        have z1 := szf.app (sz_name gp.1)
        have z2 := z1.app sz_sp
        have dg : DGet G d (.str x) (valV (fkv fs) (.inr x)) := DGet.k (k := .inr x) da2.hd
        rw [look_val, hn] at dg
        have lo := order_len (ks.take i) fs
        rw [List.length_take] at lo
        have ll := lines_len s0 ss (orderF (ks.take i) fs)
        refine ⟨.ref L, rfl, .inl ⟨rfl, _, .inl (.inl eL)⟩, .str x, rfl, "fault ", x, rfl, rfl, szf.ln2 (sz_name gp.1) (by decide), "fault " ++ x, " ", rfl, rfl, z1.ln2 sz_sp (by decide), .ref t, rfl, t, _, 2, .ref d, rfl, rfl, .inl (.inl da2.at_), atI_nat (j := 2) rfl, .str x, rfl, d, .str n, rfl, dg, "fault " ++ x ++ " ", n, rfl, rfl, z2.ln2 (sz_name gp.2) (by decide), L, _, _, rfl, rfl, eL, small (by rw [List.length_map]; omega), ?_⟩
        refine ⟨_, _, rfl, same_set nL S, (upd_ne nkL).trans ek2, ?_⟩
        have ex : "fault " ++ x ++ " " ++ n = lineOf (rowF (x, n)) := by rw [ef6]; exact (line3 _ _ _).symm
        have et := order_take (fs := fs) gx
        rw [hn] at et
        rw [upd_same, ex, et]
        unfold linesOf rowsOf
        simp only [List.map_append, List.map_cons, List.map_nil, List.cons_append, List.append_assoc]
      · obtain ⟨y2, y3, rfl, S, ek2, eL⟩ := hP
        rw [List.length_map, List.take_length] at eL
        exact ⟨.ref L, rfl, q G L ks S (KnA.sorted_pair sk2) pk eL⟩

end
end Kn

set_option Elab.async false
set_option linter.all false
set_option maxRecDepth 100000
set_option maxHeartbeats 4000000
namespace Kn
open PySem PySem.Spec PyProof.Rows L2
open C8 (Cal pe_c pe_gc Mak pe_mk)
section
variable {P : Program} {w : World} {K : PySem.W.Frag} {mg : Str → Option Value} {base : Heap}
/-! ### words of the text's own -/
def mp (f : Str → Str) (x : KnA.Stp) : KnA.Stp := (x.1, f x.2.1, x.2.2)
theorem mp_reach {f : Str → Str} {ss : List KnA.Stp} {s0 x : Int} (h : KnA.Reach (ss.map (mp f)) s0 x) : KnA.Reach ss s0 x := by
  induction h with
  | start => exact .start
  | step _ m ih =>
    obtain ⟨u, hu, e⟩ := List.mem_map.mp m
    cases e
    exact .step ih (show (u.1, u.2.1, u.2.2) ∈ ss from hu)
theorem allL_le {xs zs : List Str} (h : ∀ x ∈ xs, x ∈ zs) : (KnS.allL (xs.map Sum.inr)).length ≤ (KnS.allL (zs.map Sum.inr)).length := by
  obtain ⟨ys, ey, ny, my⟩ := allL_strs xs
  obtain ⟨us, eu, nu, mu⟩ := allL_strs zs
  rw [ey, eu, List.length_map, List.length_map]
  exact sub_len ny fun x hx => (mu x).mpr (h x ((my x).mp hx))
theorem GoodMach.ren {s0 : Int} {ss : List KnA.Stp} {fs fs' : List (Str × Str)} {olds : List Str} {f : Str → Str} (g : GoodMach s0 ss fs) (hw : KnA.Words olds (ss.map (·.2.1))) (inj : ∀ a ∈ olds, ∀ b ∈ olds, f a = f b → a = b) (nm : ∀ a ∈ olds, nameB (.str (f a)) = true)
    (pf : fs'.Perm (fs.map fun p => (f p.1, p.2))) : GoodMach s0 (ss.map (mp f)) fs' := by
  have win : ∀ x ∈ ss, x.2.1 ∈ olds := fun x hx => (hw.mem _).mpr (List.mem_map.mpr ⟨x, hx, rfl⟩)
  have ew : (ss.map (mp f)).map (·.2.1) = (ss.map (·.2.1)).map f := by rw [List.map_map, List.map_map]; rfl
  refine ⟨g.st0, ⟨by rw [List.length_map]; exact g.gs.lo, by rw [List.length_map]; exact g.gs.hi, fun x hx => ?_, ?_, fun s => ?_⟩, fun ws hws => ?_, ⟨fun p hp => ?_, ?_, by rw [pf.length_eq, List.length_map]; exact g.gf.len⟩, fun x hx => ?_⟩
  · obtain ⟨u, hu, rfl⟩ := List.mem_map.mp hx
    exact ⟨(g.gs.good u hu).s, nm _ (win u hu), (g.gs.good u hu).t⟩
  · refine List.pairwise_map.mpr (g.gs.nd.imp_of_mem fun {a b} ha hb ne e => ne ?_)
    have e' : ((a.1, f a.2.1, a.2.2) : KnA.Stp) = (b.1, f b.2.1, b.2.2) := e
    have h1 := (Prod.mk.inj e').1
    have h2 := (Prod.mk.inj (Prod.mk.inj e').2).1
    have h3 := (Prod.mk.inj (Prod.mk.inj e').2).2
    have h4 := inj _ (win a ha) _ (win b hb) h2
    obtain ⟨a1, a2, a3⟩ := a
    obtain ⟨b1, b2, b3⟩ := b
    simp only at h1 h3 h4
    rw [h1, h3, h4]
  · have e : cnt (ss.map (mp f)) s = cnt ss s := by
      unfold cnt
      rw [List.filter_map, List.length_map]; rfl
    rw [e]
    exact g.gs.few s
  · have h14 := g.few olds hw
    have := sub_len (m := olds.map f) hws.nd fun x hx => by
      have := (hws.mem x).mp hx
      rw [ew] at this
      obtain ⟨u, hu, e⟩ := List.mem_map.mp this
      exact List.mem_map.mpr ⟨u, (hw.mem u).mpr hu, e⟩
    rw [List.length_map] at this
    omega
  · obtain ⟨q, hq, rfl⟩ := List.mem_map.mp (pf.mem_iff.mp hp)
    have hgq := g.gf.word q hq
    refine ⟨nm _ ((hw.mem _).mpr hgq.2.1), ?_, hgq.2.2⟩
    rw [ew]
    exact List.mem_map.mpr ⟨_, hgq.2.1, rfl⟩
  · have h3 := g.gf.few
    have e1 : (fs.map fun p => (Sum.inr p.2 : Key)) = (fs.map (·.2)).map Sum.inr := by rw [List.map_map]; rfl
    have e2 : (fs'.map fun p => (Sum.inr p.2 : Key)) = (fs'.map (·.2)).map Sum.inr := by rw [List.map_map]; rfl
    rw [e1] at h3
    rw [e2]
    refine Nat.le_trans (allL_le fun x hx => ?_) h3
    obtain ⟨p, hp, e⟩ := List.mem_map.mp hx
    obtain ⟨q, hq, rfl⟩ := List.mem_map.mp (pf.mem_iff.mp hp)
    exact List.mem_map.mpr ⟨q, hq, e⟩
  · obtain ⟨w, y, m⟩ := g.live x (mp_reach hx)
    exact ⟨f w, y, List.mem_map.mpr ⟨_, m, rfl⟩⟩
def newsW : List Str := ["start", "fault", "lost", "on"]
theorem news_name : ∀ z ∈ newsW, nameB (.str z) = true := by decide +kernel
theorem news_nd : newsW.Nodup := by decide +kernel
/-- the table of the new words -/
structure Tab (tb : List (Str × Str)) (olds : List Str) (k : Nat) : Prop where
  keys : tb.map (·.1) = olds.take k
  val : ∀ p ∈ tb, p.2 = p.1 ∨ ∃ j : Nat, newsW[j]? = some p.2 ∧ olds[j]? = some p.1 ∧ p.2 ∉ olds
def ren (tb : List (Str × Str)) (x : Str) : Str := (look tb x).getD x
theorem Tab.look {tb : List (Str × Str)} {olds : List Str} {k : Nat} (t : Tab tb olds k) (nd : olds.Nodup) {x : Str} (h : x ∈ olds.take k) : look tb x = some (ren tb x) ∧ (x, ren tb x) ∈ tb := by
  have ndk : (tb.map (·.1)).Nodup := by rw [t.keys]; exact (List.take_sublist _ _).nodup nd
  have hx : x ∈ tb.map (·.1) := by rw [t.keys]; exact h
  obtain ⟨p, hp, e⟩ := List.mem_map.mp hx
  have hl : Kn.look tb x = some p.2 := (look_mem ndk).mpr (by rw [← e]; exact hp)
  unfold ren
  rw [hl]
  exact ⟨rfl, (look_mem ndk).mp hl⟩
theorem Tab.inj {tb : List (Str × Str)} {olds : List Str} {k : Nat} (t : Tab tb olds k) (nd : olds.Nodup) {a b : Str} (ha : a ∈ olds.take k) (hb : b ∈ olds.take k) (e : ren tb a = ren tb b) : a = b := by
  have ia := List.mem_of_mem_take ha
  have ib := List.mem_of_mem_take hb
  rcases t.val _ (t.look nd ha).2 with h1 | ⟨i, h1, h1', h1''⟩ <;> rcases t.val _ (t.look nd hb).2 with h2 | ⟨j, h2, h2', h2''⟩
  · have h1 : ren tb a = a := h1
    have h2 : ren tb b = b := h2
    rw [← h1, e, h2]
  · have h1 : ren tb a = a := h1
    exact (h2'' (by show ren tb b ∈ olds; rw [← e, h1]; exact ia)).elim
  · have h2 : ren tb b = b := h2
    exact (h1'' (by show ren tb a ∈ olds; rw [e, h2]; exact ib)).elim
  · have h1 : newsW[i]? = some (ren tb a) := h1
    have h2 : newsW[j]? = some (ren tb b) := h2
    rw [← e] at h2
    have l1 := List.getElem?_eq_some_iff.mp h1
    have l2 := List.getElem?_eq_some_iff.mp h2
    have := (List.getElem_inj news_nd).mp (l1.2.trans l2.2.symm)
    subst this
    have h1' : olds[i]? = some a := h1'
    have h2' : olds[i]? = some b := h2'
    rw [h1'] at h2'
    exact Option.some.inj h2'
theorem Tab.name {tb : List (Str × Str)} {olds : List Str} {k : Nat} (t : Tab tb olds k) (nd : olds.Nodup) (ho : ∀ z ∈ olds, nameB (.str z) = true) {a : Str} (ha : a ∈ olds.take k) : nameB (.str (ren tb a)) = true := by
  rcases t.val _ (t.look nd ha).2 with h | ⟨j, h, _, _⟩
  · have h : ren tb a = a := h
    rw [h]; exact ho a (List.mem_of_mem_take ha)
  · exact news_name _ (List.mem_of_getElem? h)
theorem Tab.push {tb : List (Str × Str)} {olds : List Str} {k : Nat} {x n : Str} (t : Tab tb olds k) (h : olds[k]? = some x) (hv : n = x ∨ ∃ j : Nat, newsW[j]? = some n ∧ olds[j]? = some x ∧ n ∉ olds) : Tab (tb ++ [(x, n)]) olds (k + 1) := by
  refine ⟨by rw [List.map_append, t.keys, take_more h]; rfl, fun p hp => ?_⟩
  rcases List.mem_append.mp hp with hp | hp
  · exact t.val p hp
  · rw [List.mem_singleton.mp hp]; exact hv
theorem put_again {tb : List (Str × Str)} {x n m : Str} (no : ∀ p ∈ tb, p.1 ≠ x) : putK (fkv (tb ++ [(x, m)])) (.inr x) (.str n) = fkv (tb ++ [(x, n)]) := by
  unfold putK
  have ha : ((fkv (tb ++ [(x, m)])).any fun kv => decide (kv.1 = (.inr x : Key))) = true := by
    unfold fkv
    rw [List.map_append, List.any_append]
    simp
  rw [if_pos ha]
  unfold fkv
  rw [List.map_map, List.map_append, List.map_append]
  congr 1
  · refine List.map_congr_left fun p hp => ?_
    show (if (Sum.inr p.1 : Key) = .inr x then _ else _) = _
    rw [if_neg fun z => no p hp (Sum.inr.inj z)]
  · show [if (Sum.inr x : Key) = .inr x then _ else _] = _
    rw [if_pos rfl]; rfl
def sp__law_own_words (_ : PySem.W.Frag) : Sp := fun vs H Q _ => ∃ (sv : V) (t l d : Addr) (s0 : Int) (z : Str) (as : List Addr) (ss : List KnA.Stp) (fs : List (Str × Str)), vs = [sv, .ref t] ∧ DatO H t l d s0 z as ss fs ∧ GoodMach s0 ss fs ∧ (fs.map (·.1)).Nodup ∧
  ∀ H' t' l' d' as' ss' fs', Same H H' → H t' = none → H l' = none → H d' = none → t' ≠ l' → t' ≠ d' → l' ≠ d' → DatO H' t' l' d' s0 z as' ss' fs' → GoodMach s0 ss' fs' → (fs'.map (·.1)).Nodup → Q (.ref t') H'
theorem ok__law_own_words {f : Addr} {C : Addr} {fd : FuncData} (T : Txt K mg C) (F : Fun K "_law_own_words" "_law_own_words" s__law_own_words f fd)  : FnOk P w K mg base CX0 1 f fd ["_law_source_here", "_law_data"] (sp__law_own_words K) := by
  have nd := sc__law_own_words.nd
  refine F.ok sc__law_own_words (fun vs H Q E h => ?_) (fun cdv A outer s H vs Q E hr h => ?_)
  · obtain ⟨sv, t, l, d, s0, z, as, ss, fs, rfl, _⟩ := h
    rfl
  · obtain ⟨sv, t, l, d, s0, z, as, ss, fs, rfl, da, gm, ndf, q⟩ := h
    refine ⟨_, (pss_cons (ps_set (i := 2) nd rfl (.inl rfl) (pe_callB (show CallR _ (.builtin "sorted") (KnS.rSortedL P w) from KnS.cr_sortedL rfl) (by rfl) T.m_sorted (by decide +kernel) (pa_cons (pe_callTy (show CallR _ (.type "set") (KnS.rSetOf K P w) from KnS.cr_setOf rfl) (by rfl) T.m_set (by decide +kernel) (pa_cons (pe_lc (own := [("_law_row", 9)]) (g := gName 9) (tt := tYes) rfl nd (pi_list (pe_ix (r := rIxL K) ix_list (pv 1) pe_int (fun _ _ => rfl))) (blkOk_by (N := ["_law_source_here", "_law_data", "_law_olds", "_law_news", "_law_table", "_law_k", "_law_steps_here", "_law_faults_here", "_law_word", "_law_row"]) (sc := defScope s__law_own_words) (by decide +kernel)) (fun _ _ _ _ _ => (pg_name (i := 9) nd rfl (.inl rfl))) (fun _ _ _ _ _ => pts_nil) (fun _ _ _ _ _ => (pe_ix (r := rIxT K) ix_tup (pv 9) pe_int (fun _ _ => rfl)))) pa_nil)) pa_nil)))
      (pss_cons (ps_set (i := 3) nd rfl (.inl rfl) (pe_lst (pa_cons pe_str (pa_cons pe_str (pa_cons pe_str (pa_cons pe_str pa_nil))))))
      (pss_cons (ps_set (i := 4) nd rfl (.inr rfl) pe_dnewK)
      (pss_cons (ps_for PassesOwn.never rfl (pi_range1 (by rfl) T.m_range (pa_cons (pe_callB call_len (by rfl) T.m_len (by decide +kernel) (pa_cons (pv 2) pa_nil)) pa_nil)) (pg_name (i := 5) nd rfl (.inl rfl)) (pss_cons (ps_dput (hu_of hr) (pv 4) (pe_ix (r := rIxL K) ix_list (pv 2) (pv 5) (fun _ _ => rfl)) (pe_ix (r := rIxL K) ix_list (pv 2) (pv 5) (fun _ _ => rfl)) rfl)
      (pss_one (ps_if (PW.pt (pw_and (pt_cmpR op_lt (pv 5) pe_int (nomark _)) (pw_and1 (pt_cmpR op_notIn_seq (pe_ix (r := rIxL K) ix_list (pv 3) (pv 5) (fun _ _ => rfl)) (pv 2) (by with_unfolding_all rfl))))) (pss_one (ps_dput (hu_of hr) (pv 4) (pe_ix (r := rIxL K) ix_list (pv 2) (pv 5) (fun _ _ => rfl)) (pe_ix (r := rIxL K) ix_list (pv 3) (pv 5) (fun _ _ => rfl)) rfl)) pss_nil))))
      (pss_cons (ps_setLc (i := 6) (own := [("_law_row", 9)]) (g := gName 9) (tt := tYes) rfl nd rfl rfl (sw_true rfl rfl rfl (by decide +kernel)) (pi_list (pe_ix (r := rIxL K) ix_list (pv 1) pe_int (fun _ _ => rfl))) (blkOk_by (N := ["_law_source_here", "_law_data", "_law_olds", "_law_news", "_law_table", "_law_k", "_law_steps_here", "_law_faults_here", "_law_word", "_law_row"]) (sc := defScope s__law_own_words) (by decide +kernel)) (fun _ _ _ _ _ => (pg_name (i := 9) nd rfl (.inl rfl))) (fun _ _ _ _ _ => pts_nil) (fun _ _ _ _ _ => (pe_tup (pa_cons (pe_ix (r := rIxT K) ix_tup (pv 9) pe_int (fun _ _ => rfl)) (pa_cons (pe_dget (hu_of hr) (pv 4) (pe_ix (r := rIxT K) ix_tup (pv 9) pe_int (fun _ _ => rfl)) (fun _ _ => rfl)) (pa_cons (pe_ix (r := rIxT K) ix_tup (pv 9) pe_int (fun _ _ => rfl)) pa_nil))))))
      (pss_cons (ps_set (i := 7) nd rfl (.inl rfl) pe_dnewK)
      (pss_cons (ps_for PassesOwn.never rfl (pi_list (KnR.pe_rev (pe_callTy (call_listD rfl) (by rfl) T.m_list (by decide +kernel) (pa_cons (pe_ix (r := rIxL K) ix_list (pv 1) pe_int (fun _ _ => rfl)) pa_nil)) (pe_un un_neg pe_int))) (pg_name (i := 8) nd rfl (.inl rfl)) (pss_one (ps_dput (hu_of hr) (pv 7) (pe_dget (hu_of hr) (pv 4) (pv 8) (fun _ _ => rfl)) (pe_dget (hu_of hr) (pe_ix (r := rIxL K) ix_list (pv 1) pe_int (fun _ _ => rfl)) (pv 8) (fun _ _ => rfl)) rfl)))
      (pss_one (ps_ret (pe_lst (pa_cons (pe_ix (r := rIxL K) ix_list (pv 1) pe_int (fun _ _ => rfl)) (pa_cons (pv 6) (pa_cons (pv 7) (pa_cons (pe_ix (r := rIxL K) ix_list (pv 1) pe_int (fun _ _ => rfl)) pa_nil)))))))))))))), ?_⟩
    have hi80 := gm.gs.hi
    refine ⟨.ref t, rfl, t, _, 1, .ref l, rfl, rfl, .inl (.inl da.at_), atI_nat (j := 1) rfl, l, rfl, ⟨_, .inl (.inl da.hl)⟩, fun D nD => ?_⟩
    refine lc_list (K := K) (a := l) (xs := as.map V.ref) (fun i G => Same H G ∧ G D = some (.lst (((ss.take i).map (·.2.1)).map V.str))) ⟨same_upd nD, upd_same⟩ (fun i G _ hP => .inl (.inl (hP.1 _ _ da.hl))) (fun i v G hv hP => ?_) (fun G hP => ?_)
    · obtain ⟨S, eD⟩ := hP
      obtain ⟨ai, st, rfl, gi, g, hai⟩ := ref_get (da.st.mono S) hv
      refine ⟨rfl, ?_⟩
      unfold tYes
      refine iteT ?_
      refine ⟨.ref ai, rfl, ai, [.int st.1, .str st.2.1, .int st.2.2], 1, .str st.2.1, rfl, rfl, .inl (.inl hai), atI_nat (j := 1) rfl, _, eD, small (by rw [List.length_map, List.length_map, List.length_take]; omega), same_set nD S, ?_⟩
      rw [upd_same, take_more g, List.map_append, List.map_append]; rfl
    · obtain ⟨S, eD⟩ := hP
      rw [List.length_map, da.st.length, List.take_length] at eD
      have ek : (((ss.map (·.2.1)).map Sum.inr).map kV : List V) = (ss.map (·.2.1)).map V.str := by rw [List.map_map]; rfl
      refine ⟨D, (ss.map (·.2.1)).map Sum.inr, rfl, .inl (.inl (by rw [ek]; exact eD)), by rw [List.length_map, List.length_map]; unfold scanBound; omega, fun SS nSS => ?_⟩
      have sSS := same_upd (o := KnS.SetL P w SS (KnS.allL ((ss.map (·.2.1)).map Sum.inr))) nSS
      obtain ⟨ys, ey, ny, my⟩ := allL_strs (ss.map (·.2.1))
      refine ⟨SS, ys, rfl, by rw [← ey]; exact upd_same, fun olds lu pw sw nlu => ?_⟩
      have slu := same_upd (o := .lst (olds.map V.str)) nlu
      have elu : (upd (upd G SS (KnS.SetL P w SS (KnS.allL ((ss.map (·.2.1)).map Sum.inr)))) lu (.lst (olds.map V.str))) lu = some (.lst (olds.map V.str)) := upd_same
      have S3 := S.trans (sSS.trans slu)
      generalize upd (upd G SS (KnS.SetL P w SS (KnS.allL ((ss.map (·.2.1)).map Sum.inr)))) lu (.lst (olds.map V.str)) = H3 at S3 elu ⊢
      have ndo : olds.Nodup := pw.symm.nodup ny
      have hw : KnA.Words olds (ss.map (·.2.1)) := ⟨KnA.sorted_pair sw, ndo, fun x => pw.mem_iff.trans (my x)⟩
      have l14 := gm.few olds hw
      clear eD sSS slu S
      refine ⟨szl rfl, fun N nN => ?_⟩
      have sN_ := same_upd (o := .lst (newsW.map V.str)) nN
      have eN : (upd H3 N (.lst (newsW.map V.str))) N = some (.lst (newsW.map V.str)) := upd_same
      have e0 : HO.lst [V.str "start", .str "fault", .str "lost", .str "on"] = .lst (newsW.map V.str) := rfl
      rw [e0]
      generalize upd H3 N (.lst (newsW.map V.str)) = H4 at sN_ eN ⊢
      have S4 := S3.trans sN_
      have elu4 := sN_ _ _ elu
      refine fun tb ntb => ?_
      have stb := same_upd (o := .dK []) ntb
      refine ⟨.ref lu, rfl, .ref lu, olds.length, rfl, .inl ⟨_, .inl (.inl (stb _ _ elu4)), (List.length_map _).symm⟩, (olds.length : Int), rfl, by omega, by omega, ?_⟩
      rw [Int.toNat_natCast]
      refine for_range (lo := 0) (n := olds.length) (fun i σ G => ∃ (y5 y6 y7 y8 y9 : Option V) (tbl : List (Str × Str)), σ = [some sv, some (.ref t), some (.ref lu), some (.ref N), some (.ref tb), y5, y6, y7, y8, y9] ∧ Same H4 G ∧ G tb = some (.dK (fkv tbl)) ∧ Tab tbl olds i)
        ⟨_, _, _, _, _, [], rfl, stb, upd_same, rfl, fun p hp => nomatch hp⟩ (fun i σ G hi hP => ?_) (fun σ G hP => ?_)
      · obtain ⟨y5, y6, y7, y8, y9, tbl, rfl, S, etb, tt⟩ := hP
        obtain ⟨x, gx⟩ : ∃ x, olds[i]? = some x := ⟨_, List.getElem?_eq_getElem hi⟩
        have ga : atI (olds.map V.str) (0 + (i : Int)) = some (.str x) := by rw [Int.zero_add]; exact atI_nat (by rw [List.getElem?_map, gx]; rfl)
        have no : ∀ p ∈ tbl, p.1 ≠ x := fun p hp e => by
          have h : x ∈ olds.take i := by rw [← tt.keys, ← e]; exact List.mem_map.mpr ⟨p, hp, rfl⟩
          obtain ⟨j, hj, ej⟩ := List.mem_iff_getElem.mp h
          rw [List.length_take] at hj
          rw [List.getElem_take] at ej
          have := (List.getElem_inj ndo).mp (ej.trans (List.getElem?_eq_some_iff.mp gx).2.symm)
          omega
        have ltb : tbl.length ≤ 14 := by
          have h1 := congrArg List.length tt.keys
          rw [List.length_map, List.length_take] at h1
          omega
        have lf : (fkv tbl).length = tbl.length := by unfold fkv; rw [List.length_map]
        refine ⟨.ref lu, rfl, .int (0 + (i : Int)), rfl, lu, _, _, .str x, rfl, rfl, .inl (.inl (S _ _ elu4)), ga, .ref tb, rfl, .ref lu, rfl, .int (0 + (i : Int)), rfl, lu, _, _, .str x, rfl, rfl, .inl (.inl (S _ _ elu4)), ga, tb, _, rfl, DPut.k (k := .inr x) etb (small (by omega)), ?_⟩
        have etb2 : (upd G tb (.dK (putK (fkv tbl) (.inr x) (.str x)))) tb = some (.dK (fkv (tbl ++ [(x, x)]))) := by
          rw [upd_same, putK_new _ (val_none no)]
          unfold fkv
          rw [List.map_append]; rfl
        have S2 : Same H4 (upd G tb (.dK (putK (fkv tbl) (.inr x) (.str x)))) := same_set ntb S
        generalize upd G tb (.dK (putK (fkv tbl) (.inr x) (.str x))) = G2 at etb2 S2 ⊢
        have stay : ∃ (u5 u6 u7 u8 u9 : Option V) (tbl : List (Str × Str)), ([some sv, some (.ref t), some (.ref lu), some (.ref N), some (.ref tb), some (.int (0 + (i : Int))), y6, y7, y8, y9] : L2.St) = [some sv, some (.ref t), some (.ref lu), some (.ref N), some (.ref tb), u5, u6, u7, u8, u9] ∧ Same H4 G2 ∧ G2 tb = some (.dK (fkv tbl)) ∧ Tab tbl olds (i + 1) :=
          ⟨_, _, _, _, _, _, rfl, S2, etb2, tt.push gx (.inl rfl)⟩
        refine ⟨.int (0 + (i : Int)), rfl, 0 + (i : Int), 4, rfl, rfl, _, rfl, ite2 (fun c0 => ?_) (fun _ => iteF stay)⟩
        have c0 : 0 + (i : Int) < 4 := of_decide_eq_true c0
        obtain ⟨n, gn⟩ : ∃ n, newsW[i]? = some n := ⟨_, List.getElem?_eq_getElem (show i < 4 by omega)⟩
        have gb : atI (newsW.map V.str) (0 + (i : Int)) = some (.str n) := by rw [Int.zero_add]; exact atI_nat (by rw [List.getElem?_map, gn]; rfl)
        refine ⟨.ref N, rfl, .int (0 + (i : Int)), rfl, N, _, _, .str n, rfl, rfl, .inl (.inl (S2 _ _ eN)), gb, .ref lu, rfl, lu, olds.map V.str, rfl, .inl (.inl (.inl (S2 _ _ elu4))), rfl, flat_ws _, _, rfl, ?_⟩
        show if (!inV (.str n) (olds.map V.str)) = true then _ else _
        rw [inV_strs]
        by_cases hm : n ∈ olds
        · rw [decide_eq_true hm]
          exact iteF stay
        · rw [decide_eq_false hm]
          have lf2 : (fkv (tbl ++ [(x, x)])).length = tbl.length + 1 := by unfold fkv; rw [List.length_map, List.length_append]; rfl
          refine iteT ⟨.ref N, rfl, .int (0 + (i : Int)), rfl, N, _, _, .str n, rfl, rfl, .inl (.inl (S2 _ _ eN)), gb, .ref tb, rfl, .ref lu, rfl, .int (0 + (i : Int)), rfl, lu, _, _, .str x, rfl, rfl, .inl (.inl (S2 _ _ elu4)), ga, tb, _, rfl, DPut.k (k := .inr x) etb2 (small (by omega)), ?_⟩
          exact ⟨_, _, _, _, _, _, rfl, same_set ntb S2, by rw [upd_same, put_again no], tt.push gx (.inr ⟨i, gn, gx, hm⟩)⟩
      · obtain ⟨y5, y6, y7, y8, y9, tbl, rfl, S, etb, tt⟩ := hP
        have S5 := S4.trans S
        have tkk : olds.take olds.length = olds := List.take_length
        have tlk : ∀ x ∈ ss.map (·.2.1), look tbl x = some (ren tbl x) := fun x hx => (tt.look ndo (by rw [tkk]; exact (hw.mem x).mpr hx)).1
        have dgt : ∀ {G' : Hp} {x : Str}, Same G G' → x ∈ ss.map (·.2.1) → DGet G' tb (.str x) (some (.str (ren tbl x))) := fun {G' x} s hx => by
          have dg : DGet G' tb (.str x) (valV (fkv tbl) (.inr x)) := DGet.k (k := .inr x) (s _ _ etb)
          rwa [look_val, tlk x hx] at dg
        have da5 := da.mono S5
        refine ⟨.ref t, rfl, t, _, 1, .ref l, rfl, rfl, .inl (.inl da5.at_), atI_nat (j := 1) rfl, l, rfl, ⟨_, .inl (.inl da5.hl)⟩, fun LD nLD => ?_⟩
        refine lc_list (K := K) (a := l) (xs := as.map V.ref) (fun i G' => Same G G' ∧ ∃ as', G' LD = some (.lst (as'.map V.ref)) ∧ Stps G' as' ((ss.take i).map (mp (ren tbl))))
          ⟨same_upd nLD, [], upd_same, .nil⟩ (fun i G' _ hP => .inl (.inl (hP.1 _ _ da5.hl))) (fun i v G' hv hP => ?_) (fun G' hP => ?_)
        · obtain ⟨S6, as', eLD, hst⟩ := hP
          obtain ⟨ai, x, rfl, gi, g, hai⟩ := ref_get (da5.st.mono S6) hv
          have hxw : x.2.1 ∈ ss.map (·.2.1) := List.mem_map.mpr ⟨x, List.mem_of_getElem? g, rfl⟩
          have las : as'.length ≤ 80 := by rw [hst.length, List.length_map, List.length_take]; omega
          refine ⟨rfl, ?_⟩
          unfold tYes
          refine iteT ⟨.ref ai, rfl, ai, [.int x.1, .str x.2.1, .int x.2.2], 0, .int x.1, rfl, rfl, .inl (.inl hai), atI_nat (j := 0) rfl, .ref tb, rfl, .ref ai, rfl, ai, [.int x.1, .str x.2.1, .int x.2.2], 1, .str x.2.1, rfl, rfl, .inl (.inl hai), atI_nat (j := 1) rfl, tb, .str (ren tbl x.2.1), rfl, dgt S6 hxw,
            .ref ai, rfl, ai, [.int x.1, .str x.2.1, .int x.2.2], 2, .int x.2.2, rfl, rfl, .inl (.inl hai), atI_nat (j := 2) rfl, szl rfl, fun T nT => ?_⟩
          have sT := same_upd (o := tup3 (mp (ren tbl) x)) nT
          have eLD' := sT _ _ eLD
          refine ⟨_, eLD', small (by rw [List.length_map]; omega), same_set nLD (S6.trans sT), as' ++ [T], by rw [upd_same, List.map_append]; rfl, ?_⟩
          rw [take_more g, List.map_append]
          exact (stps_set (hst.mono sT) eLD' (fun _ z => by cases z)).snoc ((upd_ne (ne_of_none eLD nT).symm).trans upd_same)
        · obtain ⟨S6, as', eLD, hst⟩ := hP
          rw [List.length_map, da.st.length, List.take_length] at hst
          have S7 := S5.trans S6
          have nLDH : H LD = none := S5.free nLD
          -- the faults
          refine fun FD nFD => ?_
          have sF := same_upd (o := .dK []) nFD
          have nFDH : H FD = none := S7.free nFD
          have eF0 : (upd G' FD (.dK [])) FD = some (.dK (fkv [])) := upd_same
          have eLD0 := sF _ _ eLD
          have hst0 := hst.mono sF
          have nLF : LD ≠ FD := ne_of_none eLD nFD
          have S8 := S7.trans sF
          have sG8 := S6.trans sF
          generalize upd G' FD (.dK []) = H8 at eF0 eLD0 hst0 S8 sG8 ⊢
          have da8 := da.mono S8
          refine ⟨.ref t, rfl, t, _, 2, .ref d, rfl, rfl, .inl (.inl da8.at_), atI_nat (j := 2) rfl, d, _, rfl, .inl da8.hd, fun k1 nk1 => ?_⟩
          have ekk : (fkv fs).map (fun kv => kV kv.1) = (fs.map (·.1)).map V.str := by unfold fkv; rw [List.map_map, List.map_map]; rfl
          rw [ekk]
          have sk := same_upd (o := .lst ((fs.map (·.1)).map V.str)) nk1
          refine ⟨1, rfl, -1, rfl, k1, _, rfl, rfl, .inl (.inl upd_same), fun k2 nk2 => ?_⟩
          have sk2 := same_upd (o := .lst ((fs.map (·.1)).map V.str).reverse) nk2
          have ek2 : (upd (upd H8 k1 (.lst ((fs.map (·.1)).map V.str))) k2 (.lst ((fs.map (·.1)).map V.str).reverse)) k2 = some (.lst ((fs.reverse.map (·.1)).map V.str)) := by rw [upd_same, ← List.map_reverse, ← List.map_reverse]
          have S9 := S8.trans (sk.trans sk2)
          have sG9 := sG8.trans (sk.trans sk2)
          have eF9 := (sk.trans sk2) _ _ eF0
          have eLD9 := (sk.trans sk2) _ _ eLD0
          have hst9 := hst0.mono (sk.trans sk2)
          have nk2F : k2 ≠ FD := (ne_of_none (sk _ _ eF0) nk2).symm
          generalize upd (upd H8 k1 (.lst ((fs.map (·.1)).map V.str))) k2 (.lst ((fs.map (·.1)).map V.str).reverse) = H9 at ek2 S9 sG9 eF9 eLD9 hst9 ⊢
          have ndr : (fs.reverse.map (·.1)).Nodup := by rw [List.map_reverse]; exact (List.reverse_perm _).symm.nodup ndf
          have inW : ∀ p ∈ fs, p.1 ∈ ss.map (·.2.1) := fun p hp => (gm.gf.word p hp).2.1
          have lfs := gm.gf.len
          refine ⟨k2, rfl, ⟨_, .inl (.inl ek2)⟩, ?_⟩
          refine for_list (K := K) (xs := (fs.reverse.map (·.1)).map V.str) (fun i σ G' => ∃ (y5 y8 y9 : Option V), σ = [some sv, some (.ref t), some (.ref lu), some (.ref N), some (.ref tb), y5, some (.ref LD), some (.ref FD), y8, y9] ∧ Same G G' ∧ G' k2 = some (.lst ((fs.reverse.map (·.1)).map V.str)) ∧ G' LD = some (.lst (as'.map V.ref)) ∧ Stps G' as' (ss.map (mp (ren tbl))) ∧ G' FD = some (.dK (fkv ((fs.reverse.take i).map fun p => (ren tbl p.1, p.2)))))
            ⟨_, _, _, rfl, sG9, ek2, eLD9, hst9, eF9⟩ (fun i σ G' _ hP => ?_) (fun i v σ G' hv hP => ?_) (fun σ G' hP => ?_)
          · obtain ⟨_, _, _, _, _, h, _⟩ := hP
            exact .inl (.inl h)
          · obtain ⟨y5, y8, y9, rfl, S, ek2, eLD, hst, eF⟩ := hP
            rw [List.getElem?_map, List.getElem?_map] at hv
            cases gx : fs.reverse[i]? with
            | none => rw [gx] at hv; cases hv
            | some p =>
            rw [gx] at hv
            cases hv
            have hpm : p ∈ fs := List.mem_reverse.mp (List.mem_of_getElem? gx)
            have hi : i < fs.length := by have := (List.getElem?_eq_some_iff.mp gx).1; rwa [List.length_reverse] at this
            have dal := da.mono (S5.trans S)
            have dgf : DGet G' d (.str p.1) (valV (fkv fs) (.inr p.1)) := DGet.k (k := .inr p.1) dal.hd
            rw [look_val, (look_mem ndf).mpr (show (p.1, p.2) ∈ fs from hpm)] at dgf
            refine ⟨.ref t, rfl, t, _, 2, .ref d, rfl, rfl, .inl (.inl dal.at_), atI_nat (j := 2) rfl, .str p.1, rfl, d, .str p.2, rfl, dgf, .ref FD, rfl, .ref tb, rfl, .str p.1, rfl, tb, .str (ren tbl p.1), rfl, dgt S (inW p hpm), FD, _, rfl, DPut.k (k := .inr (ren tbl p.1)) eF (small (by unfold fkv; rw [List.length_map, List.length_map, List.length_take]; omega)), ?_⟩
            have nLF' : LD ≠ FD := nLF
            have no : ∀ q ∈ (fs.reverse.take i).map (fun p => (ren tbl p.1, p.2)), q.1 ≠ ren tbl p.1 := fun q hq e => by
              obtain ⟨u, hu, rfl⟩ := List.mem_map.mp hq
              have hum : u ∈ fs := List.mem_reverse.mp (List.mem_of_mem_take hu)
              have eu : u.1 = p.1 := tt.inj ndo (by rw [tkk]; exact (hw.mem _).mpr (inW u hum)) (by rw [tkk]; exact (hw.mem _).mpr (inW p hpm)) e
              obtain ⟨j, hj, ej⟩ := List.mem_iff_getElem.mp hu
              rw [List.length_take] at hj
              rw [List.getElem_take] at ej
              have e2 : (fs.reverse.map (·.1))[j]'(by rw [List.length_map]; omega) = (fs.reverse.map (·.1))[i]'(by rw [List.length_map, List.length_reverse]; exact hi) := by
                rw [List.getElem_map, List.getElem_map, ej, eu, (List.getElem?_eq_some_iff.mp gx).2]
              have := (List.getElem_inj ndr).mp e2
              omega
            refine ⟨_, _, _, rfl, ?_, (upd_ne nk2F).trans ek2, (upd_ne nLF').trans eLD, stps_set hst eF (fun _ z => by cases z), ?_⟩
            · exact fun b o e => (upd_ne (fun z => by rw [z] at e; have := nFD; rw [S6 _ _ e] at this; cases this)).trans (S _ _ e)
            · rw [upd_same, putK_new _ (val_none no), take_more gx]
              unfold fkv
              rw [List.map_append, List.map_append]; rfl
          · obtain ⟨y5, y8, y9, rfl, S, ek2, eLD, hst, eF⟩ := hP
            rw [List.length_map, List.length_map, List.take_length] at eF
            have S10 := S5.trans S
            have dal := da.mono S10
            refine ⟨.ref t, rfl, t, _, 0, .int s0, rfl, rfl, .inl (.inl dal.at_), atI_nat (j := 0) rfl, .ref LD, rfl, .ref FD, rfl, .ref t, rfl, t, _, 3, .str z, rfl, rfl, .inl (.inl dal.at_), atI_nat (j := 3) rfl, szl rfl, fun t' nt' => ?_⟩
            have st := same_upd (o := .lst [.int s0, .ref LD, .ref FD, .str z]) nt'
            have pf : (fs.reverse.map fun p => (ren tbl p.1, p.2)).Perm (fs.map fun p => (ren tbl p.1, p.2)) := (List.reverse_perm fs).map _
            have gm' : GoodMach s0 (ss.map (mp (ren tbl))) (fs.reverse.map fun p => (ren tbl p.1, p.2)) := gm.ren hw (fun a ha b hb e => tt.inj ndo (by rw [tkk]; exact ha) (by rw [tkk]; exact hb) e)
              (fun a ha => tt.name ndo (fun z hz => by
                obtain ⟨u, hu, e⟩ := List.mem_map.mp ((hw.mem z).mp hz)
                rw [← e]
                exact (gm.gs.good u hu).w) (by rw [tkk]; exact ha)) pf
            refine q _ t' LD FD as' _ _ (S10.trans st) (S10.free nt') nLDH nFDH (ne_of_none eLD nt').symm (ne_of_none eF nt').symm nLF ⟨upd_same, st _ _ eLD, hst.mono st, st _ _ eF⟩ gm' ?_
            rw [List.map_map]
            refine List.pairwise_map.mpr ((List.pairwise_map.mp ndr).imp_of_mem fun {a b} ha hb ne e => ne ?_)
            exact tt.inj ndo (by rw [tkk]; exact (hw.mem _).mpr (inW a (List.mem_reverse.mp ha))) (by rw [tkk]; exact (hw.mem _).mpr (inW b (List.mem_reverse.mp hb))) e

end
end Kn

set_option Elab.async false
set_option linter.all false
set_option maxRecDepth 100000
set_option maxHeartbeats 4000000
namespace Kn
open PySem PySem.Spec PyProof.Rows L2
open C8 (Cal pe_c pe_gc Mak pe_mk)
section
variable {P : Program} {w : World} {K : PySem.W.Frag} {mg : Str → Option Value} {base : Heap}
theorem strs_eqv : ∀ (xs ys : List Str), PyData.eqvAll (xs.map PyData.str) (ys.map PyData.str) = decide (xs = ys)
  | [], [] => rfl
  | [], _ :: _ => rfl
  | _ :: _, [] => rfl
  | x :: xs, y :: ys => by
    show ((x == y) && PyData.eqvAll (xs.map PyData.str) (ys.map PyData.str)) = _
    rw [strs_eqv xs ys]
    by_cases e1 : x = y <;> by_cases e2 : xs = ys <;> simp [e1, e2]
theorem strs_lay {zs : List Str} (h : ∀ z ∈ zs, nameB (.str z) = true) : PyData.canLayAll0 (zs.map PyData.str) = true ∧ PyData.depthAll (zs.map PyData.str) ≤ 1 := by
  induction zs with
  | nil => exact ⟨rfl, Nat.zero_le _⟩
  | cons x r ih =>
    obtain ⟨a, b⟩ := ih fun y hy => h y (List.mem_cons_of_mem _ hy)
    refine ⟨?_, ?_⟩
    · show (PyData.strOk x && PyData.canLayAll0 (r.map PyData.str)) = true
      rw [strOk_name (h x List.mem_cons_self), a]; rfl
    · show max 0 (PyData.depthAll (r.map PyData.str)) ≤ 1
      omega
theorem strs_shapedL {zs : List Str} (h : ∀ z ∈ zs, nameB (.str z) = true) : SeqAt.shaped (.list (zs.map PyData.str)) = true := by
  obtain ⟨a, b⟩ := strs_lay h
  unfold SeqAt.shaped
  have h2 : (PyData.list (zs.map PyData.str)).canLay0 = true := a
  have h3 : (PyData.list (zs.map PyData.str)).depth ≤ 64 := by
    show PyData.depthAll (zs.map PyData.str) + 1 ≤ 64
    omega
  rw [h2, decide_eq_true h3]; rfl
theorem dp_strs {K : PySem.W.Frag} {H : Hp} : ∀ zs : List Str, DpAll K H (zs.map V.str) (zs.map PyData.str)
  | [] => .nil
  | z :: r => .cons (.str z) (dp_strs r)
theorem ints_eqv : ∀ (xs ys : List Int), PyData.eqvAll (xs.map PyData.int) (ys.map PyData.int) = decide (xs = ys)
  | [], [] => rfl
  | [], _ :: _ => rfl
  | _ :: _, [] => rfl
  | x :: xs, y :: ys => by
    show ((x == y) && PyData.eqvAll (xs.map PyData.int) (ys.map PyData.int)) = _
    rw [ints_eqv xs ys]
    by_cases e1 : x = y <;> by_cases e2 : xs = ys <;> simp [e1, e2]
theorem ints_lay (xs : List Int) : PyData.canLayAll0 (xs.map PyData.int) = true ∧ PyData.depthAll (xs.map PyData.int) ≤ 1 := by
  induction xs with
  | nil => exact ⟨rfl, Nat.zero_le _⟩
  | cons x r ih =>
    refine ⟨?_, ?_⟩
    · show (true && PyData.canLayAll0 (r.map PyData.int)) = true
      rw [ih.1]; rfl
    · show max 0 (PyData.depthAll (r.map PyData.int)) ≤ 1
      omega
theorem ints_shaped (xs : List Int) : SeqAt.shaped (.list (xs.map PyData.int)) = true := by
  obtain ⟨a, b⟩ := ints_lay xs
  unfold SeqAt.shaped
  have h2 : (PyData.list (xs.map PyData.int)).canLay0 = true := a
  have h3 : (PyData.list (xs.map PyData.int)).depth ≤ 64 := by
    show PyData.depthAll (xs.map PyData.int) + 1 ≤ 64
    omega
  rw [h2, decide_eq_true h3]; rfl
theorem dp_ints {K : PySem.W.Frag} {H : Hp} : ∀ xs : List Int, DpAll K H (xs.map V.int) (xs.map PyData.int)
  | [] => .nil
  | x :: r => .cons (.int x) (dp_ints r)

/-! ### a machine compared with any value -/
theorem dats_dec : ∀ (xs ys : List KnA.Stp), PyData.eqvAll (xs.map dat) (ys.map dat) = decide (xs = ys)
  | [], [] => rfl
  | [], _ :: _ => rfl
  | _ :: _, [] => rfl
  | x :: xs, y :: ys => by
    show (PyData.eqv (dat x) (dat y) && PyData.eqvAll (xs.map dat) (ys.map dat)) = _
    rw [dats_dec xs ys, dat_eq]
    by_cases e1 : x = y <;> by_cases e2 : xs = ys <;> simp [e1, e2]
theorem fkv_str (fs : List (Str × Str)) : ∀ p ∈ fkv fs, KnV.strV p.2 = true := fun p hp => by
  obtain ⟨u, _, rfl⟩ := List.mem_map.mp hp
  rfl
theorem fkv_strV (fs : List (Str × Str)) : ∀ k v, valV (fkv fs) k = some v → KnV.strV v = true := fun k v e => by
  have h : (k, v) ∈ fkv fs := by
    unfold valV at e
    cases g : (fkv fs).find? (fun kv => decide (kv.1 = k)) with
    | none => rw [g] at e; cases e
    | some p =>
      rw [g] at e
      cases e
      have h1 := List.find?_some g
      have h2 := List.mem_of_find?_eq_some g
      rw [← of_decide_eq_true h1]
      exact h2
  exact fkv_str fs _ h
/-- two tables hold the same -/
theorem dict_same {t1 t2 : List (Str × Str)} (n1 : (t1.map (·.1)).Nodup) (n2 : (t2.map (·.1)).Nodup) : KnV.dictEq (fkv t1) (fkv t2) = true ↔ ∀ z, look t1 z = look t2 z := by
  have l1 : (fkv t1).length = t1.length := by unfold fkv; rw [List.length_map]
  have l2 : (fkv t2).length = t2.length := by unfold fkv; rw [List.length_map]
  have ndp : ∀ {l : List (Str × Str)}, (l.map (·.1)).Nodup → l.Nodup := fun {l} hl => (List.pairwise_map.mp hl).imp fun hne e => hne (congrArg (·.1) e)
  have each : (fkv t1).all (fun p => decide (valV (fkv t2) p.1 = some p.2)) = t1.all fun u => decide (look t2 u.1 = some u.2) := by
    unfold fkv
    rw [List.all_map]
    refine List.all_congr rfl fun u => ?_
    show decide (valV (fkv t2) (.inr u.1) = some (.str u.2)) = _
    rw [look_val]
    refine decide_eq_decide.mpr ?_
    cases look t2 u.1 with
    | none => exact ⟨fun e => (by cases e), fun e => (by cases e)⟩
    | some y => exact ⟨fun e => congrArg some (V.str.inj (Option.some.inj e)), fun e => by cases e; rfl⟩
  unfold KnV.dictEq
  rw [l1, l2, each, Bool.and_eq_true, List.all_eq_true, beq_iff_eq]
  constructor
  · rintro ⟨hl, h⟩
    have sub : ∀ u ∈ t1, u ∈ t2 := fun u hu => (look_mem n2).mp (of_decide_eq_true (h u hu))
    have back : ∀ u ∈ t2, u ∈ t1 := fun u hu => by
      refine Decidable.of_not_not fun no => ?_
      have := sub_len (l := u :: t1) (m := t2) (List.nodup_cons.mpr ⟨no, ndp n1⟩) fun x hx => by
        rcases List.mem_cons.mp hx with rfl | hx
        · exact hu
        · exact sub x hx
      rw [List.length_cons] at this
      omega
    intro z
    refine Option.ext fun v => ?_
    rw [look_mem n1, look_mem n2]
    exact ⟨sub _, back _⟩
  · intro h
    have pm : t1.Perm t2 := (List.perm_ext_iff_of_nodup (ndp n1) (ndp n2)).mpr fun p => by rw [← look_mem n1, ← look_mem n2, h]
    exact ⟨pm.length_eq, fun u hu => decide_eq_true ((look_mem n2).mpr (pm.mem_iff.mp hu))⟩
theorem look_out {t : List (Str × Str)} {x : Str} (h : ∀ p ∈ t, p.1 ≠ x) : look t x = none := by
  unfold look
  rw [List.find?_eq_none.mpr fun p hp => by simp [h p hp]]; rfl
/-- the faults of a machine, as they were given -/
theorem look_ord {ws : List Str} {fs : List (Str × Str)} (nws : ws.Nodup) (nd : (fs.map (·.1)).Nodup) (h : ∀ p ∈ fs, p.1 ∈ ws) (x : Str) : look (orderF ws fs) x = look fs x := by
  have n1 : ((orderF ws fs).map (·.1)).Nodup := by rw [order_fst]; exact nws.filter _
  refine Option.ext fun v => ?_
  rw [look_mem n1, look_mem nd, order_mem, look_mem nd]
  exact ⟨fun t => t.2, fun t => ⟨h _ t, t⟩⟩
def sp_Machine_eq (K : PySem.W.Frag) (C : Addr) : Sp := fun vs H Q _ => ∃ (p : Addr) (y : V) (s0 : Int) (ss : List KnA.Stp) (fs : List (Str × Str)), vs = [.ref p, y] ∧ MachAt C H p s0 ss fs ∧ (∀ x ∈ ss, nameB (.str x.2.1) = true) ∧ (fs.map (·.1)).Nodup ∧ (∀ u ∈ fs, u.1 ∈ ss.map (·.2.1)) ∧
  ((∃ q s1 ss1 fs1, y = .ref q ∧ MachAt C H q s1 ss1 fs1 ∧ (∀ x ∈ ss1, nameB (.str x.2.1) = true) ∧ (fs1.map (·.1)).Nodup ∧ (∀ u ∈ fs1, u.1 ∈ ss1.map (·.2.1)) ∧ ∀ b : Bool, (b = true ↔ s0 = s1 ∧ ss = ss1 ∧ ∀ x, look fs x = look fs1 x) → Q (.bl b) H) ∨
   ∃ t, TyOf K H y t ∧ PySem.W.kitOne K t (.ref C) = some false ∧ Q (.bl false) H)
theorem ok_Machine_eq {f : Addr} {C : Addr} {fd : FuncData} (T : Txt K mg C) (F : Fun K "__eq__" "Machine.__eq__" s_Machine_eq f fd)  : FnOk P w K mg base CX0 1 f fd ["self", "other"] (sp_Machine_eq K C) := by
  have nd := sc_Machine_eq.nd
  refine F.ok sc_Machine_eq (fun vs H Q E h => ?_) (fun cdv A outer s H vs Q E hr h => ?_)
  · obtain ⟨p, y, s0, ss, fs, rfl, _⟩ := h
    rfl
  · obtain ⟨p, y, s0, ss, fs, rfl, hm, hn, nf, hf, alt⟩ := h
    refine ⟨_, (pss_one (ps_ret (pe_and (pe_callB call_isi (by rfl) T.m_isinstance (by decide +kernel) (pa_cons (pv 1) (pa_cons (pe_glob (v := .ref C) (by rfl) T.g_Machine rfl) pa_nil))) (pe_and (pe_cmpR op_eq (pe_fld (pv 0) rfl) (pe_fld (pv 1) rfl) (nomark _)) (pe_and (pe_cmpR (op_eqD hr.units) (pe_fld (pv 0) rfl) (pe_fld (pv 1) rfl) (nomark _)) (pe_one (pe_cmpR (KnV.op_eqDictB hr.units0) (pe_fld (pv 0) rfl) (pe_fld (pv 1) rfl) (nomark _)))))))), ?_⟩
    rcases alt with ⟨q, s1, ss1, fs1, rfl, hm', hn', nf', hf', k⟩ | ⟨t, ty, kit, k⟩
    · obtain ⟨dx, ls, lw, df, lt, as, ws, ns, m⟩ := hm
      obtain ⟨dx', ls', lw', df', lt', as', ws', ns', m'⟩ := hm'
      have ndo : ((orderF ws fs).map (·.1)).Nodup := by rw [order_fst]; exact m.wo.nd.filter _
      have ndo' : ((orderF ws' fs1).map (·.1)).Nodup := by rw [order_fst]; exact m'.wo.nd.filter _
      refine ⟨.ref q, rfl, .ref q, .ref C, .ref C, _, true, rfl, .own C, .base (.ins m'.ob T.cl T.ins_Machine.ha T.ins_Machine.hn T.ins_Machine.htk T.ins_Machine.hm), T.ins_Machine.me, _, rfl, iteT ?_⟩
      refine ⟨.ref p, rfl, p, C, dx, _, _, rfl, m.ob, T.cl, T.n__start, mf_start _ _ _ _ _, .ref q, rfl, q, C, dx', _, _, rfl, m'.ob, T.cl, T.n__start, mf_start _ _ _ _ _, rfl, _, rfl, ite2 (fun c1 => ?_) (fun c1 => ?_)⟩
      · have c1 : s0 = s1 := V.int.inj (of_decide_eq_true c1)
        refine ⟨.ref p, rfl, p, C, dx, _, _, rfl, m.ob, T.cl, T.n__steps, mf_steps _ _ _ _ _, .ref q, rfl, q, C, dx', _, _, rfl, m'.ob, T.cl, T.n__steps, mf_steps _ _ _ _ _, _, _, .lst (.inl (.inl m.hs)) (dps m.st), .lst (.inl (.inl m'.hs)) (dps m'.st), dats_shaped hn, dats_shaped hn', ?_⟩
        rw [show PyData.eqv (.list (ss.map dat)) (.list (ss1.map dat)) = decide (ss = ss1) from dats_dec ss ss1]
        refine ⟨_, rfl, ite2 (fun c2 => ?_) (fun c2 => ?_)⟩
        · have c2 := of_decide_eq_true c2
          subst c2
          have ew : ws' = ws := m'.wo.uniq m.wo
          subst ew
          refine ⟨.ref p, rfl, p, C, dx, _, _, rfl, m.ob, T.cl, T.n__faults, mf_faults _ _ _ _ _, .ref q, rfl, q, C, dx', _, _, rfl, m'.ob, T.cl, T.n__faults, mf_faults _ _ _ _ _, df, df', _, _, rfl, rfl, m.hf, m'.hf, fkv_str _, fkv_strV _, k _ ?_⟩
          refine (dict_same ndo ndo').trans ?_
          have o1 := look_ord m.wo.nd nf (fun u hu => (m.wo.mem _).mpr (hf u hu))
          have o2 := look_ord m.wo.nd nf' (fun u hu => (m.wo.mem _).mpr (hf' u hu))
          exact ⟨fun h => ⟨c1, rfl, fun x => by rw [← o1, ← o2]; exact h x⟩, fun h z => by rw [o1, o2]; exact h.2.2 z⟩
        · exact k false ⟨fun t => (by cases t), fun t => (c2 (decide_eq_true t.2.1)).elim⟩
      · exact k false ⟨fun t => (by cases t), fun t => (c1 (decide_eq_true (by rw [t.1]))).elim⟩
    · exact ⟨y, rfl, y, .ref C, t, _, false, rfl, .own C, .base ty, kit, _, rfl, iteF k⟩

/-! ### the law -/
theorem reset_g {i : Nat} {x : V} {σ σ' : L2.St} {H : Hp} {k : L2.St → Hp → Prop} (e : σ.set i (some x) = σ') (h : k σ' H) : gName i x σ H k := by subst e; exact h
theorem DatO.but {s : Addr} {H H' : Hp} {t l d : Addr} {s0 : Int} {z : Str} {as : List Addr} {ss : List KnA.Stp} {fs : List (Str × Str)} (h : DatO H t l d s0 z as ss fs) (b : But s H H') (hs : ∃ o, H s = some o ∧ ∀ xs, o ≠ .tup xs) (n1 : t ≠ s) (n2 : l ≠ s) (n3 : d ≠ s) : DatO H' t l d s0 z as ss fs :=
  ⟨b _ _ h.at_ n1, b _ _ h.hl n2, h.st.but b hs, b _ _ h.hd n3⟩
theorem GoodMach.bare {s0 : Int} {ss : List KnA.Stp} {fs : List (Str × Str)} (g : GoodMach s0 ss fs) : GoodMach s0 ss [] := ⟨g.st0, g.gs, g.few, ⟨(fun p hp => (nomatch hp)), Nat.zero_le _, Nat.zero_le _⟩, g.live⟩
theorem lt_cps : ∀ {a b : List Nat}, ltCps a b = true → a < b
  | [], [], h => by cases h
  | [], y :: t, _ => List.nil_lt_cons y t
  | _ :: _, [], h => by cases h
  | x :: r, y :: t, h => by
    have h' : (decide (x < y) || (x == y && ltCps r t)) = true := h
    rw [Bool.or_eq_true, decide_eq_true_eq, Bool.and_eq_true, beq_iff_eq] at h'
    exact List.cons_lt_cons_iff.mpr (h'.elim .inl fun q => .inr ⟨q.1, lt_cps q.2⟩)
theorem ltS_of {a b : Str} (h : KnA.leS a b) (n : a ≠ b) : ltS a b := by
  refine lt_cps ?_
  cases e : ltCps a.cps.toList b.cps.toList with
  | true => rfl
  | false => exact (n (KnA.str_ext (KnA.le_anti h e))).elim
theorem GoodMach.order {s0 : Int} {ss : List KnA.Stp} {fs : List (Str × Str)} {ws : List Str} (g : GoodMach s0 ss fs) (hw : KnA.Words ws (ss.map (·.2.1))) (ndf : (fs.map (·.1)).Nodup) : GoodMach s0 ss (orderF ws fs) ∧ ((orderF ws fs).map (·.1)).Pairwise ltS ∧ (orderF ws fs).Perm fs := by
  have pm := order_same hw.nd ndf fun p hp => (hw.mem _).mpr (g.gf.word p hp).2.1
  refine ⟨⟨g.st0, g.gs, g.few, ⟨fun p hp => g.gf.word p (order_in hp), ?_, by rw [pm.length_eq]; exact g.gf.len⟩, g.live⟩, ?_, pm⟩
  · have e1 : (fs.map fun p => (Sum.inr p.2 : Key)) = (fs.map (·.2)).map Sum.inr := by rw [List.map_map]; rfl
    have e2 : ((orderF ws fs).map fun p => (Sum.inr p.2 : Key)) = ((orderF ws fs).map (·.2)).map Sum.inr := by rw [List.map_map]; rfl
    have h3 := g.gf.few
    rw [e1] at h3
    rw [e2]
    refine Nat.le_trans (allL_le fun x hx => ?_) h3
    obtain ⟨p, hp, e⟩ := List.mem_map.mp hx
    exact List.mem_map.mpr ⟨p, order_in hp, e⟩
  · rw [order_fst]
    have h1 := (hw.up.filter fun x => (look fs x).isSome)
    have h2 := (hw.nd.filter fun x => (look fs x).isSome)
    exact List.Pairwise.imp₂ (fun a b h n => ltS_of h n) h1 h2
theorem order_twice {ws : List Str} {fs : List (Str × Str)} (nws : ws.Nodup) : orderF ws (orderF ws fs) = orderF ws fs := by
  have h : ∀ x ∈ ws, look (orderF ws fs) x = look fs x := fun x hx => look_order nws hx
  have gen : ∀ us : List Str, (∀ x ∈ us, x ∈ ws) → orderF us (orderF ws fs) = orderF us fs := fun us => by
    induction us with
    | nil => intro _; rfl
    | cons x r ih =>
      intro hu
      have e1 : ∀ gs : List (Str × Str), orderF (x :: r) gs = (match (look gs x).map fun n => (x, n) with | none => orderF r gs | some p => p :: orderF r gs) := fun gs => by
        unfold orderF
        rw [List.filterMap_cons]
        cases look gs x <;> rfl
      rw [e1, e1, ih fun y hy => hu y (List.mem_cons_of_mem _ hy), h x (hu x List.mem_cons_self)]
  exact gen ws fun _ h => h
theorem ok_law {f : Addr} {C : Addr} {fd : FuncData} (T : Txt K mg C) (F : Fun K "law" "law" s_law f fd) (c__law_source : Cal P w K mg base 1 "_law_source" (sp__law_source K) []) (c__law_machine : Cal P w K mg base 5 "_law_machine" (sp__law_machine K) []) (c__law_draw : Cal P w K mg base 1 "_law_draw" (sp__law_draw K) []) (c__law_own_words : Cal P w K mg base 1 "_law_own_words" (sp__law_own_words K) []) (c_Machine_init : Mak P w K mg base 5 "Machine" C (sp_Machine_init K C) []) (c__law_text : Cal P w K mg base 1 "_law_text" (sp__law_text K) []) (c_machine_text : Cal P w K mg base 3 "machine_text" (sp_machine_text K C) []) (c_read_machine : Cal P w K mg base 7 "read_machine" (sp_read_machine K C) []) (c_Machine_start : KnP.Prp P w K mg base 1 C "start" (sp_Machine_start K C)) (c_Machine_steps : KnP.Prp P w K mg base 1 C "steps" (sp_Machine_steps K C)) (c_Machine_faults : KnP.Prp P w K mg base 1 C "faults" (sp_Machine_faults K C)) (c_Machine_words : KnP.Prp P w K mg base 1 C "words" (sp_Machine_words K C)) (c_Machine_states : KnP.Prp P w K mg base 1 C "states" (sp_Machine_states K C)) (c_Machine_eq : KnW.Own P w K mg base 1 C "__eq__" (sp_Machine_eq K C)) (c_Machine_init0 : Mak P w K mg base 5 "Machine" C (sp_Machine_init K C) [.non]) : FnOk P w K mg base CX0 8 f fd ["_law_script"] (sp_law K) := by
  have nd := sc_law.nd
  refine F.ok sc_law (fun vs H Q E h => ?_) (fun cdv A outer s H vs Q E hr h => ?_)
  · obtain ⟨a, ns, rfl, _⟩ := h
    rfl
  · obtain ⟨a, ns, rfl, hS, hlen, q⟩ := h
    refine ⟨_, (pss_cons (ps_set (i := 1) nd rfl (.inl rfl) (pe_c c__law_source hr (by omega) (by rfl) (pa_cons (pv 0) pa_nil)))
      (pss_cons (ps_set (i := 2) nd rfl (.inl rfl) (pe_c c__law_machine hr (by omega) (by rfl) (pa_cons (pv 1) (pa_cons pe_int (pa_cons pe_int (pa_cons pe_int (pa_cons pe_int pa_nil)))))))
      (pss_cons (ps_if (pt_cmpR op_eq (pe_c c__law_draw hr (by omega) (by rfl) (pa_cons (pv 1) (pa_cons pe_int pa_nil))) pe_int (nomark _)) (pss_one (ps_set (i := 2) nd rfl (.inl rfl) (pe_c c__law_own_words hr (by omega) (by rfl) (pa_cons (pv 1) (pa_cons (pv 2) pa_nil))))) pss_nil)
      (pss_cons (ps_set (i := 3) nd rfl (.inl rfl) (pe_c c__law_draw hr (by omega) (by rfl) (pa_cons (pv 1) (pa_cons pe_int pa_nil))))
      (pss_cons (ps_if (pt_cmpR op_eq (pv 3) pe_int (nomark _)) (pss_one (ps_asg pe_dnewK (pg_sub (pv 2) pe_int set_list))) pss_nil)
      (pss_cons (ps_set (i := 4) nd rfl (.inl rfl) (pe_mk c_Machine_init hr (by omega) (by rfl) (pa_cons (pe_ix (r := rIxL K) ix_list (pv 2) pe_int (fun _ _ => rfl)) (pa_cons (pe_callTy call_list_of (by rfl) T.m_list (by decide +kernel) (pa_cons (pe_ix (r := rIxL K) ix_list (pv 2) pe_int (fun _ _ => rfl)) pa_nil)) (pa_cons (pe_callTy call_dictD (by rfl) T.m_dict (by decide +kernel) (pa_cons (pe_ix (r := rIxL K) ix_list (pv 2) pe_int (fun _ _ => rfl)) pa_nil)) pa_nil)))))
      (pss_cons (ps_if (pt_cmpR op_eq (pv 3) pe_int (nomark _)) (pss_one (ps_set (i := 4) nd rfl (.inl rfl) (pe_mk c_Machine_init0 hr (by omega) (by rfl) (pa_cons (pe_ix (r := rIxL K) ix_list (pv 2) pe_int (fun _ _ => rfl)) (pa_cons (pe_callTy call_tuple_of (by rfl) T.m_tuple (by decide +kernel) (pa_cons (pe_ix (r := rIxL K) ix_list (pv 2) pe_int (fun _ _ => rfl)) pa_nil)) pa_nil))))) pss_nil)
      (pss_cons (ps_set (i := 5) nd rfl (.inl rfl) (pe_join pe_str (pe_c c__law_text hr (by omega) (by rfl) (pa_cons (pv 2) pa_nil))))
      (pss_cons (ps_set (i := 6) nd rfl (.inl rfl) (pe_c c_machine_text hr (by omega) (by rfl) (pa_cons (pv 4) pa_nil)))
      (pss_cons (ps_if (PW.pt (pw_or (pt_not (pt_val (pe_callB call_isi (by rfl) T.m_isinstance (by decide +kernel) (pa_cons (pv 6) (pa_cons (pe_bltn (v := .ty "str") (u := .type "str") (by rfl) T.m_str (by decide +kernel) rfl) pa_nil))))) (pw_or1 (pt_cmpR op_ne (pv 6) (pv 5) (nomark _))))) (pss_one (ps_ret pe_bl)) pss_nil)
      (pss_cons (ps_set (i := 7) nd rfl (.inl rfl) (pe_c c_read_machine hr (by omega) (by rfl) (pa_cons (pv 5) pa_nil)))
      (pss_cons (ps_if (PW.pt (pw_or (pt_not (pt_val (pe_callB call_isi (by rfl) T.m_isinstance (by decide +kernel) (pa_cons (pv 7) (pa_cons (pe_glob (v := .ref C) (by rfl) T.g_Machine rfl) pa_nil))))) (pw_or1 (pt_cmpR (KnW.op_ownNe c_Machine_eq T.ne_Machine T.sob_Machine hr (by omega)) (pv 7) (pv 4) (nomark _))))) (pss_one (ps_ret pe_bl)) pss_nil)
      (pss_cons (ps_if (PW.pt (pw_or (pt_cmpR op_ne (KnP.pe_prp T.cl c_Machine_start hr (by decide) (pv 7) (by rfl)) (pe_ix (r := rIxL K) ix_list (pv 2) pe_int (fun _ _ => rfl)) (nomark _)) (pw_or (pt_cmpR (op_neD hr.units) (KnP.pe_prp T.cl c_Machine_steps hr (by decide) (pv 7) (by rfl)) (pe_ix (r := rIxL K) ix_list (pv 2) pe_int (fun _ _ => rfl)) (nomark _)) (pw_or1 (pt_cmpR (op_ne_dictA hr.units0) (KnP.pe_prp T.cl c_Machine_faults hr (by decide) (pv 7) (by rfl)) (pe_ix (r := rIxL K) ix_list (pv 2) pe_int (fun _ _ => rfl)) (nomark _)))))) (pss_one (ps_ret pe_bl)) pss_nil)
      (pss_cons (ps_if (PW.pt (pw_or (pt_cmpR (op_neD hr.units) (KnP.pe_prp T.cl c_Machine_words hr (by decide) (pv 7) (by rfl)) (KnP.pe_prp T.cl c_Machine_words hr (by decide) (pv 4) (by rfl)) (nomark _)) (pw_or1 (pt_cmpR (op_neD hr.units) (KnP.pe_prp T.cl c_Machine_states hr (by decide) (pv 7) (by rfl)) (KnP.pe_prp T.cl c_Machine_states hr (by decide) (pv 4) (by rfl)) (nomark _))))) (pss_one (ps_ret pe_bl)) pss_nil)
      (pss_one (ps_ret (pe_cmpR op_eq (pe_c c_machine_text hr (by omega) (by rfl) (pa_cons (pv 7) pa_nil)) (pv 5) (nomark _)))))))))))))))))), ?_⟩
    refine ⟨.ref a, rfl, a, ns, rfl, hS, hlen, fun H1 s c s1 ns_ src => ?_⟩
    refine ⟨.ref s, rfl, s, c, 9, 40, 14, 8, rfl, src, by decide, by decide, by decide, by decide, by decide, by decide, by decide, fun H2 t l d as ss fs s0 z b2 src2 nt nl nd_ ntd nld ntl et el hst ed gm ndf zm => ?_⟩
    have da2 : DatO H2 t l d s0 z as ss fs := ⟨et, el, hst, ed⟩
    refine KnC.asg_if (fun σ2 G => ∃ (t l d : Addr) (s0 : Int) (z : Str) (as : List Addr) (ss : List KnA.Stp) (fs : List (Str × Str)), σ2 = [some (.ref a), some (.ref s), some (.ref t), none, none, none, none, none] ∧ SrcAt G s c ∧ DatO G t l d s0 z as ss fs ∧ GoodMach s0 ss fs ∧ (fs.map (·.1)).Nodup ∧ t ≠ s ∧ l ≠ s ∧ d ≠ s ∧ t ≠ l ∧ t ≠ d) (fun go => ?_) (fun σ2 G1 hT => ?_)
    · refine ⟨.ref s, rfl, s, c, 4, rfl, by decide, by decide, src2, fun H3 r b3 s3 r0 u0 => ?_⟩
      have da3 := da2.but b3 src2.notT (src.ne nt) (src.ne nl) (src.ne nd_)
      refine ⟨rfl, _, rfl, ite2 (fun c0 => ?_) (fun c0 => ?_)⟩
      · refine ⟨.ref s, rfl, .ref t, rfl, .ref s, t, l, d, s0, z, as, ss, fs, rfl, da3, gm, ndf, fun H4 t' l' d' as' ss' fs' s4 nt' nl' nd' n1 n2 n3 da' gm' ndf' => ?_⟩
        exact go _ _ ⟨t', l', d', s0, z, as', ss', fs', rfl, s3.mono s4, da', gm', ndf', s3.ne nt', s3.ne nl', s3.ne nd', n1, n2⟩
      · exact go _ _ ⟨t, l, d, s0, z, as, ss, fs, rfl, s3, da3, gm, ndf, src.ne nt, src.ne nl, src.ne nd_, ntl, ntd⟩
    clear da2 gm et el hst ed ndf zm nt nl nd_ ntd nld ntl
    obtain ⟨t, l, d, s0, z, as, ss, fs, rfl, src3, da3, gm, ndf, nts, nls, nds, ntl, ntd⟩ := hT
    refine ⟨.ref s, rfl, s, c, 8, rfl, by decide, by decide, src3, fun H4 r b4 s4 r0 u0 => ?_⟩
    have da4 := da3.but b4 src3.notT nts nls nds
    refine KnC.asg_if (fun σ2 G => ∃ (d : Addr) (fs : List (Str × Str)), σ2 = [some (.ref a), some (.ref s), some (.ref t), some (.int r), none, none, none, none] ∧ DatO G t l d s0 z as ss fs ∧ GoodMach s0 ss fs ∧ (fs.map (·.1)).Nodup ∧ (r = 0 → fs = [])) (fun go => ?_) (fun σ2 G2 hT => ?_)
    · refine ⟨.int r, rfl, rfl, _, rfl, ite2 (fun c0 => ?_) (fun c0 => ?_)⟩
      · have c0 : r = 0 := V.int.inj (of_decide_eq_true c0)
        refine fun d0 nd0 => ?_
        have sd := same_upd (o := .dK []) nd0
        have ed0 : (upd H4 d0 (.dK [])) d0 = some (.dK (fkv [])) := upd_same
        have da5 := da4.mono sd
        have ntd0 : d0 ≠ t := (ne_of_none da4.at_ nd0).symm
        generalize upd H4 d0 (.dK []) = H5 at ed0 da5 ⊢
        refine ⟨.ref t, rfl, t, _, 2, 2, rfl, rfl, da5.at_, rfl, ?_⟩
        exact go _ _ ⟨d0, [], rfl, ⟨upd_same, (upd_ne ntl.symm).trans da5.hl, stps_set da5.st da5.at_ (fun _ z => by cases z), (upd_ne ntd0).trans ed0⟩, gm.bare, .nil, fun _ => rfl⟩
      · exact go _ _ ⟨d, fs, rfl, da4, gm, ndf, fun h => (c0 (decide_eq_true (by rw [h]))).elim⟩
    clear da4 da3 src3 s4 b4 src src2 b2 s1 nds ndf gm nls nts ntd
    obtain ⟨d, fs, rfl, da, gm, ndf, r0f⟩ := hT
    have gs := gm.gs
    have hi80 := gs.hi
    have gt := good_text gm
    -- the machine
    refine ⟨.ref t, rfl, t, _, 0, .int s0, rfl, rfl, .inl (.inl da.at_), atI_nat (j := 0) rfl, .ref t, rfl, t, _, 1, .ref l, rfl, rfl, .inl (.inl da.at_), atI_nat (j := 1) rfl, l, as.map V.ref, rfl, .inl (.inl (.inl da.hl)), fun l2 nl2 => ?_⟩
    have sl := same_upd (o := .lst (as.map V.ref)) nl2
    have el2 : (upd G2 l2 (.lst (as.map V.ref))) l2 = some (.lst (as.map V.ref)) := upd_same
    generalize upd G2 l2 (.lst (as.map V.ref)) = H3 at sl el2 ⊢
    refine ⟨.ref t, rfl, t, _, 2, .ref d, rfl, rfl, .inl (.inl (sl _ _ da.at_)), atI_nat (j := 2) rfl, d, _, rfl, .inl (sl _ _ da.hd), fun d2 nd2 => ?_⟩
    have sd := same_upd (o := .dK (fkv fs)) nd2
    have ed2 : (upd H3 d2 (.dK (fkv fs))) d2 = some (.dK (fkv fs)) := upd_same
    generalize upd H3 d2 (.dK (fkv fs)) = H5 at sd ed2 ⊢
    have el4 := sd _ _ el2
    have da5 := da.mono (sl.trans sd)
    clear sl sd el2
    refine fun x dx nx ndx nex => ?_
    have sx : Same H5 (upd (upd H5 dx (.own x)) x (.ins C dx [])) := fun b o e => (upd_ne (ne_of_none e nx)).trans ((upd_ne (ne_of_none e ndx)).trans e)
    refine ⟨x, dx, l2, s0, .ref d2, true, as, ss, fs, rfl, upd_same, sx _ _ el4, da5.st.mono sx, .inr ⟨d2, rfl, sx _ _ ed2⟩, gm, fun H6 dx' l1 l2' l3 l4 w2 n2' kp mo f1 f2 f3 f4 => ⟨rfl, ?_⟩⟩
    have s56 : Same H5 H6 := fun b o e => kp b o (sx _ _ e) (ne_of_none e nx)
    have hm : MachAt C H6 x s0 ss fs := ⟨_, _, _, _, _, _, _, _, mo⟩
    have da6 := da5.mono s56
    clear kp mo sx f1 f2 f3 f4 el4 ed2
    refine KnC.asg_if (fun σ2 G => ∃ (x : Addr), σ2 = [some (.ref a), some (.ref s), some (.ref t), some (.int r), some (.ref x), none, none, none] ∧ DatO G t l d s0 z as ss fs ∧ MachAt C G x s0 ss fs) (fun go => ?_) (fun σ2 G3 hT => ?_)
    · refine ⟨.int r, rfl, rfl, _, rfl, ite2 (fun c0 => ?_) (fun c0 => ?_)⟩
      · have c0 : r = 0 := V.int.inj (of_decide_eq_true c0)
        have ef := r0f c0
        subst ef
        refine ⟨.ref t, rfl, t, _, 0, .int s0, rfl, rfl, .inl (.inl da6.at_), atI_nat (j := 0) rfl, .ref t, rfl, t, _, 1, .ref l, rfl, rfl, .inl (.inl da6.at_), atI_nat (j := 1) rfl, l, as.map V.ref, rfl, .inl ⟨.inl (.inl da6.hl), fun l3 nl3 => ?_⟩⟩
        have sl := same_upd (o := .tup (as.map V.ref)) nl3
        have el3 : (upd H6 l3 (.tup (as.map V.ref))) l3 = some (.tup (as.map V.ref)) := upd_same
        generalize upd H6 l3 (.tup (as.map V.ref)) = H7 at sl el3 ⊢
        refine fun x2 dx2 nx2 ndx2 nex2 => ?_
        have sx : Same H7 (upd (upd H7 dx2 (.own x2)) x2 (.ins C dx2 [])) := fun b o e => (upd_ne (ne_of_none e nx2)).trans ((upd_ne (ne_of_none e ndx2)).trans e)
        refine ⟨x2, dx2, l3, s0, .non, false, as, ss, [], rfl, upd_same, sx _ _ el3, (da6.st.mono sl).mono sx, .inl ⟨rfl, rfl⟩, gm, fun H8 dx' l1 l2' l3' l4 w2 n2' kp mo f1 f2 f3 f4 => ⟨rfl, ?_⟩⟩
        have s78 : Same H7 H8 := fun b o e => kp b o (sx _ _ e) (ne_of_none e nx2)
        exact go _ _ ⟨x2, rfl, da6.mono (sl.trans s78), ⟨_, _, _, _, _, _, _, _, mo⟩⟩
      · exact go _ _ ⟨x, rfl, da6, hm⟩
    clear hm da6 s56 nex nx ndx da5
    obtain ⟨x, rfl, da, hm⟩ := hT
    obtain ⟨dxm, lsm, lwm, dfm, ltm, asm, ws, nsm, mm⟩ := id hm
    have hw := mm.wo
    obtain ⟨gmo, upo, pmo⟩ := gm.order hw ndf
    have win : ∀ p ∈ fs, p.1 ∈ ws := fun p hp => (hw.mem _).mpr (gm.gf.word p hp).2.1
    have lws := gm.few ws hw
    have lfs : fs.length ≤ 14 := by
      have := order_len ws fs
      rw [pmo.length_eq] at this
      omega
    -- the texts
    refine ⟨⟨"\n", rfl⟩, .ref t, rfl, t, l, d, s0, z, as, ss, fs, rfl, da, gt, by omega, by omega, ndf, fun H7 L ks s7 ku pk eL => ?_⟩
    rw [order_keys_eq hw.up hw.nd win ku pk ndf] at eL
    have go := good_text gmo
    refine ⟨"\n", L, _, rfl, rfl, .inl (.inl (.inl eL)), go.sum (by rw [pmo.length_eq]; omega), ?_⟩
    have hm7 := hm.mono s7
    refine ⟨.ref x, rfl, x, s0, ss, fs, rfl, hm7, gm, fun H8 ws8 s8 hws8 => ?_⟩
    rw [hws8.uniq hw]
    refine ⟨.str (textOf s0 ss (orderF ws fs)), rfl, .str (textOf s0 ss (orderF ws fs)), .ty "str", .type "str", _, true, rfl, .ty _, .base (.str _), kit_ty (show kitB "str" "str" = some true by decide +kernel), _, rfl, iteF ?_⟩
    refine ⟨.str (textOf s0 ss (orderF ws fs)), rfl, .str (textOf s0 ss (orderF ws fs)), rfl, rfl, _, rfl, ?_⟩
    rw [decide_eq_true (rfl : V.str (textOf s0 ss (orderF ws fs)) = V.str (textOf s0 ss (orderF ws fs)))]
    refine iteF ⟨.str (textOf s0 ss (orderF ws fs)), rfl, s0, ss, orderF ws fs, rfl, gmo, upo, by rw [pmo.length_eq]; omega, fun H9 x9 s9 hm9 => ?_⟩
    obtain ⟨dx9, ls9, lw9, df9, lt9, as9, ws9, ns9, m9⟩ := id hm9
    have e9 := m9.wo.uniq hw
    subst e9
    have hmx := hm7.mono (s8.trans s9)
    obtain ⟨dxm, lsm, lwm, dfm, ltm, asm, wsm, nsm, mm⟩ := id hmx
    have da9 := da.mono (s7.trans (s8.trans s9))
    have hnm : ∀ u ∈ ss, nameB (.str u.2.1) = true := fun u hu => (gs.good u hu).w
    refine ⟨.ref x9, rfl, .ref x9, .ref C, .ref C, _, true, rfl, .own C, .base (.ins m9.ob T.cl T.ins_Machine.ha T.ins_Machine.hn T.ins_Machine.htk T.ins_Machine.hm), T.ins_Machine.me, _, rfl, iteF ?_⟩
    refine ⟨.ref x9, rfl, .ref x, rfl, x9, dx9, _, .ref C, rfl, m9.ob, .ins mm.ob T.cl T.ins_Machine.ha T.ins_Machine.hn T.ins_Machine.htk T.ins_Machine.hm, by simp [PySem.W.notFirst], ?_⟩
    have ndo : ((orderF ws9 fs).map (·.1)).Nodup := lt_nd upo
    have oin : ∀ u ∈ orderF ws9 fs, u.1 ∈ ss.map (·.2.1) := fun u hu => (gm.gf.word u (order_in hu)).2.1
    have fin : ∀ u ∈ fs, u.1 ∈ ss.map (·.2.1) := fun u hu => (gm.gf.word u hu).2.1
    refine ⟨x9, .ref x, s0, ss, orderF ws9 fs, rfl, hm9, hnm, ndo, oin, .inl ⟨x, s0, ss, fs, rfl, hmx, hnm, ndf, fin, fun b hb => ?_⟩⟩
    have hbt : b = true := hb.mpr ⟨rfl, rfl, fun y => look_ord hw.nd ndf win y⟩
    subst hbt
    refine ⟨true, rfl, _, rfl, iteF ?_⟩
    -- start, steps, faults
    refine ⟨.ref x9, rfl, x9, dx9, _, rfl, m9.ob, x9, s0, ss, _, rfl, hm9, .ref t, rfl, t, _, 0, .int s0, rfl, rfl, .inl (.inl da9.at_), atI_nat (j := 0) rfl, rfl, _, rfl, ?_⟩
    rw [decide_eq_true (rfl : V.int s0 = V.int s0)]
    refine iteF ⟨.ref x9, rfl, x9, dx9, _, rfl, m9.ob, x9, s0, ss, _, rfl, hm9, fun H10 lq asq s10 nlq elq hstq => ?_⟩
    have da10 := da9.mono s10
    refine ⟨.ref t, rfl, t, _, 1, .ref l, rfl, rfl, .inl (.inl da10.at_), atI_nat (j := 1) rfl, _, _, .lst (.inl (.inl elq)) (dps hstq), .lst (.inl (.inl da10.hl)) (dps da10.st), dats_shaped hnm, dats_shaped hnm, ?_⟩
    rw [show PyData.eqv (.list (ss.map dat)) (.list (ss.map dat)) = decide (ss = ss) from dats_dec ss ss, decide_eq_true (rfl : ss = ss)]
    refine ⟨_, rfl, iteF ?_⟩
    have hm10 := hm9.mono s10
    refine ⟨.ref x9, rfl, x9, dx9, _, rfl, s10 _ _ m9.ob, x9, s0, ss, _, rfl, hm10, fun H11 dq wsq s11 ndq edq hwsq => ?_⟩
    rw [hwsq.uniq hw, order_twice hw.nd] at edq
    have da11 := da10.mono s11
    refine ⟨.ref t, rfl, t, _, 2, .ref d, rfl, rfl, .inl (.inl da11.at_), atI_nat (j := 2) rfl, dq, d, _, _, rfl, rfl, edq, da11.hd, by unfold fkv; rw [List.length_map, List.length_map, pmo.length_eq], fun p hp => ?_, ?_⟩
    · obtain ⟨u, hu, rfl⟩ := List.mem_map.mp hp
      refine ⟨?_, rfl⟩
      show valV (fkv fs) (.inr u.1) = some (.str u.2)
      rw [look_val, (look_mem ndf).mpr (show (u.1, u.2) ∈ fs from order_in hu)]; rfl
    refine ⟨_, rfl, iteF ?_⟩
    -- words, states
    have hm11 := hm10.mono s11
    have hx11 := hmx.mono (s10.trans s11)
    have ob9 := (s10.trans s11) _ _ m9.ob
    have obx := (s10.trans s11) _ _ mm.ob
    refine ⟨.ref x9, rfl, x9, dx9, _, rfl, ob9, x9, s0, ss, _, rfl, hm11, fun H12 lw1 w1 s12 nw1 ew1 hw1 => ?_⟩
    refine ⟨.ref x, rfl, x, dxm, _, rfl, s12 _ _ obx, x, s0, ss, _, rfl, hx11.mono s12, fun H13 lw2 w2 s13 nw2 ew2 hw2 => ?_⟩
    rw [hw1.uniq hw] at ew1
    rw [hw2.uniq hw] at ew2
    have hwn : ∀ y ∈ ws9, nameB (.str y) = true := fun y hy => by
      obtain ⟨u, hu, e⟩ := List.mem_map.mp ((hw.mem y).mp hy)
      rw [← e]
      exact hnm u hu
    refine ⟨_, _, .lst (.inl (.inl (s13 _ _ ew1))) (dp_strs ws9), .lst (.inl (.inl ew2)) (dp_strs ws9), strs_shapedL hwn, strs_shapedL hwn, ?_⟩
    rw [show PyData.eqv (.list (ws9.map PyData.str)) (.list (ws9.map PyData.str)) = decide (ws9 = ws9) from strs_eqv ws9 ws9, decide_eq_true (rfl : ws9 = ws9)]
    refine ⟨_, rfl, iteF ?_⟩
    have s113 := s12.trans s13
    refine ⟨.ref x9, rfl, x9, dx9, _, rfl, s113 _ _ ob9, x9, s0, ss, _, rfl, hm11.mono s113, fun H14 ln1 n1 s14 nn1 en1 hn1 => ?_⟩
    refine ⟨.ref x, rfl, x, dxm, _, rfl, s14 _ _ (s113 _ _ obx), x, s0, ss, _, rfl, (hx11.mono s113).mono s14, fun H15 ln2 n2 s15 nn2 en2 hn2 => ?_⟩
    rw [hn2.uniq hn1] at en2
    refine ⟨_, _, .lst (.inl (.inl (s15 _ _ en1))) (dp_ints n1), .lst (.inl (.inl en2)) (dp_ints n1), ints_shaped n1, ints_shaped n1, ?_⟩
    rw [show PyData.eqv (.list (n1.map PyData.int)) (.list (n1.map PyData.int)) = decide (n1 = n1) from ints_eqv n1 n1, decide_eq_true (rfl : n1 = n1)]
    refine ⟨_, rfl, iteF ?_⟩
    have hm15 := hm11.mono (s113.trans (s14.trans s15))
    refine ⟨.ref x9, rfl, x9, s0, ss, orderF ws9 fs, rfl, hm15, gmo, fun H16 ws16 s16 hws16 => ?_⟩
    rw [hws16.uniq hw, order_twice hw.nd]
    refine ⟨.str (textOf s0 ss (orderF ws9 fs)), rfl, rfl, ?_⟩
    rw [decide_eq_true (rfl : V.str (textOf s0 ss (orderF ws9 fs)) = V.str (textOf s0 ss (orderF ws9 fs)))]
    exact q H16

end
end Kn

set_option Elab.async false
set_option linter.all false
set_option maxRecDepth 100000
set_option maxHeartbeats 4000000
namespace Kn
open PySem PySem.Spec PyProof.Rows L2
open C8 (Cal pe_c pe_gc Mak pe_mk)
theorem all_mk {l : PySem.W.OpenLaw} {w : World} {K : PySem.W.Frag} {h : Heap} {mg : Str → Option Value} {fa : Addr} (X : K.In h) (G : h.Ns mainGlobals mg) (hfa : mg "law" = some (.ref fa))
    {t19 : Addr} {tc19 : Value} {td19 : Option Addr} {tn19 : Nat} {ts19 : Array (Option Value)}
    {od0 an0 : Option Addr} {sl0 : Array (Option Value)} {oc0 kV0 dc0 pm0 cd0 ct0 : Value} {f0 : Addr}
    {od1 an1 : Option Addr} {sl1 : Array (Option Value)} {oc1 kV1 dc1 pm1 cd1 ct1 : Value} {f1 : Addr}
    {od2 an2 : Option Addr} {sl2 : Array (Option Value)} {oc2 kV2 dc2 pm2 cd2 ct2 : Value} {f2 : Addr}
    {od3 an3 : Option Addr} {sl3 : Array (Option Value)} {oc3 kV3 dc3 pm3 cd3 ct3 : Value} {f3 : Addr}
    {od4 an4 : Option Addr} {sl4 : Array (Option Value)} {oc4 kV4 dc4 pm4 cd4 ct4 : Value} {f4 : Addr}
    {od5 an5 : Option Addr} {sl5 : Array (Option Value)} {oc5 kV5 dc5 pm5 cd5 ct5 : Value} {f5 : Addr}
    {od6 an6 : Option Addr} {sl6 : Array (Option Value)} {oc6 kV6 dc6 pm6 cd6 ct6 : Value} {f6 : Addr}
    {od7 an7 : Option Addr} {sl7 : Array (Option Value)} {oc7 kV7 dc7 pm7 cd7 ct7 : Value} {f7 : Addr}
    {od8 an8 : Option Addr} {sl8 : Array (Option Value)} {oc8 kV8 dc8 pm8 cd8 ct8 : Value} {f8 : Addr}
    {od9 an9 : Option Addr} {sl9 : Array (Option Value)} {oc9 kV9 dc9 pm9 cd9 ct9 : Value} {f9 : Addr}
    {od10 an10 : Option Addr} {sl10 : Array (Option Value)} {oc10 kV10 dc10 pm10 cd10 ct10 : Value} {f10 : Addr}
    {od11 an11 : Option Addr} {sl11 : Array (Option Value)} {oc11 kV11 dc11 pm11 cd11 ct11 : Value} {f11 : Addr}
    {od12 an12 : Option Addr} {sl12 : Array (Option Value)} {oc12 kV12 dc12 pm12 cd12 ct12 : Value} {f12 : Addr}
    {od13 an13 : Option Addr} {sl13 : Array (Option Value)} {oc13 kV13 dc13 pm13 cd13 ct13 : Value} {f13 : Addr}
    {od14 an14 : Option Addr} {sl14 : Array (Option Value)} {oc14 kV14 dc14 pm14 cd14 ct14 : Value} {f14 : Addr}
    {od15 an15 : Option Addr} {sl15 : Array (Option Value)} {oc15 kV15 dc15 pm15 cd15 ct15 : Value} {f15 : Addr}
    {od16 an16 : Option Addr} {sl16 : Array (Option Value)} {oc16 kV16 dc16 pm16 cd16 ct16 : Value} {f16 : Addr}
    {od17 an17 : Option Addr} {sl17 : Array (Option Value)} {oc17 kV17 dc17 pm17 cd17 ct17 : Value} {f17 : Addr}
    {od18 an18 : Option Addr} {sl18 : Array (Option Value)} {oc18 kV18 dc18 pm18 cd18 ct18 : Value} {f18 : Addr}
    {od19 an19 : Option Addr} {sl19 : Array (Option Value)} {oc19 kV19 dc19 pm19 cd19 ct19 : Value} {f19 : Addr}
    {od20 an20 : Option Addr} {sl20 : Array (Option Value)} {oc20 kV20 dc20 pm20 cd20 ct20 : Value} {f20 : Addr}
    {od21 an21 : Option Addr} {sl21 : Array (Option Value)} {oc21 kV21 dc21 pm21 cd21 ct21 : Value} {f21 : Addr}
    {od22 an22 : Option Addr} {sl22 : Array (Option Value)} {oc22 kV22 dc22 pm22 cd22 ct22 : Value} {f22 : Addr}
    {od23 an23 : Option Addr} {sl23 : Array (Option Value)} {oc23 kV23 dc23 pm23 cd23 ct23 : Value} {f23 : Addr}
    {od24 an24 : Option Addr} {sl24 : Array (Option Value)} {oc24 kV24 dc24 pm24 cd24 ct24 : Value} {f24 : Addr}
    {od25 an25 : Option Addr} {sl25 : Array (Option Value)} {oc25 kV25 dc25 pm25 cd25 ct25 : Value} {f25 : Addr}
    {od26 an26 : Option Addr} {sl26 : Array (Option Value)} {oc26 kV26 dc26 pm26 cd26 ct26 : Value} {f26 : Addr}
    {od27 an27 : Option Addr} {sl27 : Array (Option Value)} {oc27 kV27 dc27 pm27 cd27 ct27 : Value} {f27 : Addr}
    {od28 an28 : Option Addr} {sl28 : Array (Option Value)} {oc28 kV28 dc28 pm28 cd28 ct28 : Value} {f28 : Addr}
    {od29 an29 : Option Addr} {sl29 : Array (Option Value)} {oc29 kV29 dc29 pm29 cd29 ct29 : Value} {f29 : Addr}
    {od30 an30 : Option Addr} {sl30 : Array (Option Value)} {oc30 kV30 dc30 pm30 cd30 ct30 : Value} {f30 : Addr}
    {od31 an31 : Option Addr} {sl31 : Array (Option Value)} {oc31 kV31 dc31 pm31 cd31 ct31 : Value} {f31 : Addr}
    {od32 an32 : Option Addr} {sl32 : Array (Option Value)} {oc32 kV32 dc32 pm32 cd32 ct32 : Value} {f32 : Addr}
    {od33 an33 : Option Addr} {sl33 : Array (Option Value)} {oc33 kV33 dc33 pm33 cd33 ct33 : Value} {f33 : Addr}
    {od34 an34 : Option Addr} {sl34 : Array (Option Value)} {oc34 kV34 dc34 pm34 cd34 ct34 : Value} {f34 : Addr}
    {C : Addr} (aC : PySem.W.nsIn K mainGlobals "Machine" = some (some (.ref C)))
    (ihn : PySem.W.specialIn K (.builtin "object.__class__") "__get__" = some (some (.builtin "getset_descriptor.__get__"))) (ihtk : PySem.W.takesIn K (.builtin "object.__class__") = some true)
    (a0 : PySem.W.nsIn K mainGlobals "_law_source" = some (some (.ref f0)))
    (l0 : K.lookup f0 = some ⟨oc0, od0, .func (PySem.W.fnOf "_law_source" "_law_source" (defArgs s__law_source) (defBody s__law_source) (defScope s__law_source) .none kV0 dc0 pm0 an0 cd0 ct0), sl0⟩) (d0 : PySem.W.codeIn K cd0 "_law_source" = true) (k0 : PySem.W.keepIn K (.ref f0) = true)
    (a1 : PySem.W.nsIn K mainGlobals "_law_draw" = some (some (.ref f1)))
    (l1 : K.lookup f1 = some ⟨oc1, od1, .func (PySem.W.fnOf "_law_draw" "_law_draw" (defArgs s__law_draw) (defBody s__law_draw) (defScope s__law_draw) .none kV1 dc1 pm1 an1 cd1 ct1), sl1⟩) (d1 : PySem.W.codeIn K cd1 "_law_draw" = true) (k1 : PySem.W.keepIn K (.ref f1) = true)
    (a2 : PySem.W.nsIn K mainGlobals "_law_states" = some (some (.ref f2)))
    (l2 : K.lookup f2 = some ⟨oc2, od2, .func (PySem.W.fnOf "_law_states" "_law_states" (defArgs s__law_states) (defBody s__law_states) (defScope s__law_states) .none kV2 dc2 pm2 an2 cd2 ct2), sl2⟩) (d2 : PySem.W.codeIn K cd2 "_law_states" = true) (k2 : PySem.W.keepIn K (.ref f2) = true)
    (a3 : PySem.W.nsIn K mainGlobals "_law_step" = some (some (.ref f3)))
    (l3 : K.lookup f3 = some ⟨oc3, od3, .func (PySem.W.fnOf "_law_step" "_law_step" (defArgs s__law_step) (defBody s__law_step) (defScope s__law_step) .none kV3 dc3 pm3 an3 cd3 ct3), sl3⟩) (d3 : PySem.W.codeIn K cd3 "_law_step" = true) (k3 : PySem.W.keepIn K (.ref f3) = true)
    (a4 : PySem.W.nsIn K mainGlobals "_law_steps" = some (some (.ref f4)))
    (l4 : K.lookup f4 = some ⟨oc4, od4, .func (PySem.W.fnOf "_law_steps" "_law_steps" (defArgs s__law_steps) (defBody s__law_steps) (defScope s__law_steps) .none kV4 dc4 pm4 an4 cd4 ct4), sl4⟩) (d4 : PySem.W.codeIn K cd4 "_law_steps" = true) (k4 : PySem.W.keepIn K (.ref f4) = true)
    (a5 : PySem.W.nsIn K mainGlobals "_law_name" = some (some (.ref f5)))
    (l5 : K.lookup f5 = some ⟨oc5, od5, .func (PySem.W.fnOf "_law_name" "_law_name" (defArgs s__law_name) (defBody s__law_name) (defScope s__law_name) .none kV5 dc5 pm5 an5 cd5 ct5), sl5⟩) (d5 : PySem.W.codeIn K cd5 "_law_name" = true) (k5 : PySem.W.keepIn K (.ref f5) = true)
    (a6 : PySem.W.nsIn K mainGlobals "_law_names" = some (some (.ref f6)))
    (l6 : K.lookup f6 = some ⟨oc6, od6, .func (PySem.W.fnOf "_law_names" "_law_names" (defArgs s__law_names) (defBody s__law_names) (defScope s__law_names) .none kV6 dc6 pm6 an6 cd6 ct6), sl6⟩) (d6 : PySem.W.codeIn K cd6 "_law_names" = true) (k6 : PySem.W.keepIn K (.ref f6) = true)
    (a7 : PySem.W.nsIn K mainGlobals "_law_faults" = some (some (.ref f7)))
    (l7 : K.lookup f7 = some ⟨oc7, od7, .func (PySem.W.fnOf "_law_faults" "_law_faults" (defArgs s__law_faults) (defBody s__law_faults) (defScope s__law_faults) .none kV7 dc7 pm7 an7 cd7 ct7), sl7⟩) (d7 : PySem.W.codeIn K cd7 "_law_faults" = true) (k7 : PySem.W.keepIn K (.ref f7) = true)
    (a8 : PySem.W.nsIn K mainGlobals "_law_machine" = some (some (.ref f8)))
    (l8 : K.lookup f8 = some ⟨oc8, od8, .func (PySem.W.fnOf "_law_machine" "_law_machine" (defArgs s__law_machine) (defBody s__law_machine) (defScope s__law_machine) .none kV8 dc8 pm8 an8 cd8 ct8), sl8⟩) (d8 : PySem.W.codeIn K cd8 "_law_machine" = true) (k8 : PySem.W.keepIn K (.ref f8) = true)
    (a9 : PySem.W.nsIn K mainGlobals "_law_own_words" = some (some (.ref f9)))
    (l9 : K.lookup f9 = some ⟨oc9, od9, .func (PySem.W.fnOf "_law_own_words" "_law_own_words" (defArgs s__law_own_words) (defBody s__law_own_words) (defScope s__law_own_words) .none kV9 dc9 pm9 an9 cd9 ct9), sl9⟩) (d9 : PySem.W.codeIn K cd9 "_law_own_words" = true) (k9 : PySem.W.keepIn K (.ref f9) = true)
    (a10 : PySem.W.nsIn K mainGlobals "is_whole" = some (some (.ref f10)))
    (l10 : K.lookup f10 = some ⟨oc10, od10, .func (PySem.W.fnOf "is_whole" "is_whole" (defArgs s_is_whole) (defBody s_is_whole) (defScope s_is_whole) .none kV10 dc10 pm10 an10 cd10 ct10), sl10⟩) (d10 : PySem.W.codeIn K cd10 "is_whole" = true) (k10 : PySem.W.keepIn K (.ref f10) = true)
    (a11 : PySem.W.nsIn K mainGlobals "is_state" = some (some (.ref f11)))
    (l11 : K.lookup f11 = some ⟨oc11, od11, .func (PySem.W.fnOf "is_state" "is_state" (defArgs s_is_state) (defBody s_is_state) (defScope s_is_state) .none kV11 dc11 pm11 an11 cd11 ct11), sl11⟩) (d11 : PySem.W.codeIn K cd11 "is_state" = true) (k11 : PySem.W.keepIn K (.ref f11) = true)
    (a12 : PySem.W.nsIn K mainGlobals "is_row" = some (some (.ref f12)))
    (l12 : K.lookup f12 = some ⟨oc12, od12, .func (PySem.W.fnOf "is_row" "is_row" (defArgs s_is_row) (defBody s_is_row) (defScope s_is_row) .none kV12 dc12 pm12 an12 cd12 ct12), sl12⟩) (d12 : PySem.W.codeIn K cd12 "is_row" = true) (k12 : PySem.W.keepIn K (.ref f12) = true)
    (a13 : PySem.W.nsIn K mainGlobals "is_name" = some (some (.ref f13)))
    (l13 : K.lookup f13 = some ⟨oc13, od13, .func (PySem.W.fnOf "is_name" "is_name" (defArgs s_is_name) (defBody s_is_name) (defScope s_is_name) .none kV13 dc13 pm13 an13 cd13 ct13), sl13⟩) (d13 : PySem.W.codeIn K cd13 "is_name" = true) (k13 : PySem.W.keepIn K (.ref f13) = true)
    (a14 : PySem.W.nsIn K mainGlobals "is_step" = some (some (.ref f14)))
    (l14 : K.lookup f14 = some ⟨oc14, od14, .func (PySem.W.fnOf "is_step" "is_step" (defArgs s_is_step) (defBody s_is_step) (defScope s_is_step) .none kV14 dc14 pm14 an14 cd14 ct14), sl14⟩) (d14 : PySem.W.codeIn K cd14 "is_step" = true) (k14 : PySem.W.keepIn K (.ref f14) = true)
    (a15 : PySem.W.nsIn K mainGlobals "check_steps" = some (some (.ref f15)))
    (l15 : K.lookup f15 = some ⟨oc15, od15, .func (PySem.W.fnOf "check_steps" "check_steps" (defArgs s_check_steps) (defBody s_check_steps) (defScope s_check_steps) .none kV15 dc15 pm15 an15 cd15 ct15), sl15⟩) (d15 : PySem.W.codeIn K cd15 "check_steps" = true) (k15 : PySem.W.keepIn K (.ref f15) = true)
    (a16 : PySem.W.nsIn K mainGlobals "check_faults" = some (some (.ref f16)))
    (l16 : K.lookup f16 = some ⟨oc16, od16, .func (PySem.W.fnOf "check_faults" "check_faults" (defArgs s_check_faults) (defBody s_check_faults) (defScope s_check_faults) .none kV16 dc16 pm16 an16 cd16 ct16), sl16⟩) (d16 : PySem.W.codeIn K cd16 "check_faults" = true) (k16 : PySem.W.keepIn K (.ref f16) = true)
    (a17 : PySem.W.nsIn K mainGlobals "moves_by_state" = some (some (.ref f17)))
    (l17 : K.lookup f17 = some ⟨oc17, od17, .func (PySem.W.fnOf "moves_by_state" "moves_by_state" (defArgs s_moves_by_state) (defBody s_moves_by_state) (defScope s_moves_by_state) .none kV17 dc17 pm17 an17 cd17 ct17), sl17⟩) (d17 : PySem.W.codeIn K cd17 "moves_by_state" = true) (k17 : PySem.W.keepIn K (.ref f17) = true)
    (a18 : PySem.W.nsIn K mainGlobals "reached_states" = some (some (.ref f18)))
    (l18 : K.lookup f18 = some ⟨oc18, od18, .func (PySem.W.fnOf "reached_states" "reached_states" (defArgs s_reached_states) (defBody s_reached_states) (defScope s_reached_states) .none kV18 dc18 pm18 an18 cd18 ct18), sl18⟩) (d18 : PySem.W.codeIn K cd18 "reached_states" = true) (k18 : PySem.W.keepIn K (.ref f18) = true)
    (a19 : PySem.W.findIn K (.ref C) "__init__" = some (some (.ref f19))) (i19 : PySem.W.isFn K (.ref f19) = true)
    (l19 : K.lookup f19 = some ⟨oc19, od19, .func (PySem.W.fnOf "__init__" "Machine.__init__" (defArgs s_Machine_init) (defBody s_Machine_init) (defScope s_Machine_init) (.ref t19) kV19 dc19 pm19 an19 cd19 ct19), sl19⟩) (d19 : PySem.W.codeIn K cd19 "Machine.__init__" = true) (k19 : PySem.W.keepIn K (.ref f19) = true)
    (tl19 : K.lookup t19 = some ⟨tc19, td19, .seq #[.none] tn19, ts19⟩)
    (a20 : PySem.W.nsIn K mainGlobals "_law_text" = some (some (.ref f20)))
    (l20 : K.lookup f20 = some ⟨oc20, od20, .func (PySem.W.fnOf "_law_text" "_law_text" (defArgs s__law_text) (defBody s__law_text) (defScope s__law_text) .none kV20 dc20 pm20 an20 cd20 ct20), sl20⟩) (d20 : PySem.W.codeIn K cd20 "_law_text" = true) (k20 : PySem.W.keepIn K (.ref f20) = true)
    {p21 : Addr} {rs21 : List Value} (a21 : PySem.W.findIn K (.ref C) "start" = some (some (.ref p21))) (g21 : PySem.W.specialIn K (.ref p21) "__get__" = some (some (.builtin "property.__get__"))) (w21 : PySem.W.takesIn K (.ref p21) = some true) (r21 : PySem.W.recIn K p21 "property" = some (.ref f21 :: rs21))
    (l21 : K.lookup f21 = some ⟨oc21, od21, .func (PySem.W.fnOf "start" "Machine.start" (defArgs s_Machine_start) (defBody s_Machine_start) (defScope s_Machine_start) .none kV21 dc21 pm21 an21 cd21 ct21), sl21⟩) (d21 : PySem.W.codeIn K cd21 "Machine.start" = true) (k21 : PySem.W.keepIn K (.ref f21) = true)
    {p22 : Addr} {rs22 : List Value} (a22 : PySem.W.findIn K (.ref C) "steps" = some (some (.ref p22))) (g22 : PySem.W.specialIn K (.ref p22) "__get__" = some (some (.builtin "property.__get__"))) (w22 : PySem.W.takesIn K (.ref p22) = some true) (r22 : PySem.W.recIn K p22 "property" = some (.ref f22 :: rs22))
    (l22 : K.lookup f22 = some ⟨oc22, od22, .func (PySem.W.fnOf "steps" "Machine.steps" (defArgs s_Machine_steps) (defBody s_Machine_steps) (defScope s_Machine_steps) .none kV22 dc22 pm22 an22 cd22 ct22), sl22⟩) (d22 : PySem.W.codeIn K cd22 "Machine.steps" = true) (k22 : PySem.W.keepIn K (.ref f22) = true)
    {p23 : Addr} {rs23 : List Value} (a23 : PySem.W.findIn K (.ref C) "faults" = some (some (.ref p23))) (g23 : PySem.W.specialIn K (.ref p23) "__get__" = some (some (.builtin "property.__get__"))) (w23 : PySem.W.takesIn K (.ref p23) = some true) (r23 : PySem.W.recIn K p23 "property" = some (.ref f23 :: rs23))
    (l23 : K.lookup f23 = some ⟨oc23, od23, .func (PySem.W.fnOf "faults" "Machine.faults" (defArgs s_Machine_faults) (defBody s_Machine_faults) (defScope s_Machine_faults) .none kV23 dc23 pm23 an23 cd23 ct23), sl23⟩) (d23 : PySem.W.codeIn K cd23 "Machine.faults" = true) (k23 : PySem.W.keepIn K (.ref f23) = true)
    (a24 : PySem.W.nsIn K mainGlobals "machine_text" = some (some (.ref f24)))
    (l24 : K.lookup f24 = some ⟨oc24, od24, .func (PySem.W.fnOf "machine_text" "machine_text" (defArgs s_machine_text) (defBody s_machine_text) (defScope s_machine_text) .none kV24 dc24 pm24 an24 cd24 ct24), sl24⟩) (d24 : PySem.W.codeIn K cd24 "machine_text" = true) (k24 : PySem.W.keepIn K (.ref f24) = true)
    (a25 : PySem.W.nsIn K mainGlobals "is_state_text" = some (some (.ref f25)))
    (l25 : K.lookup f25 = some ⟨oc25, od25, .func (PySem.W.fnOf "is_state_text" "is_state_text" (defArgs s_is_state_text) (defBody s_is_state_text) (defScope s_is_state_text) .none kV25 dc25 pm25 an25 cd25 ct25), sl25⟩) (d25 : PySem.W.codeIn K cd25 "is_state_text" = true) (k25 : PySem.W.keepIn K (.ref f25) = true)
    (a26 : PySem.W.nsIn K mainGlobals "is_start_row" = some (some (.ref f26)))
    (l26 : K.lookup f26 = some ⟨oc26, od26, .func (PySem.W.fnOf "is_start_row" "is_start_row" (defArgs s_is_start_row) (defBody s_is_start_row) (defScope s_is_start_row) .none kV26 dc26 pm26 an26 cd26 ct26), sl26⟩) (d26 : PySem.W.codeIn K cd26 "is_start_row" = true) (k26 : PySem.W.keepIn K (.ref f26) = true)
    (a27 : PySem.W.nsIn K mainGlobals "is_fault_row" = some (some (.ref f27)))
    (l27 : K.lookup f27 = some ⟨oc27, od27, .func (PySem.W.fnOf "is_fault_row" "is_fault_row" (defArgs s_is_fault_row) (defBody s_is_fault_row) (defScope s_is_fault_row) .none kV27 dc27 pm27 an27 cd27 ct27), sl27⟩) (d27 : PySem.W.codeIn K cd27 "is_fault_row" = true) (k27 : PySem.W.keepIn K (.ref f27) = true)
    (a28 : PySem.W.nsIn K mainGlobals "is_step_row" = some (some (.ref f28)))
    (l28 : K.lookup f28 = some ⟨oc28, od28, .func (PySem.W.fnOf "is_step_row" "is_step_row" (defArgs s_is_step_row) (defBody s_is_step_row) (defScope s_is_step_row) .none kV28 dc28 pm28 an28 cd28 ct28), sl28⟩) (d28 : PySem.W.codeIn K cd28 "is_step_row" = true) (k28 : PySem.W.keepIn K (.ref f28) = true)
    (a29 : PySem.W.nsIn K mainGlobals "check_rows_of_lines" = some (some (.ref f29)))
    (l29 : K.lookup f29 = some ⟨oc29, od29, .func (PySem.W.fnOf "check_rows_of_lines" "check_rows_of_lines" (defArgs s_check_rows_of_lines) (defBody s_check_rows_of_lines) (defScope s_check_rows_of_lines) .none kV29 dc29 pm29 an29 cd29 ct29), sl29⟩) (d29 : PySem.W.codeIn K cd29 "check_rows_of_lines" = true) (k29 : PySem.W.keepIn K (.ref f29) = true)
    (a30 : PySem.W.nsIn K mainGlobals "read_machine" = some (some (.ref f30)))
    (l30 : K.lookup f30 = some ⟨oc30, od30, .func (PySem.W.fnOf "read_machine" "read_machine" (defArgs s_read_machine) (defBody s_read_machine) (defScope s_read_machine) .none kV30 dc30 pm30 an30 cd30 ct30), sl30⟩) (d30 : PySem.W.codeIn K cd30 "read_machine" = true) (k30 : PySem.W.keepIn K (.ref f30) = true)
    {p31 : Addr} {rs31 : List Value} (a31 : PySem.W.findIn K (.ref C) "words" = some (some (.ref p31))) (g31 : PySem.W.specialIn K (.ref p31) "__get__" = some (some (.builtin "property.__get__"))) (w31 : PySem.W.takesIn K (.ref p31) = some true) (r31 : PySem.W.recIn K p31 "property" = some (.ref f31 :: rs31))
    (l31 : K.lookup f31 = some ⟨oc31, od31, .func (PySem.W.fnOf "words" "Machine.words" (defArgs s_Machine_words) (defBody s_Machine_words) (defScope s_Machine_words) .none kV31 dc31 pm31 an31 cd31 ct31), sl31⟩) (d31 : PySem.W.codeIn K cd31 "Machine.words" = true) (k31 : PySem.W.keepIn K (.ref f31) = true)
    {p32 : Addr} {rs32 : List Value} (a32 : PySem.W.findIn K (.ref C) "states" = some (some (.ref p32))) (g32 : PySem.W.specialIn K (.ref p32) "__get__" = some (some (.builtin "property.__get__"))) (w32 : PySem.W.takesIn K (.ref p32) = some true) (r32 : PySem.W.recIn K p32 "property" = some (.ref f32 :: rs32))
    (l32 : K.lookup f32 = some ⟨oc32, od32, .func (PySem.W.fnOf "states" "Machine.states" (defArgs s_Machine_states) (defBody s_Machine_states) (defScope s_Machine_states) .none kV32 dc32 pm32 an32 cd32 ct32), sl32⟩) (d32 : PySem.W.codeIn K cd32 "Machine.states" = true) (k32 : PySem.W.keepIn K (.ref f32) = true)
    (a33 : PySem.W.findIn K (.ref C) "__eq__" = some (some (.ref f33))) (i33 : PySem.W.isFn K (.ref f33) = true)
    (y33 : PySem.W.fnIn K f33 = true)
    (l33 : K.lookup f33 = some ⟨oc33, od33, .func (PySem.W.fnOf "__eq__" "Machine.__eq__" (defArgs s_Machine_eq) (defBody s_Machine_eq) (defScope s_Machine_eq) .none kV33 dc33 pm33 an33 cd33 ct33), sl33⟩) (d33 : PySem.W.codeIn K cd33 "Machine.__eq__" = true) (k33 : PySem.W.keepIn K (.ref f33) = true)
    (a34 : PySem.W.nsIn K mainGlobals "law" = some (some (.ref f34)))
    (l34 : K.lookup f34 = some ⟨oc34, od34, .func (PySem.W.fnOf "law" "law" (defArgs s_law) (defBody s_law) (defScope s_law) .none kV34 dc34 pm34 an34 cd34 ct34), sl34⟩) (d34 : PySem.W.codeIn K cd34 "law" = true) (k34 : PySem.W.keepIn K (.ref f34) = true)
    (pgC : PySem.W.plainGet K C Str.empty = true) (hdC : PySem.W.hasDictIn K C = true) (poC : PySem.W.plainOver K C = true) (saC : PySem.W.findIn K (.ref C) "__setattr__" = some (some (.builtin "object.__setattr__"))) (mkC : PySem.W.makesIn K C = true) (kcC : PySem.W.keepIn K (.ref C) = true)
    (ihaC : PySem.W.findIn K (.ref C) "__class__" = some (some (.builtin "object.__class__"))) (ihmC : PySem.W.mroIn K C (.type "object") = some true)
    (n__start : PySem.W.findIn K (.ref C) "_start" = some none)
    (n__steps : PySem.W.findIn K (.ref C) "_steps" = some none)
    (n__words : PySem.W.findIn K (.ref C) "_words" = some none)
    (n__faults : PySem.W.findIn K (.ref C) "_faults" = some none)
    (n__states : PySem.W.findIn K (.ref C) "_states" = some none)
    (neC : PySem.W.findIn K (.ref C) "__ne__" = some (some (.builtin "object.__ne__")))
    (sobC : PySem.W.subIn K (.ref C) (.type "object") = some true)
    (ic_M : PySem.W.isClsIn K C = true)
    (it_M : PySem.W.typeIn K (.ref C) = some (.type "type"))
    (self_M : PySem.W.subIn K (.ref C) (.ref C) = some true)
    (z_all : PySem.W.nsIn K mainGlobals "all" = some none)
    (z_bool : PySem.W.nsIn K mainGlobals "bool" = some none)
    (z_dict : PySem.W.nsIn K mainGlobals "dict" = some none)
    (z_enumerate : PySem.W.nsIn K mainGlobals "enumerate" = some none)
    (z_int : PySem.W.nsIn K mainGlobals "int" = some none)
    (z_isinstance : PySem.W.nsIn K mainGlobals "isinstance" = some none)
    (z_len : PySem.W.nsIn K mainGlobals "len" = some none)
    (z_list : PySem.W.nsIn K mainGlobals "list" = some none)
    (z_range : PySem.W.nsIn K mainGlobals "range" = some none)
    (z_set : PySem.W.nsIn K mainGlobals "set" = some none)
    (z_sorted : PySem.W.nsIn K mainGlobals "sorted" = some none)
    (z_str : PySem.W.nsIn K mainGlobals "str" = some none)
    (z_tuple : PySem.W.nsIn K mainGlobals "tuple" = some none)
    {u_GREATEST_STATE : Value} (g_GREATEST_STATE : PySem.W.nsIn K mainGlobals "GREATEST_STATE" = some (some u_GREATEST_STATE)) (r_GREATEST_STATE : RelV (.int 99) u_GREATEST_STATE)
    {u_LONGEST_NAME : Value} (g_LONGEST_NAME : PySem.W.nsIn K mainGlobals "LONGEST_NAME" = some (some u_LONGEST_NAME)) (r_LONGEST_NAME : RelV (.int 12) u_LONGEST_NAME)
    {u_LETTERS : Value} (g_LETTERS : PySem.W.nsIn K mainGlobals "LETTERS" = some (some u_LETTERS)) (r_LETTERS : RelV (.str "abcdefghijklmnopqrstuvwxyz") u_LETTERS)
    {u_MOST_STEPS : Value} (g_MOST_STEPS : PySem.W.nsIn K mainGlobals "MOST_STEPS" = some (some u_MOST_STEPS)) (r_MOST_STEPS : RelV (.int 80) u_MOST_STEPS)
    {u_MOST_LEAVING : Value} (g_MOST_LEAVING : PySem.W.nsIn K mainGlobals "MOST_LEAVING" = some (some u_MOST_LEAVING)) (r_MOST_LEAVING : RelV (.int 8) u_MOST_LEAVING)
    {u_MOST_FAULTS : Value} (g_MOST_FAULTS : PySem.W.nsIn K mainGlobals "MOST_FAULTS" = some (some u_MOST_FAULTS)) (r_MOST_FAULTS : RelV (.int 3) u_MOST_FAULTS)
    {u_MOST_WORDS : Value} (g_MOST_WORDS : PySem.W.nsIn K mainGlobals "MOST_WORDS" = some (some u_MOST_WORDS)) (r_MOST_WORDS : RelV (.int 14) u_MOST_WORDS)
    {u_START : Value} (g_START : PySem.W.nsIn K mainGlobals "START" = some (some u_START)) (r_START : RelV (.str "start") u_START)
    {u_FAULT : Value} (g_FAULT : PySem.W.nsIn K mainGlobals "FAULT" = some (some u_FAULT)) (r_FAULT : RelV (.str "fault") u_FAULT)
    {u_MOST_DIGITS : Value} (g_MOST_DIGITS : PySem.W.nsIn K mainGlobals "MOST_DIGITS" = some (some u_MOST_DIGITS)) (r_MOST_DIGITS : RelV (.int 2) u_MOST_DIGITS)
    {u_DIGITS : Value} (g_DIGITS : PySem.W.nsIn K mainGlobals "DIGITS" = some (some u_DIGITS)) (r_DIGITS : RelV (.str "0123456789") u_DIGITS) :
    ∃ fd : FuncData, (∀ (s : Shared) (v : Value), BindsTo s fd ⟨[v], []⟩ [("_law_script", v)]) ∧ ∀ base : Heap, K.In base → base.Ns mainGlobals mg → FnOk l.prog w K mg base CX0 8 fa fd ["_law_script"] (sp_law K) := by
  have e := hfa.symm.trans (PySem.W.mg_of X G a34)
  cases e
  have T : Txt K mg C := ⟨PySem.W.mg_none_of X G z_all, PySem.W.mg_none_of X G z_bool, PySem.W.mg_none_of X G z_dict, PySem.W.mg_none_of X G z_enumerate, PySem.W.mg_none_of X G z_int, PySem.W.mg_none_of X G z_isinstance, PySem.W.mg_none_of X G z_len, PySem.W.mg_none_of X G z_list, PySem.W.mg_none_of X G z_range, PySem.W.mg_none_of X G z_set, PySem.W.mg_none_of X G z_sorted, PySem.W.mg_none_of X G z_str, PySem.W.mg_none_of X G z_tuple, ⟨_, PySem.W.mg_of X G g_GREATEST_STATE, r_GREATEST_STATE⟩, ⟨_, PySem.W.mg_of X G g_LONGEST_NAME, r_LONGEST_NAME⟩, ⟨_, PySem.W.mg_of X G g_LETTERS, r_LETTERS⟩, ⟨_, PySem.W.mg_of X G g_MOST_STEPS, r_MOST_STEPS⟩, ⟨_, PySem.W.mg_of X G g_MOST_LEAVING, r_MOST_LEAVING⟩, ⟨_, PySem.W.mg_of X G g_MOST_FAULTS, r_MOST_FAULTS⟩, ⟨_, PySem.W.mg_of X G g_MOST_WORDS, r_MOST_WORDS⟩, ⟨_, PySem.W.mg_of X G g_START, r_START⟩, ⟨_, PySem.W.mg_of X G g_FAULT, r_FAULT⟩, ⟨_, PySem.W.mg_of X G g_MOST_DIGITS, r_MOST_DIGITS⟩, ⟨_, PySem.W.mg_of X G g_DIGITS, r_DIGITS⟩, ⟨pgC, hdC, poC, saC⟩, PySem.W.mg_of X G aC, ⟨⟨pgC, hdC, poC, saC⟩, ihaC, ihn, ihtk, ihmC, by unfold PySem.W.kitOne; rw [if_pos (by simp)]⟩, n__start, n__steps, n__words, n__faults, n__states, neC, sobC, ic_M, it_M, self_M⟩
  have F0 := fun_mk (st := s__law_source) l0 d0 k0
  have b0 := L2.Fun.binds F0 (ps := ["_law_script"]) fun _ _ _ _ _ _ us hl => match us, hl with | [_], _ => rfl
  have F1 := fun_mk (st := s__law_draw) l1 d1 k1
  have b1 := L2.Fun.binds F1 (ps := ["_law_source_here", "_law_many"]) fun _ _ _ _ _ _ us hl => match us, hl with | [_, _], _ => rfl
  have F2 := fun_mk (st := s__law_states) l2 d2 k2
  have b2 := L2.Fun.binds F2 (ps := ["_law_source_here", "_law_most"]) fun _ _ _ _ _ _ us hl => match us, hl with | [_, _], _ => rfl
  have F3 := fun_mk (st := s__law_step) l3 d3 k3
  have b3 := L2.Fun.binds F3 (ps := ["_law_source_here", "_law_state", "_law_states_here", "_law_words"]) fun _ _ _ _ _ _ us hl => match us, hl with | [_, _, _, _], _ => rfl
  have F4 := fun_mk (st := s__law_steps) l4 d4 k4
  have b4 := L2.Fun.binds F4 (ps := ["_law_source_here", "_law_states_here", "_law_words", "_law_extra", "_law_most"]) fun _ _ _ _ _ _ us hl => match us, hl with | [_, _, _, _, _], _ => rfl
  have F5 := fun_mk (st := s__law_name) l5 d5 k5
  have b5 := L2.Fun.binds F5 (ps := ["_law_source_here"]) fun _ _ _ _ _ _ us hl => match us, hl with | [_], _ => rfl
  have F6 := fun_mk (st := s__law_names) l6 d6 k6
  have b6 := L2.Fun.binds F6 (ps := ["_law_source_here", "_law_many"]) fun _ _ _ _ _ _ us hl => match us, hl with | [_, _], _ => rfl
  have F7 := fun_mk (st := s__law_faults) l7 d7 k7
  have b7 := L2.Fun.binds F7 (ps := ["_law_source_here", "_law_steps_here", "_law_most"]) fun _ _ _ _ _ _ us hl => match us, hl with | [_, _, _], _ => rfl
  have F8 := fun_mk (st := s__law_machine) l8 d8 k8
  have b8 := L2.Fun.binds F8 (ps := ["_law_source_here", "_law_size", "_law_extra", "_law_words", "_law_most"]) fun _ _ _ _ _ _ us hl => match us, hl with | [_, _, _, _, _], _ => rfl
  have F9 := fun_mk (st := s__law_own_words) l9 d9 k9
  have b9 := L2.Fun.binds F9 (ps := ["_law_source_here", "_law_data"]) fun _ _ _ _ _ _ us hl => match us, hl with | [_, _], _ => rfl
  have F10 := fun_mk (st := s_is_whole) l10 d10 k10
  have b10 := L2.Fun.binds F10 (ps := ["value"]) fun _ _ _ _ _ _ us hl => match us, hl with | [_], _ => rfl
  have F11 := fun_mk (st := s_is_state) l11 d11 k11
  have b11 := L2.Fun.binds F11 (ps := ["value"]) fun _ _ _ _ _ _ us hl => match us, hl with | [_], _ => rfl
  have F12 := fun_mk (st := s_is_row) l12 d12 k12
  have b12 := L2.Fun.binds F12 (ps := ["value"]) fun _ _ _ _ _ _ us hl => match us, hl with | [_], _ => rfl
  have F13 := fun_mk (st := s_is_name) l13 d13 k13
  have b13 := L2.Fun.binds F13 (ps := ["value"]) fun _ _ _ _ _ _ us hl => match us, hl with | [_], _ => rfl
  have F14 := fun_mk (st := s_is_step) l14 d14 k14
  have b14 := L2.Fun.binds F14 (ps := ["value"]) fun _ _ _ _ _ _ us hl => match us, hl with | [_], _ => rfl
  have F15 := fun_mk (st := s_check_steps) l15 d15 k15
  have b15 := L2.Fun.binds F15 (ps := ["steps"]) fun _ _ _ _ _ _ us hl => match us, hl with | [_], _ => rfl
  have F16 := fun_mk (st := s_check_faults) l16 d16 k16
  have b16 := L2.Fun.binds F16 (ps := ["faults", "words"]) fun _ _ _ _ _ _ us hl => match us, hl with | [_, _], _ => rfl
  have F17 := fun_mk (st := s_moves_by_state) l17 d17 k17
  have b17 := L2.Fun.binds F17 (ps := ["steps"]) fun _ _ _ _ _ _ us hl => match us, hl with | [_], _ => rfl
  have F18 := fun_mk (st := s_reached_states) l18 d18 k18
  have b18 := L2.Fun.binds F18 (ps := ["start", "leaving"]) fun _ _ _ _ _ _ us hl => match us, hl with | [_, _], _ => rfl
  have F19 : KnD.FunX K "__init__" "Machine.__init__" s_Machine_init f19 _ := ⟨⟨_, _, _, _, _, _, _, _, _, _, rfl, l19, d19⟩⟩
  have b19 := KnD.binds_full (st := s_Machine_init) (ps := ["self", "start", "steps", "faults"]) (dvs := [.non]) (its := [.none]) l19 d19 k19 tl19 rfl (.cons rfl .nil) (by simp) fun _ _ _ _ _ _ _ us its h1 h2 => match us, its, h1, h2 with | [_, _, _, _], [_], _, _ => ⟨_, rfl, rfl⟩
  have F20 := fun_mk (st := s__law_text) l20 d20 k20
  have b20 := L2.Fun.binds F20 (ps := ["_law_data"]) fun _ _ _ _ _ _ us hl => match us, hl with | [_], _ => rfl
  have F21 := fun_mk (st := s_Machine_start) l21 d21 k21
  have b21 := L2.Fun.binds F21 (ps := ["self"]) fun _ _ _ _ _ _ us hl => match us, hl with | [_], _ => rfl
  have F22 := fun_mk (st := s_Machine_steps) l22 d22 k22
  have b22 := L2.Fun.binds F22 (ps := ["self"]) fun _ _ _ _ _ _ us hl => match us, hl with | [_], _ => rfl
  have F23 := fun_mk (st := s_Machine_faults) l23 d23 k23
  have b23 := L2.Fun.binds F23 (ps := ["self"]) fun _ _ _ _ _ _ us hl => match us, hl with | [_], _ => rfl
  have F24 := fun_mk (st := s_machine_text) l24 d24 k24
  have b24 := L2.Fun.binds F24 (ps := ["machine"]) fun _ _ _ _ _ _ us hl => match us, hl with | [_], _ => rfl
  have F25 := fun_mk (st := s_is_state_text) l25 d25 k25
  have b25 := L2.Fun.binds F25 (ps := ["part"]) fun _ _ _ _ _ _ us hl => match us, hl with | [_], _ => rfl
  have F26 := fun_mk (st := s_is_start_row) l26 d26 k26
  have b26 := L2.Fun.binds F26 (ps := ["row"]) fun _ _ _ _ _ _ us hl => match us, hl with | [_], _ => rfl
  have F27 := fun_mk (st := s_is_fault_row) l27 d27 k27
  have b27 := L2.Fun.binds F27 (ps := ["row"]) fun _ _ _ _ _ _ us hl => match us, hl with | [_], _ => rfl
  have F28 := fun_mk (st := s_is_step_row) l28 d28 k28
  have b28 := L2.Fun.binds F28 (ps := ["row"]) fun _ _ _ _ _ _ us hl => match us, hl with | [_], _ => rfl
  have F29 := fun_mk (st := s_check_rows_of_lines) l29 d29 k29
  have b29 := L2.Fun.binds F29 (ps := ["rows"]) fun _ _ _ _ _ _ us hl => match us, hl with | [_], _ => rfl
  have F30 := fun_mk (st := s_read_machine) l30 d30 k30
  have b30 := L2.Fun.binds F30 (ps := ["text"]) fun _ _ _ _ _ _ us hl => match us, hl with | [_], _ => rfl
  have F31 := fun_mk (st := s_Machine_words) l31 d31 k31
  have b31 := L2.Fun.binds F31 (ps := ["self"]) fun _ _ _ _ _ _ us hl => match us, hl with | [_], _ => rfl
  have F32 := fun_mk (st := s_Machine_states) l32 d32 k32
  have b32 := L2.Fun.binds F32 (ps := ["self"]) fun _ _ _ _ _ _ us hl => match us, hl with | [_], _ => rfl
  have F33 := fun_mk (st := s_Machine_eq) l33 d33 k33
  have b33 := L2.Fun.binds F33 (ps := ["self", "other"]) fun _ _ _ _ _ _ us hl => match us, hl with | [_, _], _ => rfl
  have F34 := fun_mk (st := s_law) l34 d34 k34
  refine ⟨PySem.W.fnOf "law" "law" (defArgs s_law) (defBody s_law) (defScope s_law) .none kV34 dc34 pm34 an34 cd34 ct34, fun s v => .of_eq rfl, fun base _ _ => ?_⟩
  have c__law_source : Cal l.prog w K mg base 1 "_law_source" (sp__law_source K) [] := ⟨_, _, _, _, ok__law_source T F0 , PySem.W.mg_of X G a0, F0.kp, b0, .nil⟩
  have c__law_draw : Cal l.prog w K mg base 1 "_law_draw" (sp__law_draw K) [] := ⟨_, _, _, _, ok__law_draw T F1 , PySem.W.mg_of X G a1, F1.kp, b1, .nil⟩
  have c__law_states : Cal l.prog w K mg base 2 "_law_states" (sp__law_states K) [] := ⟨_, _, _, _, ok__law_states T F2 c__law_draw, PySem.W.mg_of X G a2, F2.kp, b2, .nil⟩
  have c__law_step : Cal l.prog w K mg base 2 "_law_step" (sp__law_step K) [] := ⟨_, _, _, _, ok__law_step T F3 c__law_draw, PySem.W.mg_of X G a3, F3.kp, b3, .nil⟩
  have c__law_steps : Cal l.prog w K mg base 3 "_law_steps" (sp__law_steps K) [] := ⟨_, _, _, _, ok__law_steps T F4 c__law_step c__law_draw, PySem.W.mg_of X G a4, F4.kp, b4, .nil⟩
  have c__law_name : Cal l.prog w K mg base 2 "_law_name" (sp__law_name K) [] := ⟨_, _, _, _, ok__law_name T F5 c__law_draw, PySem.W.mg_of X G a5, F5.kp, b5, .nil⟩
  have c__law_names : Cal l.prog w K mg base 3 "_law_names" (sp__law_names K) [] := ⟨_, _, _, _, ok__law_names T F6 c__law_name, PySem.W.mg_of X G a6, F6.kp, b6, .nil⟩
  have c__law_faults : Cal l.prog w K mg base 4 "_law_faults" (sp__law_faults K) [] := ⟨_, _, _, _, ok__law_faults T F7 c__law_names c__law_draw, PySem.W.mg_of X G a7, F7.kp, b7, .nil⟩
  have c__law_machine : Cal l.prog w K mg base 5 "_law_machine" (sp__law_machine K) [] := ⟨_, _, _, _, ok__law_machine T F8 c__law_states c__law_steps c__law_names c__law_draw c__law_faults, PySem.W.mg_of X G a8, F8.kp, b8, .nil⟩
  have c__law_own_words : Cal l.prog w K mg base 1 "_law_own_words" (sp__law_own_words K) [] := ⟨_, _, _, _, ok__law_own_words T F9 , PySem.W.mg_of X G a9, F9.kp, b9, .nil⟩
  have c_is_whole : Cal l.prog w K mg base 1 "is_whole" (sp_is_whole K) [] := ⟨_, _, _, _, ok_is_whole T F10 , PySem.W.mg_of X G a10, F10.kp, b10, .nil⟩
  have c_is_state : Cal l.prog w K mg base 2 "is_state" (sp_is_state K) [] := ⟨_, _, _, _, ok_is_state T F11 c_is_whole, PySem.W.mg_of X G a11, F11.kp, b11, .nil⟩
  have c_is_row : Cal l.prog w K mg base 1 "is_row" (sp_is_row K) [] := ⟨_, _, _, _, ok_is_row T F12 , PySem.W.mg_of X G a12, F12.kp, b12, .nil⟩
  have c_is_name : Cal l.prog w K mg base 1 "is_name" (sp_is_name K) [] := ⟨_, _, _, _, ok_is_name T F13 , PySem.W.mg_of X G a13, F13.kp, b13, .nil⟩
  have c_is_step : Cal l.prog w K mg base 3 "is_step" (sp_is_step K) [] := ⟨_, _, _, _, ok_is_step T F14 c_is_state c_is_name, PySem.W.mg_of X G a14, F14.kp, b14, .nil⟩
  have c_check_steps : Cal l.prog w K mg base 4 "check_steps" (sp_check_steps K) [] := ⟨_, _, _, _, ok_check_steps T F15 c_is_row c_is_step, PySem.W.mg_of X G a15, F15.kp, b15, .nil⟩
  have c_check_faults : Cal l.prog w K mg base 2 "check_faults" (sp_check_faults K) [] := ⟨_, _, _, _, ok_check_faults T F16 c_is_name, PySem.W.mg_of X G a16, F16.kp, b16, .nil⟩
  have c_moves_by_state : Cal l.prog w K mg base 1 "moves_by_state" (sp_moves_by_state K) [] := ⟨_, _, _, _, ok_moves_by_state T F17 , PySem.W.mg_of X G a17, F17.kp, b17, .nil⟩
  have c_reached_states : Cal l.prog w K mg base 1 "reached_states" (sp_reached_states K) [] := ⟨_, _, _, _, ok_reached_states T F18 , PySem.W.mg_of X G a18, F18.kp, b18, .nil⟩
  have c_Machine_init : Mak l.prog w K mg base 5 "Machine" C (sp_Machine_init K C) [] := ⟨_, _, _, _, ⟨mkC, a19, i19, kcC⟩, ok_Machine_init T F19 c_is_state c_check_steps c_check_faults c_moves_by_state c_reached_states, PySem.W.mg_of X G aC, b19, .nil⟩
  have c__law_text : Cal l.prog w K mg base 1 "_law_text" (sp__law_text K) [] := ⟨_, _, _, _, ok__law_text T F20 , PySem.W.mg_of X G a20, F20.kp, b20, .nil⟩
  have c_Machine_start : KnP.Prp l.prog w K mg base 1 C "start" (sp_Machine_start K C) := ⟨_, _, _, _, ⟨a21, g21, w21, ⟨_, r21⟩⟩, ok_Machine_start T F21 , b21⟩
  have c_Machine_steps : KnP.Prp l.prog w K mg base 1 C "steps" (sp_Machine_steps K C) := ⟨_, _, _, _, ⟨a22, g22, w22, ⟨_, r22⟩⟩, ok_Machine_steps T F22 , b22⟩
  have c_Machine_faults : KnP.Prp l.prog w K mg base 1 C "faults" (sp_Machine_faults K C) := ⟨_, _, _, _, ⟨a23, g23, w23, ⟨_, r23⟩⟩, ok_Machine_faults T F23 , b23⟩
  have c_machine_text : Cal l.prog w K mg base 3 "machine_text" (sp_machine_text K C) [] := ⟨_, _, _, _, ok_machine_text T F24 c_Machine_start c_Machine_steps c_Machine_faults, PySem.W.mg_of X G a24, F24.kp, b24, .nil⟩
  have c_is_state_text : Cal l.prog w K mg base 1 "is_state_text" (sp_is_state_text K) [] := ⟨_, _, _, _, ok_is_state_text T F25 , PySem.W.mg_of X G a25, F25.kp, b25, .nil⟩
  have c_is_start_row : Cal l.prog w K mg base 2 "is_start_row" (sp_is_start_row K) [] := ⟨_, _, _, _, ok_is_start_row T F26 c_is_state_text, PySem.W.mg_of X G a26, F26.kp, b26, .nil⟩
  have c_is_fault_row : Cal l.prog w K mg base 2 "is_fault_row" (sp_is_fault_row K) [] := ⟨_, _, _, _, ok_is_fault_row T F27 c_is_name, PySem.W.mg_of X G a27, F27.kp, b27, .nil⟩
  have c_is_step_row : Cal l.prog w K mg base 2 "is_step_row" (sp_is_step_row K) [] := ⟨_, _, _, _, ok_is_step_row T F28 c_is_state_text c_is_name, PySem.W.mg_of X G a28, F28.kp, b28, .nil⟩
  have c_check_rows_of_lines : Cal l.prog w K mg base 3 "check_rows_of_lines" (sp_check_rows_of_lines K) [] := ⟨_, _, _, _, ok_check_rows_of_lines T F29 c_is_start_row c_is_fault_row c_is_step_row, PySem.W.mg_of X G a29, F29.kp, b29, .nil⟩
  have c_read_machine : Cal l.prog w K mg base 7 "read_machine" (sp_read_machine K C) [] := ⟨_, _, _, _, ok_read_machine T F30 c_check_rows_of_lines c_Machine_init, PySem.W.mg_of X G a30, F30.kp, b30, .nil⟩
  have c_Machine_words : KnP.Prp l.prog w K mg base 1 C "words" (sp_Machine_words K C) := ⟨_, _, _, _, ⟨a31, g31, w31, ⟨_, r31⟩⟩, ok_Machine_words T F31 , b31⟩
  have c_Machine_states : KnP.Prp l.prog w K mg base 1 C "states" (sp_Machine_states K C) := ⟨_, _, _, _, ⟨a32, g32, w32, ⟨_, r32⟩⟩, ok_Machine_states T F32 , b32⟩
  have c_Machine_eq : KnW.Own l.prog w K mg base 1 C "__eq__" (sp_Machine_eq K C) := ⟨_, _, _, a33, i33, y33, ok_Machine_eq T F33 , b33⟩
  obtain ⟨dz, hvz, bz⟩ := KnW.binds_less (st := s_Machine_init) (ps := ["self", "start", "steps", "faults"]) (dvs := [.non]) (its := [.none]) 3 l19 d19 k19 tl19 rfl (.cons rfl .nil) (by simp) rfl fun _ _ _ _ _ _ _ us its h1 h2 => match us, its, h1, h2 with | [_, _, _], [_], _, _ => ⟨_, rfl, rfl⟩
  have c_Machine_init0 : Mak l.prog w K mg base 5 "Machine" C (sp_Machine_init K C) [.non] := ⟨_, _, _, _, ⟨mkC, a19, i19, kcC⟩, ok_Machine_init T F19 c_is_state c_check_steps c_check_faults c_moves_by_state c_reached_states, PySem.W.mg_of X G aC, bz, hvz⟩
  exact ok_law T F34 c__law_source c__law_machine c__law_draw c__law_own_words c_Machine_init c__law_text c_machine_text c_read_machine c_Machine_start c_Machine_steps c_Machine_faults c_Machine_words c_Machine_states c_Machine_eq c_Machine_init0
end Kn
open PySem PySem.W PyProof.Rows
set_option maxHeartbeats 0 in
theorem PySem.Challenge.cw_knownlate_k70_machine_text_holds : PySem.Challenge.rw_knownlate_k70_machine_text.Holds := by
  w_on; o_law; k_head; (case hw => w_witness2)
  k_fill
  refine L2.walk_of (l := PySem.Challenge.rw_knownlate_k70_machine_text) (n := 63) (k := 8) (x := "_law_script") (CX := fun _ => L2.CX0) (sp := fun w => Kn.sp_law _) rfl (by decide) rfl ⟨rfl, by decide, by decide⟩ (fun w h Y => PySem.W.kIn_of Y) ?F (fun _ _ a ns hl _ hS => ⟨a, ns, rfl, hS, hl, fun _ => rfl⟩) (fun _ _ _ _ _ h => h)
  case F =>
    intro w mg fa h KX G hmg
    refine' Kn.all_mk KX G hmg ?aC ?ihn ?ihtk ?a0 ?l0 ?d0 ?k0 ?a1 ?l1 ?d1 ?k1 ?a2 ?l2 ?d2 ?k2 ?a3 ?l3 ?d3 ?k3 ?a4 ?l4 ?d4 ?k4 ?a5 ?l5 ?d5 ?k5 ?a6 ?l6 ?d6 ?k6 ?a7 ?l7 ?d7 ?k7 ?a8 ?l8 ?d8 ?k8 ?a9 ?l9 ?d9 ?k9 ?a10 ?l10 ?d10 ?k10 ?a11 ?l11 ?d11 ?k11 ?a12 ?l12 ?d12 ?k12 ?a13 ?l13 ?d13 ?k13 ?a14 ?l14 ?d14 ?k14 ?a15 ?l15 ?d15 ?k15 ?a16 ?l16 ?d16 ?k16 ?a17 ?l17 ?d17 ?k17 ?a18 ?l18 ?d18 ?k18 ?a19 ?i19 ?l19 ?d19 ?k19 ?tl19 ?a20 ?l20 ?d20 ?k20 ?a21 ?g21 ?w21 ?r21 ?l21 ?d21 ?k21 ?a22 ?g22 ?w22 ?r22 ?l22 ?d22 ?k22 ?a23 ?g23 ?w23 ?r23 ?l23 ?d23 ?k23 ?a24 ?l24 ?d24 ?k24 ?a25 ?l25 ?d25 ?k25 ?a26 ?l26 ?d26 ?k26 ?a27 ?l27 ?d27 ?k27 ?a28 ?l28 ?d28 ?k28 ?a29 ?l29 ?d29 ?k29 ?a30 ?l30 ?d30 ?k30 ?a31 ?g31 ?w31 ?r31 ?l31 ?d31 ?k31 ?a32 ?g32 ?w32 ?r32 ?l32 ?d32 ?k32 ?a33 ?i33 ?y33 ?l33 ?d33 ?k33 ?a34 ?l34 ?d34 ?k34 ?pgC ?hdC ?poC ?saC ?mkC ?kcC ?ihaC ?ihmC ?n__start ?n__steps ?n__words ?n__faults ?n__states ?neC ?sobC ?ic_M ?it_M ?self_M ?z_all ?z_bool ?z_dict ?z_enumerate ?z_int ?z_isinstance ?z_len ?z_list ?z_range ?z_set ?z_sorted ?z_str ?z_tuple ?g_GREATEST_STATE ?r_GREATEST_STATE ?g_LONGEST_NAME ?r_LONGEST_NAME ?g_LETTERS ?r_LETTERS ?g_MOST_STEPS ?r_MOST_STEPS ?g_MOST_LEAVING ?r_MOST_LEAVING ?g_MOST_FAULTS ?r_MOST_FAULTS ?g_MOST_WORDS ?r_MOST_WORDS ?g_START ?r_START ?g_FAULT ?r_FAULT ?g_MOST_DIGITS ?r_MOST_DIGITS ?g_DIGITS ?r_DIGITS
    (case aC => k_is); (case ihn => k_is); (case ihtk => k_is); (case a0 => k_is); (case l0 => k_is); (case d0 => k_is); (case k0 => k_is); (case a1 => k_is); (case l1 => k_is); (case d1 => k_is); (case k1 => k_is); (case a2 => k_is); (case l2 => k_is); (case d2 => k_is); (case k2 => k_is); (case a3 => k_is); (case l3 => k_is); (case d3 => k_is); (case k3 => k_is); (case a4 => k_is); (case l4 => k_is); (case d4 => k_is); (case k4 => k_is); (case a5 => k_is); (case l5 => k_is); (case d5 => k_is); (case k5 => k_is); (case a6 => k_is); (case l6 => k_is); (case d6 => k_is); (case k6 => k_is); (case a7 => k_is); (case l7 => k_is); (case d7 => k_is); (case k7 => k_is); (case a8 => k_is); (case l8 => k_is); (case d8 => k_is); (case k8 => k_is); (case a9 => k_is); (case l9 => k_is); (case d9 => k_is); (case k9 => k_is); (case a10 => k_is); (case l10 => k_is); (case d10 => k_is); (case k10 => k_is); (case a11 => k_is); (case l11 => k_is); (case d11 => k_is); (case k11 => k_is); (case a12 => k_is); (case l12 => k_is); (case d12 => k_is); (case k12 => k_is); (case a13 => k_is); (case l13 => k_is); (case d13 => k_is); (case k13 => k_is); (case a14 => k_is); (case l14 => k_is); (case d14 => k_is); (case k14 => k_is); (case a15 => k_is); (case l15 => k_is); (case d15 => k_is); (case k15 => k_is); (case a16 => k_is); (case l16 => k_is); (case d16 => k_is); (case k16 => k_is); (case a17 => k_is); (case l17 => k_is); (case d17 => k_is); (case k17 => k_is); (case a18 => k_is); (case l18 => k_is); (case d18 => k_is); (case k18 => k_is); (case a19 => k_is); (case i19 => k_is); (case l19 => k_is); (case d19 => k_is); (case k19 => k_is); (case tl19 => k_is); (case a20 => k_is); (case l20 => k_is); (case d20 => k_is); (case k20 => k_is); (case a21 => k_is); (case g21 => k_is); (case w21 => k_is); (case r21 => k_is); (case l21 => k_is); (case d21 => k_is); (case k21 => k_is); (case a22 => k_is); (case g22 => k_is); (case w22 => k_is); (case r22 => k_is); (case l22 => k_is); (case d22 => k_is); (case k22 => k_is); (case a23 => k_is); (case g23 => k_is); (case w23 => k_is); (case r23 => k_is); (case l23 => k_is); (case d23 => k_is); (case k23 => k_is); (case a24 => k_is); (case l24 => k_is); (case d24 => k_is); (case k24 => k_is); (case a25 => k_is); (case l25 => k_is); (case d25 => k_is); (case k25 => k_is); (case a26 => k_is); (case l26 => k_is); (case d26 => k_is); (case k26 => k_is); (case a27 => k_is); (case l27 => k_is); (case d27 => k_is); (case k27 => k_is); (case a28 => k_is); (case l28 => k_is); (case d28 => k_is); (case k28 => k_is); (case a29 => k_is); (case l29 => k_is); (case d29 => k_is); (case k29 => k_is); (case a30 => k_is); (case l30 => k_is); (case d30 => k_is); (case k30 => k_is); (case a31 => k_is); (case g31 => k_is); (case w31 => k_is); (case r31 => k_is); (case l31 => k_is); (case d31 => k_is); (case k31 => k_is); (case a32 => k_is); (case g32 => k_is); (case w32 => k_is); (case r32 => k_is); (case l32 => k_is); (case d32 => k_is); (case k32 => k_is); (case a33 => k_is); (case i33 => k_is); (case y33 => k_is); (case l33 => k_is); (case d33 => k_is); (case k33 => k_is); (case a34 => k_is); (case l34 => k_is); (case d34 => k_is); (case k34 => k_is); (case pgC => k_is); (case hdC => k_is); (case poC => k_is); (case saC => k_is); (case mkC => k_is); (case kcC => k_is); (case ihaC => k_is); (case ihmC => k_is); (case n__start => k_is); (case n__steps => k_is); (case n__words => k_is); (case n__faults => k_is); (case n__states => k_is); (case neC => k_is); (case sobC => k_is); (case ic_M => k_is); (case it_M => k_is); (case self_M => k_is); (case z_all => k_is); (case z_bool => k_is); (case z_dict => k_is); (case z_enumerate => k_is); (case z_int => k_is); (case z_isinstance => k_is); (case z_len => k_is); (case z_list => k_is); (case z_range => k_is); (case z_set => k_is); (case z_sorted => k_is); (case z_str => k_is); (case z_tuple => k_is); (case g_GREATEST_STATE => k_is); (case r_GREATEST_STATE => exact ⟨_, rfl⟩); (case g_LONGEST_NAME => k_is); (case r_LONGEST_NAME => exact ⟨_, rfl⟩); (case g_LETTERS => k_is); (case r_LETTERS => exact ⟨_, rfl⟩); (case g_MOST_STEPS => k_is); (case r_MOST_STEPS => exact ⟨_, rfl⟩); (case g_MOST_LEAVING => k_is); (case r_MOST_LEAVING => exact ⟨_, rfl⟩); (case g_MOST_FAULTS => k_is); (case r_MOST_FAULTS => exact ⟨_, rfl⟩); (case g_MOST_WORDS => k_is); (case r_MOST_WORDS => exact ⟨_, rfl⟩); (case g_START => k_is); (case r_START => exact ⟨_, rfl⟩); (case g_FAULT => k_is); (case r_FAULT => exact ⟨_, rfl⟩); (case g_MOST_DIGITS => k_is); (case r_MOST_DIGITS => exact ⟨_, rfl⟩); (case g_DIGITS => k_is); (case r_DIGITS => exact ⟨_, rfl⟩)

