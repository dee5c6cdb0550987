import PyProof.Rows.All
import Wide.All
import OpenK.AllK
import Wide.FinOn
import HandS.ForMost
import HandS.IsInst
import HandS.Codes
import HandS.Set
import HandS.SetBool
import HandS.SetKeys
import PyProof.Rows.SortShellAny
import HandS.More
import HandS.Comp
import PyProof.Rows.SetFrom
import KE.GoesMore
import KE.GoesEnum
import HandS.DictComp
import KE.KDictList
import HandS.Property
import HandS.List
import HandS.Words
import HandS.ForExc
import HandS.Defaults
import HandS.SortInts
import HandS.Deep
import HandS.TryOnly
import HandS.Finally
import PySem.Challenge.RW_knownlate_k46_avoiding
set_option Elab.async false
set_option linter.all false
set_option maxRecDepth 100000
set_option maxHeartbeats 4000000
namespace Kn
open PySem PySem.Spec PyProof.Rows L2
/-! ### heaps -/
theorem same_upd {H : Hp} {p : Addr} {o : HO} (h : H p = none) : Same H (upd H p o) := fun b x e => by
  rw [upd_ne (ne_of_none e h)]
  exact e
theorem same_set {H0 H : Hp} {p : Addr} {o : HO} (h : H0 p = none) (s : Same H0 H) : Same H0 (upd H p o) := fun b x e => by
  rw [upd_ne (ne_of_none e h)]
  exact s b x e
theorem Same.none {H H' : Hp} {p : Addr} (s : Same H H') (h : H' p = none) : H p = none := s.free h
theorem seqLt {K : PySem.W.Frag} {H H' : Hp} {a : Addr} {xs : List V} (e : Same H H') (h : SqT K H a xs) : SqT K H' a xs := by
  rcases h with (h | ⟨o, h⟩) | h
  · exact .inl (.inl (e _ _ h))
  · exact .inl (.inr ⟨o, e _ _ h⟩)
  · exact .inr h
theorem take_more {α : Type} {l : List α} {i : Nat} {x : α} (h : l[i]? = some x) : l.take (i + 1) = l.take i ++ [x] := by
  rw [List.take_add_one, h]; rfl
theorem small {n : Nat} (h : n ≤ 100000) : n < sizeLine := Nat.lt_of_le_of_lt h (by decide)
theorem smallE {n : Nat} (h : n ≤ 100000) : n ≤ sizeLine := Nat.le_of_lt (small h)
/-- a comprehension over a text's signs -/
theorem lc_text {x : Str} {g : TG} {tt : TT} {te : TE} {vs : List Nat} {σ : L2.St} {H1 : Hp} {D : Addr} {Qd : Hp → Prop} (Pv : Nat → Hp → Prop) (h0 : Pv 0 (upd H1 D (.lst [])))
    (hs : ∀ i c H, x.cps.toList[i]? = some c → Pv i H → g (.str ⟨#[c]⟩) (wipe σ vs) H fun σ2 H2 => wipe σ2 vs = wipe σ vs ∧ tt σ2 H2 fun b H3 =>
      if b = true then te σ2 H3 fun y H4 => ∃ acc, H4 D = some (.lst acc) ∧ acc.length < sizeLine ∧ Pv (i + 1) (upd H4 D (.lst (acc ++ [y]))) else Pv (i + 1) H3) (hd : ∀ H, Pv x.cps.toList.length H → Qd H) :
    ∃ W : Nat → Nat → Hp → Prop, (∃ m, W 0 m (upd H1 D (.lst []))) ∧ ∀ i m H, W i m H →
      ((Its x).stop i H ∧ Qd H) ∨ ((Its x).go i H ∧ ∃ Nx : Hp → Prop, (∀ H', Nx H' → ∃ m', m' < m ∧ W (i + 1) m' H') ∧ ∀ v H', (Its x).yld i H v H' → g v (wipe σ vs) H' fun σ2 H2 => wipe σ2 vs = wipe σ vs ∧ tt σ2 H2 fun b H3 =>
        if b = true then te σ2 H3 fun y H4 => ∃ acc, H4 D = some (.lst acc) ∧ acc.length < sizeLine ∧ Nx (upd H4 D (.lst (acc ++ [y]))) else Nx H3) := by
  refine ⟨fun i m H => m = x.cps.size - i ∧ i ≤ x.cps.size ∧ Pv i H, ⟨x.cps.size, by simp, Nat.zero_le _, h0⟩, ?_⟩
  rintro i m H ⟨rfl, hi, p⟩
  by_cases hlt : i < x.cps.size
  · refine .inr ⟨hlt, Pv (i + 1), fun H' p' => ⟨x.cps.size - (i + 1), by omega, rfl, hlt, p'⟩, fun v H' y => ?_⟩
    obtain ⟨rfl, c, hc, rfl⟩ := y
    exact hs i c _ (by simpa using hc) p
  · have e : i = x.cps.size := by omega
    subst e
    exact .inl ⟨Nat.le_refl _, hd H (by simpa using p)⟩
end Kn

set_option Elab.async false
set_option linter.all false
set_option maxRecDepth 100000
set_option maxHeartbeats 4000000
/-! Sets whose members are told in a list: made, filled, told as a sorted list; set comprehensions of ints and texts. -/
namespace KnS
open PySem PySem.Spec PyProof.Rows L2
section
variable {κ : Type} [DecidableEq κ] {P : Program} {w : World} {knd : PySem.KeyKind P w κ}
/-- one entry of a table, of the key k -/
def Ent (knd : PySem.KeyKind P w κ) (k : κ) (e : Int × Value) : Prop := knd.is k e.2 = true ∧ e.1 = knd.hash k ∧ e.2.scannable = true
theorem paired_perm {α β : Type} {F : α → β → Prop} {l m : List β} (p : l.Perm m) : ∀ {ks : List α}, Paired F ks l → ∃ ks', ks'.Perm ks ∧ Paired F ks' m := by
  induction p with
  | nil => intro ks h; exact ⟨ks, .refl _, h⟩
  | cons x _ ih =>
    intro ks h
    cases h with
    | cons r t =>
      obtain ⟨ks', q, t'⟩ := ih t
      exact ⟨_, .cons _ q, .cons r t'⟩
  | swap x y l =>
    intro ks h
    cases h with
    | cons r t =>
      cases t with
      | cons r' t' => exact ⟨_, .swap _ _ _, .cons r' (.cons r t')⟩
  | trans _ _ ih1 ih2 =>
    intro ks h
    obtain ⟨k1, q1, h1⟩ := ih1 h
    obtain ⟨k2, q2, h2⟩ := ih2 h1
    exact ⟨k2, q2.trans q1, h2⟩
theorem ents_elems {ks : List κ} {l : List (Int × Value)} (h : Paired (Ent knd) ks l) : ElemsOf knd l := by
  induction h with
  | nil => exact fun e he => nomatch he
  | cons r _ ih =>
    intro e he
    rcases List.mem_cons.mp he with z | z
    · rw [z]; exact ⟨⟨_, r.1, r.2.1⟩, r.2.2⟩
    · exact ih e z
theorem ents_find {ks : List κ} {l : List (Int × Value)} (h : Paired (Ent knd) ks l) {k : κ} : (∃ e ∈ l, knd.is k e.2 = true) ↔ k ∈ ks := by
  induction h with
  | nil => exact ⟨fun ⟨e, he, _⟩ => (nomatch he), fun z => nomatch z⟩
  | @cons k' e ks l r _ ih =>
    constructor
    · rintro ⟨e', he, q⟩
      rcases List.mem_cons.mp he with z | z
      · rw [z] at q
        rw [knd.inj e.2 k k' q r.1]
        exact List.mem_cons_self
      · exact List.mem_cons_of_mem _ (ih.mp ⟨e', z, q⟩)
    · intro z
      rcases List.mem_cons.mp z with z | z
      · exact ⟨e, List.mem_cons_self, z ▸ r.1⟩
      · obtain ⟨e', he, q⟩ := ih.mpr z
        exact ⟨e', List.mem_cons_of_mem _ he, q⟩
end
/-- the set at a holds just the keys ks, each once; its table can be walked -/
def Holds (P : Program) (w : World) (h : Heap) (a : Addr) (ks : List Key) : Prop :=
  ∃ o es ep t ls, (h.get? a = some o ∧ o.ExactSet ∧ o.data = .set es ep t) ∧ (Paired (Ent (mixKind P w)) ls es.toList ∧ ls.Perm ks ∧ ks.Nodup) ∧
    (es.size < scanBound ∧ t.fits es.size = true) ∧ Ris t.place.toList ∧ (w.params.followText "set-order" = true ∨ t.led = true)
/-- .. as a tracked thing -/
def SetL (P : Program) (w : World) (a : Addr) (ks : List Key) : HO := .ext fun h => Holds P w h a ks
def hasL (ks : List Key) (k : Key) : Bool := ks.any fun j => decide (j = k)
theorem hasL_iff {ks : List Key} {k : Key} : hasL ks k = true ↔ k ∈ ks := by
  unfold hasL
  rw [List.any_eq_true]
  exact ⟨fun ⟨j, hj, e⟩ => of_decide_eq_true e ▸ hj, fun h => ⟨k, h, decide_eq_true rfl⟩⟩
def addL (ks : List Key) (k : Key) : List Key := if hasL ks k = true then ks else ks ++ [k]
section
variable {P : Program} {w : World} {A : Around} {E : Value → Shared → Prop} {s : Shared} {a : Addr} {ks : List Key}
theorem Holds.keep {h h' : Heap} (R : Holds P w h a ks) (k : ∀ o, h.get? a = some o → h'.get? a = some o) : Holds P w h' a ks :=
  let ⟨o, es, ep, t, ls, ⟨ho, r⟩, q⟩ := R; ⟨o, es, ep, t, ls, ⟨k o ho, r⟩, q⟩
theorem Holds.there {h : Heap} (R : Holds P w h a ks) : ∃ o, h.get? a = some o ∧ o.cls = .type "set" := let ⟨o, _, _, _, _, ⟨ho, hx, _⟩, _⟩ := R; ⟨o, ho, hx.1⟩
theorem Holds.new {H : Hp} {h : Heap} (R : Holds P w h a ks) : ObjOk P w H h a (SetL P w a ks) :=
  ⟨R, let ⟨o, ho, _⟩ := R.there; ⟨o, ho⟩, fun _ _ p k => p.keep k⟩
theorem mem_addL {k x : Key} : x ∈ addL ks k ↔ x ∈ ks ∨ x = k := by
  unfold addL
  by_cases z : k ∈ ks
  · rw [if_pos (hasL_iff.mpr z)]
    exact ⟨.inl, fun y => y.elim id fun e => e ▸ z⟩
  · rw [if_neg fun q => z (hasL_iff.mp q), List.mem_append, List.mem_singleton]
theorem stored {h : Heap} {o : Obj} {es es' : Array (Int × Value)} {ep : Nat} {t t' : SetTable} (ho : h.get? a = some o) (hd : o.data = .set es ep t) :
    (h.update a (Obj.putSet es' t')).get? a = some { o with data := .set es' (ep + 1) t' } :=
  (Heap.get?_update_self (Obj.putSet es' t') ho (by rw [putSet_of es' t' hd] <;> rfl)).trans (by rw [putSet_of es' t' hd])
/-- what an add does behind its search, where the key is new -/
theorem laid {k : Key} {x : Value} (hk : (mixKind P w).is k x = true) (hsc : x.scannable = true) {o : Obj} {es : Array (Int × Value)} {ep : Nat} {t : SetTable} {ls : List Key}
    (ho : s.heap.get? a = some o) (hx : o.ExactSet) (hd : o.data = .set es ep t) (pe : Paired (Ent (mixKind P w)) ls es.toList) (pm : ls.Perm ks) (nd : ks.Nodup) (room : es.size + 1 < scanBound)
    {es1 : Array (Int × Value)} {t1 : SetTable} (p1 : es1.toList.Perm (es.push ((mixKind P w).hash k, x)).toList) (f1 : t1.fits es1.size = true) (r1 : Ris t1.place.toList) (l1 : w.params.followText "set-order" = true ∨ t1.led = true) (hnk : k ∉ ks) :
    es1.size < scanBound ∧ Holds P w (s.heap.update a (Obj.putSet es1 t1)) a (ks ++ [k]) := by
  have z1 : es1.size = es.size + 1 := by
    have q := p1.length_eq
    rw [Array.length_toList, Array.length_toList, Array.size_push] at q
    exact q
  have pe' : Paired (Ent (mixKind P w)) (ls ++ [k]) (es.push ((mixKind P w).hash k, x)).toList := by
    rw [Array.toList_push]
    exact pe.snoc ⟨hk, rfl, hsc⟩
  obtain ⟨ls1, q1, pe1⟩ := paired_perm p1.symm pe'
  have nd1 : (ks ++ [k]).Nodup := List.nodup_append.mpr ⟨nd, List.nodup_cons.mpr ⟨(fun z => nomatch z), List.nodup_nil⟩, fun u hu v hv e => hnk (by rw [← List.mem_singleton.mp hv, ← e]; exact hu)⟩
  exact ⟨by omega, _, es1, _, t1, ls1, ⟨stored ho hd, hx, rfl⟩, ⟨pe1, q1.trans (pm.append_right [k]), nd1⟩, ⟨by omega, f1⟩, r1, l1⟩
/-- .. and a table that is laid anew -/
theorem relaid {o : Obj} {es1 es2 : Array (Int × Value)} {ep : Nat} {t1 t2 : SetTable} {h : Heap} (R : Holds P w h a ks) (ho : h.get? a = some o) (hd : o.data = .set es1 ep t1)
    (p2 : es2.toList.Perm es1.toList) (f2 : t2.fits es2.size = true) (r2 : Ris t2.place.toList) (l2 : t1.led = true → t2.led = true) : Holds P w (h.update a (Obj.putSet es2 t2)) a ks := by
  obtain ⟨o', es, ep', t, ls, ⟨ho', hx, hd'⟩, ⟨pe, pm, nd⟩, ⟨hb, _⟩, _, hl⟩ := R
  obtain rfl : o = o' := Option.some.inj (ho.symm.trans ho')
  rw [hd] at hd'
  cases hd'
  obtain ⟨ls2, q2, pe2⟩ := paired_perm p2.symm pe
  have z : es2.size = es1.size := by
    have q := p2.length_eq
    rw [Array.length_toList, Array.length_toList] at q
    exact q
  exact ⟨_, es2, _, t2, ls2, ⟨stored ho hd, hx, rfl⟩, ⟨pe2, q2.trans pm, nd⟩, ⟨z ▸ hb, f2⟩, r2, hl.imp id l2⟩
theorem Holds.size {h : Heap} (R : Holds P w h a ks) {o : Obj} {es : Array (Int × Value)} {ep : Nat} {t : SetTable} (ho : h.get? a = some o) (hd : o.data = .set es ep t) : es.size = ks.length := by
  obtain ⟨o', es', ep', t', ls, ⟨ho', _, hd'⟩, ⟨pe, pm, _⟩, _⟩ := R
  obtain rfl : o = o' := Option.some.inj (ho.symm.trans ho')
  rw [hd] at hd'
  cases hd'
  rw [← Array.length_toList, ← pe.length, pm.length_eq]
theorem add_scan {k : Key} {x : Value} (hk : (mixKind P w).is k x = true) (hsc : x.scannable = true) (R : Holds P w s.heap a ks) (room : ks.length + 1 < scanBound) {Q : Bool → Shared → Prop}
    (hQ : ∀ b h', Heap.SameBut a s.heap h' → Holds P w h' a (addL ks k) → Q b { s with heap := h' }) : wpAny (model P w) A (setAddHashed a x ((mixKind P w).hash k)) Q E s := by
  have R0 := R
  obtain ⟨o, es, ep, t, ls, ⟨ho, hx, hd⟩, ⟨pe, pm, nd⟩, ⟨hb, hf⟩, hr, hl⟩ := R
  have el := ents_elems pe
  have sz := R0.size ho hd
  have fd : (∃ e ∈ es.toList, (mixKind P w).is k e.2 = true) ↔ k ∈ ks := (ents_find pe).trans pm.mem_iff
  unfold setAddHashed setAddHashedIn
  refine wpAny_holding (wpAny_bind (wpAny_setState_of ho hd hf ?_))
  show wpAny _ _ (if byScan x es = true then _ else _) _ _ _
  rw [byScan_of hsc hb el]
  refine wpAny_bind (wpAny_bind (wpAny_rule (wpAny_bind (wpAny_setScan_of hk ho hd hf el ?_))))
  cases ix : es.toList.findIdx? (fun e => (mixKind P w).is k e.2) with
  | some j =>
    obtain ⟨hj, pj, _⟩ := List.findIdx?_eq_some_iff_getElem.mp ix
    have hin : k ∈ ks := fd.mp ⟨_, List.getElem_mem hj, pj⟩
    refine wpAny_pure (wpAny_pure (hQ _ s.heap (Heap.SameBut.refl a s.heap) ?_))
    rw [addL, if_pos (hasL_iff.mpr hin)]
    exact R0
  | none =>
    have hnk : k ∉ ks := fun z => by
      obtain ⟨e, he, q⟩ := fd.mpr z
      have := List.findIdx?_eq_none_iff.mp ix e he
      rw [q] at this
      cases this
    have p1 := layNew_perm t es ((mixKind P w).hash k) x
    have f1 := layNew_fits t es ((mixKind P w).hash k) x
    have r1 := layNew_ris t es ((mixKind P w).hash k) x hr
    have l1 := layNew_led t es ((mixKind P w).hash k) x
    dsimp only
    generalize layNew t es ((mixKind P w).hash k) x = Z at p1 f1 r1 l1 ⊢
    obtain ⟨es1, t1, was, gave⟩ := Z
    dsimp only at p1 f1 r1 l1 ⊢
    have gate : ∀ (b : Bool) {s' : Shared} {Q' : Unit → Shared → Prop}, Q' () s' → wpAny (model P w) A (match b with | true => rule "set.scan.the-table-gave-way" | false => pure ()) Q' E s' := fun b => by
      cases b
      · exact fun q => wpAny_pure q
      · exact fun q => wpAny_rule q
    have e1 : addL ks k = ks ++ [k] := if_neg fun q => hnk (hasL_iff.mp q)
    have more : ∀ {g : Bool → Sem Unit} (_ : ∀ (b : Bool) (s' : Shared) (Q' : Unit → Shared → Prop), Q' () s' → wpAny (model P w) A (g b) Q' E s') (t2 : SetTable), t2.fits es1.size = true → Ris t2.place.toList → t2.led = t1.led →
        wpAny (model P w) A (do
          storeSet a es1 t2
          if (!was && t2.tooFull) = true then do
            g (relayAll t2 es1 (SetTable.grown es1.size)).2.2
            storeSet a (relayAll t2 es1 (SetTable.grown es1.size)).1 (relayAll t2 es1 (SetTable.grown es1.size)).2.1
            pure (some true)
          else pure (some true)) (fun r s' => ∃ h', s' = { s with heap := h' } ∧ r = some true ∧ Heap.SameBut a s.heap h' ∧ Holds P w h' a (addL ks k)) E s := by
      intro g hg t2 f2 r2 l2
      obtain ⟨b1, H1⟩ := laid hk hsc ho hx hd pe pm nd (by omega) p1 f2 r2 (hl.imp id fun q => by rw [l2, l1]; exact q) hnk
      rw [e1]
      refine wpAny_bind (wpAny_storeSet_of ho hd ?_ (fits_of_scanBound b1))
      have sb := Heap.SameBut.update s.heap a (Obj.putSet es1 t2)
      by_cases full : (!was && t2.tooFull) = true
      · rw [if_pos full]
        refine wpAny_bind (hg _ _ _ (wpAny_bind (wpAny_storeSet_of (stored ho hd) rfl ?_ ?_)))
        · refine wpAny_pure ⟨_, rfl, rfl, sb.trans (Heap.SameBut.update _ a _), relaid H1 (stored ho hd) rfl (relayAll_perm _ _ _) (relayAll_fits _ _ _) (relayAll_ris _ _ _) fun q => ?_⟩
          rw [relayAll_led]
          exact q
        · have q := (relayAll_perm t2 es1 (SetTable.grown es1.size)).length_eq
          rw [Array.length_toList, Array.length_toList] at q
          rw [q]
          exact fits_of_scanBound b1
      · rw [if_neg full]
        exact wpAny_pure ⟨_, rfl, rfl, sb, H1⟩
    refine wpAny_bind (gate gave ?_)
    have go : ∀ v : Bool, wpAny (model P w) A (do
          storeSet a es1 (if v = true then t1 else { t1 with plain := false })
          if (!was && (if v = true then t1 else { t1 with plain := false }).tooFull) = true then do
            (match (relayAll (if v = true then t1 else { t1 with plain := false }) es1 (SetTable.grown es1.size)).2.2 with | true => rule "set.scan.the-table-gave-way" | false => pure ())
            storeSet a (relayAll (if v = true then t1 else { t1 with plain := false }) es1 (SetTable.grown es1.size)).1 (relayAll (if v = true then t1 else { t1 with plain := false }) es1 (SetTable.grown es1.size)).2.1
            pure (some true)
          else pure (some true)) (fun r s' => ∃ h', s' = { s with heap := h' } ∧ r = some true ∧ Heap.SameBut a s.heap h' ∧ Holds P w h' a (addL ks k)) E s := fun v => by
      cases v
      · exact more (g := fun b => match b with | true => rule "set.scan.the-table-gave-way" | false => pure ()) (fun b s' Q' q => gate b q) { t1 with plain := false } (SetTable.fits_plain_off f1) r1 rfl
      · exact more (g := fun b => match b with | true => rule "set.scan.the-table-gave-way" | false => pure ()) (fun b s' Q' q => gate b q) t1 f1 r1 rfl
    have fin : ∀ (r : Option Bool) (s' : Shared), (∃ h', s' = { s with heap := h' } ∧ r = some true ∧ Heap.SameBut a s.heap h' ∧ Holds P w h' a (addL ks k)) → ∃ h', r = some true ∧ s' = { s with heap := h' } ∧ Q true s' := by
      rintro r s' ⟨h', rfl, rfl, sb, H'⟩
      exact ⟨h', rfl, rfl, hQ true h' sb H'⟩
    by_cases pl : t1.plain = true
    · rw [if_pos pl]
      refine wpAny_bind ?_
      rw [hashByValue_scannable 8 hsc]
      refine wpAny_pure (wpAny_mono (go _) (fun r s' q => ?_) fun _ _ z => z)
      obtain ⟨h', rfl, rfl, q⟩ := fin r s' q
      exact wpAny_pure q
    · rw [if_neg pl]
      refine wpAny_bind (wpAny_pure (wpAny_mono (go true) (fun r s' q => ?_) fun _ _ z => z))
      obtain ⟨h', rfl, rfl, q⟩ := fin r s' q
      exact wpAny_pure q

/-- set.add, called -/
theorem add_call {k : Key} {x : Value} (hk : (mixKind P w).is k x = true) (hsc : x.scannable = true) (R : Holds P w s.heap a ks) (room : ks.length + 1 < scanBound) {Q : Value → Shared → Prop}
    (hQ : ∀ h', Heap.SameBut a s.heap h' → Holds P w h' a (addL ks k) → Q .none { s with heap := h', toks := s.toks + 1 }) : wpAny (model P w) A (call (.builtin "set.add") [.ref a, x]) Q E s := by
  refine wpAny_call_entry F.slot_set_add (show s.TypeIs (.ref a) "set" from R.there) F.entry_set_add ?_ (F.args_set_add_2 _ _)
  unfold Builtin.«set.add» Builtin.Frozenset.oneOther
  simp only [List.isEmpty_nil, bind_assoc]
  unfold Builtin.Frozenset.addrOf setAdd
  refine wpAny_bind (wpAny_pure (wpAny_bind (wpAny_pure (wpAny_bind (wpAny_holding (wpAny_bind ((mixKind P w).pyHash hk ?_)))))))
  refine add_scan (s := { s with toks := s.toks + 1 }) hk hsc R room fun b h' sb r => ?_
  exact (show wpAny _ _ (ret Value.none) _ _ _ from wpAny_pure ⟨_, rfl, hQ h' sb r⟩)
theorem fresh_set (h : Heap) : Holds P w (h.push { cls := .type "set", dict := none, data := .set #[] 0 (.fresh 0 0 (!w.params.followText "set-order")) }) h.objs.size [] := by
  refine ⟨_, #[], 0, _, [], ⟨Heap.get?_push_size _ rfl, ⟨rfl, rfl, rfl⟩, rfl⟩, ⟨.nil, .refl _, List.nodup_nil⟩, ⟨by decide, by rfl⟩, List.Pairwise.nil, ?_⟩
  cases q : w.params.followText "set-order" with
  | true => exact .inl rfl
  | false => exact .inr rfl
end
/-! ### sorted(a set of texts) -/
theorem strs_of_paired {P : Program} {w : World} : ∀ {ks : List Key} {vs : List Value}, Paired (fun k v => (mixKind P w).is k v = true) ks vs → ∀ {xs : List Str}, ks.Perm (xs.map Sum.inr) → ∃ zs, zs.Perm xs ∧ StrsAre vs zs := by
  intro ks vs h xs p
  have all : ∀ k ∈ ks, ∃ x, k = Sum.inr x := fun k hk => by
    obtain ⟨x, _, e⟩ := List.mem_map.mp (p.mem_iff.mp hk)
    exact ⟨x, e.symm⟩
  have q := p.filterMap (fun k : Key => match k with | .inr x => some x | .inl _ => none)
  have e : (xs.map Sum.inr : List Key).filterMap (fun k : Key => match k with | .inr x => some x | .inl _ => none) = xs := by
    rw [List.filterMap_map]
    exact List.filterMap_some
  rw [e] at q
  refine ⟨_, q, ?_⟩
  clear p q e
  induction h with
  | nil => exact .nil
  | @cons k v ks vs r _ ih =>
    obtain ⟨x, rfl⟩ := all k List.mem_cons_self
    rcases keyIs_shape (show keyIs (.inr x) v = true from r) with ⟨_, _, z, _⟩ | ⟨y, t, z, rfl⟩
    · cases z
    · cases z
      exact .cons _ _ (ih fun k hk => all k (List.mem_cons_of_mem _ hk))
theorem paired_snd {P : Program} {w : World} {ks : List Key} {es : List (Int × Value)} (h : Paired (Ent (mixKind P w)) ks es) : Paired (fun k v => (mixKind P w).is k v = true) ks (es.map (·.2)) := by
  induction h with
  | nil => exact .nil
  | cons r _ ih => exact .cons r.1 ih
section
variable {P : Program} {w : World} {A : Around} {E : Value → Shared → Prop} {s : Shared} {a : Addr}
theorem sorted_call {xs : List Str} {Q : Value → Shared → Prop} (R : Holds P w s.heap a (xs.map Sum.inr)) (hh : A.handled = none)
    (hQ : ∀ s' p (out : Array Value) (c : Nat) (ys : List Str), (∀ b o, s.heap.get? b = some o → s'.heap.get? b = some o) → s'.gens = s.gens ∧ s'.os = s.os → s.heap.objs.size ≤ p →
      s'.heap.get? p = some (seqObj "list" out c) → StrsAre out.toList ys → ys.Perm xs → sortedS ys = true → Q (.ref p) s') : wpAny (model P w) A (call (.builtin "sorted") [.ref a]) Q E s := by
  obtain ⟨o, es, ep, t, ls, ⟨ho, hx, hd⟩, ⟨pe, pm, nd⟩, ⟨hb, hf⟩, hr, hl⟩ := R
  refine Calls.call_function_entry kind_sorted plain_sorted entry_sorted (args_sorted1 _) ?_
  unfold Builtin.«sorted»
  refine wpAny_bind (m := checkCount "sorted" 1 1 _) (wpAny_pure (wpAny_bind (collect_set (A := A.in1) hh ⟨o, ho, hx.1, hd⟩ hf hb hr hl fun s1 vs k1 hz g1 o1 pv => ?_)))
  obtain ⟨ls', q', pe'⟩ := paired_perm pv.symm (paired_snd pe)
  obtain ⟨zs, pz, hS⟩ := strs_of_paired pe' (q'.trans pm)
  have hsz : vs.length ≤ sizeLine := by
    rw [pv.length_eq, List.length_map, Array.length_toList]
    exact fits_of_scanBound hb
  refine wpAny_bind (wpAny_newList ?_ hsz)
  have hoL : (s1.heap.push (seqObj "list" vs.toArray 0)).get? s1.heap.objs.size = some (seqObj "list" vs.toArray 0) := Heap.get?_push_size _ rfl
  refine wpAny_bind (wpAny_holding (wpAny_call_entry slot_list_sort ⟨_, hoL, rfl⟩ entry_list_sort (list_sort_treeKAny strKind_oneLt hoL hS.keysOf (fun v₁ v₂ rest e => keyKind_strs (by rw [← e]; exact hS)) hsz fun st' hp hs => ?_) (args_list_sort _)))
  obtain ⟨ys, y1, y2, y3⟩ := sorted_out_str hS hp hs
  obtain ⟨c, hc⟩ := sortedHeap_at (vs := vs) (out := (arrOf st').map (·.2)) hoL
  refine ⟨_, rfl, wpAny_pure ⟨_, rfl, hQ _ _ _ c ys (fun b u e => ?_) ⟨g1, o1⟩ hz hc y1 (y2.trans pz) y3⟩⟩
  have q := k1 b u e
  have hlt := Heap.lt_size q
  refine (sortedHeap_old (Nat.ne_of_lt hlt) ?_).trans (Heap.get?_push_of_some _ q)
  rw [size_push']
  exact Nat.lt_succ_of_lt hlt
end
section
variable {X : Cx} {pins : List (Addr × Obj)} {σ : L2.St} {H : Hp} {s : Shared}
theorem held {a : Addr} {ks : List Key} (I : Inv X pins σ H s) (h : H a = some (SetL X.prog X.w a ks)) : Holds X.prog X.w s.heap a ks := (I.hok a _ h).1
theorem key_rel {k : Key} {u : Value} (r : RelV (kV k) u) (P : Program) (w : World) : (mixKind P w).is k u = true ∧ u.scannable = true := by
  cases k with
  | inl i => obtain ⟨t, rfl⟩ := r; exact ⟨mixKind_int P w i t, rfl⟩
  | inr x => obtain ⟨t, rfl⟩ := r; exact ⟨mixKind_str P w x t, rfl⟩
theorem add_inv {a : Addr} {ks : List Key} {k : Key} {u : Value} {A : Around} {E : Value → Shared → Prop} {Q : Value → Shared → Prop} (I : Inv X pins σ H s) (h : H a = some (SetL X.prog X.w a ks)) (r : RelV (kV k) u) (room : ks.length + 1 < scanBound)
    (hQ : ∀ s', Inv X pins σ (upd H a (SetL X.prog X.w a (addL ks k))) s' → Q .none s') : wpAny (model X.prog X.w) A (call (.builtin "set.add") [.ref a, u]) Q E s := by
  obtain ⟨r1, r2⟩ := key_rel r X.prog X.w
  refine add_call r1 r2 (held I h) room fun h' sb R => hQ _ ?_
  exact I.write (e := a) (t' := s.toks + 1) (by rw [h]; trivial) (.inl rfl) (fun b o hb ho => (sb.2 b hb).trans ho) (let ⟨o, ho, _⟩ := R.there; ⟨o, ho⟩) R.new
/-- sorted(found), found a set of texts -/
def rSortedL (P : Program) (w : World) : List V → Hp → VK → Prop := fun vs H Q => ∃ (a : Addr) (xs : List Str), vs = [.ref a] ∧ H a = some (SetL P w a (xs.map Sum.inr)) ∧
  ∀ (ys : List Str) (p : Addr), ys.Perm xs → sortedS ys = true → H p = none → Q (.ref p) (upd H p (.lst (ys.map V.str)))
theorem cr_sortedL (hc : X.calm = true) : CallR X (.builtin "sorted") (rSortedL X.prog X.w) := by
  intro pins s σ H vs us Q I r h
  obtain ⟨a, xs, rfl, ha, q⟩ := h
  rw [Vals.ref1 r]
  have R := held I ha
  have bound : xs.length ≤ sizeLine := by
    obtain ⟨o, es, ep, t, ls, ⟨ho, hx, hd⟩, ⟨pe, pm, nd⟩, ⟨hb, hf⟩, _⟩ := R
    have := pm.length_eq
    rw [pe.length, Array.length_toList, List.length_map] at this
    rw [← this]
    exact fits_of_scanBound hb
  refine sorted_call R (I.ok.hd hc) fun s' p out c ys k go hp hg hi hperm hs => ?_
  have hn : H p = none := I.hok.fresh hp
  have hlen : (ys.map V.str).length ≤ sizeLine := by rw [List.length_map, hperm.length_eq]; exact bound
  have J : Inv X pins σ (upd H p (.lst (ys.map V.str))) s' := I.call' (ch := []) go.2 (Un.laid k hp hn) (I.hok.laid k hp ⟨hlen, out.toList, c, vals_of_strs hi, hg⟩) (by rw [go.1]; exact I.bare) (fun _ z => nomatch z)
  exact ⟨.ref p, _, J, rfl, q ys p hperm hs hn⟩
end
end KnS

set_option Elab.async false
set_option linter.all false
set_option maxRecDepth 100000
set_option maxHeartbeats 4000000
/-! {elt for target in iter if ..}, elt an int or a text. -/
namespace KnS
open PySem PySem.Spec PyProof.Rows L2
section
variable {X : Cx}
abbrev set0 (w : World) : Obj := { cls := .type "set", dict := none, data := .set #[] 0 (.fresh 0 0 (!w.params.followText "set-order")) }
/-- what a turn may reach, and how a comprehension into a set reads -/
def tScL (P : Program) (w : World) (wi : TI) (g : TG) (tt : TT) (te : TE) (vs : List Nat) : TE := fun σ H Q => wi σ H fun J H1 => ∀ D, H1 D = none →
  ∃ W : Nat → Nat → Hp → Prop, (∃ m, W 0 m (upd H1 D (SetL P w D []))) ∧ ∀ i m H, W i m H → (J.stop i H ∧ Q (.ref D) H) ∨
    (J.go i H ∧ ∃ Nx : Hp → Prop, (∀ H', Nx H' → ∃ m', m' < m ∧ W (i + 1) m' H') ∧
      ∀ x H', J.yld i H x H' → g x (wipe σ vs) H' fun σ2 H2 => wipe σ2 vs = wipe σ vs ∧ tt σ2 H2 fun b H3 =>
        if b = true then te σ2 H3 fun y H4 => ∃ (k : Key) (ks : List Key), y = kV k ∧ H4 D = some (SetL P w D ks) ∧ ks.length + 1 < scanBound ∧ Nx (upd H4 D (SetL P w D (addL ks k))) else Nx H3)
theorem scL {elt tg iter : Expr} {ifs : List Expr} {scope : Scope} {own : List (Str × Nat)} {pos : Pos} {wi : TI} {g : TG} {tt : TT} {te : TE}
    (hc : X.calm = true) (hN : X.N.Nodup) (hi : PI X tg iter wi) (ok : BlkOk X.N X.env.scope scope own)
    (hg : ∀ (s : Shared) (H : Hp) (C : Addr) (cl : List (Str × Addr)) (fp : List Addr), PG (X.blk s H scope (compEnvC scope cl C X.env) fp) tg g)
    (ht : ∀ (s : Shared) (H : Hp) (C : Addr) (cl : List (Str × Addr)) (fp : List Addr), PTs (X.blk s H scope (compEnvC scope cl C X.env) fp) ifs tt)
    (he : ∀ (s : Shared) (H : Hp) (C : Addr) (cl : List (Str × Addr)) (fp : List Addr), PE (X.blk s H scope (compEnvC scope cl C X.env) fp) elt te)
    (hs : ∀ x, foldedSetIterable iter X.env x = pure x := by intro _; rfl) :
    PE X (.SetComp elt [⟨tg, iter, ifs, 0⟩] scope pos) (tScL X.prog X.w wi g tt te (own.map (·.2))) := by
  refine ⟨fun pins s σ H Q I h => ?_⟩
  rw [PpSet.eval_SetComp]
  have captured : ∀ y ∈ scope.names, y.2 = .free → ∃ c, X.env.cells.lookup y.1 = some c := fun y hy e =>
    (ok.free y hy e).elim (fun k => I.ok.has _ (.inl k)) fun k => I.ok.has _ (.inr k)
  refine wpAny_comprehension_free (use := none) rfl hs (closure_ok captured) ok.kind (fun y hy e => by rw [ok.uniq y hy, e]) ?_
  refine thn (hi.run pins s σ H _ I h) fun xv s1 hx => thn hx fun itv s2 ⟨it, fp, tn, J, H2, eit, I2, T, st2, f2, q⟩ => ?_
  subst eit
  refine PpSet.newSet_ok (newEnv_comp ?_)
  generalize hD : s2.heap.objs.size = D
  have freeD : H2 D = none := I2.hok.fresh (Nat.le_of_eq hD)
  obtain ⟨W, ⟨m0, w0⟩, turn⟩ := q D freeD
  -- the new set stands
  generalize h3 : s2.heap.push (set0 X.w) = hp3
  have keep3 : ∀ b o, s2.heap.get? b = some o → hp3.get? b = some o := fun b o e => h3 ▸ Heap.get?_push_of_some _ e
  have size3 : hp3.objs.size = s2.heap.objs.size + 1 := by rw [← h3, Heap.size_push]
  have I3 : Inv X pins σ (upd H2 D (SetL X.prog X.w D [])) { s2 with heap := hp3 } := by
    refine I2.laid (t' := s2.toks) keep3 (Nat.le_of_eq hD) (Holds.new ?_)
    rw [← h3, ← hD]
    exact fresh_set _
  have inFp : ∀ b ∈ fp, b < s2.heap.objs.size := fun b hb => let ⟨_, e, _⟩ := T.obj _ _ st2 b hb; Heap.lt_size e
  have f3 : ∀ b ∈ fp, FpOk X pins (upd H2 D (SetL X.prog X.w D [])) b ∧ b < hp3.objs.size := fun b hb =>
    ⟨⟨(upd_ne (by rw [← hD]; exact Nat.ne_of_lt (inFp b hb))).trans (f2 b hb).1, (f2 b hb).2⟩, by rw [size3]; exact Nat.lt_succ_of_lt (inFp b hb)⟩
  have st3 : tn 0 hp3 := T.keep _ _ _ st2 fun b _ => keep3 b
  generalize hH3 : upd H2 D (SetL X.prog X.w D []) = H3 at I3 f3 w0
  generalize hs3 : ({ s2 with heap := hp3 } : Shared) = s3 at I3
  have e3 : s3.heap = hp3 := by rw [← hs3]
  have I4 := block_start I3 ok hN (fun b hb => ⟨(f3 b hb).1, by rw [e3]; exact (f3 b hb).2⟩)
  have clear0 : ∀ b ∈ fp, H3 b = none := fun b hb => (f3 b hb).1.1
  show codeAny _ _ (.compStart (.SetComp elt [⟨tg, iter, ifs, 0⟩] scope pos) 0 (.ref it) (.ref D) (compEnvC scope (cellsFrom (s3.heap.objs.size + 1) scope.names (cloFrom X.env.cells scope.names [])) s3.heap.objs.size X.env))
    (compPost (model X.prog X.w) X.A X.xe none (EP X pins σ Q) (.ref D) s3.heap.objs.size) { s3 with heap := pushCells (s3.heap.push { cls := .type "dict", data := .dict #[] }) scope.names }
  have pg := hg s3 H3 s3.heap.objs.size (cellsFrom (s3.heap.objs.size + 1) scope.names (cloFrom X.env.cells scope.names [])) fp
  have pt := ht s3 H3 s3.heap.objs.size (cellsFrom (s3.heap.objs.size + 1) scope.names (cloFrom X.env.cells scope.names [])) fp
  have pe := he s3 H3 s3.heap.objs.size (cellsFrom (s3.heap.objs.size + 1) scope.names (cloFrom X.env.cells scope.names [])) fp
  have home : (compEnvC scope (cellsFrom (s3.heap.objs.size + 1) scope.names (cloFrom X.env.cells scope.names [])) s3.heap.objs.size X.env).locals = s3.heap.objs.size := rfl
  generalize compEnvC scope (cellsFrom (s3.heap.objs.size + 1) scope.names (cloFrom X.env.cells scope.names [])) s3.heap.objs.size X.env = ce at I4 pg pt pe home ⊢
  have st4 : tn 0 ({ s3 with heap := pushCells (s3.heap.push { cls := .type "dict", data := .dict #[] }) scope.names } : Shared).heap := by
    refine T.keep _ _ _ st3 fun b _ o e => pushCells_keeps _ _ _ _ (Heap.get?_push_of_some _ ?_)
    rw [e3]
    exact e
  generalize ({ s3 with heap := pushCells (s3.heap.push { cls := .type "dict", data := .dict #[] }) scope.names } : Shared) = s4 at I4 ⊢ st4
  have own0 : ∀ {σ' : L2.St} {H' : Hp} {s' : Shared}, Inv (X.blk s3 H3 scope ce fp) [] σ' H' s' → (∀ b ∈ fp, H' b = none) → ∀ b ∈ fp, FpOk (X.blk s3 H3 scope ce fp) [] H' b := fun I' cl b hb =>
    ⟨cl b hb, (I'.ok.exf b hb).1, I'.ok.exfs b hb, .inl hb, (fun x c e => (I'.ok.exf b hb).2 x c e), fun p hp => by cases List.mem_append.mp hp <;> rename_i z <;> exact absurd z List.not_mem_nil⟩
  have loop : codeAny (model X.prog X.w) X.A (.compLoop (.SetComp elt [⟨tg, iter, ifs, 0⟩] scope pos) 0 (.ref it) (.ref D) ce) (compPost (model X.prog X.w) X.A X.xe none (EP X pins σ Q) (.ref D) s3.heap.objs.size) s4 := by
    refine PpSet.compLoopS_any (fun n s' => ∃ i H', (Inv (X.blk s3 H3 scope ce fp) [] (wipe σ (own.map (·.2))) H' s' ∧ tn i s'.heap) ∧ (∀ b ∈ fp, H' b = none) ∧ W i n H') ?_ m0 ⟨0, H3, ⟨I4, st4⟩, clear0, w0⟩
    rintro n s5 ⟨i, H5, ⟨I5, st5⟩, cl5, w5⟩
    rcases turn i n H5 w5 with ⟨stop, fine⟩ | ⟨go, Nx, hNx, step⟩
    · refine thnF (T.done (X.blk s3 H3 scope ce fp) rfl rfl rfl hc i [] s5 _ H5 (fun _ _ => False) I5 (own0 I5 cl5) st5 stop) fun r s6 ⟨er, I6⟩ => ?_
      subst er
      have I7 : Inv X pins σ H5 s6 := I3.call' (ch := fp) I6.os I6.base I6.hok I6.bare fun b hb =>
        let f := (f3 b hb).1.2; ⟨f.2.2.1, f.1, f.2.2.2.1, f.2.2.2.2⟩
      have free5 : H5 s3.heap.objs.size = none := home ▸ I6.free
      obtain ⟨m, hn, _⟩ := I6.loc
      obtain ⟨_, k1, k2, k3, k4, k5⟩ := I3.fpOk (Nat.le_refl _) free5
      exact ⟨m, home ▸ hn, fun h'' sb => ⟨.ref D, H5, I7.turned (t' := s6.toks) (fun b o hb e => (sb.2 b hb).trans e) free5 k1 k3 k4 k5, rfl, fine⟩⟩
    · refine thnF (T.item (X.blk s3 H3 scope ce fp) rfl rfl rfl hc i [] s5 _ H5 (fun _ _ => False) I5 (own0 I5 cl5) st5 go) fun r s6 ⟨u, er, h6⟩ => ?_
      subst er
      refine thnF h6 fun _ s7 ⟨x, H7, I7, r7, y7, st7, cl7⟩ => ?_
      refine thnF (pg.run _ s7 _ H7 x u _ (I7.pinned (own0 I7 cl7) (T.obj _ _ st7)) r7 (step x H7 y7)) fun _ s8 ⟨σ8, H8, I8, same8, q8⟩ => thnF (pt.run _ s8 σ8 H8 _ I8 q8) fun b s9 ⟨H9, I9, q9⟩ => ?_
      have closed : ∀ {s' : Shared} {H' : Hp}, Inv (X.blk s3 H3 scope ce fp) ([] ++ pinsAt fp s7.heap) σ8 H' s' → Nx H' → ∃ m, m < n ∧ ∃ i H', (Inv (X.blk s3 H3 scope ce fp) [] (wipe σ (own.map (·.2))) H' s' ∧ tn i s'.heap) ∧ (∀ b ∈ fp, H' b = none) ∧ W i m H' := fun {s' H'} I' nx => by
        obtain ⟨m', less, w'⟩ := hNx H' nx
        have pinned : ∀ b ∈ fp, ∀ o, s7.heap.get? b = some o → s'.heap.get? b = some o ∧ H' b = none := fun b hb o e =>
          have z := I'.pin (b, o) (List.mem_append_right _ (List.mem_append_right _ (mem_pinsAt hb e)))
          ⟨z.1, z.2.1⟩
        have len8 : (wipe σ (own.map (·.2))).length = σ8.length := (congrArg List.length same8).symm.trans (wipe_length _ _)
        refine ⟨m', less, i + 1, H', ⟨(I'.unpinned (pins := [])).weak len8 fun j v e => ?_, T.keep _ _ _ st7 fun b hb o e => (pinned b hb o e).1⟩, fun b hb => ?_, w'⟩
        · exact (wipe_some (same8 ▸ e)).1
        · obtain ⟨o, e, _⟩ := T.obj _ _ st7 b hb
          exact (pinned b hb o e).2
      cases b with
      | false => exact closed I9 q9
      | true =>
        refine thnF (pe.run _ s9 σ8 H9 _ I9 q9) fun z s10 ⟨yv, H10, I10, r10, k, ks, ey, eD, room, nx⟩ => ?_
        subst ey
        exact add_inv (X := X.blk s3 H3 scope ce fp) I10 eD r10 room fun s11 I11 => closed I11 nx
  exact PpSet.codeAny_compStart_set loop (T.self X.A 0 _ _ _ st4 loop)
end
end KnS

set_option Elab.async false
set_option linter.all false
set_option maxRecDepth 100000
set_option maxHeartbeats 4000000
/-! set(a list of ints and texts). -/
namespace KnS
open PySem PySem.Spec PyProof.Rows L2
def allL (ks : List Key) : List Key := ks.foldl addL []
theorem mem_foldL {x : Key} : ∀ {l acc : List Key}, x ∈ l.foldl addL acc ↔ x ∈ acc ∨ x ∈ l := by
  intro l
  induction l with
  | nil => intro acc; exact ⟨.inl, fun h => h.elim id (fun z => nomatch z)⟩
  | cons y l ih =>
    intro acc
    rw [List.foldl_cons, ih, mem_addL, List.mem_cons]
    constructor
    · rintro ((h | h) | h)
      · exact .inl h
      · exact .inr (.inl h)
      · exact .inr (.inr h)
    · rintro (h | h | h)
      · exact .inl (.inl h)
      · exact .inl (.inr h)
      · exact .inr h
theorem mem_allL {x : Key} {l : List Key} : x ∈ allL l ↔ x ∈ l := mem_foldL.trans ⟨fun h => h.elim (fun z => nomatch z) id, .inr⟩
theorem addL_nodup {ks : List Key} {k : Key} (h : ks.Nodup) : (addL ks k).Nodup := by
  unfold addL
  by_cases z : hasL ks k = true
  · rw [if_pos z]; exact h
  · rw [if_neg z]
    exact List.nodup_append.mpr ⟨h, List.nodup_cons.mpr ⟨(fun z => nomatch z), List.nodup_nil⟩, fun u hu v hv e => z (hasL_iff.mpr (by rw [← List.mem_singleton.mp hv, ← e]; exact hu))⟩
theorem foldL_nodup : ∀ {l acc : List Key}, acc.Nodup → (l.foldl addL acc).Nodup
  | [], _, h => h
  | k :: l, _, h => foldL_nodup (l := l) (addL_nodup h)
theorem addL_length (ks : List Key) (k : Key) : (addL ks k).length ≤ ks.length + 1 := by
  unfold addL
  by_cases z : hasL ks k = true
  · rw [if_pos z]; omega
  · rw [if_neg z, List.length_append]; exact Nat.le_refl _
theorem foldL_length : ∀ (l acc : List Key), (l.foldl addL acc).length ≤ acc.length + l.length
  | [], _ => Nat.le_refl _
  | k :: l, acc => by
    have h1 := foldL_length l (addL acc k)
    have h2 := addL_length acc k
    rw [List.foldl_cons, List.length_cons]
    omega
section
variable {P : Program} {w : World} {A : Around} {E : Value → Shared → Prop} {s : Shared}
/-- set.__new__(set, a): a new empty set, led where the order is not by the text -/
theorem new_set (a : Value) {Q₁ : Value → Shared → Prop} (h : Q₁ (.ref s.heap.objs.size) { s with heap := s.heap.push { cls := .type "set", dict := none, data := .set #[] 0 (.fresh 0 0 (!w.params.followText "set-order")) } }) :
    codeAny (model P w) A (.call (.builtin "set.__new__") ⟨[.type "set", a], []⟩) (wants Q₁ E) s := by
  refine codeAny_of_tree (show wpAny _ A.in1 (do checkBuiltinCall "set.__new__" ⟨[.type "set", a], []⟩; again (.builtin "set.__new__" ⟨[.type "set", a], []⟩)) _ _ s from ?_)
  refine wpAny_bind (wpAny_of_eq (F.newCall_set_1 a) (wpAny_pure ⟨plainId_quiet F.plain_set_new _, codeAny_builtin F.entry_set_new ?_⟩))
  rw [Around.under_plainId F.plain_set_new _]
  unfold Builtin.«set.__new__» Builtin.Frozenset.newClass
  have hsub := sub_set_self
  obtain ⟨hp, g, d, tk, os⟩ := s
  dsimp only
  wp_walk
  refine wpAny_askSetting (wpAny_pure ?_)
  dsimp only
  simp only [newObj]
  exact wpAny_bind (wpAny_alloc (wpAny_pure (wpAny_pure h)))
/-- the loop of set(v) -/
theorem update_loop {I S : Addr} {fp wr : List Addr} {G : Array GenState → Array GenState → Prop} {ks : List Key} {Pv : Nat → Value → Prop} {St : Nat → Shared → Prop} {R : Result → Shared → Prop}
    (W : WalksS P w A.in1 I fp wr G ks.length Pv St) (hSf : S ∉ fp) (hval : ∀ i v k, Pv i v → ks[i]? = some k → (mixKind P w).is k v = true ∧ v.scannable = true) (room : ks.length + 1 < scanBound) :
    ∀ (k i : Nat) (s : Shared), ks.length - i = k → i ≤ ks.length → St i s → Holds P w s.heap S (allL (ks.take i)) →
      (∀ s', Moved (S :: wr) G s s' → Holds P w s'.heap S (allL ks) → R (.ok (.ret .none)) s') → codeAny (model P w) A (.builtin "set.update.loop" ⟨[.ref S, .ref I], []⟩) R s := by
  have hSw : S ∉ wr := fun h => hSf (W.sub _ h)
  have more : ∀ b ∈ wr, b ∈ S :: wr := fun b hb => List.mem_cons_of_mem _ hb
  intro k
  induction k with
  | zero =>
    intro i s hk hi hst hS hR
    obtain rfl : i = ks.length := by omega
    refine codeAny_builtin PyProof.Rows.F.entry_set_update_loop ?_
    rw [Around.under_plainId PyProof.Rows.F.plain_set_update_loop _]
    show wpAny _ A.in1 (pyNext (.ref I) >>= _) _ _ s
    refine wpAny_bind (W.done s _ _ hst fun s' hm => (show wpAny _ A.in1 (ret Value.none) _ _ s' from wpAny_pure (hR s' (hm.mono more) ?_)))
    rw [List.take_length] at hS
    exact hS.keep fun o ho => hm.heap S o hSw ho
  | succ k ih =>
    intro i s hk hi hst hS hR
    have lt : i < ks.length := by omega
    have at_ : ks[i]? = some ks[i] := List.getElem?_eq_getElem lt
    refine codeAny_builtin PyProof.Rows.F.entry_set_update_loop ?_
    rw [Around.under_plainId PyProof.Rows.F.plain_set_update_loop _]
    show wpAny _ A.in1 (pyNext (.ref I) >>= _) _ _ s
    refine wpAny_bind (W.item i s _ _ lt hst fun v s' hP hst' hm => ?_)
    obtain ⟨v1, v2⟩ := hval i v _ hP at_
    have hS' : Holds P w s'.heap S (allL (ks.take i)) := hS.keep fun o ho => hm.heap S o hSw ho
    have len : (allL (ks.take i)).length + 1 < scanBound := by
      have h1 := foldL_length (ks.take i) []
      rw [List.length_take] at h1
      have h2 : ([] : List Key).length = 0 := rfl
      unfold allL
      omega
    show wpAny _ A.in1 (holding [v] (setAdd S v) >>= _) _ _ s'
    refine wpAny_bind (wpAny_holding ?_)
    unfold setAdd
    refine wpAny_holding (wpAny_bind ((mixKind P w).pyHash v1 ?_))
    refine add_scan (s := { s' with toks := s'.toks + 1 }) v1 v2 hS' len fun b h' hsb hS2 => ?_
    have e2 : allL (ks.take (i + 1)) = addL (allL (ks.take i)) ks[i] := by
      unfold allL
      rw [List.take_add_one, at_, List.foldl_append]
      rfl
    refine wpAny_pure ⟨plainId_quiet PyProof.Rows.F.plain_set_update_loop _, ih (i + 1) _ (by omega) lt (W.frame _ s' _ _ hst' (Nat.le_succ _) fun b hb o e => ?_) (by rw [e2]; exact hS2) fun s'' hm'' hS'' => ?_⟩
    · exact (hsb.2 b fun h => hSf (h ▸ hb)).trans e
    · refine hR s'' (Moved.trans W.gtrans ((hm.mono more).then_heap (Nat.le_succ _) fun b o hb e => ?_) hm'') hS''
      exact (hsb.2 b fun h => hb (h ▸ List.mem_cons_self)).trans e

set_option maxHeartbeats 3200000 in
theorem set_call {l : Addr} {items : List Value} {ks : List Key} {Q : Value → Shared → Prop} (hh : A.handled = none) (hl : s.heap.IsList l items.toArray) (hk : Paired (fun k v => (mixKind P w).is k v = true ∧ v.scannable = true) ks items) (room : ks.length + 1 < scanBound)
    (h : ∀ (h' : Heap) (tk : Nat), Holds P w h' s.heap.objs.size (allL ks) → (∀ b o, b < s.heap.objs.size → s.heap.get? b = some o → h'.get? b = some o) → Q (.ref s.heap.objs.size) { s with heap := h', toks := tk }) :
    wpAny (model P w) A (call (.type "set") [.ref l]) Q E s := by
  have ⟨c, tl, hmro⟩ := PySem.F.called_set.mro
  have made := PySem.F.called_set.made
  have sub := PySem.F.called_set.sub
  refine wpAny_call (codeAny_of_tree (show wpAny _ _ (callAny (.type "set") _) _ _ _ from wpAny_pure ⟨Code.quiet_builtin _ (by decide +kernel), codeAny_builtin PySem.F.entry_type_call ?_⟩))
  rw [Around.under_plain (weight_type_call_type "set" [.ref l] []) rfl]
  have u1 := PySem.F.called_set.notType
  have u2 := PySem.F.called_set.canCreate
  have u3 := PySem.F.typeCall_set_1 (.ref l)
  repeat (any_goals (first | assumption | wp_step))
  have R0 := fresh_set (P := P) (w := w) s.heap
  have made0 := new_set (P := P) (w := w) (A := A.in1) (s := s) (.ref l) (E := E) (Q₁ := fun obj s₁ => obj = .ref s.heap.objs.size ∧ s₁ = { s with heap := s.heap.push { cls := .type "set", dict := none, data := .set #[] 0 (.fresh 0 0 (!w.params.followText "set-order")) } }) ⟨rfl, rfl⟩
  generalize (!w.params.followText "set-order") = led at made0 R0
  refine codeAny_mono made0 fun r s₁ hr => ?_
  match r, hr with
  | .error e, hr => exact hr
  | .ok .next, hr => exact hr.elim
  | .ok .brk, hr => exact hr.elim
  | .ok .cont, hr => exact hr.elim
  | .ok (.ret obj), hr =>
    obtain ⟨rfl, rfl⟩ := hr
    have hS : (s.heap.push { cls := .type "set", dict := none, data := .set #[] 0 (.fresh 0 0 led) }).get? s.heap.objs.size = some { cls := .type "set", dict := none, data := .set #[] 0 (.fresh 0 0 led) } := Heap.get?_push_size _ rfl
    have hT : Shared.TypeIs { s with heap := s.heap.push { cls := .type "set", dict := none, data := .set #[] 0 (.fresh 0 0 led) } } (.ref s.heap.objs.size) "set" := ⟨_, hS, rfl⟩
    have i1 := PySem.F.called_set.init.lookup
    have i2 := PySem.F.called_set.init.bind (.ref s.heap.objs.size)
    repeat (any_goals (first | assumption | wp_step))
    refine codeAny_mono (codeAny_call_builtin (R := wants (fun r s₂ => r = .none ∧ ∃ h' tk, s₂ = { s with heap := h', toks := tk } ∧ Holds P w h' s.heap.objs.size (allL ks) ∧ ∀ b o, b < s.heap.objs.size → s.heap.get? b = some o → h'.get? b = some o) E)
      PySem.F.called_set.init.plain PySem.F.entry_set_init (check_set_init_1 hT ?_)) fun r₂ s₂ hr₂ => ?_
    · have hlS : l < s.heap.objs.size := let ⟨o, e, _⟩ := hl; Heap.lt_size e
      have hl1 : (s.heap.push { cls := .type "set", dict := none, data := .set #[] 0 (.fresh 0 0 led) }).IsList l items.toArray := hl.at fun o e => Heap.get?_push_of_some _ e
      obtain ⟨⟨ocls, odict, odata, oslots⟩, hol, hcl, nl, hdl⟩ := hl1
      simp only at hcl hdl
      subst hcl hdl
      have n1 := PySem.F.sub_list_set
      have n2 := PySem.F.sub_list_frozenset
      have n3 : (Value.type "list" == Value.type "dict") = false := by decide
      unfold Builtin.«set.__init__» noKeywords Builtin.Frozenset.updateFrom
      generalize hPI : pyIter = PI
      wp_walk
      subst hPI
      have hl2 : (s.heap.push { cls := .type "set", dict := none, data := .set #[] 0 (.fresh 0 0 led) }).IsList l items.toArray := ⟨_, hol, rfl, nl, rfl⟩
      refine wpAny_pyIter_list hl2 ?_
      refine wpAny_bind (wpAny_runValue ?_)
      have zz : (s.heap.push { cls := .type "set", dict := none, data := .set #[] 0 (.fresh 0 0 led) }).objs.size = s.heap.objs.size + 1 := Heap.size_push ..
      have hneI : l ≠ (s.heap.push { cls := .type "set", dict := none, data := .set #[] 0 (.fresh 0 0 led) }).objs.size := by rw [zz]; exact Nat.ne_of_lt (Nat.lt_succ_of_lt hlS)
      have len : ks.length = items.toArray.size := hk.length.trans List.size_toArray.symm
      have W := (Walks.list (prog := P) (w := w) (A := A.in1.in1.in1) (by simpa using hh) (s.heap.push { cls := .type "set", dict := none, data := .set #[] 0 (.fresh 0 0 led) }).objs.size l hneI items.toArray).toS
      rw [← len] at W
      refine update_loop W (fun z => ?_) (fun i v k hv hki => ?_) room (ks.length - 0) 0 _ rfl (Nat.zero_le _) ⟨⟨_, Heap.get?_push_size _ rfl, rfl, rfl⟩, hl2.at fun o e => Heap.get?_push_of_some _ e⟩ ?_ fun s' hm hS' => ?_
      · rcases List.mem_cons.mp z with z | z
        · rw [zz] at z
          exact Nat.ne_of_lt (Nat.lt_succ_self _) z
        · exact Nat.ne_of_lt hlS (List.mem_singleton.mp z).symm
      · rw [List.getElem?_toArray] at hv
        have : ∀ {ks : List Key} {its : List Value} {i : Nat}, Paired (fun k v => (mixKind P w).is k v = true ∧ v.scannable = true) ks its → ks[i]? = some k → its[i]? = some v → (mixKind P w).is k v = true ∧ v.scannable = true := by
          intro ks its i hp
          induction hp generalizing i with
          | nil => intro z; cases z
          | cons r _ ih =>
            cases i with
            | zero => intro a b; cases a; cases b; exact r
            | succ i => exact fun a b => ih (i := i) a b
        exact this hk hki hv
      · exact R0.keep fun o e => Heap.get?_push_of_some _ e
      · obtain ⟨h', g', d', tk', os'⟩ := s'
        obtain rfl : g' = s.gens := hm.gens
        obtain rfl : d' = s.drawn := hm.drawn
        obtain rfl : os' = s.os := hm.os
        refine wpAny_pure (show wpAny _ _ (ret Value.none) _ _ _ from wpAny_pure ⟨rfl, h', tk', rfl, hS', fun b o hb e => ?_⟩)
        refine hm.heap b o (fun z => ?_) (Heap.get?_push_of_some _ (Heap.get?_push_of_some _ e))
        rcases List.mem_cons.mp z with z | z
        · exact Nat.ne_of_lt hb z
        · have e1 := List.mem_singleton.mp z
          rw [zz] at e1
          exact Nat.ne_of_lt (Nat.lt_succ_of_lt hb) e1
    · match r₂, hr₂ with
      | .error e, hr₂ => exact hr₂
      | .ok .next, hr₂ => exact hr₂.elim
      | .ok .brk, hr₂ => exact hr₂.elim
      | .ok .cont, hr₂ => exact hr₂.elim
      | .ok (.ret r), hr₂ =>
        obtain ⟨rfl, h', tk, rfl, hS', hk'⟩ := hr₂
        repeat (any_goals (first | assumption | wp_step))
        exact h _ _ hS' hk'
end
section
variable {X : Cx}
/-- set(xs), xs a list of ints and texts -/
def rSetOf (K : PySem.W.Frag) (P : Program) (w : World) : List V → Hp → VK → Prop := fun vs H Q => ∃ (a : Addr) (ks : List Key), vs = [.ref a] ∧ SqL K H a (ks.map kV) ∧ ks.length + 1 < scanBound ∧ ∀ p, H p = none → Q (.ref p) (upd H p (SetL P w p (allL ks)))
theorem cr_setOf (hc : X.calm = true) : CallR X (.type "set") (rSetOf X.K X.prog X.w) := by
  intro pins s σ H vs us Q I r h
  obtain ⟨a, ks, rfl, hs, room, q⟩ := h
  rw [Vals.ref1 r]
  obtain ⟨its, rv, pl, hz⟩ := I.list hs
  have hk : ∀ {ks : List Key} {its : List Value}, Vals (ks.map kV) its → Paired (fun k v => (mixKind X.prog X.w).is k v = true ∧ v.scannable = true) ks its := by
    intro ks
    induction ks with
    | nil => intro its hp; cases hp; exact .nil
    | cons k ks ih =>
      intro its hp
      cases hp with
      | cons r t => exact .cons (key_rel r X.prog X.w) (ih t)
  refine set_call (I.ok.hd hc) pl.isList (hk rv) room fun h' tk R k => ?_
  have J : Inv X pins σ (upd H s.heap.objs.size (SetL X.prog X.w s.heap.objs.size (allL ks))) { s with heap := h', toks := tk } :=
    I.laid (t' := tk) (fun b o e => k b o (Heap.lt_size e) e) (Nat.le_refl _) R.new
  exact ⟨.ref _, _, J, rfl, q _ (I.hok.fresh (Nat.le_refl _))⟩
end
end KnS

set_option Elab.async false
set_option linter.all false
set_option maxRecDepth 100000
set_option maxHeartbeats 4000000
/-! What is walked may be a list or a tuple: the for loop over it, and over enumerate of it. -/
namespace KnE
open PySem PySem.Spec PyProof.Rows L2
/-- a list (true) or a tuple (false) -/
def Sq (K : PySem.W.Frag) (b : Bool) (H : Hp) (a : Addr) (xs : List V) : Prop := match b with | true => SqL K H a xs | false => SqT K H a xs
def ItS (K : PySem.W.Frag) (b : Bool) (a : Addr) : It := match b with | true => Itl K a | false => Itt K a
def iSeq (K : PySem.W.Frag) (te : TE) : TI := fun σ H R => te σ H fun x H1 => ∃ a b, x = .ref a ∧ (∃ xs, Sq K b H1 a xs) ∧ R (ItS K b a) H1
section
variable {X : Cx} {tg : Expr}
theorem pi_seq {e : Expr} {te : TE} (he : PE X e te) : PI X tg e (iSeq X.K te) := by
  refine ⟨fun pins s σ H R I h => thn (he.run pins s σ H _ I h) fun v s1 ⟨x, H1, I1, r1, a, b, ex, ⟨xs, hq⟩, q⟩ => ?_⟩
  subst ex
  cases r1
  cases b with
  | true =>
    obtain ⟨its, rv, p, hz⟩ := I1.list hq
    exact wpAny_pyIter_list p.isList (pi_one (tk := s1.toks) I1 _ (turn_list a _) ⟨_, Heap.get?_push_size _ rfl, rfl, rfl⟩ q)
  | false =>
    obtain ⟨its, rv, p, hz⟩ := I1.tuple hq
    exact wpAny_pyIter_tuple (show s1.heap.IsTuple a its.toArray from p) (pi_one (tk := s1.toks) I1 _ (turn_tuple a _) ⟨_, Heap.get?_push_size _ rfl, rfl, rfl⟩ q)
end
theorem Sq.inj {X : Cx} {pins : List (Addr × Obj)} {σ : L2.St} {H : Hp} {s : Shared} {b : Bool} {a : Addr} {xs ys : List V} (I : Inv X pins σ H s) (h : Sq X.K b H a xs) (h' : Sq X.K b H a ys) : xs = ys := by
  cases b with
  | true => exact I.list_inj h h'
  | false => exact I.tuple_inj h h'
/-- the for loop over a list or tuple that the body leaves as it is -/
theorem for_seq {K : PySem.W.Frag} {b : Bool} {a : Addr} {xs : List V} {g : TG} {tb : TS} {D : Ends} {σ : L2.St} {H : Hp} (Pv : Nat → L2.St → Hp → Prop) (h0 : Pv 0 σ H) (hl : ∀ i σ H, i ≤ xs.length → Pv i σ H → Sq K b H a xs)
    (hs : ∀ i x σ H, xs[i]? = some x → Pv i σ H → g x σ H fun σ2 H2 => tb { D with nx := Pv (i + 1), ct := Pv (i + 1), bk := D.nx } σ2 H2) (hd : ∀ σ H, Pv xs.length σ H → D.nx σ H) :
    ∃ W : Nat → Nat → L2.St → Hp → Prop, (∃ m, W 0 m σ H) ∧ ∀ i m σ H, W i m σ H →
      ((ItS K b a).stop i H ∧ D.nx σ H) ∨ ((ItS K b a).go i H ∧ ∃ N : L2.St → Hp → Prop, (∀ σ' H', N σ' H' → ∃ m', m' < m ∧ W (i + 1) m' σ' H') ∧
        ∀ x H', (ItS K b a).yld i H x H' → g x σ H' fun σ2 H2 => tb { D with nx := N, ct := N, bk := D.nx } σ2 H2) := by
  cases b with
  | true => exact for_list (K := K) (a := a) (xs := xs) Pv h0 hl hs hd
  | false => exact for_tup (K := K) (a := a) (xs := xs) Pv h0 hl hs hd
/-! ### enumerate -/
def Liv (b : Bool) (h : Heap) (a : Addr) (its : List Value) : Prop := match b with | true => h.IsList a its.toArray | false => h.IsTuple a its.toArray
def iterAt (b : Bool) (h : Heap) (it a : Addr) (i : Nat) : Prop := match b with | true => h.IsListIter it a i | false => h.IsTupleIter it a i
/-- (0, x0), (1, x1), .., each a new tuple -/
def ItN (K : PySem.W.Frag) (b : Bool) (a : Addr) : It where
  go := fun i H => ∃ (xs : List V) (x : V), Sq K b H a xs ∧ xs[i]? = some x
  yld := fun i H v H' => ∃ T x, v = .ref T ∧ H T = none ∧ H' = upd H T (.tup [.int (i : Nat), x]) ∧ ∀ xs, Sq K b H a xs → xs[i]? = some x
  stop := fun i H => ∃ xs : List V, Sq K b H a xs ∧ xs.length = i
theorem iterAt.mono {b : Bool} {h h' : Heap} {it a : Addr} {i : Nat} (x : iterAt b h it a i) (k : ∀ o, h.get? it = some o → h'.get? it = some o) : iterAt b h' it a i := by
  cases b with
  | true => exact Heap.IsListIter.at x k
  | false => exact Heap.IsTupleIter.at x k
theorem iterAt.plain {b : Bool} {h : Heap} {it a : Addr} {i : Nat} (x : iterAt b h it a i) : ∃ o, h.get? it = some o ∧ ∀ v, o.data ≠ .cell v := by
  cases b with
  | true => obtain ⟨o, e, _, d⟩ := x; exact ⟨o, e, fun v z => by rw [d] at z; cases z⟩
  | false => obtain ⟨o, e, _, d⟩ := x; exact ⟨o, e, fun v z => by rw [d] at z; cases z⟩
section
variable {P : Program} {w : World} {A : Around} {E : Value → Shared → Prop} {s : Shared}
/-- one more of an enumeration, of either kind -/
theorem enum_item {b : Bool} {e it a : Addr} {i : Nat} {its : List Value} {u old : Value} {Q : Option Value → Shared → Prop} (hh : A.handled = none) (he : IsEnum s.heap e it i old) (hit : iterAt b s.heap it a i)
    (hp : Liv b s.heap a its) (hu : its[i]? = some u) (hne : e ≠ it) (hae : a ≠ e) (hai : a ≠ it)
    (hQ : ∀ h' tk, IsEnumOut h' e it ((i : Int) + 1) u s.heap.objs.size → iterAt b h' it a (i + 1) → h'.get? s.heap.objs.size = some { cls := .type "tuple", data := .seq #[.int i tk, u] } →
      (∀ b o, b ≠ e → b ≠ it → s.heap.get? b = some o → h'.get? b = some o) → Q (some (.ref s.heap.objs.size)) { s with heap := h', toks := tk + 1 }) : wpAny (model P w) A (pyNext (.ref e)) Q E s := by
  have hlt : i < its.toArray.size := by
    rw [List.size_toArray]
    exact (List.getElem?_eq_some_iff.mp hu).1
  have hef : e ∉ [it, a] := fun z => by
    rcases List.mem_cons.mp z with z | z
    · exact hne z
    · exact hae (List.mem_singleton.mp z).symm
  have same : ∀ {x : Value}, its.toArray[i]? = some x → x = u := fun {x} z => by
    rw [List.getElem?_toArray, hu] at z
    exact (Option.some.inj z).symm
  cases b with
  | true =>
    refine wpAny_pyNext_enum_itemD (Draws.list (A := A.in1) hh it a hai its.toArray) he ⟨hit, hp⟩ hlt hne hef fun x h' tk hP ho hs' hT hsz hk => ?_
    rw [same hP] at ho hT
    exact hQ h' tk ho hs'.1 hT hk
  | false =>
    refine wpAny_pyNext_enum_itemD (Draws.tuple (A := A.in1) hh it a hai its.toArray) he ⟨hit, hp⟩ hlt hne hef fun x h' tk hP ho hs' hT hsz hk => ?_
    rw [same hP] at ho hT
    exact hQ h' tk ho hs'.1 hT hk
theorem enum_end {b : Bool} {e it a : Addr} {i : Nat} {its : List Value} {old : Value} {Q : Option Value → Shared → Prop} (hh : A.handled = none) (he : IsEnum s.heap e it i old) (hit : iterAt b s.heap it a i)
    (hp : Liv b s.heap a its) (hi : i = its.length) (hai : a ≠ it)
    (hQ : ∀ h', Heap.ExtBut it s.heap h' → Q none { s with heap := h' }) : wpAny (model P w) A (pyNext (.ref e)) Q E s := by
  subst hi
  have z : its.toArray.size = its.length := List.size_toArray
  cases b with
  | true => exact wpAny_pyNext_enum_endD (Draws.list (A := A.in1) hh it a hai its.toArray) he ⟨z ▸ hit, hp⟩ hQ
  | false => exact wpAny_pyNext_enum_endD (Draws.tuple (A := A.in1) hh it a hai its.toArray) he ⟨z ▸ hit, hp⟩ hQ
end
theorem sq_lives {X : Cx} {pins : List (Addr × Obj)} {σ : L2.St} {H : Hp} {s : Shared} {b : Bool} {a : Addr} {xs : List V} (I : Inv X pins σ H s) (h : Sq X.K b H a xs) :
    ∃ its : List Value, Vals xs its ∧ Liv b s.heap a its := by
  cases b with
  | true => obtain ⟨its, rv, p, _⟩ := I.list h; exact ⟨its, rv, p.isList⟩
  | false => obtain ⟨its, rv, p, _⟩ := I.tuple h; exact ⟨its, rv, p⟩
theorem lives_ne {b : Bool} {h : Heap} {a : Addr} {its : List Value} {e : Addr} {o : Obj} {n : String} (p : Liv b h a its) (he : h.get? e = some o) (hc : o.cls = .type n) (n1 : n ≠ "list") (n2 : n ≠ "tuple") : a ≠ e := by
  rintro rfl
  cases b with
  | true => obtain ⟨o', e', c', _⟩ := p; rw [he] at e'; cases e'; rw [hc] at c'; cases c'; exact n1 rfl
  | false => obtain ⟨o', e', c', _⟩ := p; rw [he] at e'; cases e'; rw [hc] at c'; cases c'; exact n2 rfl
theorem iterAt.cls {b : Bool} {h : Heap} {it a : Addr} {i : Nat} (x : iterAt b h it a i) : ∃ o n, h.get? it = some o ∧ o.cls = .type n ∧ n ≠ "list" ∧ n ≠ "tuple" := by
  cases b with
  | true => obtain ⟨o, e, c, _⟩ := x; exact ⟨o, _, e, c, by decide, by decide⟩
  | false => obtain ⟨o, e, c, _⟩ := x; exact ⟨o, _, e, c, by decide, by decide⟩
theorem turn_en {P : Program} {w : World} {K : PySem.W.Frag} {elts : List Expr} {kk : Nat} {tpos : Pos} (b : Bool) (a e it : Addr) :
    Turn P w K (.Tuple elts kk tpos) (ItN K b a) [e, it] e (fun i h => (∃ old, IsEnum h e it ((i : Nat) : Int) old) ∧ iterAt b h it a i ∧ e ≠ it) where
  mem := List.mem_cons_self
  obj := fun i h ⟨⟨old, he⟩, hi, _⟩ c hc => by
    rcases List.mem_cons.mp hc with z | z
    · rw [z]; exact ⟨_, he, fun v q => nomatch q⟩
    · rw [List.mem_singleton.mp z]; exact hi.plain
  keep := fun i h h' ⟨⟨old, he⟩, hi, hne⟩ k => ⟨⟨old, k e List.mem_cons_self _ he⟩, hi.mono fun o q => k it (List.mem_cons_of_mem _ List.mem_cons_self) o q, hne⟩
  self := fun A i s Q E ⟨⟨_, he⟩, _⟩ h => wpAny_pyIter_enum he h
  done := by
    intro X hP hw hK hc i pins s σ H E I hf ⟨⟨old, he⟩, hit, hne⟩ ⟨xs, hq, hx⟩
    subst hP hw hK
    obtain ⟨its, rv, p⟩ := sq_lives I hq
    obtain ⟨oi, ni, hoi, ci, ni1, ni2⟩ := hit.cls
    obtain ⟨f0, f1, f2, f3, f4, f5⟩ := hf it (List.mem_cons_of_mem _ List.mem_cons_self)
    refine enum_end (I.ok.hd hc) he hit p (hx.symm.trans rv.length) (lives_ne p hoi ci ni1 ni2) fun h' eb => ?_
    exact ⟨rfl, I.turned (t' := s.toks) (fun c o hb q => eb c o hb q) f0 f1 f3 f4 f5⟩
  item := by
    intro X hP hw hK hc i pins s σ H E I hf ⟨⟨old, he⟩, hit, hne⟩ ⟨xs, x, hq, hx⟩
    subst hP hw hK
    obtain ⟨its, rv, p⟩ := sq_lives I hq
    obtain ⟨u, hu, ru⟩ := rv.get hx
    have he0 := he
    have hel : e < s.heap.objs.size := Heap.lt_size he
    obtain ⟨oi, ni, hoi, ci, ni1, ni2⟩ := hit.cls
    have hil : it < s.heap.objs.size := Heap.lt_size hoi
    refine enum_item (I.ok.hd hc) he hit p hu hne (lives_ne p he0 rfl (by decide) (by decide)) (lives_ne p hoi ci ni1 ni2) fun h' tk ho hit' hT hk => ?_
    refine ⟨_, rfl, wpAny_letOwnedTupleGo_enum (s := { s with heap := h', toks := tk + 1 }) ho fun h'' he' sb => ?_⟩
    have hT2 := (sb.2 s.heap.objs.size (Nat.ne_of_gt hel)).trans hT
    have I1 : Inv X pins σ (upd H s.heap.objs.size (.tup [.int (i : Nat), x])) { s with heap := h'', toks := tk + 1 } :=
      I.turnedNew (ch := [e, it]) (fun c ob hb q => (sb.2 c fun z => hb (z ▸ List.mem_cons_self)).trans (hk c ob (fun z => hb (z ▸ List.mem_cons_self)) (fun z => hb (z ▸ List.mem_cons_of_mem _ List.mem_cons_self)) q)) hf (Nat.le_refl _)
        (show ObjOk X.prog X.w _ h'' _ (.tup [.int (i : Nat), x]) from ⟨by show 2 ≤ sizeLine; decide, [.int i tk, u], .cons ⟨_, rfl⟩ (.cons ru .nil), _, hT2, rfl, _, rfl⟩)
    refine ⟨.ref s.heap.objs.size, _, I1, rfl, ⟨_, x, rfl, I.hok.fresh (Nat.le_refl _), rfl, fun ys hy => by rw [hy.inj I hq]; exact hx⟩, ⟨⟨u, ?_⟩, hit'.mono fun o q => (sb.2 it hne.symm).trans q, hne⟩, fun c hcm => ?_⟩
    · have e1 : ((i + 1 : Nat) : Int) = (i : Int) + 1 := by omega
      rw [e1]
      exact he'
    · rcases List.mem_cons.mp hcm with z | z
      · rw [z, upd_ne (Nat.ne_of_lt hel)]
        exact (hf e List.mem_cons_self).1
      · rw [List.mem_singleton.mp z, upd_ne (Nat.ne_of_lt hil)]
        exact (hf it (List.mem_cons_of_mem _ List.mem_cons_self)).1

/-! ### enumerate(v), its making -/
set_option maxHeartbeats 1000000 in
theorem new_enum {v : Value} {o : Obj} {Hv : Heap → Prop} (B : Begins v o Hv) : Meets (Builtin.«enumerate.__new__» ⟨[.type "enumerate", v], []⟩) (fun _ R s => Hv s.heap ∧
      R (.ok (.ret (.ref (s.heap.push o).objs.size))) { s with heap := (s.heap.push o).push { cls := .type "enumerate", data := .fields #[.none, .bool false, .ref s.heap.objs.size, rawInt 0, .none, .none] } }) :=
  .of_wp fun prog w A R s ⟨h1, h⟩ => by
    obtain ⟨hp, g, d, tk, os⟩ := s
    have hsub := sub_enumerate
    have q1 : ∀ {A' : Around} {E : Value → Shared → Prop} {Q : Value → Shared → Prop}, Q (.ref hp.objs.size) ⟨hp.push o, g, d, tk, os⟩ → wpAny (model prog w) A' (pyIter v) Q E ⟨hp, g, d, tk, os⟩ := B.iter prog w _ _ ⟨hp, g, d, tk, os⟩ _ h1
    wp_walk using q1
    refine wpAny_stack_any fun st => wpAny_pure ?_
    split
    · rename_i c _ _ _ _ _
      cases (c == Value.type "enumerate") <;> (wp_walk using q1; exact ⟨_, rfl, h⟩)
    · wp_walk using q1
      exact ⟨_, rfl, h⟩
section
variable {P : Program} {w : World} {A : Around} {E : Value → Shared → Prop} {s : Shared}
theorem enum_made {v : Value} {o : Obj} {Hv : Heap → Prop} {Q : Value → Shared → Prop} (B : Begins v o Hv) (h1 : Hv s.heap)
    (h : ∀ h', IsEnum h' (s.heap.objs.size + 1) s.heap.objs.size 0 .none → h'.get? s.heap.objs.size = some o → (∀ b o, s.heap.get? b = some o → h'.get? b = some o) → Q (.ref (s.heap.objs.size + 1)) { s with heap := h' }) :
    wpAny (model P w) A (call (.type "enumerate") [v]) Q E s := by
  refine callType_new F.called_enumerate (by decide) (F.typeCall_enumerate_1 _) (F.newCall_enumerate_1 _) (fun obj => F.args_object_init_2 obj _) F.entry_enumerate_new (new_enum B) ⟨h1, ?_⟩
  have hz : (s.heap.push o).objs.size = s.heap.objs.size + 1 := Heap.size_push ..
  have he := Heap.get?_push_size (s.heap.push o) (o := { cls := .type "enumerate", data := .fields #[.none, .bool false, .ref s.heap.objs.size, rawInt 0, .none, .none] }) rfl
  show _ ∧ _
  rw [hz] at he ⊢
  exact ⟨⟨_, he, rfl⟩, h _ he (Heap.get?_push_of_some _ (Heap.get?_push_size _ B.free)) fun b o x => Heap.get?_push_of_some _ (Heap.get?_push_of_some _ x)⟩
end
def iEnS (K : PySem.W.Frag) (ta : TA) : TI := fun σ H R => ta σ H fun vs H1 => ∃ a b xs, vs = [.ref a] ∧ Sq K b H1 a xs ∧ R (ItN K b a) H1
theorem pi_en {X : Cx} {e : Expr} {ta : TA} {p pos tpos : Pos} {elts : List Expr} {kk : Nat} (hg : Gl X "enumerate") (hm : X.mg "enumerate" = none) (ha : PA X [e] ta) (hs : starEach [e] X.env = [(false, eval e X.env)] := by rfl) :
    PI X (.Tuple elts kk tpos) (.Call (.Name "enumerate" p) [e] [] pos) (iEnS X.K ta) := by
  refine ⟨fun pins s σ H R I h => Call_ (ld_blt I hg hm boot_enumerate (PyProof.Rows.callWith_type1 (thn (ha.run pos pins s σ H _ I h) fun us s1 ⟨vs, H1, I1, r1, a, b, xs, ex, hq, q⟩ => ?_) hs rfl))⟩
  subst ex
  cases r1 with
  | cons r rr =>
    cases rr
    cases r
    obtain ⟨its, rv, p'⟩ := sq_lives I1 hq
    have fin : ∀ (h' : Heap), IsEnum h' (s1.heap.objs.size + 1) s1.heap.objs.size 0 .none → iterAt b h' s1.heap.objs.size a 0 → (∀ c o, s1.heap.get? c = some o → h'.get? c = some o) →
        wpAny (model X.prog X.w) X.A (pyIter (.ref (s1.heap.objs.size + 1))) (PIE X pins σ (.Tuple elts kk tpos) R) X.xe { s1 with heap := h' } := fun h' he hit hk => by
      refine wpAny_pyIter_enum (s := { s1 with heap := h' }) he ⟨s1.heap.objs.size + 1, [s1.heap.objs.size + 1, s1.heap.objs.size], _, _, H1, rfl, I1.kept (t' := s1.toks) hk, turn_en b a (s1.heap.objs.size + 1) s1.heap.objs.size, ⟨⟨.none, he⟩, hit, Nat.succ_ne_self _⟩, fun c hc => ?_, q⟩
      have hle : s1.heap.objs.size ≤ c := by
        rcases List.mem_cons.mp hc with z | z
        · rw [z]; exact Nat.le_add_right _ _
        · rw [List.mem_singleton.mp z]; exact Nat.le_refl _
      exact I1.fpOk hle (I1.hok.fresh hle)
    cases b with
    | true => exact enum_made (begins_list a its.toArray) p' fun h' he ho hk => fin h' he ⟨_, ho, rfl, rfl⟩ hk
    | false => exact enum_made (begins_tuple a its.toArray) p' fun h' he ho hk => fin h' he ⟨_, ho, rfl, rfl⟩ hk
theorem for_en {K : PySem.W.Frag} {b : Bool} {a : Addr} {xs : List V} {g : TG} {tb : TS} {D : Ends} {σ : L2.St} {H : Hp} (Pv : Nat → L2.St → Hp → Prop) (h0 : Pv 0 σ H) (hl : ∀ i σ H, i ≤ xs.length → Pv i σ H → Sq K b H a xs)
    (hs : ∀ (i : Nat) (x : V) (T : Addr) (σ : L2.St) (H : Hp), xs[i]? = some x → H T = none → Pv i σ H → g (.ref T) σ (upd H T (.tup [.int (i : Nat), x])) fun σ2 H2 => tb { D with nx := Pv (i + 1), ct := Pv (i + 1), bk := D.nx } σ2 H2) (hd : ∀ σ H, Pv xs.length σ H → D.nx σ H) :
    ∃ W : Nat → Nat → L2.St → Hp → Prop, (∃ m, W 0 m σ H) ∧ ∀ i m σ H, W i m σ H →
      ((ItN K b a).stop i H ∧ D.nx σ H) ∨ ((ItN K b a).go i H ∧ ∃ N : L2.St → Hp → Prop, (∀ σ' H', N σ' H' → ∃ m', m' < m ∧ W (i + 1) m' σ' H') ∧
        ∀ x H', (ItN K b a).yld i H x H' → g x σ H' fun σ2 H2 => tb { D with nx := N, ct := N, bk := D.nx } σ2 H2) := by
  refine ⟨fun i m σ H => m = xs.length - i ∧ i ≤ xs.length ∧ Pv i σ H, ⟨xs.length, rfl, Nat.zero_le _, h0⟩, fun i m σ H ⟨em, hi, p⟩ => ?_⟩
  have q := hl i σ H hi p
  rcases Nat.lt_or_eq_of_le hi with lt | e
  · refine .inr ⟨⟨xs, xs[i], q, List.getElem?_eq_getElem lt⟩, Pv (i + 1), fun σ' H' p' => ⟨xs.length - (i + 1), by omega, rfl, lt, p'⟩, fun v H' ⟨T, x, ev, nT, eH, at_⟩ => ?_⟩
    subst ev eH
    exact hs i x T σ H (at_ xs q) nT p
  · subst e
    exact .inl ⟨⟨xs, q, rfl⟩, hd σ H p⟩
end KnE

set_option Elab.async false
set_option linter.all false
set_option maxRecDepth 100000
set_option maxHeartbeats 4000000
/-! What a walk of a comprehension asks: into a set over a list or a tuple, into a dict over a list. -/
namespace KnC
open PySem PySem.Spec PyProof.Rows L2
theorem sc_seq {P : Program} {w : World} {K : PySem.W.Frag} {b : Bool} {a : Addr} {xs : List V} {g : TG} {tt : TT} {te : TE} {vs : List Nat} {σ : L2.St} {H1 : Hp} {D : Addr} {Qd : Hp → Prop} (Pv : Nat → Hp → Prop) (h0 : Pv 0 (upd H1 D (KnS.SetL P w D []))) (hl : ∀ i H, i ≤ xs.length → Pv i H → KnE.Sq K b H a xs)
    (hs : ∀ i x H, xs[i]? = some x → Pv i H → g x (wipe σ vs) H fun σ2 H2 => wipe σ2 vs = wipe σ vs ∧ tt σ2 H2 fun c H3 =>
      if c = true then te σ2 H3 fun y H4 => ∃ (k : Key) (ks : List Key), y = kV k ∧ H4 D = some (KnS.SetL P w D ks) ∧ ks.length + 1 < scanBound ∧ Pv (i + 1) (upd H4 D (KnS.SetL P w D (KnS.addL ks k))) else Pv (i + 1) H3) (hd : ∀ H, Pv xs.length H → Qd H) :
    ∃ W : Nat → Nat → Hp → Prop, (∃ m, W 0 m (upd H1 D (KnS.SetL P w D []))) ∧ ∀ i m H, W i m H → ((KnE.ItS K b a).stop i H ∧ Qd H) ∨
      ((KnE.ItS K b a).go i H ∧ ∃ Nx : Hp → Prop, (∀ H', Nx H' → ∃ m', m' < m ∧ W (i + 1) m' H') ∧ ∀ x H', (KnE.ItS K b a).yld i H x H' → g x (wipe σ vs) H' fun σ2 H2 => wipe σ2 vs = wipe σ vs ∧ tt σ2 H2 fun c H3 =>
        if c = true then te σ2 H3 fun y H4 => ∃ (k : Key) (ks : List Key), y = kV k ∧ H4 D = some (KnS.SetL P w D ks) ∧ ks.length + 1 < scanBound ∧ Nx (upd H4 D (KnS.SetL P w D (KnS.addL ks k))) else Nx H3) := by
  refine ⟨fun i m H => m = xs.length - i ∧ i ≤ xs.length ∧ Pv i H, ⟨xs.length, by simp, Nat.zero_le _, h0⟩, ?_⟩
  rintro i m H ⟨rfl, hi, p⟩
  have q := hl i H hi p
  cases b with
  | true =>
    by_cases hlt : i < xs.length
    · refine .inr ⟨⟨xs, xs[i], q, by simp [hlt]⟩, Pv (i + 1), fun H' p' => ⟨xs.length - (i + 1), by omega, rfl, hlt, p'⟩, fun x H' y => ?_⟩
      obtain ⟨e, y⟩ := y
      subst e
      exact hs i x _ (y xs q) p
    · have e : i = xs.length := by omega
      subst e
      exact .inl ⟨⟨xs, q, Nat.le_refl _⟩, hd H p⟩
  | false =>
    by_cases hlt : i < xs.length
    · refine .inr ⟨⟨xs, xs[i], q, by simp [hlt]⟩, Pv (i + 1), fun H' p' => ⟨xs.length - (i + 1), by omega, rfl, hlt, p'⟩, fun x H' y => ?_⟩
      obtain ⟨e, y⟩ := y
      subst e
      exact hs i x _ (y xs q) p
    · have e : i = xs.length := by omega
      subst e
      exact .inl ⟨⟨xs, q, Nat.le_refl _⟩, hd H p⟩
theorem dc_list {K : PySem.W.Frag} {a : Addr} {xs : List V} {g : TG} {tt : TT} {tk tv : TE} {vs : List Nat} {σ : L2.St} {H1 : Hp} {D : Addr} {Qd : Hp → Prop} (Pv : Nat → Hp → Prop) (h0 : Pv 0 (upd H1 D (.dK []))) (hl : ∀ i H, i ≤ xs.length → Pv i H → SqL K H a xs)
    (hs : ∀ i x H, xs[i]? = some x → Pv i H → g x (wipe σ vs) H fun σ2 H2 => wipe σ2 vs = wipe σ vs ∧ tt σ2 H2 fun b H3 =>
      if b = true then tk σ2 H3 fun y H4 => tv σ2 H4 fun z H5 => ∃ kvs k, y = kV k ∧ H5 D = some (.dK kvs) ∧ kvs.length < sizeLine ∧ Pv (i + 1) (upd H5 D (.dK (putK kvs k z))) else Pv (i + 1) H3) (hd : ∀ H, Pv xs.length H → Qd H) :
    ∃ W : Nat → Nat → Hp → Prop, (∃ m, W 0 m (upd H1 D (.dK []))) ∧ ∀ i m H, W i m H →
      ((Itl K a).stop i H ∧ Qd H) ∨ ((Itl K a).go i H ∧ ∃ Nx : Hp → Prop, (∀ H', Nx H' → ∃ m', m' < m ∧ W (i + 1) m' H') ∧ ∀ x H', (Itl K a).yld i H x H' → g x (wipe σ vs) H' fun σ2 H2 => wipe σ2 vs = wipe σ vs ∧ tt σ2 H2 fun b H3 =>
        if b = true then tk σ2 H3 fun y H4 => tv σ2 H4 fun z H5 => ∃ kvs k, y = kV k ∧ H5 D = some (.dK kvs) ∧ kvs.length < sizeLine ∧ Nx (upd H5 D (.dK (putK kvs k z))) else Nx H3) := by
  refine ⟨fun i m H => m = xs.length - i ∧ i ≤ xs.length ∧ Pv i H, ⟨xs.length, by simp, Nat.zero_le _, h0⟩, ?_⟩
  rintro i m H ⟨rfl, hi, p⟩
  have q := hl i H hi p
  by_cases hlt : i < xs.length
  · refine .inr ⟨⟨xs, xs[i], q, by simp [hlt]⟩, Pv (i + 1), fun H' p' => ⟨xs.length - (i + 1), by omega, rfl, hlt, p'⟩, fun x H' y => ?_⟩
    obtain ⟨e, y⟩ := y
    subst e
    exact hs i x _ (y xs q) p
  · have e : i = xs.length := by omega
    subst e
    exact .inl ⟨⟨xs, q, Nat.le_refl _⟩, hd H p⟩
/-- a list comprehension over a dict's keys -/
theorem lc_keys {d : Addr} {o : Obj} {kvs : List (Key × V)} {g : TG} {tt : TT} {te : TE} {vs : List Nat} {σ : L2.St} {H1 : Hp} {D : Addr} {Qd : Hp → Prop} (Pv : Nat → Hp → Prop) (h0 : Pv 0 (upd H1 D (.lst []))) (hl : ∀ i H, i ≤ kvs.length → Pv i H → H d = some (.frz o (.dK kvs)))
    (hs : ∀ i k v H, kvs[i]? = some (k, v) → Pv i H → g (kV k) (wipe σ vs) H fun σ2 H2 => wipe σ2 vs = wipe σ vs ∧ tt σ2 H2 fun b H3 =>
      if b = true then te σ2 H3 fun y H4 => ∃ acc, H4 D = some (.lst acc) ∧ acc.length < sizeLine ∧ Pv (i + 1) (upd H4 D (.lst (acc ++ [y]))) else Pv (i + 1) H3) (hd : ∀ H, Pv kvs.length H → Qd H) :
    ∃ W : Nat → Nat → Hp → Prop, (∃ m, W 0 m (upd H1 D (.lst []))) ∧ ∀ i m H, W i m H →
      ((Itk d o kvs).stop i H ∧ Qd H) ∨ ((Itk d o kvs).go i H ∧ ∃ Nx : Hp → Prop, (∀ H', Nx H' → ∃ m', m' < m ∧ W (i + 1) m' H') ∧ ∀ x H', (Itk d o kvs).yld i H x H' → g x (wipe σ vs) H' fun σ2 H2 => wipe σ2 vs = wipe σ vs ∧ tt σ2 H2 fun b H3 =>
        if b = true then te σ2 H3 fun y H4 => ∃ acc, H4 D = some (.lst acc) ∧ acc.length < sizeLine ∧ Nx (upd H4 D (.lst (acc ++ [y]))) else Nx H3) := by
  refine ⟨fun i m H => m = kvs.length - i ∧ i ≤ kvs.length ∧ Pv i H, ⟨kvs.length, by simp, Nat.zero_le _, h0⟩, ?_⟩
  rintro i m H ⟨rfl, hi, p⟩
  have q := hl i H hi p
  by_cases hlt : i < kvs.length
  · refine .inr ⟨⟨q, hlt⟩, Pv (i + 1), fun H' p' => ⟨kvs.length - (i + 1), by omega, rfl, hlt, p'⟩, fun x H' y => ?_⟩
    obtain ⟨e, k, v, ek, ex⟩ := y
    subst e ex
    exact hs i k v _ ek p
  · have e : i = kvs.length := by omega
    subst e
    exact .inl ⟨⟨q, Nat.le_refl _⟩, hd H p⟩
/-- texts as keys -/
theorem addL_strs {xs : List Str} {x : Str} : KnS.addL (xs.map Sum.inr) (Sum.inr x) = ((if x ∈ xs then xs else xs ++ [x]).map Sum.inr : List Key) := by
  unfold KnS.addL
  by_cases z : x ∈ xs
  · rw [if_pos z, if_pos (KnS.hasL_iff.mpr (List.mem_map.mpr ⟨x, z, rfl⟩))]
  · rw [if_neg z, if_neg (fun q => z (by obtain ⟨y, hy, e⟩ := List.mem_map.mp (KnS.hasL_iff.mp q); cases e; exact hy)), List.map_append]; rfl
/-- a list or a tuple by a place -/
def rIx (K : PySem.W.Frag) : R2 := fun x y H Q => rIxL K x y H Q ∨ rIxT K x y H Q
theorem ix_seq {X : Cx} {K : PySem.W.Frag} (h1 : IxR X (rIxL K)) (h2 : IxR X (rIxT K)) : IxR X (rIx K) := by
  intro value slice pins s σ H x y v u Q I rx ry h hs
  rcases h with h | h
  · exact h1 value slice pins s σ H x y v u Q I rx ry h hs
  · exact h2 value slice pins s σ H x y v u Q I rx ry h hs
/-- a branch, and what comes behind both its ways -/
theorem if_then {c : TT} {t u b : TS} {D : Ends} {σ : L2.St} {H : Hp} (T : L2.St → Hp → Prop) (h : (∀ σ2 H2, T σ2 H2 → b D σ2 H2) → tSeq (tIfS c t u) b D σ H) (k : ∀ σ2 H2, T σ2 H2 → b D σ2 H2) : tSeq (tIfS c t u) b D σ H := h k
theorem asg_if {i : Nat} {x : V} {c : TT} {t u b : TS} {D : Ends} {ra : VK} {rb rc : L2.St → Hp → Prop} {σ : L2.St} {H : Hp} (T : L2.St → Hp → Prop) (h : (∀ σ2 H2, T σ2 H2 → b D σ2 H2) → tSeq (tIfS c t u) b D (σ.set i (some x)) H) (k : ∀ σ2 H2, T σ2 H2 → b D σ2 H2) : gName i x σ H (Ends.nx { nx := tSeq (tIfS c t u) b D, rt := ra, ct := rb, bk := rc }) := h k
theorem nx_if {c : TT} {t u b : TS} {D : Ends} {ra : VK} {rb rc : L2.St → Hp → Prop} {σ : L2.St} {H : Hp} (T : L2.St → Hp → Prop) (h : (∀ σ2 H2, T σ2 H2 → b D σ2 H2) → tSeq (tIfS c t u) b D σ H) (k : ∀ σ2 H2, T σ2 H2 → b D σ2 H2) : Ends.nx { nx := tSeq (tIfS c t u) b D, rt := ra, ct := rb, bk := rc } σ H := h k
theorem un65 {k : Nat} {A : Around} (r : Room k A) : A.units + 65 < cLine := by have := r.un; omega
end KnC

set_option Elab.async false
set_option linter.all false
set_option maxRecDepth 100000
set_option maxHeartbeats 4000000
/-! list(d.values()). -/
namespace KnM
open PySem PySem.Spec PyProof.Rows L2
def tListVals (td : TE) : TE := fun σ H Q => td σ H fun x H1 => ∃ d kvs, x = .ref d ∧ Rd H1 d (.dK kvs) ∧ ∀ p, H1 p = none → Q (.ref p) (upd H1 p (.lst (kvs.map (·.2))))
theorem vals_kv {kvs : List (Key × V)} {vs : List (Key × Value)} (r : KV kvs vs) : Vals (kvs.map (·.2)) (vs.map (·.2)) := by
  unfold KV at r
  induction r with
  | nil => exact .nil
  | cons h _ ih => exact .cons h.2 ih
section
variable {X : Cx} {e : Expr} {td : TE} {p pos apos cpos : Pos}
theorem pe_listVals (hc : X.calm = true) (hg : Gl X "list") (hm : X.mg "list" = none) (he : PE X e td) (hbase : attributeBase e "values" X.env (eval e X.env) = eval e X.env := by rfl) (hline : (apos.endLine == cpos.line) = true := by rfl)
    (hs : starEach [.Call (.Attribute e "values" apos) [] [] cpos] X.env = (false, eval (.Call (.Attribute e "values" apos) [] [] cpos) X.env) :: starEach [] X.env := by rfl) :
    PE X (.Call (.Name "list" p) [.Call (.Attribute e "values" apos) [] [] cpos] [] pos) (tListVals td) := by
  refine ⟨fun pins s σ H Q I h => Call_ (ld_blt I hg hm boot_list ?_)⟩
  refine PyProof.Rows.callWith_type1 (PyProof.Rows.args_cons ?_ hs) hs rfl
  refine wpAny_Call_method (T := "dict") (id := "dict.values") hbase rfl hline F.plainAttrs_dict F.slot_dict_values F.type_dict_values (thn (he.run pins s σ H _ I h) fun u s1 ⟨x, H1, I1, rx, d, kvs, ex, hd, q⟩ => ?_)
  subst ex
  obtain rfl : u = Value.ref d := rx
  obtain ⟨z, lo, vs, rel, dd⟩ := dk_rd I1.hok hd
  obtain ⟨ep, hat⟩ := dd.dictAt
  refine ⟨dd.typeIs, dd.mapOf.noDict, ?_⟩
  show wpAny _ _ (callWith cpos (.builtin "dict.values") [.ref d] [] []) _ X.xe s1
  refine method_meetsIn F.slot_dict_values F.entry_dict_values rfl (PySem.evalArgs_none ⟨rfl, dd.typeIs, F.args_dict_values_1 _, _, meets_dict_values (mixKind X.prog X.w) d lo, ⟨vs, dd⟩, ?_⟩)
  refine PyProof.Rows.args_nil ?_
  generalize hh : s1.heap.push { cls := .type "dict_values", data := .fields #[.ref d] } = h2
  have k2 : ∀ b o, s1.heap.get? b = some o → h2.get? b = some o := fun b o e => hh ▸ Heap.get?_push_of_some _ e
  have view : h2.IsValuesView s1.heap.objs.size d := by
    rw [← hh]
    exact ⟨_, Heap.get?_push_size _ rfl, rfl, rfl⟩
  have hat2 : h2.DictAt (mixKind X.prog X.w) d vs ep := hh ▸ hat.push _
  have I2 : Inv X pins σ H1 { s1 with heap := h2 } := I1.kept (t' := s1.toks) k2
  refine PySem.W.kdl_call (s := { s1 with heap := h2 }) (PySem.W.kdl_values (knd := mixKind X.prog X.w) (kvs := vs) (ep := ep) (r := s1.heap.objs.size)) (I1.ok.hd hc) ⟨view, hat2⟩ (by rw [← rel.length]; exact z) fun h' tk acc c' hk hD hacc => ?_
  have e1 : acc.toList = vs.map (·.2) := PySem.W.kdl_vals_eq _ (by rw [Array.length_toList]; exact hacc.1) fun j v e => hacc.2 j v (by rw [← Array.getElem?_toList]; exact e)
  refine ⟨.ref h2.objs.size, upd H1 h2.objs.size (.lst (kvs.map (·.2))), I2.laid (t' := tk) hk (Nat.le_refl _) (show ObjOk X.prog X.w _ _ _ (.lst (kvs.map (·.2))) from ⟨by rw [List.length_map]; exact z, acc.toList, c', by rw [e1]; exact vals_kv rel, by rw [Array.toArray_toList]; exact hD⟩), rfl, q _ (I2.hok.fresh (Nat.le_refl _))⟩
end
end KnM

set_option Elab.async false
set_option linter.all false
set_option maxRecDepth 100000
set_option maxHeartbeats 4000000
/-! A property by its promise. -/
namespace KnP
open PySem PySem.Spec PyProof.Rows L2
structure Prp (P : Program) (w : World) (K : PySem.W.Frag) (mg : Str → Option Value) (base : Heap) (k : Nat) (C : Addr) (f : Str) (sp : Sp) : Prop where
  ex : ∃ (p g : Addr) (fd : FuncData) (ps : List Str), PropOf K C f p g ∧ FnOk P w K mg base CX0 k g fd ps sp ∧ Binds K fd ps []
theorem pe_prp {X : Cx} {k j : Nat} {C : Addr} {f : Str} {sp : Sp} {e : Expr} {ta : TE} {pos : Pos} (cl : Cls X.K C) (c : Prp X.prog X.w X.K X.mg X.base k C f sp) (hr : Room j X.A) (hk : k + 1 ≤ j) (he : PE X e ta)
    (hab : attributeBase e f X.env (eval e X.env) = eval e X.env := by rfl) : PE X (.Attribute e f pos) (tProp C sp [] E0 ta) := by
  obtain ⟨p, g, fd, ps, hp, F, b⟩ := c.ex
  exact pe_prop he cl hp F (hr.mono hk) b .nil pass0 hab
end KnP

set_option Elab.async false
set_option linter.all false
set_option maxRecDepth 100000
set_option maxHeartbeats 4000000
/-! Own special methods by their promises. -/
namespace KnW
open PySem PySem.Spec PyProof.Rows L2
structure Own (P : Program) (w : World) (K : PySem.W.Frag) (mg : Str → Option Value) (base : Heap) (k : Nat) (C : Addr) (m : Str) (sp : Sp) : Prop where
  ex : ∃ (f : Addr) (fd : FuncData) (ps : List Str), PySem.W.findIn K (.ref C) m = some (some (.ref f)) ∧ PySem.W.isFn K (.ref f) = true ∧ PySem.W.fnIn K f = true ∧ FnOk P w K mg base CX0 k f fd ps sp ∧ Binds K fd ps []
section
variable {X : Cx} {k j : Nat} {C : Addr} {sp : Sp} {a b : Expr} {ta tb : TE} {pos : Pos}
/-- a def run one frame below -/
theorem run_in1 {CX : CXT} {f : Addr} {fd : FuncData} {ps : List Str} {E : XK} {pins : List (Addr × Obj)} {σ : L2.St} {H : Hp} {s : Shared} {Q : VK} {us : List Value} {vs : List V} (F : FnOk X.prog X.w X.K X.mg X.base CX k f fd ps sp) (hr : Room (k + 1) X.A) (hb : Binds X.K fd ps []) (hx : Passes CX X E)
    (I : Inv X pins σ H s) (r : Vals vs us) (h : sp vs H Q E) : wpAny (model X.prog X.w) X.A.in1 (call (.ref f) us) (EP X pins σ Q) X.xe s := by
  have hl : us.length = ps.length := by rw [← r.length]; exact F.len _ _ _ _ h
  have hb' := hb s us I.kIn (by simpa using hl)
  rw [List.append_nil] at hb'
  refine wpAny_call (codeAny_mono (F.run X.A.in1 X.stack s H ⟨us, []⟩ us vs Q E hr.in1 I.env0.in1 hb' r h) fun r s' hq => ?_)
  cases r with
  | error e => exact hx pins σ H s e s' I hq
  | ok fl =>
    cases fl with
    | ret u => exact I.after hq
    | next => exact False.elim hq
    | brk => exact False.elim hq
    | cont => exact False.elim hq
/-- o[i] by an own __getitem__ -/
def rOwn (C : Addr) (sp : Sp) : R2 := fun x y H Q => ∃ a dx fs, x = .ref a ∧ H a = some (.ins C dx fs) ∧ sp [.ref a, y] H Q E0
theorem pe_get (c : Own X.prog X.w X.K X.mg X.base k C "__getitem__" sp) (hr : Room j X.A) (hk : k + 1 ≤ j) (ha : PE X a ta) (hb : PE X b tb)
    (hs : ∀ v u, subscripted b true v u = runValue (.builtin "lifetime.subscript" ⟨[v, u], []⟩) := by exact fun _ _ => rfl) : PE X (.Subscript a b pos) (tOp (rOwn C sp) ta tb) := by
  obtain ⟨f, fd, ps, h1, h2, h3, F, bb⟩ := c.ex
  refine ⟨fun pins s σ H Q I h => ?_⟩
  refine Subscript_ (binT ha hb I h fun v u s2 x y H2 I2 rx ry q => ?_)
  obtain ⟨o, dx, fs, rfl, eo, q⟩ := q
  cases rx
  obtain ⟨mA, O, _⟩ := ins_get I2.hok eo
  obtain ⟨od, J, _⟩ := O.look
  obtain ⟨m, hF⟩ := I2.fr
  exact PySem.W.sub_K hF I2.ok.mod.kin J h1 h3 h2 (run_in1 (vs := [.ref o, y]) F (hr.mono hk) bb pass0 I2 (.cons rfl (.cons ry .nil)) q) (hs _ _)
/-- two instances of the class compared by its own __eq__, which answers a bool -/
def rOwnEq (C : Addr) (sp : Sp) : R2 := fun x y H Q => ∃ a b dx dy fs gs, x = .ref a ∧ y = .ref b ∧ H a = some (.ins C dx fs) ∧ H b = some (.ins C dy gs) ∧ sp [.ref a, .ref b] H (fun v H' => ∃ c, v = .bl c ∧ Q (.bl c) H') E0
theorem op_ownEq (c : Own X.prog X.w X.K X.mg X.base k C "__eq__" sp) (hr : Room j X.A) (hk : k ≤ j) : OpR X (compareOp .Eq) (rOwnEq C sp) := by
  obtain ⟨f, fd, ps, h1, h2, h3, F, bb⟩ := c.ex
  intro pins s σ H x y v u Q I rx ry hq
  obtain ⟨a, b, dx, dy, fs, gs, rfl, rfl, ha, hb, q⟩ := hq
  cases rx
  cases ry
  obtain ⟨mA, J, _⟩ := ins_get I.hok ha
  obtain ⟨mB, J', _⟩ := ins_get I.hok hb
  obtain ⟨od, J, _⟩ := J.look
  obtain ⟨od', J', _⟩ := J'.look
  obtain ⟨m, hF⟩ := I.fr
  show wpAny (model X.prog X.w) X.A (richCompare .Eq (.ref a) (.ref b)) (EP X pins σ Q) X.xe s
  refine PySem.W.cmp_K (op := .Eq) (tb := .ref C) hr.units0 hF I.ok.mod.kin J J'.type (by simp [PySem.W.notFirst]) h1 h2 ?_
  have r2 : Vals [V.ref a, V.ref b] [Value.ref a, Value.ref b] := .cons rfl (.cons rfl .nil)
  refine wpAny_mono (run_fn (vs := [.ref a, .ref b]) (us := [.ref a, .ref b]) (dvs := []) (ds := []) F (hr.mono hk) bb .nil pass0 I r2 q) (fun r s' hv => ?_) fun _ _ e => e
  obtain ⟨z, H', I', rz, c, ez, q2⟩ := hv
  subst ez
  cases rz
  exact ⟨.bl c, H', I', rfl, q2⟩
end
end KnW

set_option Elab.async false
set_option linter.all false
set_option maxRecDepth 100000
/-! Order of texts, of ints; the states that steps reach. -/
namespace KnA
open PySem PySem.Spec PyProof.Rows
theorem lt_irr : ∀ a : List Nat, ltCps a a = false
  | [] => rfl
  | x :: r => by
    show (decide (x < x) || (x == x && ltCps r r)) = false
    rw [lt_irr r, decide_eq_false (Nat.lt_irrefl x)]; simp
theorem le_trans_ : ∀ {a b c : List Nat}, ltCps b a = false → ltCps c b = false → ltCps c a = false
  | [], [], [], _, _ => rfl
  | [], [], _ :: _, _, _ => rfl
  | [], _ :: _, [], _, h => by cases h
  | [], _ :: _, _ :: _, _, _ => rfl
  | _ :: _, [], _, h, _ => by cases h
  | _ :: _, _ :: _, [], _, h => by cases h
  | x :: r, y :: t, z :: u, h1, h2 => by
    have h1' : (decide (y < x) || (y == x && ltCps t r)) = false := h1
    have h2' : (decide (z < y) || (z == y && ltCps u t)) = false := h2
    show (decide (z < x) || (z == x && ltCps u r)) = false
    rw [Bool.or_eq_false_iff, decide_eq_false_iff_not, Bool.and_eq_false_iff, beq_eq_false_iff_ne] at h1' h2' ⊢
    refine ⟨by omega, ?_⟩
    by_cases e : z = x
    · right
      have e1 : y = x := by omega
      have e2 : z = y := by omega
      exact le_trans_ (h1'.2.resolve_left fun q => q e1) (h2'.2.resolve_left fun q => q e2)
    · exact .inl e
theorem le_anti : ∀ {a b : List Nat}, ltCps b a = false → ltCps a b = false → a = b
  | [], [], _, _ => rfl
  | [], _ :: _, _, h2 => by cases h2
  | _ :: _, [], h1, _ => by cases h1
  | x :: r, y :: t, h1, h2 => by
    have h1' : (decide (y < x) || (y == x && ltCps t r)) = false := h1
    have h2' : (decide (x < y) || (x == y && ltCps r t)) = false := h2
    rw [Bool.or_eq_false_iff, decide_eq_false_iff_not, Bool.and_eq_false_iff, beq_eq_false_iff_ne] at h1' h2'
    have e : x = y := by omega
    subst e
    rw [le_anti (h1'.2.resolve_left fun q => q rfl) (h2'.2.resolve_left fun q => q rfl)]
def leS (a b : Str) : Prop := ltCps b.cps.toList a.cps.toList = false
theorem leS_trans {a b c : Str} (h1 : leS a b) (h2 : leS b c) : leS a c := le_trans_ h1 h2
theorem str_ext {a b : Str} (h : a.cps.toList = b.cps.toList) : a = b := by
  cases a; cases b
  exact congrArg Str.mk (Array.toList_inj.mp h)
theorem leS_anti {a b : Str} (h1 : leS a b) (h2 : leS b a) : a = b := str_ext (le_anti h1 h2)
theorem rising_pair : ∀ {p : Str} {l : List Str}, risingS p l = true → (p :: l).Pairwise leS
  | p, [], _ => List.pairwise_singleton _ _
  | p, x :: r, h => by
    have h' : (!ltCps x.cps.toList p.cps.toList && risingS x r) = true := h
    rw [Bool.and_eq_true, Bool.not_eq_true'] at h'
    have ih := rising_pair h'.2
    refine List.pairwise_cons.mpr ⟨fun y hy => ?_, ih⟩
    rcases List.mem_cons.mp hy with z | z
    · rw [z]; exact h'.1
    · exact leS_trans h'.1 ((List.pairwise_cons.mp ih).1 y z)
theorem sorted_pair {l : List Str} (h : sortedS l = true) : l.Pairwise leS := by
  cases l with
  | nil => exact List.Pairwise.nil
  | cons x r => exact rising_pair h
theorem perm_sorted {α : Type} {R : α → α → Prop} (anti : ∀ {a b}, R a b → R b a → a = b) : ∀ {l m : List α}, l.Perm m → l.Pairwise R → m.Pairwise R → l = m
  | [], m, p, _, _ => (List.Perm.nil_eq p)
  | x :: l, [], p, _, _ => absurd p.length_eq (by simp)
  | x :: l, y :: m, p, h1, h2 => by
    have e : x = y := by
      have hx : x ∈ y :: m := p.mem_iff.mp List.mem_cons_self
      have hy : y ∈ x :: l := p.mem_iff.mpr List.mem_cons_self
      rcases List.mem_cons.mp hx with z | z
      · exact z
      · rcases List.mem_cons.mp hy with z' | z'
        · exact z'.symm
        · exact anti ((List.pairwise_cons.mp h1).1 y z') ((List.pairwise_cons.mp h2).1 x z)
    subst e
    rw [perm_sorted anti (List.perm_cons x |>.mp p) (List.pairwise_cons.mp h1).2 (List.pairwise_cons.mp h2).2]
theorem nodup_perm {α : Type} [DecidableEq α] {l m : List α} (h1 : l.Nodup) (h2 : m.Nodup) (h : ∀ x, x ∈ l ↔ x ∈ m) : l.Perm m := (List.perm_ext_iff_of_nodup h1 h2).mpr h
/-- the sorted list of these texts, each once -/
structure Words (ys : List Str) (xs : List Str) : Prop where
  up : ys.Pairwise leS
  nd : ys.Nodup
  mem : ∀ x, x ∈ ys ↔ x ∈ xs
theorem Words.uniq {ys zs xs : List Str} (a : Words ys xs) (b : Words zs xs) : ys = zs :=
  perm_sorted leS_anti (nodup_perm a.nd b.nd fun x => (a.mem x).trans (b.mem x).symm) a.up b.up
/-! ### states -/
abbrev Stp := Int × Str × Int
inductive Reach (ss : List Stp) (s0 : Int) : Int → Prop where
  | start : Reach ss s0 s0
  | step {x : Int} {w : Str} {y : Int} (h : Reach ss s0 x) (m : (x, w, y) ∈ ss) : Reach ss s0 y
structure States (ns : List Int) (ss : List Stp) (s0 : Int) : Prop where
  up : ns.Pairwise (· < ·)
  mem : ∀ x, x ∈ ns ↔ Reach ss s0 x
theorem States.uniq {a b : List Int} {ss : List Stp} {s0 : Int} (h : States a ss s0) (k : States b ss s0) : a = b := by
  have nd : ∀ {l : List Int}, l.Pairwise (· < ·) → l.Nodup := fun p => p.imp fun h e => by omega
  exact perm_sorted (R := fun x y : Int => x < y) (fun h1 h2 => by omega) (nodup_perm (nd h.up) (nd k.up) fun x => (h.mem x).trans (k.mem x).symm) h.up k.up
theorem lt_of_le {l : List Int} (h : l.Pairwise (· ≤ ·)) (d : l.Nodup) : l.Pairwise (· < ·) := by
  induction l with
  | nil => exact List.Pairwise.nil
  | cons x r ih =>
    obtain ⟨h1, h2⟩ := List.pairwise_cons.mp h
    obtain ⟨d1, d2⟩ := List.nodup_cons.mp d
    refine List.pairwise_cons.mpr ⟨fun y hy => ?_, ih h2 d2⟩
    have := h1 y hy
    have ne : x ≠ y := fun e => d1 (e ▸ hy)
    omega
/-- closed under the steps, from the start, and nothing else -/
theorem reach_of {ss : List Stp} {s0 : Int} {l : List Int} (h0 : s0 ∈ l) (hc : ∀ x w y, x ∈ l → (x, w, y) ∈ ss → y ∈ l) (hr : ∀ x ∈ l, Reach ss s0 x) (x : Int) : x ∈ l ↔ Reach ss s0 x := by
  refine ⟨hr x, fun h => ?_⟩
  induction h with
  | start => exact h0
  | step _ m ih => exact hc _ _ _ ih m
end KnA

set_option Elab.async false
set_option linter.all false
set_option maxRecDepth 100000
set_option maxHeartbeats 4000000
/-! xs[::-1] of a list. -/
namespace KnR
open PySem PySem.Spec PyProof.Rows L2
theorem pick_rev (its : List Value) : slicePick its.toArray none none (some (-1)) = its.reverse.toArray := by
  unfold slicePick
  have b : sliceBounds none none (some (-1)) its.toArray.size = ((its.length : Int) - 1, -1, -1) := by
    unfold sliceBounds
    simp
  rw [b]
  refine congrArg List.toArray ?_
  show (sliceRange ((its.length : Int) - 1) (-1) (-1)).filterMap (its.toArray[·]?) = its.reverse
  have r : sliceRange ((its.length : Int) - 1) (-1) (-1) = (List.range its.length).map fun k => its.length - 1 - k := by
    unfold sliceRange
    have c : (if (-1 : Int) > 0 then (if (its.length : Int) - 1 < -1 then (-1 - ((its.length : Int) - 1) + -1 - 1) / -1 else 0) else (if (its.length : Int) - 1 > -1 then ((its.length : Int) - 1 - -1 - -1 - 1) / (- -1) else 0)) = (its.length : Int) := by
      rw [if_neg (by decide)]
      by_cases h : (its.length : Int) - 1 > -1
      · rw [if_pos h]
        have : (- -1 : Int) = 1 := rfl
        rw [this, Int.ediv_one]
        omega
      · rw [if_neg h]; omega
    show (List.range (Int.toNat _)).map _ = _
    rw [c, Int.toNat_natCast]
    refine List.map_congr_left fun k hk => ?_
    have := List.mem_range.mp hk
    omega
  rw [r, List.filterMap_map]
  refine List.ext_getElem? fun i => ?_
  have all : ∀ n, n ≤ its.length → ((List.range n).filterMap ((fun x : Nat => its.toArray[x]?) ∘ fun k => its.length - 1 - k)) = its.reverse.take n := by
    intro n
    induction n with
    | zero => intro _; rfl
    | succ n ih =>
      intro h
      have hk : its.length - 1 - n < its.length := by omega
      have e : its.toArray[its.length - 1 - n]? = some its[its.length - 1 - n] := by
        rw [List.getElem?_toArray, List.getElem?_eq_getElem hk]
      rw [List.range_succ, List.filterMap_append, ih (by omega), List.take_add_one]
      refine congrArg (its.reverse.take n ++ ·) ?_
      have g : its.reverse[n]? = some its[its.length - 1 - n] := by
        rw [List.getElem?_reverse (by omega), List.getElem?_eq_getElem hk]
      rw [g, List.filterMap_cons, List.filterMap_nil]
      have e2 : ((fun x : Nat => its.toArray[x]?) ∘ fun k => its.length - 1 - k) n = some its[its.length - 1 - n] := e
      rw [e2]; rfl
  rw [all its.length (Nat.le_refl _), List.take_of_length_le (by rw [List.length_reverse]; exact Nat.le_refl _)]
def tRev (K : PySem.W.Frag) (te : TE) (ts : TO) : TE := fun σ H Q => te σ H fun x H1 => ts σ H1 fun o H2 => ∃ a xs, x = .ref a ∧ o = some (-1) ∧ SqL K H2 a xs ∧ ∀ p, H2 p = none → Q (.ref p) (upd H2 p (.lst xs.reverse))
section
variable {X : Cx} {e st : Expr} {te ts : TE} {p2 pos : Pos}
theorem pe_rev (he : PE X e te) (hs : PE X st ts) : PE X (.Subscript e (.Slice none none (some st) p2) pos) (tRev X.K te (tPart ts)) := by
  refine ⟨fun pins s σ H Q I h => ?_⟩
  refine Subscript_ (thn (he.run pins s σ H _ I h) fun v s1 ⟨x, H1, I1, r1, q1⟩ => ?_)
  have po : PO X (some st) (tPart ts) := po_some hs
  refine wpAny_Slice ?_
  rw [evalPart_none]
  refine wpAny_pure (wpAny_pure ?_)
  refine thn (po.run pins s1 σ H1 _ I1 q1) fun vk s3 ⟨o, H3, I3, pk, a, xs, ex, eo, hx, q3⟩ => ?_
  subst ex eo
  cases r1
  have I4 : Inv X pins σ H3 { s3 with heap := s3.heap.push { cls := .type "slice", data := .fields #[.none, .none, vk] } } := I3.kept (t' := s3.toks) fun b ob q => Heap.get?_push_of_some _ q
  obtain ⟨its, r, ht, hz⟩ := I4.list hx
  have hlen := r.length
  have hg : wpAny (model X.prog X.w) X.A (getItem (.ref a) (.ref s3.heap.objs.size)) (EP X pins σ Q) X.xe { s3 with heap := s3.heap.push { cls := .type "slice", data := .fields #[.none, .none, vk] } } := by
    refine wpAny_getItem_list_slice ht.isList (Heap.IsSliceOf.new ..) .none .none pk (by simp) ?_ (by rw [List.size_toArray]; omega)
    rw [pick_rev]
    refine ⟨.ref _, _, I4.laid (t' := s3.toks) (o := .lst xs.reverse) (fun b ob q => Heap.get?_push_of_some _ q) (Nat.le_refl _) ?_, rfl, q3 _ (I4.hok.fresh (Nat.le_refl _))⟩
    exact ⟨by rw [List.length_reverse]; exact hz, _, 0, r.reverse, Heap.get?_push_size _ rfl⟩
  show wpAny (model X.prog X.w) X.A (subscriptTail e (.Slice none none (some st) p2) (.ref a) (.ref s3.heap.objs.size)) (EP X pins σ Q) X.xe { s3 with heap := s3.heap.push { cls := .type "slice", data := .fields #[.none, .none, vk] } }
  exact tail_any (ops := [.ref a, .ref s3.heap.objs.size]) ht.isList.typeIs slot_list_getitem.lookup hg (by with_unfolding_all rfl)
end
end KnR

set_option Elab.async false
set_option linter.all false
set_option maxRecDepth 100000
set_option maxHeartbeats 4000000
/-! A def that has defaults, all of its arguments given. -/
namespace KnD
open PySem PySem.Spec PyProof.Rows L2
structure FunX (K : PySem.W.Frag) (x qual : Str) (st : Stmt) (f : Addr) (fd : FuncData) : Prop where
  ex : ∃ (oc : Value) (od : Option Addr) (dV kV doc pm : Value) (an : Option Addr) (cdv ct : Value) (osl : Array (Option Value)),
    fd = PySem.W.fnOf x qual (defArgs st) (defBody st) (defScope st) dV kV doc pm an cdv ct ∧ K.lookup f = some ⟨oc, od, .func fd, osl⟩ ∧ PySem.W.codeIn K cdv qual = true
section
variable {P : Program} {w : World} {K : PySem.W.Frag} {mg : Str → Option Value} {base : Heap}
theorem FunX.ok {x qual : Str} {st : Stmt} {f : Addr} {fd : FuncData} {N ps : List Str} {k : Nat} {sp : Sp} (F : FunX K x qual st f fd) (S : FnScope N ps (defScope st)) (len : ∀ vs H Q E, sp vs H Q E → vs.length = ps.length)
    (hbody : ∀ (cdv : Value) (A : Around) (outer : List Env) (s : Shared) (H : Hp) (vs : List V) (Q : VK) (E : XK), Room k (A.deeper (envOfC qual (defScope st) s.heap.objs.size f cdv)) → sp vs H Q E →
      ∃ t, PSs (cxOf CX0 P w K mg base N qual (defScope st) f cdv A outer s H E).nox (defBody st) t ∧ t { nx := fun _ H' => Q .non H', rt := Q } (start N vs) H) : FnOk P w K mg base CX0 (k + 1) f fd ps sp := by
  obtain ⟨oc, od, dV, kV, doc, pm, an, cdv, ct, osl, rfl, lk, hcd⟩ := F.ex
  refine fn_of lk hcd S len fun A outer s H vs Q E hr hsp => ?_
  obtain ⟨t, h, q⟩ := hbody cdv A outer s H vs Q E hr hsp
  exact ⟨t, h.nox, q⟩
/-- .. that may raise -/
theorem FunX.okX {x qual : Str} {st : Stmt} {f : Addr} {fd : FuncData} {N ps : List Str} {k : Nat} {sp : Sp} (F : FunX K x qual st f fd) (S : FnScope N ps (defScope st)) (len : ∀ vs H Q E, sp vs H Q E → vs.length = ps.length)
    (hbody : ∀ (cdv : Value) (A : Around) (outer : List Env) (s : Shared) (H : Hp) (vs : List V) (Q : VK) (E : XK), Room k (A.deeper (envOfC qual (defScope st) s.heap.objs.size f cdv)) → sp vs H Q E →
      ∃ t, PSs (cxOf (L2.CX P w) P w K mg base N qual (defScope st) f cdv A outer s H E) (defBody st) t ∧ t { nx := fun _ H' => Q .non H', rt := Q } (start N vs) H) : FnOk P w K mg base (L2.CX P w) (k + 1) f fd ps sp := by
  obtain ⟨oc, od, dV, kV, doc, pm, an, cdv, ct, osl, rfl, lk, hcd⟩ := F.ex
  exact fn_of lk hcd S len fun A outer s H vs Q E hr hsp => hbody cdv A outer s H vs Q E hr hsp
theorem binds_full {x qual : Str} {st : Stmt} {f T : Addr} {oc : Value} {od an : Option Addr} {osl : Array (Option Value)} {kV doc pm cdv ct : Value} {to : Obj} {tn : Nat} {its : List Value} {dvs : List V} {ps : List Str}
    (l : K.lookup f = some ⟨oc, od, .func (PySem.W.fnOf x qual (defArgs st) (defBody st) (defScope st) (.ref T) kV doc pm an cdv ct), osl⟩) (c : PySem.W.codeIn K cdv qual = true) (k : PySem.W.keepIn K (.ref f) = true)
    (lT : K.lookup T = some to) (oT : to.data = .seq its.toArray tn) (rT : Vals dvs its) (hd : dvs ≠ [])
    (h : ∀ (T : Addr) (kV doc pm : Value) (an : Option Addr) (cdv ct : Value) (us its : List Value), us.length = ps.length → its.length = dvs.length →
      ∃ k, bindArgs (PySem.W.fnOf x qual (defArgs st) (defBody st) (defScope st) (.ref T) kV doc pm an cdv ct) ⟨us, []⟩ = seqItems? (.ref T) >>= k ∧ k (some its.toArray) = pure (ps.zip (us ++ its.drop dvs.length))) : Binds K (PySem.W.fnOf x qual (defArgs st) (defBody st) (defScope st) (.ref T) kV doc pm an cdv ct) ps [] := by
  have F : FunD K x qual (defArgs st) (defBody st) (defScope st) dvs [] f (PySem.W.fnOf x qual (defArgs st) (defBody st) (defScope st) (.ref T) kV doc pm an cdv ct) :=
    ⟨⟨oc, od, .ref T, kV, doc, pm, an, cdv, ct, osl, rfl, l, c, .inr ⟨hd, T, to, its, tn, rfl, lT, oT, rT⟩, .inl rfl⟩, k⟩
  obtain ⟨ds, v, b⟩ := FunD.binds1 F (ps := ps) ps.length dvs.length hd (by omega) h
  rw [List.drop_length] at v
  cases v
  exact b
end
end KnD

set_option Elab.async false
set_option linter.all false
set_option maxRecDepth 100000
set_option maxHeartbeats 4000000
/-! xs[i] += e, xs a list. -/
namespace KnL
open PySem PySem.Spec PyProof.Rows L2
section
variable {X : Cx}
theorem get_list : PGet X (rIxL X.K) := by
  intro pins s σ H x y v u Q I rx ry h
  obtain ⟨p, xs, i, z, rfl, rfl, hq, he, q⟩ := h
  cases rx
  obtain ⟨t, rfl⟩ := ry
  obtain ⟨its, r, pl, hz⟩ := I.list hq
  obtain ⟨j, h1, h2, h3, h4, h5⟩ := atI_get he
  obtain ⟨w, ew, rw'⟩ := r.get h2
  have hl := r.length
  have hn := line63
  have fin : EP X pins σ Q w s := ⟨z, H, I, rw', q⟩
  by_cases h0 : 0 ≤ i
  · have hj : i.toNat = j := by
      rw [seqIndex_of h0 h5] at h1
      exact Option.some.inj h1
    exact wpAny_getItem_list pl.isList h0 (by omega) (by rw [hj]; simpa using ew) fin
  · have hj : (i + (its.toArray.size : Int)).toNat = j := by
      rw [seqIndex_neg (by omega) h4] at h1
      rw [List.size_toArray, ← hl]
      exact Option.some.inj h1
    exact wpAny_getItem_list_neg pl.isList (by omega) (by rw [List.size_toArray] <;> omega) (by omega) (by rw [hj]; simpa using ew) fin
end
end KnL

set_option Elab.async false
set_option linter.all false
set_option maxRecDepth 100000
/-! a dict comprehension that is given to a local name on the same line -/
namespace KnDc
open PySem PySem.Spec PyProof.Rows L2
variable {X : Cx}
theorem ps_setDc {i : Nat} {y : Str} {py : Pos} {kx vx tg iter : Expr} {ifs : List Expr} {scope : Scope} {own : List (Str × Nat)} {pos spos : Pos} {wi : TI} {g : TG} {tt : TT} {tk tv : TE} (cm : X.calm = true) (dn : X.N.Nodup) (iy : X.N[i]? = some y) (ly : X.env.scope.names.lookup y = some .local)
    (sw : swapsWith (.DictComp kx vx [⟨tg, iter, ifs, 0⟩] scope pos) (some (.Name y py)) spos.line X.env = pure true) (pi : PI X tg iter wi) (bo : BlkOk X.N X.env.scope scope own)
    (pg : ∀ s H C cl fp, PG (X.blk s H scope (compEnvC scope cl C X.env) fp) tg g) (pt : ∀ s H C cl fp, PTs (X.blk s H scope (compEnvC scope cl C X.env) fp) ifs tt)
    (pk : ∀ s H C cl fp, PE (X.blk s H scope (compEnvC scope cl C X.env) fp) kx tk) (pv : ∀ s H C cl fp, PE (X.blk s H scope (compEnvC scope cl C X.env) fp) vx tv)
    (hs : ∀ x, foldedSetIterable iter X.env x = pure x := by intro _; rfl) :
    PS X (.Assign [.Name y py] (.DictComp kx vx [⟨tg, iter, ifs, 0⟩] scope pos) spos) (tAsg (tDc wi g tt tk tv (own.map (·.2))) (gName i)) := by
  refine ⟨fun pins s σ H D I h => ?_⟩
  rw [exec_Assign_Name_used _ _ _ _ sw]
  refine wpAny_bind (wpAny_standAt (wpAny_bind (?_)))
  show wpAny _ X.A (do let _ ← comprehension (.DictComp kx vx [⟨tg, iter, ifs, 0⟩] scope pos) scope X.env (firstIterPos [⟨tg, iter, ifs, 0⟩] pos) newDict false (eval iter X.env) (some (assign (.Name y py) X.env))) _ _ s
  have h : tDc wi g tt tk tv (own.map (·.2)) σ H (fun x H1 => gName i x σ H1 D.nx) := h
  refine wpAny_bind (thn (dc_core (Qf := fun _ s' => SP X pins D .next s') cm dn I pi bo pg pt pk pv hs h fun L C s' m H' I' q hn f => ?_) fun _ s' hq => wpAny_pure (wpAny_pure hq))
  show wpAny _ X.A (assign (.Name y py) X.env (.ref L)) _ _ _
  refine wpAny_assign_Name (store_ok2 (v := V.ref L) I' dn iy (.inl ly) rfl (fun s2 I2 ⟨a, sb, ha⟩ => ?_) (.inr ly))
  obtain ⟨g0, g1, g2, g3, g4, g5⟩ := f
  have nCa : C ≠ a := by
    rcases ha with z | z
    · rw [z]; exact g1
    · exact fun e => (g4 y a z) e.symm
  refine ⟨m, hn.sameBut sb nCa, fun h3 sb3 => ?_⟩
  exact ⟨_, H', I2.turned (t' := s2.toks) (fun b o hb e => ((sb3.2 b hb).trans e)) g0 g1 g3 g4 g5, q⟩
theorem swD {kx vx : Expr} {gs : List Comprehension} {scope : Scope} {pos py : Pos} {y : Str} {l : Nat} {env : Env} (hk : env.scope.kind = .function) (hy : env.scope.names.lookup y = some .local) (hl : (py.line == pos.line) = true)
    (ha : (scope.names.any fun (n, k) => n == y && (k == .local || k == .cell)) = false) : swapsWith (.DictComp kx vx gs scope pos) (some (.Name y py)) l env = pure true := by
  have e1 : env.kindOf y = some .local := hy
  have e2 : env.blockKind = .function := by unfold Env.blockKind; rw [hk]; rfl
  unfold swapsWith
  simp only [e2, e1, ha, Expr.pos, hl]
  rfl
end KnDc

set_option Elab.async false
set_option linter.all false
set_option maxRecDepth 100000
set_option maxHeartbeats 4000000
namespace Kn
open PySem PySem.Spec PyProof.Rows L2
open C8 (Cal pe_c pe_gc Mak pe_mk)
def topS (i : Nat) : Stmt := PySem.Challenge.pw_knownlate_k46_avoiding.main.body.getD i (.Pass ⟨0, 0, 0, 0⟩)
abbrev s__law_source : Stmt := topS 37
theorem sc__law_source : FnScope ["_law_script", "_law_cell"] ["_law_script"] (defScope s__law_source) := ⟨rfl, rfl, rfl, by decide +kernel, rfl, by decide +kernel, by decide +kernel⟩
abbrev s__law_draw : Stmt := topS 38
theorem sc__law_draw : FnScope ["_law_source_here", "_law_many", "_law_digit", "_law_cell", "_law_number"] ["_law_source_here", "_law_many"] (defScope s__law_draw) := ⟨rfl, rfl, rfl, by decide +kernel, rfl, by decide +kernel, by decide +kernel⟩
abbrev s__law_states : Stmt := topS 41
theorem sc__law_states : FnScope ["_law_source_here", "_law_most", "_law_states_here", "_law_k", "_law_state"] ["_law_source_here", "_law_most"] (defScope s__law_states) := ⟨rfl, rfl, rfl, by decide +kernel, rfl, by decide +kernel, by decide +kernel⟩
abbrev s__law_step : Stmt := topS 42
theorem sc__law_step : FnScope ["_law_source_here", "_law_state", "_law_states_here", "_law_words", "_law_word"] ["_law_source_here", "_law_state", "_law_states_here", "_law_words"] (defScope s__law_step) := ⟨rfl, rfl, rfl, by decide +kernel, rfl, by decide +kernel, by decide +kernel⟩
abbrev s__law_steps : Stmt := topS 43
theorem sc__law_steps : FnScope ["_law_source_here", "_law_states_here", "_law_words", "_law_extra", "_law_most", "_law_steps_here", "_law_state", "_law_row", "_law_k", "_law_many", "_law_step_here"] ["_law_source_here", "_law_states_here", "_law_words", "_law_extra", "_law_most"] (defScope s__law_steps) := ⟨rfl, rfl, rfl, by decide +kernel, rfl, by decide +kernel, by decide +kernel⟩
abbrev s__law_name : Stmt := topS 39
theorem sc__law_name : FnScope ["_law_source_here", "_law_size", "_law_letters", "_law_k"] ["_law_source_here"] (defScope s__law_name) := ⟨rfl, rfl, rfl, by decide +kernel, rfl, by decide +kernel, by decide +kernel⟩
abbrev s__law_names : Stmt := topS 40
theorem sc__law_names : FnScope ["_law_source_here", "_law_many", "_law_names_here", "_law_k", "_law_name_here"] ["_law_source_here", "_law_many"] (defScope s__law_names) := ⟨rfl, rfl, rfl, by decide +kernel, rfl, by decide +kernel, by decide +kernel⟩
abbrev s__law_faults : Stmt := topS 44
theorem sc__law_faults : FnScope ["_law_source_here", "_law_steps_here", "_law_most", "_law_names_here", "_law_used", "_law_faults_here", "_law_word", "_law_row"] ["_law_source_here", "_law_steps_here", "_law_most"] (defScope s__law_faults) := ⟨rfl, rfl, rfl, by decide +kernel, rfl, by decide +kernel, by decide +kernel⟩
abbrev s__law_machine : Stmt := topS 45
theorem sc__law_machine : FnScope ["_law_source_here", "_law_size", "_law_extra", "_law_words", "_law_most", "_law_states_here", "_law_steps_here", "_law_faults_here", "_law_fault"] ["_law_source_here", "_law_size", "_law_extra", "_law_words", "_law_most"] (defScope s__law_machine) := ⟨rfl, rfl, rfl, by decide +kernel, rfl, by decide +kernel, by decide +kernel⟩
abbrev s_is_whole : Stmt := topS 19
theorem sc_is_whole : FnScope ["value"] ["value"] (defScope s_is_whole) := ⟨rfl, rfl, rfl, by decide +kernel, rfl, by decide +kernel, by decide +kernel⟩
abbrev s_is_state : Stmt := topS 18
theorem sc_is_state : FnScope ["value"] ["value"] (defScope s_is_state) := ⟨rfl, rfl, rfl, by decide +kernel, rfl, by decide +kernel, by decide +kernel⟩
abbrev s_is_row : Stmt := topS 20
theorem sc_is_row : FnScope ["value"] ["value"] (defScope s_is_row) := ⟨rfl, rfl, rfl, by decide +kernel, rfl, by decide +kernel, by decide +kernel⟩
abbrev s_is_name : Stmt := topS 17
theorem sc_is_name : FnScope ["value", "letter"] ["value"] (defScope s_is_name) := ⟨rfl, rfl, rfl, by decide +kernel, rfl, by decide +kernel, by decide +kernel⟩
abbrev s_is_step : Stmt := topS 31
theorem sc_is_step : FnScope ["value"] ["value"] (defScope s_is_step) := ⟨rfl, rfl, rfl, by decide +kernel, rfl, by decide +kernel, by decide +kernel⟩
abbrev s_check_steps : Stmt := topS 32
theorem sc_check_steps : FnScope ["steps", "seen", "counts", "at", "step"] ["steps"] (defScope s_check_steps) := ⟨rfl, rfl, rfl, by decide +kernel, rfl, by decide +kernel, by decide +kernel⟩
abbrev s_check_faults : Stmt := topS 33
theorem sc_check_faults : FnScope ["faults", "words", "names", "word", "name"] ["faults", "words"] (defScope s_check_faults) := ⟨rfl, rfl, rfl, by decide +kernel, rfl, by decide +kernel, by decide +kernel⟩
abbrev s_moves_by_state : Stmt := topS 34
theorem sc_moves_by_state : FnScope ["steps", "moves", "source", "word", "target"] ["steps"] (defScope s_moves_by_state) := ⟨rfl, rfl, rfl, by decide +kernel, rfl, by decide +kernel, by decide +kernel⟩
abbrev s_reached_states : Stmt := topS 35
theorem sc_reached_states : FnScope ["start", "leaving", "reached", "waiting", "moves", "word", "target"] ["start", "leaving"] (defScope s_reached_states) := ⟨rfl, rfl, rfl, by decide +kernel, rfl, by decide +kernel, by decide +kernel⟩
abbrev s_Machine_init : Stmt := inClass (topS 30) 0
theorem sc_Machine_init : FnScope ["self", "start", "steps", "faults", "words", "leaving", "states", "state", "step", "word"] ["self", "start", "steps", "faults"] (defScope s_Machine_init) := ⟨rfl, rfl, rfl, by decide +kernel, rfl, by decide +kernel, by decide +kernel⟩
abbrev s__law_reached : Stmt := topS 46
theorem sc__law_reached : FnScope ["_law_data", "_law_found", "_law_at", "_law_row"] ["_law_data"] (defScope s__law_reached) := ⟨rfl, rfl, rfl, by decide +kernel, rfl, by decide +kernel, by decide +kernel⟩
abbrev s__law_goes_on : Stmt := topS 47
theorem sc__law_goes_on : FnScope ["_law_data", "_law_state", "_law_kept", "_law_row"] ["_law_data", "_law_state", "_law_kept"] (defScope s__law_goes_on) := ⟨rfl, rfl, rfl, by decide +kernel, rfl, by decide +kernel, by decide +kernel⟩
abbrev s__law_avoiding : Stmt := topS 48
theorem sc__law_avoiding : FnScope ["_law_data", "_law_kept", "_law_turn", "_law_state"] ["_law_data"] (defScope s__law_avoiding) := ⟨rfl, rfl, rfl, by decide +kernel, rfl, by decide +kernel, by decide +kernel⟩
abbrev s_Machine_fault_names : Stmt := inClass (topS 30) 5
theorem sc_Machine_fault_names : FnScope ["self"] ["self"] (defScope s_Machine_fault_names) := ⟨rfl, rfl, rfl, by decide +kernel, rfl, by decide +kernel, by decide +kernel⟩
abbrev s_check_fault : Stmt := topS 22
theorem sc_check_fault : FnScope ["machine", "fault"] ["machine", "fault"] (defScope s_check_fault) := ⟨rfl, rfl, rfl, by decide +kernel, rfl, by decide +kernel, by decide +kernel⟩
abbrev s_Machine_states : Stmt := inClass (topS 30) 7
theorem sc_Machine_states : FnScope ["self"] ["self"] (defScope s_Machine_states) := ⟨rfl, rfl, rfl, by decide +kernel, rfl, by decide +kernel, by decide +kernel⟩
abbrev s_Machine_faults : Stmt := inClass (topS 30) 6
theorem sc_Machine_faults : FnScope ["self"] ["self"] (defScope s_Machine_faults) := ⟨rfl, rfl, rfl, by decide +kernel, rfl, by decide +kernel, by decide +kernel⟩
abbrev s_Machine_steps : Stmt := inClass (topS 30) 3
theorem sc_Machine_steps : FnScope ["self"] ["self"] (defScope s_Machine_steps) := ⟨rfl, rfl, rfl, by decide +kernel, rfl, by decide +kernel, by decide +kernel⟩
abbrev s_steps_of_fault : Stmt := topS 24
theorem sc_steps_of_fault : FnScope ["machine", "fault", "faults", "number", "step"] ["machine", "fault"] (defScope s_steps_of_fault) := ⟨rfl, rfl, rfl, by decide +kernel, rfl, by decide +kernel, by decide +kernel⟩
abbrev s_steps_by_state : Stmt := topS 27
theorem sc_steps_by_state : FnScope ["machine", "fault", "free", "breaking", "of_fault", "number", "source", "word", "target", "state"] ["machine", "fault"] (defScope s_steps_by_state) := ⟨rfl, rfl, rfl, by decide +kernel, rfl, by decide +kernel, by decide +kernel⟩
abbrev s_safe_steps : Stmt := topS 28
theorem sc_safe_steps : FnScope ["states", "free", "safe", "found", "state", "rows", "number", "target"] ["states", "free"] (defScope s_safe_steps) := ⟨rfl, rfl, rfl, by decide +kernel, rfl, by decide +kernel, by decide +kernel⟩
abbrev s_avoiding : Stmt := topS 26
theorem sc_avoiding : FnScope ["machine", "fault", "free", "_"] ["machine", "fault"] (defScope s_avoiding) := ⟨rfl, rfl, rfl, by decide +kernel, rfl, by decide +kernel, by decide +kernel⟩
abbrev s__law_is_integer : Stmt := topS 49
theorem sc__law_is_integer : FnScope ["_law_actual"] ["_law_actual"] (defScope s__law_is_integer) := ⟨rfl, rfl, rfl, by decide +kernel, rfl, by decide +kernel, by decide +kernel⟩
abbrev s__law_same_list : Stmt := topS 50
theorem sc__law_same_list : FnScope ["_law_actual", "_law_due", "_law_k"] ["_law_actual", "_law_due"] (defScope s__law_same_list) := ⟨rfl, rfl, rfl, by decide +kernel, rfl, by decide +kernel, by decide +kernel⟩
abbrev s_law : Stmt := topS 51
theorem sc_law : FnScope ["_law_script", "_law_source_here", "_law_data", "_law_machine_here", "_law_name_here", "_law_due", "_law_actual"] ["_law_script"] (defScope s_law) := ⟨rfl, rfl, rfl, by decide +kernel, rfl, by decide +kernel, by decide +kernel⟩
structure Txt (K : PySem.W.Frag) (mg : Str → Option Value) (C : Addr) : Prop where
  m_all : mg "all" = none
  m_bool : mg "bool" = none
  m_dict : mg "dict" = none
  m_enumerate : mg "enumerate" = none
  m_int : mg "int" = none
  m_isinstance : mg "isinstance" = none
  m_len : mg "len" = none
  m_list : mg "list" = none
  m_range : mg "range" = none
  m_set : mg "set" = none
  m_sorted : mg "sorted" = none
  m_str : mg "str" = none
  m_tuple : mg "tuple" = none
  c_GREATEST_STATE : ∃ u, mg "GREATEST_STATE" = some u ∧ RelV (.int 99) u
  c_LONGEST_NAME : ∃ u, mg "LONGEST_NAME" = some u ∧ RelV (.int 12) u
  c_LETTERS : ∃ u, mg "LETTERS" = some u ∧ RelV (.str "abcdefghijklmnopqrstuvwxyz") u
  c_MOST_STEPS : ∃ u, mg "MOST_STEPS" = some u ∧ RelV (.int 80) u
  c_MOST_LEAVING : ∃ u, mg "MOST_LEAVING" = some u ∧ RelV (.int 8) u
  c_MOST_FAULTS : ∃ u, mg "MOST_FAULTS" = some u ∧ RelV (.int 3) u
  c_MOST_WORDS : ∃ u, mg "MOST_WORDS" = some u ∧ RelV (.int 14) u
  cl : Cls K C
  g_Machine : mg "Machine" = some (.ref C)
  ins_Machine : C8.InsC K C
  n__start : NoAttr K C "_start"
  n__steps : NoAttr K C "_steps"
  n__words : NoAttr K C "_words"
  n__faults : NoAttr K C "_faults"
  n__states : NoAttr K C "_states"
theorem szl {α : Type} {l : List α} (h : Nat.ble l.length 100000 = true) : l.length ≤ sizeLine := smallE (Nat.le_of_ble_eq_true h)
/-! ### values -/
inductive Val (K : PySem.W.Frag) (H : Hp) : V → Prop where
  | non : Val K H .non
  | bl (b : Bool) : Val K H (.bl b)
  | int (i : Int) : Val K H (.int i)
  | str (z : Str) (h : z.cps.size ≤ 100) : Val K H (.str z)
  | lst {a : Addr} {xs : List V} (e : H a = some (.lst xs)) : Val K H (.ref a)
  | tup {a : Addr} {xs : List V} (e : H a = some (.tup xs)) : Val K H (.ref a)
  | dK {a : Addr} {kvs : List (Key × V)} (e : H a = some (.dK kvs)) : Val K H (.ref a)
theorem Val.mono {K : PySem.W.Frag} {H H' : Hp} {v : V} (h : Val K H v) (s : Same H H') : Val K H' v := by
  cases h with
  | non => exact .non
  | bl b => exact .bl b
  | int i => exact .int i
  | str z h => exact .str z h
  | lst e => exact .lst (s _ _ e)
  | tup e => exact .tup (s _ _ e)
  | dK e => exact .dK (s _ _ e)
def isS : V → Bool
  | .str _ => true
  | _ => false
def isI : V → Bool
  | .int _ => true
  | .bl _ => true
  | _ => false
def isB : V → Bool
  | .bl _ => true
  | _ => false
theorem Val.ty {K : PySem.W.Frag} {H : Hp} {v : V} (h : Val K H v) : ∃ t, TyX K H v t ∧ PySem.W.kitOne K t (.type "str") = some (isS v) ∧ PySem.W.kitOne K t (.type "int") = some (isI v) ∧ PySem.W.kitOne K t (.type "bool") = some (isB v) := by
  cases h with
  | non => exact ⟨_, .base .non, kit_ty (show kitB "NoneType" "str" = some false by decide +kernel), kit_ty (show kitB "NoneType" "int" = some false by decide +kernel), kit_ty (show kitB "NoneType" "bool" = some false by decide +kernel)⟩
  | bl b => exact ⟨_, .base (.bl b), kit_ty (show kitB "bool" "str" = some false by decide +kernel), kit_ty (show kitB "bool" "int" = some true by decide +kernel), kit_ty (show kitB "bool" "bool" = some true by decide +kernel)⟩
  | int i => exact ⟨_, .base (.int i), kit_ty (show kitB "int" "str" = some false by decide +kernel), kit_ty (show kitB "int" "int" = some true by decide +kernel), kit_ty (show kitB "int" "bool" = some false by decide +kernel)⟩
  | str z h => exact ⟨_, .base (.str z), kit_ty (show kitB "str" "str" = some true by decide +kernel), kit_ty (show kitB "str" "int" = some false by decide +kernel), kit_ty (show kitB "str" "bool" = some false by decide +kernel)⟩
  | lst e => exact ⟨_, .base (.lst e), kit_ty (show kitB "list" "str" = some false by decide +kernel), kit_ty (show kitB "list" "int" = some false by decide +kernel), kit_ty (show kitB "list" "bool" = some false by decide +kernel)⟩
  | tup e => exact ⟨_, .base (.tup e), kit_ty (show kitB "tuple" "str" = some false by decide +kernel), kit_ty (show kitB "tuple" "int" = some false by decide +kernel), kit_ty (show kitB "tuple" "bool" = some false by decide +kernel)⟩
  | dK e => exact ⟨_, .base (.dK e), kit_ty (show kitB "dict" "str" = some false by decide +kernel), kit_ty (show kitB "dict" "int" = some false by decide +kernel), kit_ty (show kitB "dict" "bool" = some false by decide +kernel)⟩
/-! ### what is computed -/
def letters : Str := "abcdefghijklmnopqrstuvwxyz"
def inL (c : Nat) : Bool := decide (c ∈ letters.cps.toList)
def nameB : V → Bool
  | .str z => decide (1 ≤ z.cps.size) && decide (z.cps.size ≤ 12) && z.cps.toList.all inL
  | _ => false
def wholeB (v : V) : Bool := isI v && !isB v
def stateB : V → Bool
  | .int i => decide (0 ≤ i) && decide (i ≤ 99)
  | _ => false
/-! ### promises -/
def spPure (g : V → Bool) (K : PySem.W.Frag) : Sp := fun vs H Q _ => ∃ v, vs = [v] ∧ Val K H v ∧ ∀ H', Same H H' → Q (.bl (g v)) H'
def sp_is_name := spPure nameB
def sp__law_is_name := spPure nameB
def sp_is_whole := spPure wholeB
def sp__law_is_integer := spPure wholeB
def sp_is_state := spPure stateB
def sp__law_is_state := spPure stateB
def sp__law_flag (_ : PySem.W.Frag) : Sp := fun vs H Q _ => ∃ a b, vs = [.bl a, .bl b] ∧ Q (.bl (decide (a = b))) H
def sp__law_mix (_ : PySem.W.Frag) : Sp := fun vs H Q _ => ∃ c k : Int, vs = [.int c, .int k] ∧ ∀ r : Int, 0 ≤ r → r < 2147483399 → Q (.int r) H
def sp__law_cell (K : PySem.W.Frag) : Sp := fun vs H Q _ => ∃ (a : Addr) (ns : List Int) (k : Nat), vs = [.ref a, .int (k : Int)] ∧ SqL K H a (ns.map V.int) ∧ ∀ r : Int, Q (.int r) H
def sp__law_row (K : PySem.W.Frag) : Sp := fun vs H Q _ => ∃ (c : Int) (b : Addr) (ss : List Int), vs = [.int c, .ref b] ∧ SqL K H b (ss.map V.int) ∧ ss.length ≤ 1000 ∧ (∀ s ∈ ss, 0 < s ∧ s < 1073741824) ∧
  ∀ H' p (rs : List Int), Same H H' → H p = none → H' p = some (.lst (rs.map V.int)) → rs.length = ss.length → (∀ (i : Nat) (r s : Int), rs[i]? = some r → ss[i]? = some s → 0 ≤ r ∧ r < s) → Q (.ref p) H'
def sp__law_text (_ : PySem.W.Frag) : Sp := fun vs H Q _ => ∃ c : Int, vs = [.int c] ∧ ∀ (z : Str) H', Same H H' → z.cps.size ≤ 100 → Q (.str z) H'
def sp_law (K : PySem.W.Frag) : Sp := fun vs H Q _ => ∃ (a : Addr) (ns : List Int), vs = [.ref a] ∧ SqL K H a (ns.map V.int) ∧ ns.length ≤ 63 ∧ ∀ H', Q (.bl true) H'
section
variable {P : Program} {w : World} {K : PySem.W.Frag} {mg : Str → Option Value} {base : Heap}

theorem ok_is_whole {f : Addr} {C : Addr} {fd : FuncData} (T : Txt K mg C) (F : Fun K "is_whole" "is_whole" s_is_whole f fd)  : FnOk P w K mg base CX0 1 f fd ["value"] (sp_is_whole K) := by
  have nd := sc_is_whole.nd
  refine F.ok sc_is_whole (fun vs H Q E h => ?_) (fun cdv A outer s H vs Q E hr h => ?_)
  · obtain ⟨v, rfl, _⟩ := h
    rfl
  · obtain ⟨v, rfl, hv, q⟩ := h
    refine ⟨_, (pss_one (ps_ret (pe_and (pe_callB call_isi (by rfl) T.m_isinstance (by decide +kernel) (pa_cons (pv 0) (pa_cons (pe_bltn (v := .ty "int") (u := .type "int") (by rfl) T.m_int (by decide +kernel) rfl) pa_nil))) (pe_one (pe_not (pe_callB call_isi (by rfl) T.m_isinstance (by decide +kernel) (pa_cons (pv 0) (pa_cons (pe_bltn (v := .ty "bool") (u := .type "bool") (by rfl) T.m_bool (by decide +kernel) rfl) pa_nil)))))))), ?_⟩
    obtain ⟨t, ht, hs, hi, hb⟩ := hv.ty
    refine ⟨v, rfl, v, .ty "int", t, _, isI v, rfl, .ty _, ht, hi, _, rfl, ?_⟩
    have q' := q H (Same.refl H)
    unfold wholeB at q'
    by_cases e : isI v = true
    · rw [if_pos e]
      refine ⟨v, rfl, v, .ty "bool", t, _, isB v, rfl, .ty _, ht, hb, _, rfl, ?_⟩
      rw [e] at q'
      exact q'
    · rw [if_neg e]
      rw [Bool.eq_false_iff.mpr e] at q'
      exact q'

theorem ok_is_state {f : Addr} {C : Addr} {fd : FuncData} (T : Txt K mg C) (F : Fun K "is_state" "is_state" s_is_state f fd) (c_is_whole : Cal P w K mg base 1 "is_whole" (sp_is_whole K) []) : FnOk P w K mg base CX0 2 f fd ["value"] (sp_is_state K) := by
  have nd := sc_is_state.nd
  refine F.ok sc_is_state (fun vs H Q E h => ?_) (fun cdv A outer s H vs Q E hr h => ?_)
  · obtain ⟨v, rfl, _⟩ := h
    rfl
  · obtain ⟨v, rfl, hv, q⟩ := h
    refine ⟨_, (pss_one (ps_ret (pe_and (pe_c c_is_whole hr (by omega) (by rfl) (pa_cons (pv 0) pa_nil)) (pe_one (pe_chain op_le op_le pe_int (pv 0) (pe_gc (by rfl) T.c_GREATEST_STATE)))))), ?_⟩
    refine ⟨v, rfl, v, rfl, hv, fun H1 s1 => ⟨_, rfl, ?_⟩⟩
    have q' := q H1 s1
    cases hv with
    | int i =>
      refine iteT ⟨.int i, rfl, 0, i, rfl, rfl, _, rfl, ?_⟩
      by_cases e : 0 ≤ i
      · rw [decide_eq_true e]
        refine iteT ⟨i, 99, rfl, rfl, ?_⟩
        have e2 : stateB (.int i) = decide (i ≤ 99) := by
          show (decide (0 ≤ i) && decide (i ≤ 99)) = _
          rw [decide_eq_true e]; rfl
        rw [e2] at q'
        exact q'
      · rw [decide_eq_false e]
        refine iteF ?_
        have e2 : stateB (.int i) = false := by
          show (decide (0 ≤ i) && decide (i ≤ 99)) = _
          rw [decide_eq_false e]; rfl
        rw [e2] at q'
        exact q'
    | _ => exact iteF q'

theorem nameB_out {z : Str} (h : ¬ (1 ≤ z.cps.size ∧ z.cps.size ≤ 12)) : nameB (.str z) = false := by
  show (decide (1 ≤ z.cps.size) && decide (z.cps.size ≤ 12) && z.cps.toList.all inL) = false
  by_cases a : 1 ≤ z.cps.size
  · rw [decide_eq_false (p := z.cps.size ≤ 12) (fun b => h ⟨a, b⟩), Bool.and_false]; rfl
  · rw [decide_eq_false a]; rfl
theorem nameB_in {z : Str} (h1 : 1 ≤ z.cps.size) (h2 : z.cps.size ≤ 12) : nameB (.str z) = z.cps.toList.all inL := by
  show (decide (1 ≤ z.cps.size) && decide (z.cps.size ≤ 12) && z.cps.toList.all inL) = _
  rw [decide_eq_true h1, decide_eq_true h2]; rfl
theorem nameB_not {v : V} (h : isS v = false) : nameB v = false := by
  cases v <;> first | rfl | cases h
theorem isS_str {v : V} (h : isS v = true) : ∃ z, v = .str z := by
  cases v <;> first | exact ⟨_, rfl⟩ | cases h
theorem Val.size {K : PySem.W.Frag} {H : Hp} {z : Str} (h : Val K H (.str z)) : z.cps.size ≤ 100 := by
  cases h with
  | str _ h => exact h

theorem ok_is_name {f : Addr} {C : Addr} {fd : FuncData} (T : Txt K mg C) (F : Fun K "is_name" "is_name" s_is_name f fd)  : FnOk P w K mg base CX0 1 f fd ["value"] (sp_is_name K) := by
  have nd := sc_is_name.nd
  refine F.ok sc_is_name (fun vs H Q E h => ?_) (fun cdv A outer s H vs Q E hr h => ?_)
  · obtain ⟨v, rfl, _⟩ := h
    rfl
  · obtain ⟨v, rfl, hv, q⟩ := h
    refine ⟨_, (pss_cons (ps_if (PW.pt (pw_or (pt_not (pt_val (pe_callB call_isi (by rfl) T.m_isinstance (by decide +kernel) (pa_cons (pv 0) (pa_cons (pe_bltn (v := .ty "str") (u := .type "str") (by rfl) T.m_str (by decide +kernel) rfl) pa_nil))))) (pw_or1 (pt_not (pt_chain op_le op_le pe_int (pe_callB call_len (by rfl) T.m_len (by decide +kernel) (pa_cons (pv 0) pa_nil)) (pe_gc (by rfl) T.c_LONGEST_NAME)))))) (pss_one (ps_ret pe_bl)) pss_nil)
      (pss_one (ps_ret (pe_callB (cr_all rfl) (by rfl) T.m_all (by decide +kernel) (pa_cons (pe_lc (own := [("letter", 1)]) (g := gName 1) (tt := tYes) rfl nd (pi_str (pv 0)) (blkOk_by (N := ["value", "letter"]) (sc := defScope s_is_name) (by decide +kernel)) (fun _ _ _ _ _ => (pg_name (i := 1) nd rfl (.inl rfl))) (fun _ _ _ _ _ => pts_nil) (fun _ _ _ _ _ => (pe_cmpR op_in_sign (pv 1) (pe_gc (by rfl) T.c_LETTERS) (by with_unfolding_all rfl)))) pa_nil))))), ?_⟩
    obtain ⟨t, ht, hs, hi, hb⟩ := hv.ty
    refine ⟨v, rfl, v, .ty "str", t, _, isS v, rfl, .ty _, ht, hs, _, rfl, ?_⟩
    cases e : isS v with
    | false =>
      refine iteT ?_
      have q' := q H (Same.refl H)
      rw [nameB_not e] at q'
      exact q'
    | true =>
      obtain ⟨z, rfl⟩ := isS_str e
      have hz := hv.size
      refine iteF ⟨.str z, rfl, .str z, z.cps.size, rfl, ⟨smallE (show z.cps.size ≤ 100000 by omega), rfl⟩, 1, (z.cps.size : Int), rfl, rfl, _, rfl, ?_⟩
      by_cases a : 1 ≤ z.cps.size
      · rw [decide_eq_true (show (1 : Int) ≤ (z.cps.size : Int) by omega)]
        refine iteT ⟨(z.cps.size : Int), 12, rfl, rfl, _, rfl, ?_⟩
        by_cases b : z.cps.size ≤ 12
        · rw [decide_eq_true (show (z.cps.size : Int) ≤ 12 by omega)]
          refine iteF ⟨.str z, rfl, z, rfl, fun D nD => lc_text (fun i H' => Same H H' ∧ H' D = some (.lst ((z.cps.toList.take i).map fun c => .bl (inL c)))) ⟨same_upd nD, upd_same⟩ (fun i c H' hc hP => ?_) (fun H' hP => ?_)⟩
          · obtain ⟨sm, eD⟩ := hP
            have hl : i < z.cps.toList.length := (List.getElem?_eq_some_iff.mp hc).1
            rw [Array.length_toList] at hl
            refine ⟨rfl, ?_⟩
            refine ⟨.str ⟨#[c]⟩, rfl, c, letters, rfl, rfl, _, eD, ?_, same_set nD sm, ?_⟩
            · rw [List.length_map, List.length_take]
              exact Nat.lt_of_le_of_lt (Nat.min_le_left _ _) (small (by omega))
            · rw [upd_same, take_more hc, List.map_append]; rfl
          · obtain ⟨sm, eD⟩ := hP
            rw [List.take_length] at eD
            refine ⟨D, z.cps.toList.map inL, rfl, .inl (.inl (by rw [eD, List.map_map]; rfl)), ?_⟩
            have q' := q H' sm
            rw [nameB_in a b] at q'
            rw [List.all_map]
            exact q'
        · rw [decide_eq_false (show ¬ (z.cps.size : Int) ≤ 12 by omega)]
          refine iteT ?_
          have q' := q H (Same.refl H)
          rw [nameB_out (fun h => b h.2)] at q'
          exact q'
      · rw [decide_eq_false (show ¬ (1 : Int) ≤ (z.cps.size : Int) by omega)]
        refine iteF ?_
        have q' := q H (Same.refl H)
        rw [nameB_out (fun h => a h.1)] at q'
        exact ⟨_, rfl, q'⟩

/-! ### rows, steps -/
abbrev rowO (b : Bool) (xs : List V) : HO := match b with | true => .lst xs | false => .tup xs
theorem row_sq {b : Bool} {H : Hp} {a : Addr} {xs : List V} (h : H a = some (rowO b xs)) : KnE.Sq K b H a xs := by
  cases b with
  | true => exact .inl (.inl h)
  | false => exact .inl (.inl h)
theorem row_len {b : Bool} {H : Hp} {a : Addr} {xs : List V} (h : H a = some (rowO b xs)) : LenV K (.ref a) H xs.length := by
  cases b with
  | true => exact .inl ⟨xs, .inl (.inl h), rfl⟩
  | false => exact .inr ⟨xs, .inl (.inl h), rfl⟩
abbrev tup3 (st : KnA.Stp) : HO := .tup [.int st.1, .str st.2.1, .int st.2.2]
abbrev key3 (st : KnA.Stp) : List Key := [.inl st.1, .inr st.2.1, .inl st.2.2]
theorem key3_inj {x y : KnA.Stp} (h : key3 x = key3 y) : x = y := by
  obtain ⟨a, b, c⟩ := x
  obtain ⟨a', b', c'⟩ := y
  simp only [key3, List.cons.injEq, Sum.inl.injEq, Sum.inr.injEq, and_true] at h
  obtain ⟨rfl, rfl, rfl⟩ := h
  rfl
def Stps (H : Hp) (as : List Addr) (ss : List KnA.Stp) : Prop := Paired (fun a st => H a = some (tup3 st)) as ss
theorem Stps.mono {H H' : Hp} {as : List Addr} {ss : List KnA.Stp} (h : Stps H as ss) (s : Same H H') : Stps H' as ss := Paired.mapP h fun _ _ e => s _ _ e
theorem paired_get {α β : Type} {F : α → β → Prop} {l : List α} {m : List β} (h : Paired F l m) : ∀ {i : Nat} {a : α}, l[i]? = some a → ∃ b, m[i]? = some b ∧ F a b := by
  induction h with
  | nil => intro i a e; cases e
  | cons r _ ih =>
    intro i a e
    cases i with
    | zero => cases e; exact ⟨_, rfl, r⟩
    | succ i => exact ih (i := i) e
theorem ref_get {H : Hp} {as : List Addr} {ss : List KnA.Stp} (h : Stps H as ss) {i : Nat} {x : V} (e : (as.map V.ref)[i]? = some x) : ∃ a st, x = .ref a ∧ as[i]? = some a ∧ ss[i]? = some st ∧ H a = some (tup3 st) := by
  rw [List.getElem?_map] at e
  cases g : as[i]? with
  | none => rw [g] at e; cases e
  | some a =>
    rw [g] at e
    obtain ⟨st, g2, r⟩ := paired_get h g
    exact ⟨a, st, (Option.some.inj e).symm, rfl, g2, r⟩
structure GoodStep (x : KnA.Stp) : Prop where
  s : stateB (.int x.1) = true
  w : nameB (.str x.2.1) = true
  t : stateB (.int x.2.2) = true
theorem name_size {z : Str} (h : nameB (.str z) = true) : 1 ≤ z.cps.size ∧ z.cps.size ≤ 12 := by
  by_cases a : 1 ≤ z.cps.size ∧ z.cps.size ≤ 12
  · exact a
  · rw [nameB_out a] at h; cases h
def cnt (ss : List KnA.Stp) (s : Int) : Nat := (ss.filter fun x => decide (x.1 = s)).length
structure GoodSteps (ss : List KnA.Stp) : Prop where
  lo : 1 ≤ ss.length
  hi : ss.length ≤ 80
  good : ∀ x ∈ ss, GoodStep x
  nd : ss.Nodup
  few : ∀ s, cnt ss s ≤ 8
def sp_is_row (_ : PySem.W.Frag) : Sp := fun vs H Q _ => ∃ b a xs, vs = [.ref a] ∧ H a = some (rowO b xs) ∧ ∀ H', Same H H' → Q (.bl true) H'
def sp_is_step (_ : PySem.W.Frag) : Sp := fun vs H Q _ => ∃ a st, vs = [.ref a] ∧ H a = some (tup3 st) ∧ GoodStep st ∧ ∀ H', Same H H' → Q (.bl true) H'
def sp_check_steps (_ : PySem.W.Frag) : Sp := fun vs H Q _ => ∃ b a as ss, vs = [.ref a] ∧ H a = some (rowO b (as.map V.ref)) ∧ Stps H as ss ∧ GoodSteps ss ∧ ∀ H', Same H H' → Q .non H'
theorem ok_is_row {f : Addr} {C : Addr} {fd : FuncData} (T : Txt K mg C) (F : Fun K "is_row" "is_row" s_is_row f fd)  : FnOk P w K mg base CX0 1 f fd ["value"] (sp_is_row K) := by
  have nd := sc_is_row.nd
  refine F.ok sc_is_row (fun vs H Q E h => ?_) (fun cdv A outer s H vs Q E hr h => ?_)
  · obtain ⟨b, a, xs, rfl, _⟩ := h
    rfl
  · obtain ⟨b, a, xs, rfl, ha, q⟩ := h
    refine ⟨_, (pss_one (ps_ret (pe_callB call_isiT (by rfl) T.m_isinstance (by decide +kernel) (pa_cons (pv 0) (pa_cons (pe_tup (pa_cons (pe_bltn (v := .ty "list") (u := .type "list") (by rfl) T.m_list (by decide +kernel) rfl) (pa_cons (pe_bltn (v := .ty "tuple") (u := .type "tuple") (by rfl) T.m_tuple (by decide +kernel) rfl) pa_nil))) pa_nil))))), ?_⟩
    refine ⟨.ref a, rfl, szl rfl, fun p np => ?_⟩
    have q' := q _ (same_upd (o := .tup [.ty "list", .ty "tuple"]) np)
    have ha' : (upd H p (.tup [.ty "list", .ty "tuple"])) a = some (rowO b xs) := (upd_ne (ne_of_none ha np)).trans ha
    cases b with
    | true =>
      exact ⟨.ref a, p, [.ty "list", .ty "tuple"], .type "list", [.type "list", .type "tuple"], true, rfl, upd_same, .cons (.ty _) (.cons (.ty _) .nil), .base (.lst ha'), kitAny_cons (kit_ty (show kitB "list" "list" = some true by decide +kernel)) (fun z => nomatch z) (fun _ => rfl), q'⟩
    | false =>
      exact ⟨.ref a, p, [.ty "list", .ty "tuple"], .type "tuple", [.type "list", .type "tuple"], true, rfl, upd_same, .cons (.ty _) (.cons (.ty _) .nil), .base (.tup ha'),
        kitAny_cons (kit_ty (show kitB "tuple" "list" = some false by decide +kernel)) (fun _ => kitAny_cons (kit_ty (show kitB "tuple" "tuple" = some true by decide +kernel)) (fun z => nomatch z) fun _ => rfl) (fun z => nomatch z), q'⟩
theorem ok_is_step {f : Addr} {C : Addr} {fd : FuncData} (T : Txt K mg C) (F : Fun K "is_step" "is_step" s_is_step f fd) (c_is_state : Cal P w K mg base 2 "is_state" (sp_is_state K) []) (c_is_name : Cal P w K mg base 1 "is_name" (sp_is_name K) []) : FnOk P w K mg base CX0 3 f fd ["value"] (sp_is_step K) := by
  have nd := sc_is_step.nd
  refine F.ok sc_is_step (fun vs H Q E h => ?_) (fun cdv A outer s H vs Q E hr h => ?_)
  · obtain ⟨a, st, rfl, _⟩ := h
    rfl
  · obtain ⟨a, st, rfl, ha, g, q⟩ := h
    refine ⟨_, (pss_cons (ps_if (PW.pt (pw_or (pt_not (pt_val (pe_callB call_isi (by rfl) T.m_isinstance (by decide +kernel) (pa_cons (pv 0) (pa_cons (pe_bltn (v := .ty "tuple") (u := .type "tuple") (by rfl) T.m_tuple (by decide +kernel) rfl) pa_nil))))) (pw_or1 (pt_cmpR op_ne (pe_callB call_len (by rfl) T.m_len (by decide +kernel) (pa_cons (pv 0) pa_nil)) pe_int (nomark _))))) (pss_one (ps_ret pe_bl)) pss_nil)
      (pss_one (ps_ret (pe_and (pe_c c_is_state hr (by omega) (by rfl) (pa_cons (pe_ix (r := rIxT K) ix_tup (pv 0) pe_int (fun _ _ => rfl)) pa_nil)) (pe_and (pe_c c_is_name hr (by omega) (by rfl) (pa_cons (pe_ix (r := rIxT K) ix_tup (pv 0) pe_int (fun _ _ => rfl)) pa_nil)) (pe_one (pe_c c_is_state hr (by omega) (by rfl) (pa_cons (pe_ix (r := rIxT K) ix_tup (pv 0) pe_int (fun _ _ => rfl)) pa_nil)))))))), ?_⟩
    have sq : ∀ {H' : Hp}, Same H H' → SqT K H' a [.int st.1, .str st.2.1, .int st.2.2] := fun s => .inl (.inl (s _ _ ha))
    refine ⟨.ref a, rfl, .ref a, .ty "tuple", .type "tuple", _, true, rfl, .ty _, .base (.tup ha), kit_ty (show kitB "tuple" "tuple" = some true by decide +kernel), _, rfl, ?_⟩
    refine iteF ⟨.ref a, rfl, .ref a, 3, rfl, .inr ⟨_, sq (Same.refl H), rfl⟩, rfl, _, rfl, iteNS rfl ?_⟩
    refine ⟨.ref a, rfl, a, _, 0, .int st.1, rfl, rfl, sq (Same.refl H), atI_nat (j := 0) rfl, .int st.1, rfl, .int _, fun H1 s1 => ⟨_, rfl, ?_⟩⟩
    rw [if_pos g.s]
    refine ⟨.ref a, rfl, a, _, 1, .str st.2.1, rfl, rfl, sq s1, atI_nat (j := 1) rfl, .str st.2.1, rfl, .str _ (by have := (name_size g.w).2; omega), fun H2 s2 => ⟨_, rfl, ?_⟩⟩
    rw [if_pos g.w]
    refine ⟨.ref a, rfl, a, _, 2, .int st.2.2, rfl, rfl, sq (s1.trans s2), atI_nat (j := 2) rfl, .int st.2.2, rfl, .int _, fun H3 s3 => ?_⟩
    have q' := q H3 (s1.trans (s2.trans s3))
    rw [← g.t] at q'
    exact q'
theorem valT_in {kvs : List (List Key × V)} {k : List Key} : (valV kvs k).isSome = true ↔ k ∈ kvs.map (·.1) := by
  rw [← valV_any, List.any_eq_true]
  constructor
  · rintro ⟨p, hp, e⟩
    exact List.mem_map.mpr ⟨p, hp, of_decide_eq_true e⟩
  · intro h
    obtain ⟨p, hp, e⟩ := List.mem_map.mp h
    exact ⟨p, hp, decide_eq_true e⟩
theorem cnt_take {ss : List KnA.Stp} {i : Nat} {st : KnA.Stp} (h : ss[i]? = some st) (s : Int) : cnt (ss.take (i + 1)) s = cnt (ss.take i) s + if st.1 = s then 1 else 0 := by
  unfold cnt
  rw [take_more h, List.filter_append, List.length_append]
  by_cases e : st.1 = s
  · simp [List.filter_cons, e]
  · simp [List.filter_cons, e]
theorem cnt_le (ss : List KnA.Stp) (i : Nat) (s : Int) : cnt (ss.take i) s ≤ cnt ss s := by
  unfold cnt
  exact (List.Sublist.filter _ (List.take_sublist i ss)).length_le
theorem ok_check_steps {f : Addr} {C : Addr} {fd : FuncData} (T : Txt K mg C) (F : Fun K "check_steps" "check_steps" s_check_steps f fd) (c_is_row : Cal P w K mg base 1 "is_row" (sp_is_row K) []) (c_is_step : Cal P w K mg base 3 "is_step" (sp_is_step K) []) : FnOk P w K mg base CX0 4 f fd ["steps"] (sp_check_steps K) := by
  have nd := sc_check_steps.nd
  refine F.ok sc_check_steps (fun vs H Q E h => ?_) (fun cdv A outer s H vs Q E hr h => ?_)
  · obtain ⟨b, a, as, ss, rfl, _⟩ := h
    rfl
  · obtain ⟨b, a, as, ss, rfl, ha, hst, gs, q⟩ := h
    refine ⟨_, (pss_cons (ps_if (PW.pt (pw_or (pt_not (pt_val (pe_c c_is_row hr (by omega) (by rfl) (pa_cons (pv 0) pa_nil)))) (pw_or1 (pt_not (pt_chain op_le op_le pe_int (pe_callB call_len (by rfl) T.m_len (by decide +kernel) (pa_cons (pv 0) pa_nil)) (pe_gc (by rfl) T.c_MOST_STEPS)))))) (pss_one ps_never) pss_nil)
      (pss_cons (ps_set (i := 1) nd rfl (.inl rfl) pe_dnewT)
      (pss_cons (ps_set (i := 2) nd rfl (.inl rfl) pe_dnewK)
      (pss_one (ps_for PassesOwn.never rfl (KnE.pi_en (by rfl) T.m_enumerate (pa_cons (pv 0) pa_nil)) (pg_tup (by rfl) (pgs_cons (pg_name (i := 3) nd rfl (.inl rfl)) (pgs_cons (pg_name (i := 4) nd rfl (.inl rfl)) pgs_nil))) (pss_cons (ps_if (PW.pt (pw_or (pt_not (pt_val (pe_c c_is_step hr (by omega) (by rfl) (pa_cons (pv 4) pa_nil)))) (pw_or1 (pt_cmp (pc_din (hu_of hr) (pv 4) (pv 1)))))) (pss_one ps_never) pss_nil)
      (pss_cons (ps_dput (hu_of hr) (pv 1) (pv 4) pe_bl rfl)
      (pss_cons (ps_dput (hu_of hr) (pv 2) (pe_ix (r := rIxT K) ix_tup (pv 4) pe_int (fun _ _ => rfl)) (pe_op op_add (pe_dget2 (hu_of hr) (pv 2) (pe_ix (r := rIxT K) ix_tup (pv 4) pe_int (fun _ _ => rfl)) pe_int ⟨rfl, rfl, rfl, rfl⟩) pe_int) rfl)
      (pss_one (ps_if (pt_cmpR op_gt (pe_dget (hu_of hr) (pv 2) (pe_ix (r := rIxT K) ix_tup (pv 4) pe_int (fun _ _ => rfl)) (fun _ _ => rfl)) (pe_gc (by rfl) T.c_MOST_LEAVING) (nomark _)) (pss_one ps_never) pss_nil)))))))))), ?_⟩
    have len : (as.map V.ref).length = ss.length := by rw [List.length_map, hst.length]
    have lo := gs.lo
    have hi := gs.hi
    refine ⟨.ref a, rfl, b, a, _, rfl, ha, fun H1 s1 => ⟨_, rfl, iteF ⟨.ref a, rfl, .ref a, (as.map V.ref).length, rfl, row_len (s1 _ _ ha), 1, ((as.map V.ref).length : Int), rfl, rfl, _, rfl, ?_⟩⟩⟩
    rw [decide_eq_true (show (1 : Int) ≤ ((as.map V.ref).length : Int) by omega)]
    refine iteT ⟨((as.map V.ref).length : Int), 80, rfl, rfl, _, rfl, iteNS (show ((as.map V.ref).length : Int) ≤ 80 by omega) ?_⟩
    refine fun d nD c nC => ?_
    have s2 := same_upd (o := .dT []) nD
    have s3 := same_upd (o := .dK []) nC
    have nDC : d ≠ c := fun e => by rw [e, upd_same] at nC; cases nC
    have nDH : H d = none := s1.free nD
    have nCH : H c = none := s1.free (s2.free nC)
    have S0 : Same H (upd (upd H1 d (.dT [])) c (.dK [])) := s1.trans (s2.trans s3)
    refine ⟨.ref a, rfl, a, b, as.map V.ref, rfl, row_sq (S0 _ _ ha), ?_⟩
    refine KnE.for_en (K := K) (fun i σ H' => ∃ y3 y4, σ = [some (.ref a), some (.ref d), some (.ref c), y3, y4] ∧ Same H H' ∧ (∃ kvs, H' d = some (.dT kvs) ∧ kvs.length ≤ i ∧ ∀ k, k ∈ kvs.map (·.1) ↔ k ∈ (ss.take i).map key3) ∧
        ∃ cs, H' c = some (.dK cs) ∧ cs.length ≤ i ∧ ∀ s : Int, valV cs (.inl s) = if cnt (ss.take i) s = 0 then none else some (.int (cnt (ss.take i) s)))
      ⟨none, none, rfl, S0, ⟨[], (upd_ne nDC).trans upd_same, Nat.le_refl _, fun k => Iff.rfl⟩, [], upd_same, Nat.le_refl _, fun s => rfl⟩ (fun i σ H' _ hP => row_sq (hP.choose_spec.choose_spec.2.1 _ _ ha)) (fun i x T σ H' hx nT hP => ?_) (fun σ H' hP => ?_)
    · obtain ⟨y3, y4, rfl, S, ⟨kvs, ed, lk, mk⟩, cs, ec, lc, vc⟩ := hP
      obtain ⟨ai, st, rfl, gi, gsi, hai⟩ := ref_get (hst.mono S) hx
      have hi80 : i < ss.length := (List.getElem?_eq_some_iff.mp gsi).1
      have gst := gs.good st (List.mem_of_getElem? gsi)
      have sT := same_upd (o := .tup [.int (i : Nat), .ref ai]) nT
      have S' : Same H (upd H' T (.tup [.int (i : Nat), .ref ai])) := S.trans sT
      have ed' := sT _ _ ed
      have ec' := sT _ _ ec
      have hai' := sT _ _ hai
      have eT : (upd H' T (.tup [.int (i : Nat), .ref ai])) T = some (.tup [.int (i : Nat), .ref ai]) := upd_same
      generalize upd H' T (.tup [.int (i : Nat), .ref ai]) = H2 at S' ed' ec' hai' eT ⊢
      refine ⟨T, [.int (i : Nat), .ref ai], rfl, .inl (.inl eT), rfl, .int (i : Nat), [.ref ai], rfl, .ref ai, [], rfl, rfl, ?_⟩
      refine ⟨.ref ai, rfl, ai, st, rfl, hai', gst, fun H3 s3' => ⟨_, rfl, iteF ?_⟩⟩
      have ed3 := s3' _ _ ed'
      have ec3 := s3' _ _ ec'
      have hai3 := s3' _ _ hai'
      have S3 : Same H H3 := S'.trans s3'
      refine ⟨.ref ai, rfl, .ref d, rfl, d, valV kvs (key3 st), rfl, DGet.t ed3 hai3, _, rfl, ?_⟩
      have fresh : ¬ key3 st ∈ (ss.take i).map key3 := fun z => by
        obtain ⟨x, hx', e⟩ := List.mem_map.mp z
        have e' := key3_inj e
        subst e'
        obtain ⟨j, hj, ej⟩ := List.mem_iff_getElem.mp hx'
        rw [List.getElem_take] at ej
        have lj : j < i := by rw [List.length_take] at hj; omega
        have e1 : ss[i] = x := (List.getElem?_eq_some_iff.mp gsi).2
        exact absurd ((List.getElem_inj gs.nd).mp (ej.trans e1.symm)) (by omega)
      have no : valV kvs (key3 st) = none := by
        cases e : valV kvs (key3 st) with
        | none => rfl
        | some v => exact absurd ((mk _).mp (valT_in.mp (by rw [e]; rfl))) fresh
      rw [no]
      refine iteF ?_
      -- seen[step] = True
      refine ⟨.ref d, rfl, .ref ai, rfl, d, _, rfl, DPut.t (k := key3 st) ed3 hai3 (small (by omega)), ?_⟩
      have ec4 : (upd H3 d (.dT (putK kvs (key3 st) (.bl true)))) c = some (.dK cs) := (upd_ne nDC.symm).trans ec3
      have nAi : ai ≠ d := ne_of hai3 ed3 (fun z => by cases z)
      have hai4 : (upd H3 d (.dT (putK kvs (key3 st) (.bl true)))) ai = some (tup3 st) := (upd_ne nAi).trans hai3
      have ed4 : (upd H3 d (.dT (putK kvs (key3 st) (.bl true)))) d = some (.dT (putK kvs (key3 st) (.bl true))) := upd_same
      have S4 : Same H (upd H3 d (.dT (putK kvs (key3 st) (.bl true)))) := same_set nDH S3
      generalize upd H3 d (.dT (putK kvs (key3 st) (.bl true))) = H4 at ec4 hai4 ed4 S4 ⊢
      -- counts[step[0]] = counts.get(step[0], 0) + 1
      have sq4 : SqT K H4 ai [.int st.1, .str st.2.1, .int st.2.2] := .inl (.inl hai4)
      have get0 : (valV cs (.inl st.1)).getD (.int 0) = .int (cnt (ss.take i) st.1 : Nat) := by
        rw [vc]
        by_cases z : cnt (ss.take i) st.1 = 0
        · rw [if_pos z, z]; rfl
        · rw [if_neg z]; rfl
      refine ⟨.ref c, rfl, c, rfl, .inl ⟨cs, .inl ec4⟩, .ref ai, rfl, ai, _, 0, .int st.1, rfl, rfl, sq4, atI_nat (j := 0) rfl, valV cs (.inl st.1), DGet.k (k := .inl st.1) ec4, (cnt (ss.take i) st.1 : Nat), 1, get0, rfl, ?_⟩
      refine ⟨.ref c, rfl, .ref ai, rfl, ai, _, 0, .int st.1, rfl, rfl, sq4, atI_nat (j := 0) rfl, c, _, rfl, DPut.k (k := .inl st.1) ec4 (small (by omega)), ?_⟩
      have nAc : ai ≠ c := ne_of hai4 ec4 (fun z => by cases z)
      have v1 : (V.int ((cnt (ss.take i) st.1 : Nat) + 1) : V) = .int (cnt (ss.take (i + 1)) st.1 : Nat) := by
        rw [cnt_take gsi, if_pos rfl]; rfl
      have vnew : ∀ s : Int, valV (putK cs (.inl st.1) (.int ((cnt (ss.take i) st.1 : Nat) + 1))) (.inl s) = if cnt (ss.take (i + 1)) s = 0 then none else some (.int (cnt (ss.take (i + 1)) s)) := fun s => by
        rw [valV_put]
        by_cases e : s = st.1
        · subst e
          rw [if_pos rfl, v1, if_neg (by rw [cnt_take gsi, if_pos rfl]; omega)]
        · have e0 : cnt (ss.take (i + 1)) s = cnt (ss.take i) s := by rw [cnt_take gsi, if_neg (fun z => e z.symm)]; rfl
          rw [if_neg (fun z => e (Sum.inl.inj z)), vc, e0]
      have ec5 : (upd H4 c (.dK (putK cs (.inl st.1) (.int ((cnt (ss.take i) st.1 : Nat) + 1))))) c = some (.dK (putK cs (.inl st.1) (.int ((cnt (ss.take i) st.1 : Nat) + 1)))) := upd_same
      have ed5 : (upd H4 c (.dK (putK cs (.inl st.1) (.int ((cnt (ss.take i) st.1 : Nat) + 1))))) d = some (.dT (putK kvs (key3 st) (.bl true))) := (upd_ne nDC).trans ed4
      have hai5 : (upd H4 c (.dK (putK cs (.inl st.1) (.int ((cnt (ss.take i) st.1 : Nat) + 1))))) ai = some (tup3 st) := (upd_ne nAc).trans hai4
      have S5 : Same H (upd H4 c (.dK (putK cs (.inl st.1) (.int ((cnt (ss.take i) st.1 : Nat) + 1))))) := same_set nCH S4
      have l5 := length_putK cs (.inl st.1) (.int ((cnt (ss.take i) st.1 : Nat) + 1))
      generalize upd H4 c (.dK (putK cs (.inl st.1) (.int ((cnt (ss.take i) st.1 : Nat) + 1)))) = H5 at ec5 ed5 hai5 S5 ⊢
      have g5 := vnew st.1
      rw [if_neg (by rw [cnt_take gsi, if_pos rfl]; omega)] at g5
      have le8 : (cnt (ss.take (i + 1)) st.1 : Int) ≤ 8 := by
        have h1 := cnt_le ss (i + 1) st.1
        have h2 := gs.few st.1
        omega
      refine ⟨.ref c, rfl, .ref ai, rfl, ai, _, 0, .int st.1, rfl, rfl, .inl (.inl hai5), atI_nat (j := 0) rfl, c, .int (cnt (ss.take (i + 1)) st.1 : Nat), rfl, ?_, (cnt (ss.take (i + 1)) st.1 : Nat), 8, rfl, rfl, _, rfl, ?_⟩
      · have dg := DGet.k (k := .inl st.1) ec5
        rw [g5] at dg
        exact dg
      · rw [decide_eq_false (show ¬ (8 : Int) < (cnt (ss.take (i + 1)) st.1 : Nat) by omega)]
        refine iteF ⟨_, _, rfl, S5, ⟨_, ed5, ?_, fun k => ?_⟩, _, ec5, by omega, vnew⟩
        · have := length_putK kvs (key3 st) (.bl true)
          omega
        · rw [putK_new _ no, List.map_append, List.mem_append, mk, take_more gsi, List.map_append, List.mem_append]
          exact Iff.rfl
    · obtain ⟨y3, y4, rfl, S, _⟩ := hP
      exact q H' S

/-! ### faults -/
/-- what a walk over the items of a dict asks -/
theorem for_items {d : Addr} {o : Obj} {kvs : List (Key × V)} {g : TG} {tb : TS} {D : Ends} {σ : L2.St} {H : Hp} (Pv : Nat → L2.St → Hp → Prop) (h0 : Pv 0 σ H) (hl : ∀ i σ H, i ≤ kvs.length → Pv i σ H → H d = some (.frz o (.dK kvs)))
    (hs : ∀ (i : Nat) (k : Key) (v : V) (T : Addr) (σ : L2.St) (H : Hp), kvs[i]? = some (k, v) → H T = none → Pv i σ H → g (.ref T) σ (upd H T (.tup [kV k, v])) fun σ2 H2 => tb { D with nx := Pv (i + 1), ct := Pv (i + 1), bk := D.nx } σ2 H2) (hd : ∀ σ H, Pv kvs.length σ H → D.nx σ H) :
    ∃ W : Nat → Nat → L2.St → Hp → Prop, (∃ m, W 0 m σ H) ∧ ∀ i m σ H, W i m σ H →
      ((Iti d o kvs).stop i H ∧ D.nx σ H) ∨ ((Iti d o kvs).go i H ∧ ∃ N : L2.St → Hp → Prop, (∀ σ' H', N σ' H' → ∃ m', m' < m ∧ W (i + 1) m' σ' H') ∧ ∀ x H', (Iti d o kvs).yld i H x H' → g x σ H' fun σ2 H2 => tb { D with nx := N, ct := N, bk := D.nx } σ2 H2) := by
  refine ⟨fun i m σ H => m = kvs.length - i ∧ i ≤ kvs.length ∧ Pv i σ H, ⟨kvs.length, rfl, Nat.zero_le _, h0⟩, fun i m σ H ⟨em, hi, p⟩ => ?_⟩
  have q := hl i σ H hi p
  rcases Nat.lt_or_eq_of_le hi with lt | e
  · refine .inr ⟨⟨q, lt⟩, Pv (i + 1), fun σ' H' p' => ⟨kvs.length - (i + 1), by omega, rfl, lt, p'⟩, fun v H' ⟨T, k, u, ek, ev, nT, eH⟩ => ?_⟩
    subst ev eH
    exact hs i k u T σ H ek nT p
  · subst e
    exact .inl ⟨⟨q, Nat.le_refl _⟩, hd σ H p⟩
/-- the pairs of a dict of faults -/
def fkv (fs : List (Str × Str)) : List (Key × V) := fs.map fun p => (Sum.inr p.1, .str p.2)
theorem fkv_get {fs : List (Str × Str)} {i : Nat} {k : Key} {v : V} (h : (fkv fs)[i]? = some (k, v)) : ∃ x y, fs[i]? = some (x, y) ∧ k = .inr x ∧ v = .str y := by
  unfold fkv at h
  rw [List.getElem?_map] at h
  cases e : fs[i]? with
  | none => rw [e] at h; cases h
  | some p => rw [e] at h; cases h; exact ⟨p.1, p.2, rfl, rfl, rfl⟩
structure GoodFaults (fs : List (Str × Str)) (ws : List Str) : Prop where
  word : ∀ p ∈ fs, nameB (.str p.1) = true ∧ p.1 ∈ ws ∧ nameB (.str p.2) = true
  few : (KnS.allL (fs.map fun p => Sum.inr p.2)).length ≤ 3
  len : fs.length ≤ 1000
/-- the faults as they are passed: None (no faults), or a dict -/
def FArg (H : Hp) (v : V) (fs : List (Str × Str)) : Prop := (v = .non ∧ fs = []) ∨ ∃ d, v = .ref d ∧ H d = some (.dK (fkv fs))
theorem FArg.mono {H H' : Hp} {v : V} {fs : List (Str × Str)} (h : FArg H v fs) (s : Same H H') : FArg H' v fs := by
  rcases h with h | ⟨d, e, h⟩
  · exact .inl h
  · exact .inr ⟨d, e, s _ _ h⟩
def sp_check_faults (_ : PySem.W.Frag) : Sp := fun vs H Q _ => ∃ (v : V) (fs : List (Str × Str)) (l : Addr) (ws : List Str), vs = [v, .ref l] ∧ FArg H v fs ∧ H l = some (.lst (ws.map V.str)) ∧ GoodFaults fs ws ∧ ∀ H', Same H H' → Q .non H'
theorem inV_strs {x : Str} {ws : List Str} : inV (.str x) (ws.map V.str) = decide (x ∈ ws) := by
  unfold inV
  induction ws with
  | nil => rfl
  | cons y r ih =>
    rw [List.map_cons, List.any_cons, ih]
    have e : eqV (.str y) (.str x) = decide (y = x) := by
      show (y == x) = decide (y = x)
      by_cases z : y = x
      · rw [z]; simp
      · rw [decide_eq_false z]; exact beq_eq_false_iff_ne.mpr z
    rw [e]
    by_cases z : y = x
    · subst z; simp
    · have z' : ¬ x = y := fun q => z q.symm
      simp [z, z']
theorem flat_ws (ws : List Str) : (ws.map V.str).all flatV = true := by
  rw [List.all_map]
  exact List.all_eq_true.mpr fun _ _ => rfl
theorem foldL_mono : ∀ (l acc : List Key), acc.length ≤ (l.foldl KnS.addL acc).length
  | [], _ => Nat.le_refl _
  | k :: l, acc => by
    refine Nat.le_trans ?_ (foldL_mono l (KnS.addL acc k))
    unfold KnS.addL
    by_cases z : KnS.hasL acc k = true
    · rw [if_pos z]; exact Nat.le_refl _
    · rw [if_neg z, List.length_append]; exact Nat.le_add_right _ _
theorem putK_keys {kvs : List (Key × V)} {k : Key} {v : V} : (putK kvs k v).map (·.1) = KnS.addL (kvs.map (·.1)) k := by
  unfold putK KnS.addL
  have e : (kvs.any fun kv => decide (kv.1 = k)) = KnS.hasL (kvs.map (·.1)) k := by
    unfold KnS.hasL
    rw [List.any_map]; rfl
  rw [e]
  by_cases z : KnS.hasL (kvs.map (·.1)) k = true
  · rw [if_pos z, if_pos z, List.map_map]
    refine List.map_congr_left fun p _ => ?_
    show (if p.1 = k then (p.1, v) else p).1 = p.1
    split <;> rfl
  · rw [if_neg z, if_neg z, List.map_append]; rfl
theorem ok_check_faults {f : Addr} {C : Addr} {fd : FuncData} (T : Txt K mg C) (F : Fun K "check_faults" "check_faults" s_check_faults f fd) (c_is_name : Cal P w K mg base 1 "is_name" (sp_is_name K) []) : FnOk P w K mg base CX0 2 f fd ["faults", "words"] (sp_check_faults K) := by
  have nd := sc_check_faults.nd
  refine F.ok sc_check_faults (fun vs H Q E h => ?_) (fun cdv A outer s H vs Q E hr h => ?_)
  · obtain ⟨v, fs, l, ws, rfl, _⟩ := h
    rfl
  · obtain ⟨v, fs, l, ws, rfl, hf, hl, gf, q⟩ := h
    refine ⟨_, (pss_cons (ps_if (pt_cmpR op_isN (pv 0) pe_non (nomark _)) (pss_one (ps_retN)) pss_nil)
      (pss_cons (ps_if (pt_not (pt_val (pe_callB call_isi (by rfl) T.m_isinstance (by decide +kernel) (pa_cons (pv 0) (pa_cons (pe_bltn (v := .ty "dict") (u := .type "dict") (by rfl) T.m_dict (by decide +kernel) rfl) pa_nil))))) (pss_one ps_never) pss_nil)
      (pss_cons (ps_set (i := 2) nd rfl (.inl rfl) pe_dnewK)
      (pss_one (ps_lock (ps_for PassesOwn.never rfl (pi_items (pv 0)) (pg_tup (by rfl) (pgs_cons (pg_name (i := 3) nd rfl (.inl rfl)) (pgs_cons (pg_name (i := 4) nd rfl (.inl rfl)) pgs_nil))) (pss_cons (ps_if (PW.pt (pw_or (pt_not (pt_val (pe_c c_is_name hr (by omega) (by rfl) (pa_cons (pv 3) pa_nil)))) (pw_or (pt_cmpR op_notIn_seq (pv 3) (pv 1) (by with_unfolding_all rfl)) (pw_or1 (pt_not (pt_val (pe_c c_is_name hr (by omega) (by rfl) (pa_cons (pv 4) pa_nil)))))))) (pss_one ps_never) pss_nil)
      (pss_cons (ps_dput (hu_of hr) (pv 2) (pv 4) pe_bl rfl)
      (pss_one (ps_if (pt_cmpR op_gt (pe_callB call_lenD (by rfl) T.m_len (by decide +kernel) (pa_cons (pv 2) pa_nil)) (pe_gc (by rfl) T.c_MOST_FAULTS) (nomark _)) (pss_one ps_never) pss_nil)))))))))), ?_⟩
    rcases hf with ⟨rfl, rfl⟩ | ⟨d, rfl, hd⟩
    · exact ⟨.non, rfl, rfl, _, rfl, iteT (q H (Same.refl H))⟩
    · refine ⟨.ref d, rfl, rfl, _, rfl, iteF ?_⟩
      refine ⟨.ref d, rfl, .ref d, .ty "dict", .type "dict", _, true, rfl, .ty _, .base (.dK hd), kit_ty (show kitB "dict" "dict" = some true by decide +kernel), _, rfl, iteF ?_⟩
      refine fun c nC => ?_
      have S0 := same_upd (o := .dK []) nC
      have nDC : d ≠ c := ne_of_none hd nC
      have ed0 := S0 _ _ hd
      have ec0 := upd_same (H := H) (a := c) (o := .dK [])
      generalize upd H c (.dK []) = H0 at S0 ed0 ec0 ⊢
      refine ⟨d, .dK (fkv fs), ed0, trivial, fun od => ?_⟩
      have back : ∀ {H' : Hp}, (∀ b o, b ≠ d → H b = some o → H' b = some o) → Same H (upd H' d (.dK (fkv fs))) := fun k b o e => by
        by_cases z : b = d
        · rw [z] at e ⊢
          rw [hd] at e
          cases e
          exact upd_same
        · rw [upd_ne z]; exact k b o z e
      refine ⟨.ref d, rfl, d, od, fkv fs, rfl, upd_same, ?_⟩
      refine for_items (fun i σ H' => ∃ y3 y4, σ = [some (.ref d), some (.ref l), some (.ref c), y3, y4] ∧ H' d = some (.frz od (.dK (fkv fs))) ∧ (∀ b o, b ≠ d → H b = some o → H' b = some o) ∧ ∃ cs, H' c = some (.dK cs) ∧ cs.map (·.1) = KnS.allL ((fs.take i).map fun p => Sum.inr p.2))
        ⟨none, none, rfl, upd_same, fun b o z e => (upd_ne z).trans (S0 _ _ e), [], (upd_ne nDC.symm).trans ec0, rfl⟩ (fun i σ H' _ hP => hP.choose_spec.choose_spec.2.1) (fun i k v T σ H' hx nT hP => ?_) (fun σ H' hP => ?_)
      · obtain ⟨y3, y4, rfl, ed, S, cs, ec, kc⟩ := hP
        obtain ⟨x, y, gx, rfl, rfl⟩ := fkv_get hx
        obtain ⟨g1, g2, g3⟩ := gf.word _ (List.mem_of_getElem? gx)
        have hi : i < fs.length := (List.getElem?_eq_some_iff.mp gx).1
        have lenf := gf.len
        have sT := same_upd (o := .tup [.str x, .str y]) nT
        have ed2 := sT _ _ ed
        have ec2 := sT _ _ ec
        have S2 : ∀ b o, b ≠ d → H b = some o → (upd H' T (.tup [.str x, .str y])) b = some o := fun b o z e => sT _ _ (S b o z e)
        have eT : (upd H' T (.tup [.str x, .str y])) T = some (.tup [.str x, .str y]) := upd_same
        show gTup _ _ _ _ _ (upd H' T (.tup [.str x, .str y])) _
        generalize upd H' T (.tup [.str x, .str y]) = H2 at ed2 ec2 S2 eT ⊢
        refine ⟨T, [.str x, .str y], rfl, .inl (.inl eT), rfl, .str x, [.str y], rfl, .str y, [], rfl, rfl, ?_⟩
        have zx : x.cps.size ≤ 12 := (name_size g1).2
        have zy : y.cps.size ≤ 12 := (name_size g3).2
        refine ⟨.str x, rfl, .str x, rfl, .str x (by omega), fun H3 s3 => ⟨_, rfl, ?_⟩⟩
        rw [g1]
        have nlc : l ≠ d := ne_of hl hd (fun z => by cases z)
        have hl3 : H3 l = some (.lst (ws.map V.str)) := s3 _ _ (S2 l _ nlc hl)
        refine iteF ⟨.str x, rfl, .ref l, rfl, l, ws.map V.str, rfl, .inl (.inl (.inl hl3)), rfl, flat_ws ws, _, rfl, ?_⟩
        show if (!inV (.str x) (ws.map V.str)) = true then _ else _
        rw [inV_strs, decide_eq_true g2]
        refine iteF ⟨.str y, rfl, .str y, rfl, .str y (by omega), fun H4 s4 => ⟨_, rfl, ?_⟩⟩
        rw [g3]
        refine iteF ?_
        have ec4 := s4 _ _ (s3 _ _ ec2)
        have ed4 := s4 _ _ (s3 _ _ ed2)
        have S4 : ∀ b o, b ≠ d → H b = some o → H4 b = some o := fun b o z e => s4 _ _ (s3 _ _ (S2 b o z e))
        have hcs : cs.length ≤ i := by
          have h1 := congrArg List.length kc
          have h2 := KnS.foldL_length ((fs.take i).map fun p => (Sum.inr p.2 : Key)) []
          rw [List.length_map] at h1
          rw [List.length_map, List.length_take] at h2
          have h3 : ([] : List Key).length = 0 := rfl
          unfold KnS.allL at h1
          omega
        refine ⟨.ref c, rfl, .str y, rfl, c, _, rfl, DPut.k (k := .inr y) ec4 (small (by omega)), ?_⟩
        have kn : (putK cs (.inr y) (.bl true)).map (·.1) = KnS.allL ((fs.take (i + 1)).map fun p => Sum.inr p.2) := by
          rw [putK_keys, kc, take_more gx, List.map_append]
          unfold KnS.allL
          rw [List.foldl_append]
          rfl
        have few3 : (putK cs (.inr y) (.bl true)).length ≤ 3 := by
          have h1 := congrArg List.length kn
          rw [List.length_map] at h1
          rw [h1]
          refine Nat.le_trans ?_ gf.few
          have e : (fs.map fun p => (Sum.inr p.2 : Key)) = ((fs.take (i + 1)).map fun p => Sum.inr p.2) ++ ((fs.drop (i + 1)).map fun p => Sum.inr p.2) := by
            rw [← List.map_append, List.take_append_drop]
          rw [e]
          unfold KnS.allL
          rw [List.foldl_append]
          exact foldL_mono _ _
        refine ⟨.ref c, rfl, c, putK cs (.inr y) (.bl true), rfl, upd_same, ((putK cs (.inr y) (.bl true)).length : Int), 3, rfl, rfl, _, rfl, ?_⟩
        rw [decide_eq_false (show ¬ (3 : Int) < ((putK cs (.inr y) (.bl true)).length : Int) by omega)]
        refine iteF ⟨_, _, rfl, (upd_ne nDC).trans ed4, fun b o z e => (upd_ne (ne_of_none e nC)).trans (S4 b o z e), _, upd_same, kn⟩
      · obtain ⟨y3, y4, rfl, ed, S, _⟩ := hP
        exact ⟨ed, q _ (back S)⟩

/-! ### moves by state -/
/-- the moves that leave s, in order -/
def mv (ss : List KnA.Stp) (s : Int) : List (Str × Int) := (ss.filter fun x => decide (x.1 = s)).map (·.2)
theorem mv_take {ss : List KnA.Stp} {i : Nat} {st : KnA.Stp} (h : ss[i]? = some st) (s : Int) : mv (ss.take (i + 1)) s = mv (ss.take i) s ++ if st.1 = s then [st.2] else [] := by
  unfold mv
  rw [take_more h, List.filter_append, List.map_append]
  by_cases e : st.1 = s
  · simp [List.filter_cons, e]
  · simp [List.filter_cons, e]
theorem mv_mem {ss : List KnA.Stp} {s : Int} {m : Str × Int} : m ∈ mv ss s ↔ (s, m) ∈ ss := by
  unfold mv
  rw [List.mem_map]
  constructor
  · rintro ⟨x, hx, rfl⟩
    obtain ⟨h1, h2⟩ := List.mem_filter.mp hx
    have e := of_decide_eq_true h2
    rw [← e]
    exact h1
  · intro h
    exact ⟨_, List.mem_filter.mpr ⟨h, decide_eq_true rfl⟩, rfl⟩
abbrev tup2 (m : Str × Int) : HO := .tup [.str m.1, .int m.2]
def Mvs (H : Hp) (as : List Addr) (ms : List (Str × Int)) : Prop := Paired (fun a m => H a = some (tup2 m)) as ms
theorem Mvs.mono {H H' : Hp} {as : List Addr} {ms : List (Str × Int)} (h : Mvs H as ms) (s : Same H H') : Mvs H' as ms := Paired.mapP h fun _ _ e => s _ _ e
/-- the dict at d: for each state the list of its moves -/
def Leaves (H : Hp) (d : Addr) (ss : List KnA.Stp) : Prop := ∃ kvs, H d = some (.dK kvs) ∧ ∀ s : Int, if mv ss s = [] then valV kvs (.inl s) = none else ∃ l as, valV kvs (.inl s) = some (.ref l) ∧ H l = some (.lst (as.map V.ref)) ∧ Mvs H as (mv ss s)
theorem Leaves.mono {H H' : Hp} {d : Addr} {ss : List KnA.Stp} (h : Leaves H d ss) (s : Same H H') : Leaves H' d ss := by
  obtain ⟨kvs, e, h⟩ := h
  refine ⟨kvs, s _ _ e, fun x => ?_⟩
  have q := h x
  by_cases z : mv ss x = []
  · rw [if_pos z] at q ⊢; exact q
  · rw [if_neg z] at q ⊢
    obtain ⟨l, as, a, b, c⟩ := q
    exact ⟨l, as, a, s _ _ b, c.mono s⟩
def sp_moves_by_state (_ : PySem.W.Frag) : Sp := fun vs H Q _ => ∃ b a as ss, vs = [.ref a] ∧ H a = some (rowO b (as.map V.ref)) ∧ Stps H as ss ∧ ss.length ≤ 1000 ∧ ∀ H' d, Same H H' → Leaves H' d ss → Q (.ref d) H'
/-- .. while it is built: the lists are new, one for each state -/
structure Built (H H' : Hp) (d : Addr) (kvs : List (Key × V)) (ss : List KnA.Stp) : Prop where
  at_ : H' d = some (.dK kvs)
  len : kvs.length ≤ ss.length
  no : ∀ s : Int, mv ss s = [] → valV kvs (.inl s) = none
  yes : ∀ s : Int, mv ss s ≠ [] → ∃ l as, valV kvs (.inl s) = some (.ref l) ∧ H l = none ∧ H' l = some (.lst (as.map V.ref)) ∧ Mvs H' as (mv ss s)
  apart : ∀ s t : Int, ∀ l, valV kvs (.inl s) = some (.ref l) → valV kvs (.inl t) = some (.ref l) → s = t
theorem Built.leaves {H H' : Hp} {d : Addr} {kvs : List (Key × V)} {ss : List KnA.Stp} (B : Built H H' d kvs ss) : Leaves H' d ss := by
  refine ⟨kvs, B.at_, fun s => ?_⟩
  by_cases z : mv ss s = []
  · rw [if_pos z]; exact B.no s z
  · rw [if_neg z]
    obtain ⟨l, as, a, _, b, c⟩ := B.yes s z
    exact ⟨l, as, a, b, c⟩
theorem lst_ne_tup {H : Hp} {l a : Addr} {xs ys : List V} (h1 : H l = some (.lst xs)) (h2 : H a = some (.tup ys)) : a ≠ l := ne_of h2 h1 (fun z => by cases z)
theorem Mvs.upd {H : Hp} {as : List Addr} {ms : List (Str × Int)} {l : Addr} {xs : List V} {o : HO} (h : Mvs H as ms) (hl : H l = some (.lst xs)) : Mvs (upd H l o) as ms :=
  Paired.mapP h fun _ _ e => (upd_ne (lst_ne_tup hl e)).trans e
/-- one step more, of a state that has moves already -/
theorem Built.more {H H' : Hp} {d : Addr} {kvs : List (Key × V)} {ss : List KnA.Stp} {i : Nat} {st : KnA.Stp} (B : Built H H' d kvs (ss.take i)) (g : ss[i]? = some st) {l T : Addr} {as : List Addr} (hv : valV kvs (.inl st.1) = some (.ref l)) (hl : H' l = some (.lst (as.map V.ref)))
    (hm : Mvs H' as (mv (ss.take i) st.1)) (hT : H' T = none) : Built H (upd (upd H' T (tup2 st.2)) l (.lst (as.map V.ref ++ [.ref T]))) d kvs (ss.take (i + 1)) := by
  have nd : d ≠ l := ne_of B.at_ hl (fun z => by cases z)
  have ndT : d ≠ T := ne_of_none B.at_ hT
  have nlT : l ≠ T := ne_of_none hl hT
  have sT := same_upd (o := tup2 st.2) hT
  have hl1 := sT _ _ hl
  refine ⟨(upd_ne nd).trans (sT _ _ B.at_), ?_, fun s hs => ?_, fun s hs => ?_, B.apart⟩
  · have := B.len
    have hi : i < ss.length := (List.getElem?_eq_some_iff.mp g).1
    rw [List.length_take] at this ⊢
    omega
  · rw [mv_take g] at hs
    exact B.no s (List.append_eq_nil_iff.mp hs).1
  · by_cases e : st.1 = s
    · subst e
      have nl : H l = none := by
        have z : mv (ss.take i) st.1 ≠ [] := fun z => by rw [B.no _ z] at hv; cases hv
        obtain ⟨l', _, hv', hn, _⟩ := B.yes _ z
        rw [hv] at hv'
        cases hv'
        exact hn
      refine ⟨l, as ++ [T], hv, nl, by rw [upd_same, List.map_append]; rfl, ?_⟩
      rw [mv_take g, if_pos rfl]
      exact ((hm.mono sT).upd hl1).snoc ((upd_ne (lst_ne_tup hl1 upd_same)).trans upd_same)
    · rw [mv_take g, if_neg e, List.append_nil] at hs ⊢
      obtain ⟨l', as', hv', hn', hl', hm'⟩ := B.yes s hs
      have ne : l' ≠ l := fun z => e (B.apart _ _ l hv (z ▸ hv'))
      exact ⟨l', as', hv', hn', (upd_ne ne).trans (sT _ _ hl'), (hm'.mono sT).upd hl1⟩
/-- .. of a state that has none yet -/
theorem Built.first {H H' : Hp} {d : Addr} {kvs : List (Key × V)} {ss : List KnA.Stp} {i : Nat} {st : KnA.Stp} (S : Same H H') (hd : H d = none) (B : Built H H' d kvs (ss.take i)) (g : ss[i]? = some st) {l T : Addr} (hv : valV kvs (.inl st.1) = none) (hl : H' l = none)
    (hT : (upd (upd H' l (.lst [])) d (.dK (putK kvs (.inl st.1) (.ref l)))) T = none) :
    Built H (upd (upd (upd (upd H' l (.lst [])) d (.dK (putK kvs (.inl st.1) (.ref l)))) T (tup2 st.2)) l (.lst [.ref T])) d (putK kvs (.inl st.1) (.ref l)) (ss.take (i + 1)) := by
  have ndl : d ≠ l := ne_of_none B.at_ hl
  have s1 := same_upd (o := .lst []) hl
  have hl2 : (upd (upd H' l (.lst [])) d (.dK (putK kvs (.inl st.1) (.ref l)))) l = some (.lst []) := (upd_ne ndl.symm).trans upd_same
  have hd2 : (upd (upd H' l (.lst [])) d (.dK (putK kvs (.inl st.1) (.ref l)))) d = some (.dK (putK kvs (.inl st.1) (.ref l))) := upd_same
  have old : ∀ b o, b ≠ d → H' b = some o → (upd (upd H' l (.lst [])) d (.dK (putK kvs (.inl st.1) (.ref l)))) b = some o := fun b o z e => (upd_ne z).trans (s1 _ _ e)
  have nolist : ∀ b xs, H' b = some (.lst xs) → b ≠ d := fun b xs e z => by rw [z, B.at_] at e; cases e
  have notup : ∀ b xs, H' b = some (.tup xs) → b ≠ d := fun b xs e z => by rw [z, B.at_] at e; cases e
  generalize upd (upd H' l (.lst [])) d (.dK (putK kvs (.inl st.1) (.ref l))) = H2 at hT hl2 hd2 old ⊢
  have sT := same_upd (o := tup2 st.2) hT
  have hl3 := sT _ _ hl2
  have nlT : l ≠ T := ne_of_none hl2 hT
  have empty : mv (ss.take i) st.1 = [] := by
    by_cases z : mv (ss.take i) st.1 = []
    · exact z
    · obtain ⟨_, _, hv', _⟩ := B.yes _ z
      rw [hv] at hv'
      cases hv'
  refine ⟨(upd_ne ndl).trans (sT _ _ hd2), ?_, fun s hs => ?_, fun s hs => ?_, fun s t l' h1 h2 => ?_⟩
  · have h1 := B.len
    have h2 := length_putK kvs (.inl st.1 : Key) (.ref l)
    have hi : i < ss.length := (List.getElem?_eq_some_iff.mp g).1
    rw [List.length_take] at h1 ⊢
    omega
  · rw [mv_take g] at hs
    obtain ⟨h1, h2⟩ := List.append_eq_nil_iff.mp hs
    have ne : ¬ st.1 = s := fun e => by rw [if_pos e] at h2; cases h2
    rw [valV_put, if_neg fun z => ne (Sum.inl.inj z).symm]
    exact B.no s h1
  · by_cases e : st.1 = s
    · subst e
      refine ⟨l, [T], by rw [valV_put, if_pos rfl], S.free hl, upd_same, ?_⟩
      rw [mv_take g, if_pos rfl, empty]
      exact .cons ((upd_ne nlT.symm).trans upd_same) .nil
    · rw [mv_take g, if_neg e, List.append_nil] at hs ⊢
      obtain ⟨l', as', hv', hn', hl', hm'⟩ := B.yes s hs
      have ne : l' ≠ l := ne_of_none hl' hl
      refine ⟨l', as', by rw [valV_put, if_neg fun z => e (Sum.inl.inj z).symm]; exact hv', hn', (upd_ne ne).trans (sT _ _ (old _ _ (nolist _ _ hl') hl')), ?_⟩
      have hm2 : Mvs H2 as' (mv (ss.take i) s) := Paired.mapP hm' fun _ _ q => old _ _ (notup _ _ q) q
      exact (hm2.mono sT).upd hl3
  · rw [valV_put] at h1 h2
    have nol : ∀ t : Int, valV kvs (.inl t) = some (.ref l) → False := fun t q => by
      have z : mv (ss.take i) t ≠ [] := fun z => by rw [B.no _ z] at q; cases q
      obtain ⟨l'', _, q', _, q2, _⟩ := B.yes _ z
      rw [q] at q'
      cases q'
      rw [hl] at q2
      cases q2
    by_cases e1 : s = st.1
    · by_cases e2 : t = st.1
      · rw [e1, e2]
      · rw [if_pos (congrArg Sum.inl e1)] at h1
        rw [if_neg fun z => e2 (Sum.inl.inj z)] at h2
        cases h1
        exact (nol t h2).elim
    · rw [if_neg fun z => e1 (Sum.inl.inj z)] at h1
      by_cases e2 : t = st.1
      · rw [if_pos (congrArg Sum.inl e2)] at h2
        cases h2
        exact (nol s h1).elim
      · rw [if_neg fun z => e2 (Sum.inl.inj z)] at h2
        exact B.apart s t l' h1 h2
theorem ok_moves_by_state {f : Addr} {C : Addr} {fd : FuncData} (T : Txt K mg C) (F : Fun K "moves_by_state" "moves_by_state" s_moves_by_state f fd)  : FnOk P w K mg base CX0 1 f fd ["steps"] (sp_moves_by_state K) := by
  have nd := sc_moves_by_state.nd
  refine F.ok sc_moves_by_state (fun vs H Q E h => ?_) (fun cdv A outer s H vs Q E hr h => ?_)
  · obtain ⟨b, a, as, ss, rfl, _⟩ := h
    rfl
  · obtain ⟨b, a, as, ss, rfl, ha, hst, lss, q⟩ := h
    refine ⟨_, (pss_cons (ps_set (i := 1) nd rfl (.inl rfl) pe_dnewK)
      (pss_cons (ps_for PassesOwn.never rfl (KnE.pi_seq (pv 0)) (pg_tup (by rfl) (pgs_cons (pg_name (i := 2) nd rfl (.inl rfl)) (pgs_cons (pg_name (i := 3) nd rfl (.inl rfl)) (pgs_cons (pg_name (i := 4) nd rfl (.inl rfl)) pgs_nil)))) (pss_one (ps_expr (pe_bm PySem.F.plainAttrs_list PySem.F.slot_list_append PySem.F.type_list_append mt_append (pe_dsetd (pv 1) (pv 2) (pe_lst pa_nil) ⟨rfl, rfl, rfl, rfl⟩) (pa_cons (pe_tup (pa_cons (pv 3) (pa_cons (pv 4) pa_nil))) pa_nil)))))
      (pss_one (ps_ret (pv 1))))), ?_⟩
    refine fun d nD => ?_
    have S0 := same_upd (o := .dK []) nD
    refine ⟨.ref a, rfl, a, b, rfl, ⟨_, row_sq (S0 _ _ ha)⟩, ?_⟩
    refine KnE.for_seq (K := K) (xs := as.map V.ref) (fun i σ H' => ∃ y2 y3 y4 kvs, σ = [some (.ref a), some (.ref d), y2, y3, y4] ∧ Same H H' ∧ Built H H' d kvs (ss.take i))
      ⟨none, none, none, [], rfl, S0, upd_same, Nat.zero_le _, fun _ _ => rfl, fun s hs => (hs rfl).elim, fun s t l h => by cases h⟩ (fun i σ H' _ hP => ?_) (fun i x σ H' hx hP => ?_) (fun σ H' hP => ?_)
    · obtain ⟨_, _, _, _, _, S, _⟩ := hP
      exact row_sq (S _ _ ha)
    · obtain ⟨y2, y3, y4, kvs, rfl, S, B⟩ := hP
      obtain ⟨ai, st, rfl, gi, g, hai⟩ := ref_get (hst.mono S) hx
      refine ⟨ai, _, rfl, .inl (.inl hai), rfl, .int st.1, _, rfl, .str st.2.1, _, rfl, .int st.2.2, [], rfl, rfl, ?_⟩
      refine ⟨.ref d, rfl, d, rfl, .inl ⟨kvs, .inl B.at_⟩, .int st.1, rfl, szl rfl, fun l nl => ?_⟩
      have hi : i < ss.length := (List.getElem?_eq_some_iff.mp g).1
      have lk := B.len
      rw [List.length_take] at lk
      have ndl : d ≠ l := ne_of_none B.at_ nl
      have ed1 : (upd H' l (.lst [])) d = some (.dK kvs) := (upd_ne ndl).trans B.at_
      have S1 := same_upd (o := .lst []) nl
      refine ⟨kvs, .inl st.1, ed1, rfl, small (by omega), fun v hv => ?_, fun hv => ?_⟩
      · -- the list is there
        have z : mv (ss.take i) st.1 ≠ [] := fun z => by rw [B.no _ z] at hv; cases hv
        obtain ⟨l', as', hv', hn', hl', hm'⟩ := B.yes _ z
        rw [hv] at hv'
        cases hv'
        have hl1 := S1 _ _ hl'
        have B1 : Built H (upd H' l (.lst [])) d kvs (ss.take i) := ⟨ed1, B.len, B.no, fun s hs => let ⟨l, as, a, b, c, e⟩ := B.yes s hs; ⟨l, as, a, b, S1 _ _ c, e.mono S1⟩, B.apart⟩
        refine ⟨.inl ⟨rfl, _, .inl (.inl hl1)⟩, .str st.2.1, rfl, .int st.2.2, rfl, szl rfl, fun T nT => ?_⟩
        have ST := same_upd (o := tup2 st.2) nT
        refine ⟨l', as'.map V.ref, .ref T, rfl, rfl, ST _ _ hl1, ?_, ?_⟩
        · rw [List.length_map, hm'.length]
          unfold mv
          rw [List.length_map]
          refine small (Nat.le_trans (List.length_filter_le _ _) ?_)
          rw [List.length_take]
          omega
        · exact ⟨_, _, _, kvs, rfl, same_set hn' (S.trans (S1.trans ST)), B1.more g hv hl1 (hm'.mono S1) nT⟩
      · -- it is the state's first
        have hl1 : (upd (upd H' l (.lst [])) d (.dK (putK kvs (.inl st.1) (.ref l)))) l = some (.lst []) := (upd_ne ndl.symm).trans upd_same
        refine ⟨.inl ⟨rfl, _, .inl (.inl hl1)⟩, .str st.2.1, rfl, .int st.2.2, rfl, szl rfl, fun T nT => ?_⟩
        have ST := same_upd (o := tup2 st.2) nT
        refine ⟨l, [], .ref T, rfl, rfl, ST _ _ hl1, small (by decide), ?_⟩
        refine ⟨_, _, _, _, rfl, same_set (S.free nl) ((same_set nD (S.trans S1)).trans ST), B.first S nD g hv nl nT⟩
    · obtain ⟨y2, y3, y4, kvs, rfl, S, B⟩ := hP
      rw [List.length_map, hst.length, List.take_length] at B
      exact ⟨.ref d, rfl, q H' d S B.leaves⟩

/-! ### reached states -/
def sp_reached_states (_ : PySem.W.Frag) : Sp := fun vs H Q _ => ∃ (s0 : Int) (d : Addr) (ss : List KnA.Stp), vs = [.int s0, .ref d] ∧ stateB (.int s0) = true ∧ GoodSteps ss ∧ Leaves H d ss ∧ ∀ H' a ns, Same H H' → H a = none → H' a = some (.lst (ns.map V.int)) → KnA.States ns ss s0 → Q (.ref a) H'
theorem few_nat : ∀ (n : Nat) (l : List Nat), l.Nodup → (∀ x ∈ l, x < n) → l.length ≤ n
  | 0, l, _, h => by
    cases l with
    | nil => exact Nat.le_refl _
    | cons x r => exact absurd (h x List.mem_cons_self) (Nat.not_lt_zero _)
  | n + 1, l, d, h => by
    have ih := few_nat n (l.erase n) (d.erase n) (fun x hx => by
      have h1 := h x (List.mem_of_mem_erase hx)
      have h2 := ((List.Nodup.mem_erase_iff d).mp hx).1
      omega)
    have := List.length_erase (a := n) (l := l)
    by_cases z : n ∈ l
    · rw [if_pos z] at this; omega
    · rw [if_neg z] at this; omega
theorem few_int {l : List Int} (d : l.Nodup) (h : ∀ x ∈ l, 0 ≤ x ∧ x ≤ 99) : l.length ≤ 100 := by
  have := few_nat 100 (l.map Int.toNat) (List.pairwise_map.mpr (d.imp_of_mem fun ha hb ne e => ne (by have := h _ ha; have := h _ hb; omega))) (fun x hx => by
    obtain ⟨y, hy, rfl⟩ := List.mem_map.mp hx
    have := h y hy
    omega)
  rwa [List.length_map] at this
theorem state_in {x : Int} (h : stateB (.int x) = true) : 0 ≤ x ∧ x ≤ 99 := by
  have h' : (decide (0 ≤ x) && decide (x ≤ 99)) = true := h
  rw [Bool.and_eq_true] at h'
  exact ⟨of_decide_eq_true h'.1, of_decide_eq_true h'.2⟩
/-- the dict of the reached states -/
def rkv (R : List Int) : List (Key × V) := R.map fun x => (Sum.inl x, .bl true)
theorem rkv_in (R : List Int) (y : Int) : (valV (rkv R) (.inl y)).isSome = decide (y ∈ R) := by
  rw [← valV_any]
  unfold rkv
  induction R with
  | nil => rfl
  | cons x r ih =>
    rw [List.map_cons, List.any_cons, ih]
    by_cases e : x = y
    · subst e; simp
    · have e' : ¬ y = x := fun q => e q.symm
      simp [e, e']
theorem rkv_put {R : List Int} {y : Int} (h : y ∉ R) : putK (rkv R) (.inl y) (.bl true) = rkv (R ++ [y]) := by
  rw [putK_new]
  · unfold rkv; rw [List.map_append]; rfl
  · have := rkv_in R y
    rw [decide_eq_false h] at this
    cases e : valV (rkv R) (.inl y) with
    | none => rfl
    | some v => rw [e] at this; cases this
/-- the walk: R is reached, W waits; x is under way, its moves up to the i-th are done -/
structure Walk (ss : List KnA.Stp) (s0 : Int) (R W : List Int) (un : Int → Prop) : Prop where
  nd : R.Nodup
  le : W.length ≤ R.length
  sub : ∀ x ∈ W, x ∈ R
  re : ∀ x ∈ R, KnA.Reach ss s0 x
  st : ∀ x ∈ R, 0 ≤ x ∧ x ≤ 99
  s0 : s0 ∈ R
  cl : ∀ x w y, x ∈ R → x ∉ W → ¬ un x → (x, w, y) ∈ ss → y ∈ R
theorem Walk.few {ss : List KnA.Stp} {s0 : Int} {R W : List Int} {un : Int → Prop} (h : Walk ss s0 R W un) : R.length ≤ 100 := few_int h.nd h.st
theorem Walk.push {ss : List KnA.Stp} {s0 : Int} {R W : List Int} {un : Int → Prop} (h : Walk ss s0 R W un) {y : Int} (hy : y ∉ R) (hr : KnA.Reach ss s0 y) (hs : 0 ≤ y ∧ y ≤ 99) : Walk ss s0 (R ++ [y]) (W ++ [y]) un := by
  have mem : ∀ {l : List Int} {x : Int}, x ∈ l ++ [y] ↔ x ∈ l ∨ x = y := fun {l x} => by rw [List.mem_append, List.mem_singleton]
  refine ⟨?_, by rw [List.length_append, List.length_append]; exact Nat.add_le_add_right h.le _, fun x hx => ?_, fun x hx => ?_, fun x hx => ?_, mem.mpr (.inl h.s0), fun x w z hx hw hu hm => ?_⟩
  · refine List.nodup_append.mpr ⟨h.nd, by simp, fun a ha b hb e => ?_⟩
    rw [List.mem_singleton] at hb
    exact hy (hb ▸ e ▸ ha)
  · rcases mem.mp hx with q | q
    · exact mem.mpr (.inl (h.sub x q))
    · exact mem.mpr (.inr q)
  · rcases mem.mp hx with q | q
    · exact h.re x q
    · rw [q]; exact hr
  · rcases mem.mp hx with q | q
    · exact h.st x q
    · rw [q]; exact hs
  · have nw : x ∉ W := fun q => hw (mem.mpr (.inl q))
    have ny : ¬ x = y := fun q => hw (mem.mpr (.inr q))
    exact mem.mpr (.inl (h.cl x w z ((mem.mp hx).resolve_right ny) nw hu hm))
theorem ok_reached_states {f : Addr} {C : Addr} {fd : FuncData} (T : Txt K mg C) (F : Fun K "reached_states" "reached_states" s_reached_states f fd)  : FnOk P w K mg base CX0 1 f fd ["start", "leaving"] (sp_reached_states K) := by
  have nd := sc_reached_states.nd
  refine F.ok sc_reached_states (fun vs H Q E h => ?_) (fun cdv A outer s H vs Q E hr h => ?_)
  · obtain ⟨s0, d, ss, rfl, _⟩ := h
    rfl
  · obtain ⟨s0, d, ss, rfl, st0, gs, hd, q⟩ := h
    refine ⟨_, (pss_cons (ps_set (i := 2) nd rfl (.inl rfl) (pe_disp (pps_cons (pv 0) pe_bl pps_nil) (by rfl) (by rfl) (fun z => by cases z) (by decide)))
      (pss_cons (ps_set (i := 3) nd rfl (.inl rfl) (pe_lst (pa_cons (pv 0) pa_nil)))
      (pss_cons (ps_while PassesOwn.never (pt_cmpR op_gt (pe_callB call_len (by rfl) T.m_len (by decide +kernel) (pa_cons (pv 3) pa_nil)) pe_int (nomark _)) (pss_cons (ps_set (i := 4) nd rfl (.inl rfl) (pe_dget2 (hu_of hr) (pv 1) (pe_bm0 PySem.F.plainAttrs_list PySem.F.slot_list_pop PySem.F.type_list_pop mt_pop (pv 3)) (pe_lst pa_nil) ⟨rfl, rfl, rfl, rfl⟩))
      (pss_one (ps_for PassesOwn.never rfl (pi_list (pv 4)) (pg_tup (by rfl) (pgs_cons (pg_name (i := 5) nd rfl (.inl rfl)) (pgs_cons (pg_name (i := 6) nd rfl (.inl rfl)) pgs_nil))) (pss_one (ps_if (pt_cmp (pc_dnotin (hu_of hr) (pv 6) (pv 2))) (pss_cons (ps_dput (hu_of hr) (pv 2) (pv 6) pe_bl rfl)
      (pss_one (ps_expr (pe_bm PySem.F.plainAttrs_list PySem.F.slot_list_append PySem.F.type_list_append mt_append (pv 3) (pa_cons (pv 6) pa_nil))))) pss_nil))))))
      (pss_one (ps_ret (pe_callB cr_sortedI (by rfl) T.m_sorted (by decide +kernel) (pa_cons (pe_callTy (call_listD rfl) (by rfl) T.m_list (by decide +kernel) (pa_cons (pv 2) pa_nil)) pa_nil))))))), ?_⟩
    refine fun r nr => ⟨.int s0, rfl, upd_same, [(.inl s0, .bl true)], rfl, Nat.le_of_ble_eq_true rfl, .int s0, rfl, szl rfl, fun wa nw => ?_⟩
    rw [upd_upd] at nw ⊢
    have s1 := same_upd (o := .dK (mergeK [] [((.inl s0 : Key), V.bl true)])) nr
    have s2 := same_upd (o := .lst [.int s0]) nw
    have nrw : r ≠ wa := fun e => by rw [e, upd_same] at nw; cases nw
    have nwH : H wa = none := s1.free nw
    refine ⟨fun m σ H' => ∃ y4 y5 y6 R W, σ = [some (.int s0), some (.ref d), some (.ref r), some (.ref wa), y4, y5, y6] ∧ Same H H' ∧ H' r = some (.dK (rkv R)) ∧ H' wa = some (.lst (W.map V.int)) ∧ Walk ss s0 R W (fun _ => False) ∧ m = 2 * (101 - R.length) + W.length,
      ⟨_, none, none, none, [s0], [s0], rfl, s1.trans s2, (upd_ne nrw).trans upd_same, upd_same, ⟨by simp, Nat.le_refl _, fun x hx => hx, fun x hx => by rw [List.mem_singleton.mp hx]; exact .start, fun x hx => by rw [List.mem_singleton.mp hx]; exact state_in st0, List.mem_singleton.mpr rfl, fun x w y hx hn => absurd hx hn⟩, rfl⟩, fun m σ H' hW => ?_⟩
    obtain ⟨y4, y5, y6, R, W, rfl, S, er, ew, wk, rfl⟩ := hW
    refine ⟨.ref wa, rfl, .ref wa, (W.map V.int).length, rfl, .inl ⟨_, .inl (.inl ew), rfl⟩, ((W.map V.int).length : Int), 0, rfl, rfl, _, rfl, ?_⟩
    rw [List.length_map]
    by_cases z : W = []
    · subst z
      refine iteF ⟨.ref r, rfl, r, rkv R, rfl, .inl er, fun p np => ?_⟩
      have em : (rkv R).map (fun kv => kV kv.1) = R.map V.int := by unfold rkv; rw [List.map_map]; rfl
      rw [em]
      have sp := same_upd (o := .lst (R.map V.int)) np
      refine ⟨p, R, rfl, .inl (.inl upd_same), fun ns o hp hs no => ?_⟩
      refine q _ o ns (S.trans (sp.trans (same_upd no))) (S.free (sp.free no)) upd_same ⟨KnA.lt_of_le hs (hp.symm.nodup wk.nd), fun x => ?_⟩
      rw [hp.mem_iff]
      exact KnA.reach_of wk.s0 (fun x w y hx => wk.cl x w y hx (fun z => nomatch z) id) wk.re x
    · have lw : 0 < W.length := List.length_pos_iff.mpr z
      rw [decide_eq_true (show (0 : Int) < (W.length : Int) by omega)]
      refine iteT ⟨fun σ' H'' => ∃ y4 y5 y6 R' W', σ' = [some (.int s0), some (.ref d), some (.ref r), some (.ref wa), y4, y5, y6] ∧ Same H H'' ∧ H'' r = some (.dK (rkv R')) ∧ H'' wa = some (.lst (W'.map V.int)) ∧ Walk ss s0 R' W' (fun _ => False) ∧ 2 * (101 - R'.length) + W'.length < 2 * (101 - R.length) + W.length,
        fun σ' H'' ⟨y4, y5, y6, R', W', e, a1, a2, a3, a4, a5⟩ => ⟨_, a5, y4, y5, y6, R', W', e, a1, a2, a3, a4, rfl⟩, ?_⟩
      have hD : ∀ {G : Hp}, Same H G → IsD G d := fun s => let ⟨kvs, e, _⟩ := hd; .inl ⟨kvs, .inl (s _ _ e)⟩
      obtain ⟨x, hx⟩ : ∃ x, W[W.length - 1]? = some x := ⟨_, List.getElem?_eq_getElem (by omega)⟩
      have hxR := wk.sub x (List.mem_of_getElem? hx)
      refine ⟨.ref d, rfl, d, rfl, hD S, .ref wa, rfl, .inl ⟨rfl, _, .inl (.inl ew)⟩, wa, W.map V.int, .int x, rfl, rfl, ew, by rw [List.length_map, List.getElem?_map, hx]; rfl, szl rfl, fun p np => ?_⟩
      have nr2 : r ≠ wa := nrw
      have S2 : Same H (upd H' wa (.lst (W.map V.int).dropLast)) := same_set nwH S
      have er2 : (upd H' wa (.lst (W.map V.int).dropLast)) r = some (.dK (rkv R)) := (upd_ne nr2).trans er
      have ew2 : (upd H' wa (.lst (W.map V.int).dropLast)) wa = some (.lst (W.dropLast.map V.int)) := by rw [upd_same, List.map_dropLast]
      generalize upd H' wa (.lst (W.map V.int).dropLast) = H2 at np S2 er2 ew2 ⊢
      have sp := same_upd (o := .lst []) np
      have S3 := S2.trans sp
      have er3 := sp _ _ er2
      have ew3 := sp _ _ ew2
      obtain ⟨o, ml, as, dg, eo, hml, hms, nmr, nmw⟩ : ∃ o ml as, DGet (upd H2 p (.lst [])) d (.int x) o ∧ o.getD (.ref p) = .ref ml ∧ (upd H2 p (.lst [])) ml = some (.lst (as.map V.ref)) ∧ Mvs (upd H2 p (.lst [])) as (mv ss x) ∧ ml ≠ r ∧ ml ≠ wa := by
        obtain ⟨kvs, ed, hk⟩ := hd
        refine ⟨valV kvs (.inl x), ?_⟩
        have hkx := hk x
        have dg : DGet (upd H2 p (.lst [])) d (.int x) (valV kvs (.inl x)) := DGet.k (k := .inl x) (S3 _ _ ed)
        by_cases e : mv ss x = []
        · rw [if_pos e] at hkx
          refine ⟨p, [], dg, by rw [hkx]; rfl, upd_same, by rw [e]; exact .nil, (ne_of_none er2 np).symm, (ne_of_none ew2 np).symm⟩
        · rw [if_neg e] at hkx
          obtain ⟨l, as, h1, h2, h3⟩ := hkx
          exact ⟨l, as, dg, by rw [h1]; rfl, S3 _ _ h2, h3.mono S3, ne_of_none h2 nr, ne_of_none h2 nwH⟩
      refine ⟨o, dg, ?_⟩
      rw [eo]
      generalize upd H2 p (.lst []) = H3 at S3 er3 ew3 hml hms
      have wk0 : Walk ss s0 R W.dropLast (fun u => u = x) := ⟨wk.nd, by rw [List.length_dropLast]; have := wk.le; omega, fun u hu => wk.sub u ((List.dropLast_sublist W).subset hu), wk.re, wk.st, wk.s0, fun u w y hu hn hne hm => wk.cl u w y hu (fun hin => by
          have sp : W = W.dropLast ++ [x] := by
            have := List.dropLast_concat_getLast z
            rw [List.getLast_eq_getElem] at this
            have e2 : W[W.length - 1]'(by omega) = x := (List.getElem?_eq_some_iff.mp hx).2
            rw [e2] at this
            exact this.symm
          rw [sp, List.mem_append, List.mem_singleton] at hin
          exact hin.elim hn hne) id hm⟩
      refine ⟨.ref ml, rfl, ml, rfl, ⟨_, .inl (.inl hml)⟩, ?_⟩
      refine for_list (K := K) (xs := as.map V.ref) (fun i σ H' => ∃ y5 y6 R' W', σ = [some (.int s0), some (.ref d), some (.ref r), some (.ref wa), some (.ref ml), y5, y6] ∧ Same H H' ∧ H' r = some (.dK (rkv R')) ∧ H' wa = some (.lst (W'.map V.int)) ∧ Walk ss s0 R' W' (fun u => u = x) ∧
          H' ml = some (.lst (as.map V.ref)) ∧ Mvs H' as (mv ss x) ∧ (∀ y ∈ (mv ss x).take i, y.2 ∈ R') ∧ x ∈ R' ∧ 2 * (101 - R'.length) + W'.length < 2 * (101 - R.length) + W.length)
        ⟨_, _, R, W.dropLast, rfl, S3, er3, ew3, wk0, hml, hms, fun y hy => absurd hy (by simp), hxR, by rw [List.length_dropLast]; omega⟩
        (fun i σ H' _ ⟨_, _, _, _, _, _, _, _, _, h, _⟩ => .inl (.inl h)) (fun i v σ H' hv hP => ?_) (fun σ H' hP => ?_)
      · obtain ⟨y5, y6, R', W', rfl, S, er, ew, wk, hml, hms, hin, hxR, lt⟩ := hP
        rw [List.getElem?_map] at hv
        cases ga : as[i]? with
        | none => rw [ga] at hv; cases hv
        | some ai =>
        rw [ga] at hv
        cases hv
        obtain ⟨m, gm, hai⟩ := paired_get hms ga
        have hss : (x, m.1, m.2) ∈ ss := mv_mem.mp (List.mem_of_getElem? gm)
        have takeM := take_more gm
        refine ⟨ai, _, rfl, .inl (.inl hai), rfl, .str m.1, _, rfl, .int m.2, [], rfl, rfl, ?_⟩
        refine ⟨.int m.2, rfl, .ref r, rfl, r, valV (rkv R') (.inl m.2), rfl, DGet.k (k := .inl m.2) er, _, rfl, ?_⟩
        rw [rkv_in]
        by_cases y : m.2 ∈ R'
        · rw [decide_eq_true y]
          refine iteF ⟨_, _, R', W', rfl, S, er, ew, wk, hml, hms, fun u hu => ?_, hxR, lt⟩
          rw [takeM, List.mem_append, List.mem_singleton] at hu
          rcases hu with hu | hu
          · exact hin u hu
          · rw [hu]; exact y
        · rw [decide_eq_false y]
          have few := wk.few
          have lrk : (rkv R').length = R'.length := List.length_map _
          refine iteT ⟨.ref r, rfl, .int m.2, rfl, r, _, rfl, DPut.k (k := .inl m.2) er (small (by omega)), ?_⟩
          rw [rkv_put y]
          have ew4 : (upd H' r (.dK (rkv (R' ++ [m.2])))) wa = some (.lst (W'.map V.int)) := (upd_ne nrw.symm).trans ew
          have S4 : Same H (upd H' r (.dK (rkv (R' ++ [m.2])))) := same_set nr S
          have hml4 : (upd H' r (.dK (rkv (R' ++ [m.2])))) ml = some (.lst (as.map V.ref)) := (upd_ne nmr).trans hml
          have hms4 : Mvs (upd H' r (.dK (rkv (R' ++ [m.2])))) as (mv ss x) := Paired.mapP hms fun _ _ e => (upd_ne (ne_of e er (fun z => by cases z))).trans e
          have er4 : (upd H' r (.dK (rkv (R' ++ [m.2])))) r = some (.dK (rkv (R' ++ [m.2]))) := upd_same
          generalize upd H' r (.dK (rkv (R' ++ [m.2]))) = H4 at S4 ew4 hml4 hms4 er4
          have le := wk.le
          refine ⟨.ref wa, rfl, .inl ⟨rfl, _, .inl (.inl ew4)⟩, .int m.2, rfl, wa, _, .int m.2, rfl, rfl, ew4, small (by rw [List.length_map]; omega), ?_⟩
          refine ⟨_, _, R' ++ [m.2], W' ++ [m.2], rfl, same_set nwH S4, (upd_ne nrw).trans er4, by rw [upd_same, List.map_append]; rfl, wk.push y (.step (wk.re x hxR) hss) (state_in (gs.good _ hss).t), (upd_ne nmw).trans hml4, Paired.mapP hms4 fun _ _ e => (upd_ne (ne_of e ew4 (fun z => by cases z))).trans e, fun u hu => ?_, List.mem_append.mpr (.inl hxR), ?_⟩
          · rw [takeM, List.mem_append, List.mem_singleton] at hu
            rcases hu with hu | hu
            · exact List.mem_append.mpr (.inl (hin u hu))
            · rw [hu]; exact List.mem_append.mpr (.inr (List.mem_singleton.mpr rfl))
          · have f2 := (wk.push y (.step (wk.re x hxR) hss) (state_in (gs.good _ hss).t)).few
            rw [List.length_append] at f2 ⊢
            rw [List.length_append]
            have e1 : [m.2].length = 1 := rfl
            rw [e1] at f2 ⊢
            omega
      · obtain ⟨y5, y6, R', W', rfl, S, er, ew, wk, hml, hms, hin, hxR, lt⟩ := hP
        refine ⟨_, _, _, R', W', rfl, S, er, ew, ⟨wk.nd, wk.le, wk.sub, wk.re, wk.st, wk.s0, fun u w y hu hn _ hm => ?_⟩, lt⟩
        by_cases e : u = x
        · subst e
          rw [List.length_map, hms.length, List.take_length] at hin
          exact hin _ (mv_mem.mpr hm)
        · exact wk.cl u w y hu hn e hm

/-! ### a machine -/
def look (fs : List (Str × Str)) (x : Str) : Option Str := (fs.find? fun p => decide (p.1 = x)).map (·.2)
/-- the faults in the order of the words -/
def orderF (ws : List Str) (fs : List (Str × Str)) : List (Str × Str) := ws.filterMap fun x => (look fs x).map fun n => (x, n)
theorem look_val (fs : List (Str × Str)) (x : Str) : valV (fkv fs) (.inr x) = (look fs x).map V.str := by
  unfold look fkv
  induction fs with
  | nil => rfl
  | cons p r ih =>
    obtain ⟨y, n⟩ := p
    by_cases e : y = x
    · rw [List.find?_cons_of_pos (by simp [e])]
      unfold valV
      rw [List.map_cons, List.find?_cons_of_pos (by simp [e])]
      rfl
    · rw [List.find?_cons_of_neg (by simp [e]), ← ih]
      unfold valV
      rw [List.map_cons, List.find?_cons_of_neg (by simp [e])]
theorem order_take {ws : List Str} {fs : List (Str × Str)} {i : Nat} {x : Str} (h : ws[i]? = some x) : orderF (ws.take (i + 1)) fs = orderF (ws.take i) fs ++ (match look fs x with | none => [] | some n => [(x, n)]) := by
  unfold orderF
  rw [take_more h, List.filterMap_append]
  congr 1
  rw [List.filterMap_cons]
  cases look fs x <;> rfl
theorem order_keys {ws : List Str} {fs : List (Str × Str)} {p : Str × Str} (h : p ∈ orderF ws fs) : p.1 ∈ ws := by
  unfold orderF at h
  obtain ⟨x, hx, e⟩ := List.mem_filterMap.mp h
  cases g : look fs x with
  | none => rw [g] at e; cases e
  | some n => rw [g] at e; cases e; exact hx
theorem order_len (ws : List Str) (fs : List (Str × Str)) : (orderF ws fs).length ≤ ws.length := List.length_filterMap_le _ _
theorem order_nil (ws : List Str) : orderF ws [] = [] := by
  unfold orderF
  induction ws with
  | nil => rfl
  | cons x r ih => rw [List.filterMap_cons]; exact ih
theorem val_none {fs : List (Str × Str)} {x : Str} (h : ∀ p ∈ fs, p.1 ≠ x) : valV (fkv fs) (.inr x) = none := by
  rw [look_val]
  unfold look
  rw [List.find?_eq_none.mpr fun p hp => by simp [h p hp]]; rfl
def mflds (s0 : Int) (ls lw df lt : Addr) : List (Str × V) := putF "_states" (.ref lt) (putF "_faults" (.ref df) (putF "_words" (.ref lw) (putF "_steps" (.ref ls) (putF "_start" (.int s0) []))))
theorem mf_start (s0 : Int) (ls lw df lt : Addr) : (mflds s0 ls lw df lt).lookup ("_start" : Str) = some (.int s0) := by
  unfold mflds; simp only [lookup_putF]; rw [if_neg (by decide +kernel), if_neg (by decide +kernel), if_neg (by decide +kernel), if_neg (by decide +kernel), if_pos True.intro]
theorem mf_steps (s0 : Int) (ls lw df lt : Addr) : (mflds s0 ls lw df lt).lookup ("_steps" : Str) = some (.ref ls) := by
  unfold mflds; simp only [lookup_putF]; rw [if_neg (by decide +kernel), if_neg (by decide +kernel), if_neg (by decide +kernel), if_pos True.intro]
theorem mf_words (s0 : Int) (ls lw df lt : Addr) : (mflds s0 ls lw df lt).lookup ("_words" : Str) = some (.ref lw) := by
  unfold mflds; simp only [lookup_putF]; rw [if_neg (by decide +kernel), if_neg (by decide +kernel), if_pos True.intro]
theorem mf_faults (s0 : Int) (ls lw df lt : Addr) : (mflds s0 ls lw df lt).lookup ("_faults" : Str) = some (.ref df) := by
  unfold mflds; simp only [lookup_putF]; rw [if_neg (by decide +kernel), if_pos True.intro]
theorem mf_states (s0 : Int) (ls lw df lt : Addr) : (mflds s0 ls lw df lt).lookup ("_states" : Str) = some (.ref lt) := by
  unfold mflds; simp only [lookup_putF]; rw [if_pos True.intro]
structure MachO (C : Addr) (H : Hp) (p dx ls lw df lt : Addr) (as : List Addr) (ws : List Str) (ns : List Int) (s0 : Int) (ss : List KnA.Stp) (fs : List (Str × Str)) : Prop where
  ob : H p = some (.ins C dx (mflds s0 ls lw df lt))
  hs : H ls = some (.lst (as.map V.ref))
  st : Stps H as ss
  hw : H lw = some (.lst (ws.map V.str))
  wo : KnA.Words ws (ss.map (·.2.1))
  hf : H df = some (.dK (fkv (orderF ws fs)))
  ht : H lt = some (.lst (ns.map V.int))
  re : KnA.States ns ss s0
/-- a machine stands at p -/
def MachAt (C : Addr) (H : Hp) (p : Addr) (s0 : Int) (ss : List KnA.Stp) (fs : List (Str × Str)) : Prop := ∃ dx ls lw df lt as ws ns, MachO C H p dx ls lw df lt as ws ns s0 ss fs
theorem MachAt.mono {C : Addr} {H H' : Hp} {p : Addr} {s0 : Int} {ss : List KnA.Stp} {fs : List (Str × Str)} (h : MachAt C H p s0 ss fs) (s : Same H H') : MachAt C H' p s0 ss fs := by
  obtain ⟨dx, ls, lw, df, lt, as, ws, ns, m⟩ := h
  exact ⟨dx, ls, lw, df, lt, as, ws, ns, s _ _ m.ob, s _ _ m.hs, m.st.mono s, s _ _ m.hw, m.wo, s _ _ m.hf, s _ _ m.ht, m.re⟩
/-- what makes a machine -/
structure GoodMach (s0 : Int) (ss : List KnA.Stp) (fs : List (Str × Str)) : Prop where
  st0 : stateB (.int s0) = true
  gs : GoodSteps ss
  few : ∀ ws, KnA.Words ws (ss.map (·.2.1)) → ws.length ≤ 14
  gf : GoodFaults fs (ss.map (·.2.1))
  live : ∀ x, KnA.Reach ss s0 x → ∃ w y, (x, w, y) ∈ ss
theorem GoodFaults.at_ {fs : List (Str × Str)} {ws xs : List Str} (g : GoodFaults fs xs) (h : KnA.Words ws xs) : GoodFaults fs ws := ⟨fun p hp => let ⟨a, b, c⟩ := g.word p hp; ⟨a, (h.mem _).mpr b, c⟩, g.few, g.len⟩
def sp_Machine_init (K : PySem.W.Frag) (C : Addr) : Sp := fun vs H Q _ => ∃ (p dx a : Addr) (s0 : Int) (v : V) (b : Bool) (as : List Addr) (ss : List KnA.Stp) (fs : List (Str × Str)), vs = [.ref p, .int s0, .ref a, v] ∧ H p = some (.ins C dx []) ∧
  H a = some (rowO b (as.map V.ref)) ∧ Stps H as ss ∧ FArg H v fs ∧ GoodMach s0 ss fs ∧ ∀ H' dx ls lw df lt ws ns, (∀ b o, H b = some o → b ≠ p → H' b = some o) → MachO C H' p dx ls lw df lt as ws ns s0 ss fs → H ls = none → H lw = none → H df = none → H lt = none → Q .non H'
theorem ok_Machine_init {f : Addr} {C : Addr} {fd : FuncData} (T : Txt K mg C) (F : KnD.FunX K "__init__" "Machine.__init__" s_Machine_init f fd) (c_is_state : Cal P w K mg base 2 "is_state" (sp_is_state K) []) (c_check_steps : Cal P w K mg base 4 "check_steps" (sp_check_steps K) []) (c_check_faults : Cal P w K mg base 2 "check_faults" (sp_check_faults K) []) (c_moves_by_state : Cal P w K mg base 1 "moves_by_state" (sp_moves_by_state K) []) (c_reached_states : Cal P w K mg base 1 "reached_states" (sp_reached_states K) []) : FnOk P w K mg base CX0 5 f fd ["self", "start", "steps", "faults"] (sp_Machine_init K C) := by
  have nd := sc_Machine_init.nd
  refine F.ok sc_Machine_init (fun vs H Q E h => ?_) (fun cdv A outer s H vs Q E hr h => ?_)
  · obtain ⟨p, dx, a, s0, v, b, as, ss, fs, rfl, _⟩ := h
    rfl
  · obtain ⟨p, dx, a, s0, v, b, as, ss, fs, rfl, hp, ha, hst, hf, gm, q⟩ := h
    refine ⟨_, (pss_cons (ps_if (pt_not (pt_val (pe_c c_is_state hr (by omega) (by rfl) (pa_cons (pv 1) pa_nil)))) (pss_one ps_never) pss_nil)
      (pss_cons (ps_expr (pe_c c_check_steps hr (by omega) (by rfl) (pa_cons (pv 2) pa_nil)))
      (pss_cons (ps_set (i := 4) nd rfl (.inl rfl) (pe_callB (show CallR _ (.builtin "sorted") (KnS.rSortedL P w) from KnS.cr_sortedL rfl) (by rfl) T.m_sorted (by decide +kernel) (pa_cons (KnS.scL (own := [("step", 8)]) (g := gName 8) (tt := tYes) rfl nd (KnE.pi_seq (pv 2)) (blkOk_by (own := [("step", 8)]) (N := ["self", "start", "steps", "faults", "words", "leaving", "states", "state", "step", "word"]) (sc := defScope s_Machine_init) (by decide +kernel)) (fun _ _ _ _ _ => (pg_name (i := 8) nd rfl (.inl rfl))) (fun _ _ _ _ _ => pts_nil) (fun _ _ _ _ _ => (pe_ix (r := rIxT K) ix_tup (pv 8) pe_int (fun _ _ => rfl)))) pa_nil)))
      (pss_cons (ps_if (pt_cmpR op_gt (pe_callB call_len (by rfl) T.m_len (by decide +kernel) (pa_cons (pv 4) pa_nil)) (pe_gc (by rfl) T.c_MOST_WORDS) (nomark _)) (pss_one ps_never) pss_nil)
      (pss_cons (ps_expr (pe_c c_check_faults hr (by omega) (by rfl) (pa_cons (pv 3) (pa_cons (pv 4) pa_nil))))
      (pss_cons (ps_set (i := 5) nd rfl (.inl rfl) (pe_c c_moves_by_state hr (by omega) (by rfl) (pa_cons (pv 2) pa_nil)))
      (pss_cons (ps_set (i := 6) nd rfl (.inl rfl) (pe_c c_reached_states hr (by omega) (by rfl) (pa_cons (pv 1) (pa_cons (pv 5) pa_nil))))
      (pss_cons (ps_for PassesOwn.never rfl (pi_list (pv 6)) (pg_name (i := 7) nd rfl (.inl rfl)) (pss_one (ps_if (pt_cmp (pc_dnotin (hu_of hr) (pv 7) (pv 5))) (pss_one ps_never) pss_nil)))
      (pss_cons (ps_fld (pv 0) (pv 1) rfl)
      (pss_cons (ps_fld (pv 0) (pe_callTy call_list_of (by rfl) T.m_list (by decide +kernel) (pa_cons (pv 2) pa_nil)) rfl)
      (pss_cons (ps_fld (pv 0) (pv 4) rfl)
      (pss_cons (ps_fld (pv 0) (pe_ifExp (pt_cmpR op_isN (pv 3) pe_non (nomark _)) pe_dnewK (pe_dc (own := [("word", 9)]) (g := gName 9) rfl nd (pi_list (pv 4)) (blkOk_by (own := [("word", 9)]) (N := ["self", "start", "steps", "faults", "words", "leaving", "states", "state", "step", "word"]) (sc := defScope s_Machine_init) (by decide +kernel)) (fun _ _ _ _ _ => (pg_name (i := 9) nd rfl (.inl rfl))) (fun _ _ _ _ _ => (pts_one (pt_cmp (pc_din (hu_of hr) (pv 9) (pv 3))))) (fun _ _ _ _ _ => (pv 9)) (fun _ _ _ _ _ => (pe_dget (hu_of hr) (pv 3) (pv 9) (fun _ _ => rfl))))) rfl)
      (pss_one (ps_fld (pv 0) (pv 6) rfl)))))))))))))), ?_⟩
    have gs := gm.gs
    refine ⟨.int s0, rfl, .int s0, rfl, .int _, fun H1 s1 => ⟨_, rfl, ?_⟩⟩
    rw [gm.st0]
    refine iteF ?_
    refine ⟨.ref a, rfl, b, a, as, ss, rfl, s1 _ _ ha, hst.mono s1, gs, fun H2 s2' => ?_⟩
    have s2 := s1.trans s2'
    refine ⟨.ref a, rfl, a, b, rfl, ⟨_, row_sq (s2 _ _ ha)⟩, fun D nD => ?_⟩
    have nDH : H D = none := s2.free nD
    have hi := gs.hi
    have lst : (as.map V.ref).length = ss.length := by rw [List.length_map, hst.length]
    refine KnC.sc_seq (P := P) (w := w) (K := K) (b := b) (a := a) (xs := as.map V.ref) (fun i H' => Same H H' ∧ ∃ xs : List Str, H' D = some (KnS.SetL P w D (xs.map Sum.inr)) ∧ xs.Nodup ∧ xs.length ≤ i ∧ ∀ x, x ∈ xs ↔ x ∈ (ss.take i).map (·.2.1))
      ⟨same_set nDH s2, [], upd_same, List.nodup_nil, Nat.le_refl _, fun x => Iff.rfl⟩ (fun i H' _ hP => row_sq (hP.1 _ _ ha)) (fun i x H' hx hP => ?_) (fun H' hP => ?_)
    · obtain ⟨S, xs, eD, nx, lx, mx⟩ := hP
      obtain ⟨ai, st, rfl, gi, gsi, hai⟩ := ref_get (hst.mono S) hx
      have hi80 : i < ss.length := (List.getElem?_eq_some_iff.mp gsi).1
      refine ⟨rfl, ?_⟩
      unfold tYes
      refine iteT ?_
      refine ⟨.ref ai, rfl, ai, [.int st.1, .str st.2.1, .int st.2.2], 1, .str st.2.1, rfl, rfl, .inl (.inl hai), atI_nat (j := 1) rfl, .inr st.2.1, _, rfl, eD, by rw [List.length_map]; unfold scanBound; omega, same_set nDH S, _, by rw [upd_same, KnC.addL_strs], ?_, ?_, fun x => ?_⟩
      · by_cases z : st.2.1 ∈ xs
        · rw [if_pos z]; exact nx
        · rw [if_neg z]
          refine List.nodup_append.mpr ⟨nx, by simp, fun a ha b hb e => ?_⟩
          rw [List.mem_singleton] at hb
          exact z (hb ▸ e ▸ ha)
      · by_cases z : st.2.1 ∈ xs
        · rw [if_pos z]; omega
        · rw [if_neg z, List.length_append]; exact Nat.succ_le_succ lx
      · rw [take_more gsi, List.map_append, List.mem_append, ← mx]
        by_cases z : st.2.1 ∈ xs
        · rw [if_pos z]
          refine ⟨.inl, fun y => y.elim id fun e => ?_⟩
          rw [List.mem_singleton.mp e]; exact z
        · rw [if_neg z, List.mem_append]; exact Iff.rfl
    · obtain ⟨S, xs, eD, nx, lx, mx⟩ := hP
      rw [lst, List.take_length] at mx
      refine ⟨D, xs, rfl, eD, fun ws lw pw sw nw => ?_⟩
      have hws : KnA.Words ws (ss.map (·.2.1)) := ⟨KnA.sorted_pair sw, pw.symm.nodup nx, fun x => pw.mem_iff.trans (mx x)⟩
      have few := gm.few ws hws
      have S3 := S.trans (same_upd (o := .lst (ws.map V.str)) nw)
      have ew : (upd H' lw (.lst (ws.map V.str))) lw = some (.lst (ws.map V.str)) := upd_same
      have nwH : H lw = none := S.free nw
      generalize upd H' lw (.lst (ws.map V.str)) = H3 at S3 ew
      refine ⟨.ref lw, rfl, .ref lw, (ws.map V.str).length, rfl, .inl ⟨_, .inl (.inl ew), rfl⟩, ((ws.map V.str).length : Int), 14, rfl, rfl, _, rfl, ?_⟩
      rw [List.length_map, decide_eq_false (show ¬ (14 : Int) < (ws.length : Int) by omega)]
      refine iteF ⟨v, rfl, .ref lw, rfl, v, fs, lw, ws, rfl, hf.mono S3, ew, gm.gf.at_ hws, fun H4 s4' => ?_⟩
      have S4 := S3.trans s4'
      have ew4 := s4' _ _ ew
      refine ⟨.ref a, rfl, b, a, as, ss, rfl, S4 _ _ ha, hst.mono S4, Nat.le_trans hi (by decide), fun H5 d s5' hd => ?_⟩
      have S5 := S4.trans s5'
      have ew5 := s5' _ _ ew4
      refine ⟨.int s0, rfl, .ref d, rfl, s0, d, ss, rfl, gm.st0, gs, hd, fun H6 lt ns s6' nlt elt hns => ?_⟩
      have S6 := S5.trans s6'
      have ew6 := s6' _ _ ew5
      have hd6 := hd.mono s6'
      have nltH : H lt = none := S5.free nlt
      refine ⟨.ref lt, rfl, lt, rfl, ⟨_, .inl (.inl elt)⟩, ?_⟩
      refine for_list (K := K) (xs := ns.map V.int) (fun i σ H' => ∃ y7, σ = [some (.ref p), some (.int s0), some (.ref a), some v, some (.ref lw), some (.ref d), some (.ref lt), y7, none, none] ∧ H' = H6) ⟨none, rfl, rfl⟩ (fun i σ H' _ ⟨_, _, e⟩ => by rw [e]; exact .inl (.inl elt)) (fun i x σ H' hx hP => ?_) (fun σ H' hP => ?_)
      · obtain ⟨y7, rfl, rfl⟩ := hP
        rw [List.getElem?_map] at hx
        cases gx : ns[i]? with
        | none => rw [gx] at hx; cases hx
        | some n =>
        rw [gx] at hx
        cases hx
        obtain ⟨kvs, ed, hk⟩ := hd6
        obtain ⟨w', y', hm⟩ := gm.live n ((hns.mem n).mp (List.mem_of_getElem? gx))
        have hkn := hk n
        have ne : mv ss n ≠ [] := List.ne_nil_of_mem (mv_mem.mpr (show (n, (w', y')) ∈ ss from hm))
        rw [if_neg ne] at hkn
        obtain ⟨l, as', hv, _⟩ := hkn
        have dg : DGet H' d (.int n) (valV kvs (.inl n)) := DGet.k (k := .inl n) ed
        rw [hv] at dg
        exact ⟨.int n, rfl, .ref d, rfl, d, _, rfl, dg, _, rfl, iteF ⟨_, rfl, rfl⟩⟩
      · obtain ⟨y7, rfl, rfl⟩ := hP
        have kp : ∀ {G : Hp} {o : HO} {b : Addr}, b ≠ p → (upd G p o) b = G b := fun h => upd_ne h
        have hp6 := S6 _ _ hp
        -- self._start = start
        refine ⟨.int s0, rfl, .ref p, rfl, p, C, dx, [], rfl, hp6, T.cl, T.n__start, by show 0 < 1000; decide, ?_⟩
        -- self._steps = list(steps)
        have npa : a ≠ p := ne_of ha hp (fun z => by cases b <;> cases z)
        have eah : (upd H' p (.ins C dx (putF "_start" (.int s0) []))) a = some (rowO b (as.map V.ref)) := (kp npa).trans (S6 _ _ ha)
        have len1 : ∀ (f : Str) (x : V) (l : List (Str × V)) (n : Nat), l.length ≤ n → (putF f x l).length ≤ n + 1 := fun f x l n h => Nat.le_trans (length_putF f x l) (Nat.succ_le_succ h)
        have l1 : (putF ("_start" : Str) (.int s0) []).length ≤ 1 := len1 _ _ [] 0 (Nat.le_refl _)
        refine ⟨.ref a, rfl, a, as.map V.ref, rfl, by cases b with | true => exact .inl (.inl (.inl eah)) | false => exact .inr (.inl (.inl eah)), fun ls nls => ?_⟩
        have nls6 : H' ls = none := by
          by_cases e : ls = p
          · rw [e, upd_same] at nls; cases nls
          · rwa [kp e] at nls
        have nlsp : ls ≠ p := fun e => by rw [e, hp6] at nls6; cases nls6
        have s7 := same_upd (o := .lst (as.map V.ref)) nls
        refine ⟨.ref p, rfl, p, C, dx, _, rfl, s7 _ _ upd_same, T.cl, T.n__steps, by omega, ?_⟩
        have l2 := len1 "_steps" (.ref ls) _ _ l1
        -- self._words = words
        refine ⟨.ref lw, rfl, .ref p, rfl, p, C, dx, _, rfl, upd_same, T.cl, T.n__words, by omega, ?_⟩
        have l3 := len1 "_words" (.ref lw) _ _ l2
        -- the heap so far: all of H', the list of steps, the object
        have S7 : ∀ {G : Hp} (o : HO), (∀ b x, b ≠ p → H' b = some x → G b = some x) → ∀ b x, b ≠ p → H' b = some x → (upd G p o) b = some x := fun o k b x h e => (kp h).trans (k b x h e)
        have B7 : ∀ b x, b ≠ p → H' b = some x → (upd (upd (upd (upd H' p (.ins C dx (putF "_start" (.int s0) []))) ls (.lst (as.map V.ref))) p (.ins C dx (putF "_steps" (.ref ls) (putF "_start" (.int s0) [])))) p (.ins C dx (putF "_words" (.ref lw) (putF "_steps" (.ref ls) (putF "_start" (.int s0) []))))) b = some x := fun b x h e =>
          (kp h).trans ((kp h).trans (s7 _ _ ((kp h).trans e)))
        have els : (upd (upd (upd (upd H' p (.ins C dx (putF "_start" (.int s0) []))) ls (.lst (as.map V.ref))) p (.ins C dx (putF "_steps" (.ref ls) (putF "_start" (.int s0) [])))) p (.ins C dx (putF "_words" (.ref lw) (putF "_steps" (.ref ls) (putF "_start" (.int s0) []))))) ls = some (.lst (as.map V.ref)) := (kp nlsp).trans ((kp nlsp).trans upd_same)
        have ep : (upd (upd (upd (upd H' p (.ins C dx (putF "_start" (.int s0) []))) ls (.lst (as.map V.ref))) p (.ins C dx (putF "_steps" (.ref ls) (putF "_start" (.int s0) [])))) p (.ins C dx (putF "_words" (.ref lw) (putF "_steps" (.ref ls) (putF "_start" (.int s0) []))))) p = some (.ins C dx (putF "_words" (.ref lw) (putF "_steps" (.ref ls) (putF "_start" (.int s0) [])))) := upd_same
        generalize upd (upd (upd (upd H' p (.ins C dx (putF "_start" (.int s0) []))) ls (.lst (as.map V.ref))) p (.ins C dx (putF "_steps" (.ref ls) (putF "_start" (.int s0) [])))) p (.ins C dx (putF "_words" (.ref lw) (putF "_steps" (.ref ls) (putF "_start" (.int s0) [])))) = G at B7 els ep
        have nlwp : lw ≠ p := ne_of_none hp nwH |>.symm
        have nltp : lt ≠ p := ne_of_none hp nltH |>.symm
        have SG : ∀ b o, H b = some o → b ≠ p → G b = some o := fun b o e h => B7 b o h (S6 _ _ e)
        have stG : Stps G as ss := Paired.mapP hst fun b _ e => SG b _ e (ne_of e hp (fun z => by cases z))
        have fin : ∀ {G' : Hp} {df : Addr}, Same G G' → G df = none → G' df = some (.dK (fkv (orderF ws fs))) → (sFld K (fun σ H Q => Q (.ref p) H) (fun σ H Q => Q (.ref df) H) "_faults" { nx := fun σ' G2 => sFld K (tVar 0) (tVar 6) "_states" { nx := fun x H' => Q V.non H', rt := Q } σ' G2, rt := Q } [some (.ref p), some (.int s0), some (.ref a), some v, some (.ref lw), some (.ref d), some (.ref lt), y7, none, none] G') := fun {G' df} sG nfG edf => by
          have ndfp : df ≠ p := ne_of edf (sG _ _ ep) (fun z => by cases z)
          refine ⟨p, C, dx, _, rfl, sG _ _ ep, T.cl, T.n__faults, by omega, ?_⟩
          have l4 := len1 "_faults" (.ref df) _ _ l3
          refine ⟨.ref lt, rfl, .ref p, rfl, p, C, dx, _, rfl, upd_same, T.cl, T.n__states, by omega, ?_⟩
          have keep : ∀ b o, b ≠ p → G' b = some o → (upd (upd G' p (.ins C dx (putF "_faults" (.ref df) (putF "_words" (.ref lw) (putF "_steps" (.ref ls) (putF "_start" (.int s0) [])))))) p (.ins C dx (putF "_states" (.ref lt) (putF "_faults" (.ref df) (putF "_words" (.ref lw) (putF "_steps" (.ref ls) (putF "_start" (.int s0) []))))))) b = some o := fun b o h e => (kp h).trans ((kp h).trans e)
          have ndfH : H df = none := by
            cases e : H df with
            | none => rfl
            | some o =>
              have e2 := SG df o e ndfp
              rw [nfG] at e2
              cases e2
          refine q _ dx ls lw df lt ws ns (fun b o e h => keep b o h (sG _ _ (SG b o e h))) ⟨upd_same, keep _ _ nlsp (sG _ _ els), ?_, keep _ _ nlwp (sG _ _ (B7 _ _ nlwp ew6)), hws, keep _ _ ndfp edf, keep _ _ nltp (sG _ _ (B7 _ _ nltp elt)), hns⟩ (S6.free nls6) nwH ndfH nltH
          exact Paired.mapP (stG.mono sG) fun b _ e => keep b _ (ne_of e (sG _ _ ep) (fun z => by cases z)) e
        rcases hf with ⟨rfl, rfl⟩ | ⟨fd, rfl, efd⟩
        · refine ⟨.non, rfl, rfl, _, rfl, iteT fun df ndf => ⟨.ref p, rfl, ?_⟩⟩
          exact fin (same_upd ndf) ndf (by rw [upd_same, order_nil]; rfl)
        · refine ⟨.ref fd, rfl, rfl, _, rfl, ?_⟩
          rw [decide_eq_false (show ¬ V.ref fd = V.non from fun z => by cases z)]
          have nfp : fd ≠ p := ne_of efd hp (fun z => by cases z)
          have efG := SG _ _ efd nfp
          have ewG := B7 _ _ nlwp ew6
          refine iteF ⟨.ref lw, rfl, lw, rfl, ⟨_, .inl (.inl ewG)⟩, fun df ndf => ?_⟩
          refine KnC.dc_list (K := K) (xs := ws.map V.str) (fun i G' => Same G G' ∧ G' df = some (.dK (fkv (orderF (ws.take i) fs)))) ⟨same_upd ndf, upd_same⟩ (fun i G' _ hP => .inl (.inl (hP.1 _ _ ewG))) (fun i x G' hx hP => ?_) (fun G' hP => ?_)
          · obtain ⟨SG', edf⟩ := hP
            rw [List.getElem?_map] at hx
            cases gx : ws[i]? with
            | none => rw [gx] at hx; cases hx
            | some z =>
            rw [gx] at hx
            cases hx
            have hiw : i < ws.length := (List.getElem?_eq_some_iff.mp gx).1
            have dg : DGet G' fd (.str z) (valV (fkv fs) (.inr z)) := DGet.k (k := .inr z) (SG' _ _ efG)
            rw [look_val] at dg
            refine ⟨rfl, .str z, rfl, .ref fd, rfl, fd, _, rfl, dg, _, rfl, ?_⟩
            have tk := order_take (fs := fs) gx
            cases lk : look fs z with
            | none =>
              rw [lk] at tk
              refine iteF ⟨SG', ?_⟩
              rw [tk, List.append_nil]; exact edf
            | some n =>
              rw [lk] at tk dg
              have no : valV (fkv (orderF (ws.take i) fs)) (.inr z) = none := val_none fun p hp e => by
                have hm := order_keys hp
                rw [e] at hm
                obtain ⟨j, hj, ej⟩ := List.mem_iff_getElem.mp hm
                rw [List.getElem_take] at ej
                have lj : j < i := by rw [List.length_take] at hj; omega
                have e1 : ws[i] = z := (List.getElem?_eq_some_iff.mp gx).2
                exact absurd ((List.getElem_inj hws.nd).mp (ej.trans e1.symm)) (by omega)
              have lf : (fkv (orderF (ws.take i) fs)).length ≤ 14 := by
                unfold fkv
                rw [List.length_map]
                refine Nat.le_trans (order_len _ _) ?_
                rw [List.length_take]; omega
              refine iteT ⟨.str z, rfl, .ref fd, rfl, .str z, rfl, fd, .str n, rfl, dg, _, .inr z, rfl, edf, small (by omega), ?_⟩
              refine ⟨same_set ndf SG', ?_⟩
              rw [upd_same, putK_new _ no, tk]
              unfold fkv
              rw [List.map_append]; rfl
          · obtain ⟨SG', edf⟩ := hP
            rw [List.length_map, List.take_length] at edf
            exact ⟨.ref p, rfl, fin SG' ndf edf⟩

/-! ### what a machine tells -/
def sp_Machine_steps (_ : PySem.W.Frag) (C : Addr) : Sp := fun vs H Q _ => ∃ (p : Addr) (s0 : Int) (ss : List KnA.Stp) (fs : List (Str × Str)), vs = [.ref p] ∧ MachAt C H p s0 ss fs ∧ ∀ H' l as, Same H H' → H l = none → H' l = some (.lst (as.map V.ref)) → Stps H' as ss → Q (.ref l) H'
def sp_Machine_faults (_ : PySem.W.Frag) (C : Addr) : Sp := fun vs H Q _ => ∃ (p : Addr) (s0 : Int) (ss : List KnA.Stp) (fs : List (Str × Str)), vs = [.ref p] ∧ MachAt C H p s0 ss fs ∧ ∀ H' d ws, Same H H' → H d = none → H' d = some (.dK (fkv (orderF ws fs))) → KnA.Words ws (ss.map (·.2.1)) → Q (.ref d) H'
def sp_Machine_fault_names (_ : PySem.W.Frag) (C : Addr) : Sp := fun vs H Q _ => ∃ (p : Addr) (s0 : Int) (ss : List KnA.Stp) (fs : List (Str × Str)), vs = [.ref p] ∧ MachAt C H p s0 ss fs ∧ ss.length ≤ 1000 ∧ ∀ H' l ws xs, Same H H' → H l = none → H' l = some (.lst (xs.map V.str)) → KnA.Words ws (ss.map (·.2.1)) → KnA.Words xs ((orderF ws fs).map (·.2)) → Q (.ref l) H'
def sp_Machine_states (_ : PySem.W.Frag) (C : Addr) : Sp := fun vs H Q _ => ∃ (p : Addr) (s0 : Int) (ss : List KnA.Stp) (fs : List (Str × Str)), vs = [.ref p] ∧ MachAt C H p s0 ss fs ∧ ∀ H' l ns, Same H H' → H l = none → H' l = some (.lst (ns.map V.int)) → KnA.States ns ss s0 → Q (.ref l) H'
theorem sub_len {α : Type} [DecidableEq α] : ∀ {l m : List α}, l.Nodup → (∀ x ∈ l, x ∈ m) → l.length ≤ m.length
  | [], _, _, _ => Nat.zero_le _
  | x :: r, m, d, h => by
    obtain ⟨d1, d2⟩ := List.nodup_cons.mp d
    have hx := h x List.mem_cons_self
    have ih := sub_len (m := m.erase x) d2 (fun y hy => (List.mem_erase_of_ne (fun e : y = x => d1 (by rw [← e]; exact hy))).mpr (h y (List.mem_cons_of_mem _ hy)))
    have e := List.length_erase_of_mem hx
    have : 0 < m.length := List.length_pos_of_mem hx
    rw [List.length_cons]
    omega
theorem words_le {ws xs : List Str} (h : KnA.Words ws xs) : ws.length ≤ xs.length := sub_len h.nd fun x hx => (h.mem x).mp hx
/-- set(xs), xs texts -/
theorem foldL_strs : ∀ (xs acc : List Str), acc.Nodup → ∃ ys : List Str, (xs.map Sum.inr).foldl KnS.addL (acc.map Sum.inr) = ys.map Sum.inr ∧ ys.Nodup ∧ ∀ x, x ∈ ys ↔ x ∈ acc ∨ x ∈ xs
  | [], acc, h => ⟨acc, rfl, h, fun x => by simp⟩
  | z :: xs, acc, h => by
    obtain ⟨ys, e, n, m⟩ := foldL_strs xs (if z ∈ acc then acc else acc ++ [z]) (by
      by_cases q : z ∈ acc
      · rw [if_pos q]; exact h
      · rw [if_neg q]
        refine List.nodup_append.mpr ⟨h, by simp, fun a ha b hb e => ?_⟩
        rw [List.mem_singleton] at hb
        exact q (hb ▸ e ▸ ha))
    refine ⟨ys, ?_, n, fun x => ?_⟩
    · rw [List.map_cons, List.foldl_cons, KnC.addL_strs, e]
    · rw [m]
      by_cases q : z ∈ acc
      · rw [if_pos q, List.mem_cons]
        exact ⟨fun y => y.elim .inl fun t => .inr (.inr t), fun y => y.elim .inl fun t => t.elim (fun t => .inl (t ▸ q)) .inr⟩
      · rw [if_neg q, List.mem_append, List.mem_singleton, List.mem_cons, or_assoc]
theorem allL_strs (xs : List Str) : ∃ ys : List Str, KnS.allL (xs.map Sum.inr) = ys.map Sum.inr ∧ ys.Nodup ∧ ∀ x, x ∈ ys ↔ x ∈ xs := by
  obtain ⟨ys, e, n, m⟩ := foldL_strs xs [] List.nodup_nil
  exact ⟨ys, e, n, fun x => (m x).trans (by simp)⟩
theorem ok_Machine_steps {f : Addr} {C : Addr} {fd : FuncData} (T : Txt K mg C) (F : Fun K "steps" "Machine.steps" s_Machine_steps f fd)  : FnOk P w K mg base CX0 1 f fd ["self"] (sp_Machine_steps K C) := by
  have nd := sc_Machine_steps.nd
  refine F.ok sc_Machine_steps (fun vs H Q E h => ?_) (fun cdv A outer s H vs Q E hr h => ?_)
  · obtain ⟨p, s0, ss, fs, rfl, _⟩ := h
    rfl
  · obtain ⟨p, s0, ss, fs, rfl, ⟨dx, ls, lw, df, lt, as, ws, ns, m⟩, q⟩ := h
    refine ⟨_, (pss_one (ps_ret (pe_callTy call_list_of (by rfl) T.m_list (by decide +kernel) (pa_cons (pe_fld (pv 0) rfl) pa_nil)))), ?_⟩
    exact ⟨.ref p, rfl, p, C, dx, _, _, rfl, m.ob, T.cl, T.n__steps, mf_steps _ _ _ _ _, ls, as.map V.ref, rfl, .inl (.inl (.inl m.hs)), fun l nl => q _ l as (same_upd nl) nl upd_same (m.st.mono (same_upd nl))⟩
theorem ok_Machine_states {f : Addr} {C : Addr} {fd : FuncData} (T : Txt K mg C) (F : Fun K "states" "Machine.states" s_Machine_states f fd)  : FnOk P w K mg base CX0 1 f fd ["self"] (sp_Machine_states K C) := by
  have nd := sc_Machine_states.nd
  refine F.ok sc_Machine_states (fun vs H Q E h => ?_) (fun cdv A outer s H vs Q E hr h => ?_)
  · obtain ⟨p, s0, ss, fs, rfl, _⟩ := h
    rfl
  · obtain ⟨p, s0, ss, fs, rfl, ⟨dx, ls, lw, df, lt, as, ws, ns, m⟩, q⟩ := h
    refine ⟨_, (pss_one (ps_ret (pe_callTy call_list_of (by rfl) T.m_list (by decide +kernel) (pa_cons (pe_fld (pv 0) rfl) pa_nil)))), ?_⟩
    exact ⟨.ref p, rfl, p, C, dx, _, _, rfl, m.ob, T.cl, T.n__states, mf_states _ _ _ _ _, lt, ns.map V.int, rfl, .inl (.inl (.inl m.ht)), fun l nl => q _ l ns (same_upd nl) nl upd_same m.re⟩
theorem ok_Machine_faults {f : Addr} {C : Addr} {fd : FuncData} (T : Txt K mg C) (F : Fun K "faults" "Machine.faults" s_Machine_faults f fd)  : FnOk P w K mg base CX0 1 f fd ["self"] (sp_Machine_faults K C) := by
  have nd := sc_Machine_faults.nd
  refine F.ok sc_Machine_faults (fun vs H Q E h => ?_) (fun cdv A outer s H vs Q E hr h => ?_)
  · obtain ⟨p, s0, ss, fs, rfl, _⟩ := h
    rfl
  · obtain ⟨p, s0, ss, fs, rfl, ⟨dx, ls, lw, df, lt, as, ws, ns, m⟩, q⟩ := h
    refine ⟨_, (pss_one (ps_ret (pe_callTy call_dictD (by rfl) T.m_dict (by decide +kernel) (pa_cons (pe_fld (pv 0) rfl) pa_nil)))), ?_⟩
    exact ⟨.ref p, rfl, p, C, dx, _, _, rfl, m.ob, T.cl, T.n__faults, mf_faults _ _ _ _ _, df, _, rfl, .inl m.hf, fun d nd => q _ d ws (same_upd nd) nd upd_same m.wo⟩
theorem ok_Machine_fault_names {f : Addr} {C : Addr} {fd : FuncData} (T : Txt K mg C) (F : Fun K "fault_names" "Machine.fault_names" s_Machine_fault_names f fd)  : FnOk P w K mg base CX0 1 f fd ["self"] (sp_Machine_fault_names K C) := by
  have nd := sc_Machine_fault_names.nd
  refine F.ok sc_Machine_fault_names (fun vs H Q E h => ?_) (fun cdv A outer s H vs Q E hr h => ?_)
  · obtain ⟨p, s0, ss, fs, rfl, _⟩ := h
    rfl
  · obtain ⟨p, s0, ss, fs, rfl, ⟨dx, ls, lw, df, lt, as, ws, ns, m⟩, lf, q⟩ := h
    refine ⟨_, (pss_one (ps_ret (pe_callB (show CallR _ (.builtin "sorted") (KnS.rSortedL P w) from KnS.cr_sortedL rfl) (by rfl) T.m_sorted (by decide +kernel) (pa_cons (pe_callTy (show CallR _ (.type "set") (KnS.rSetOf K P w) from KnS.cr_setOf rfl) (by rfl) T.m_set (by decide +kernel) (pa_cons (KnM.pe_listVals rfl (by rfl) T.m_list (pe_fld (pv 0) rfl)) pa_nil)) pa_nil)))), ?_⟩
    refine ⟨.ref p, rfl, p, C, dx, _, _, rfl, m.ob, T.cl, T.n__faults, mf_faults _ _ _ _ _, df, _, rfl, .inl m.hf, fun l1 n1 => ?_⟩
    have s1 := same_upd (o := .lst ((fkv (orderF ws fs)).map (·.2))) n1
    have ev : (fkv (orderF ws fs)).map (·.2) = (((orderF ws fs).map (·.2)).map Sum.inr).map kV := by
      unfold fkv
      rw [List.map_map, List.map_map, List.map_map]
      rfl
    refine ⟨l1, ((orderF ws fs).map (·.2)).map Sum.inr, rfl, .inl (.inl (by rw [upd_same, ev])), ?_, fun D nD => ?_⟩
    · rw [List.length_map, List.length_map]
      have h1 := order_len ws fs
      have h2 := words_le m.wo
      rw [List.length_map] at h2
      unfold scanBound
      omega
    have s2 := same_upd (o := KnS.SetL P w D (KnS.allL (((orderF ws fs).map (·.2)).map Sum.inr))) nD
    obtain ⟨ys, ey, ny, my⟩ := allL_strs ((orderF ws fs).map (·.2))
    refine ⟨D, ys, rfl, by rw [← ey]; exact upd_same, fun xs l px sx nl => ?_⟩
    exact q _ l ws xs (s1.trans (s2.trans (same_upd nl))) (Same.free s1 (s2.free nl)) upd_same m.wo ⟨KnA.sorted_pair sx, px.symm.nodup ny, fun x => px.mem_iff.trans (my x)⟩

theorem ok__law_is_integer {f : Addr} {C : Addr} {fd : FuncData} (T : Txt K mg C) (F : Fun K "_law_is_integer" "_law_is_integer" s__law_is_integer f fd)  : FnOk P w K mg base CX0 1 f fd ["_law_actual"] (sp__law_is_integer K) := by
  have nd := sc__law_is_integer.nd
  refine F.ok sc__law_is_integer (fun vs H Q E h => ?_) (fun cdv A outer s H vs Q E hr h => ?_)
  · obtain ⟨v, rfl, _⟩ := h
    rfl
  · obtain ⟨v, rfl, hv, q⟩ := h
    refine ⟨_, (pss_one (ps_ret (pe_and (pe_callB call_isi (by rfl) T.m_isinstance (by decide +kernel) (pa_cons (pv 0) (pa_cons (pe_bltn (v := .ty "int") (u := .type "int") (by rfl) T.m_int (by decide +kernel) rfl) pa_nil))) (pe_one (pe_not (pe_callB call_isi (by rfl) T.m_isinstance (by decide +kernel) (pa_cons (pv 0) (pa_cons (pe_bltn (v := .ty "bool") (u := .type "bool") (by rfl) T.m_bool (by decide +kernel) rfl) pa_nil)))))))), ?_⟩
    obtain ⟨t, ht, hs, hi, hb⟩ := hv.ty
    refine ⟨v, rfl, v, .ty "int", t, _, isI v, rfl, .ty _, ht, hi, _, rfl, ?_⟩
    have q' := q H (Same.refl H)
    unfold wholeB at q'
    by_cases e : isI v = true
    · rw [if_pos e]
      refine ⟨v, rfl, v, .ty "bool", t, _, isB v, rfl, .ty _, ht, hb, _, rfl, ?_⟩
      rw [e] at q'
      exact q'
    · rw [if_neg e]
      rw [Bool.eq_false_iff.mpr e] at q'
      exact q'


end
end Kn

set_option Elab.async false
set_option linter.all false
set_option maxRecDepth 100000
set_option maxHeartbeats 4000000
namespace Kn
open PySem PySem.Spec PyProof.Rows L2
open C8 (Cal pe_c pe_gc Mak pe_mk)
section
variable {P : Program} {w : World} {K : PySem.W.Frag} {mg : Str → Option Value} {base : Heap}
/-- steps as data -/
def dat (x : KnA.Stp) : PyData := .tuple [.int x.1, .str x.2.1, .int x.2.2]
theorem dat_eq (x y : KnA.Stp) : PyData.eqv (dat x) (dat y) = decide (x = y) := by
  obtain ⟨a, b, c⟩ := x
  obtain ⟨a', b', c'⟩ := y
  show ((a == a') && ((b == b') && ((c == c') && true))) = decide ((a, b, c) = (a', b', c'))
  by_cases e1 : a = a' <;> by_cases e2 : b = b' <;> by_cases e3 : c = c' <;> simp [e1, e2, e3]
theorem dat_any (ss : List KnA.Stp) (x : KnA.Stp) : ((ss.map dat).any fun z => PyData.eqv z (dat x)) = decide (x ∈ ss) := by
  induction ss with
  | nil => rfl
  | cons y r ih =>
    rw [List.map_cons, List.any_cons, ih, dat_eq]
    by_cases e : y = x
    · subst e; simp
    · have e' : ¬ x = y := fun q => e q.symm
      simp [e, e']
theorem strOk_name {z : Str} (h : nameB (.str z) = true) : PyData.strOk z = true := by
  have h' : (decide (1 ≤ z.cps.size) && decide (z.cps.size ≤ 12) && z.cps.toList.all inL) = true := h
  rw [Bool.and_eq_true] at h'
  have hl : ∀ c ∈ letters.cps.toList, c < 0x110000 := by decide +kernel
  unfold PyData.strOk
  rw [Array.all_eq_true]
  intro i hi
  have hm : z.cps[i] ∈ z.cps.toList := Array.getElem_mem_toList hi
  exact decide_eq_true (hl _ (of_decide_eq_true (List.all_eq_true.mp h'.2 _ hm)))
theorem dat_shaped {x : KnA.Stp} (h : nameB (.str x.2.1) = true) : SeqAt.shaped (dat x) = true := by
  unfold SeqAt.shaped
  have h1 : (dat x).canLay0 = true := by
    show (true && (PyData.strOk x.2.1 && (true && true))) = true
    rw [strOk_name h]; rfl
  have h2 : (dat x).depth = 1 := by
    show max 0 (max 0 (max 0 0)) + 1 = 1
    rfl
  rw [h1, h2]; rfl
theorem dats_shaped {ss : List KnA.Stp} (h : ∀ x ∈ ss, nameB (.str x.2.1) = true) : SeqAt.shaped (.list (ss.map dat)) = true := by
  have h1 : PyData.canLayAll0 (ss.map dat) = true ∧ PyData.depthAll (ss.map dat) ≤ 1 := by
    induction ss with
    | nil => exact ⟨rfl, Nat.zero_le _⟩
    | cons x r ih =>
      obtain ⟨a, b⟩ := ih fun y hy => h y (List.mem_cons_of_mem _ hy)
      refine ⟨?_, ?_⟩
      · show ((true && (PyData.strOk x.2.1 && (true && true))) && PyData.canLayAll0 (r.map dat)) = true
        rw [strOk_name (h x List.mem_cons_self), a]; rfl
      · show max (max 0 (max 0 (max 0 0)) + 1) (PyData.depthAll (r.map dat)) ≤ 1
        omega
  unfold SeqAt.shaped
  have h2 : (PyData.list (ss.map dat)).canLay0 = true := h1.1
  have h3 : (PyData.list (ss.map dat)).depth ≤ 64 := by
    show PyData.depthAll (ss.map dat) + 1 ≤ 64
    omega
  rw [h2, decide_eq_true h3]; rfl
theorem dps {K : PySem.W.Frag} {H : Hp} {as : List Addr} {ss : List KnA.Stp} (h : Stps H as ss) : DpAll K H (as.map V.ref) (ss.map dat) := by
  induction h with
  | nil => exact .nil
  | cons r _ ih => exact .cons (.tup (.inl (.inl r)) (.cons (.int _) (.cons (.str _) (.cons (.int _) .nil)))) ih
theorem cut_from {xs : List V} {a : Nat} : cutV xs (some (a : Int)) none = xs.drop a := by
  unfold cutV
  rw [HT.sIx_nat, HT.sIx_none]
  by_cases h : a ≤ xs.length
  · rw [Nat.min_eq_left h, List.take_of_length_le (by rw [List.length_drop]; omega)]
  · rw [Nat.min_eq_right (by omega : xs.length ≤ a), List.drop_of_length_le (Nat.le_refl _), List.drop_of_length_le (by omega), List.take_nil]
theorem cut_to {xs : List V} {a : Nat} : cutV xs none (some (a : Int)) = xs.take a := by
  unfold cutV
  rw [HT.sIx_nat, HT.sIx_none, List.drop_zero, Nat.sub_zero]
  by_cases h : a ≤ xs.length
  · rw [Nat.min_eq_left h]
  · rw [Nat.min_eq_right (by omega : xs.length ≤ a), List.take_of_length_le (Nat.le_refl _), List.take_of_length_le (by omega)]
theorem str_dec {a b : Str} : decide (V.str a = V.str b) = decide (a = b) := by
  by_cases e : a = b
  · subst e; simp
  · rw [decide_eq_false e, decide_eq_false fun z => e (V.str.inj z)]

/-! ### the source of digits -/
/-- all stands as it stood, but for one cell -/
def But (s : Addr) (H H' : Hp) : Prop := ∀ b o, H b = some o → b ≠ s → H' b = some o
theorem But.refl {s : Addr} {H : Hp} : But s H H := fun _ _ e _ => e
theorem But.trans {s : Addr} {H H' H'' : Hp} (a : But s H H') (b : But s H' H'') : But s H H'' := fun x o e n => b x o (a x o e n) n
theorem Same.but {s : Addr} {H H' : Hp} (a : Same H H') : But s H H' := fun x o e _ => a x o e
theorem But.ne {s x : Addr} {H : Hp} {o : HO} (hs : H s = some o) (hx : H x = none) : x ≠ s := fun z => by rw [z, hs] at hx; cases hx
structure SrcO (H : Hp) (s c : Addr) (ns : List Int) (i j k : Int) : Prop where
  at_ : H s = some (.lst [.ref c, .int i, .int j, .int k])
  cs : H c = some (.lst (ns.map V.int))
  lo : 0 ≤ i
  hi : i < ns.length
  l : ns.length ≤ 64
  j0 : 0 ≤ j
def SrcAt (H : Hp) (s c : Addr) : Prop := ∃ ns i j k, SrcO H s c ns i j k
theorem SrcO.ne {H : Hp} {s c : Addr} {ns : List Int} {i j k : Int} (h : SrcO H s c ns i j k) : c ≠ s := fun z => by
  have a := h.at_
  rw [← z, h.cs] at a
  have b := HO.lst.inj (Option.some.inj a)
  cases ns with
  | nil => cases b
  | cons x r => cases b
theorem SrcAt.mono {H H' : Hp} {s c : Addr} (h : SrcAt H s c) (k : Same H H') : SrcAt H' s c := by
  obtain ⟨ns, i, j, n, o⟩ := h
  exact ⟨ns, i, j, n, k _ _ o.at_, k _ _ o.cs, o.lo, o.hi, o.l, o.j0⟩
theorem SrcAt.occ {H : Hp} {s c : Addr} (h : SrcAt H s c) : ∃ o, H s = some o := by
  obtain ⟨ns, i, j, n, o⟩ := h
  exact ⟨_, o.at_⟩
theorem SrcAt.ne {H : Hp} {s c x : Addr} (h : SrcAt H s c) (n : H x = none) : x ≠ s := by
  obtain ⟨o, e⟩ := h.occ
  exact But.ne e n
theorem SrcAt.nec {H : Hp} {s c x : Addr} (h : SrcAt H s c) (n : H x = none) : x ≠ c := by
  obtain ⟨ns, i, j, m, o⟩ := h
  exact But.ne o.cs n
theorem SrcAt.set {H : Hp} {s c x : Addr} {u : HO} (h : SrcAt H s c) (n1 : x ≠ s) (n2 : x ≠ c) : SrcAt (upd H x u) s c := by
  obtain ⟨ns, i, j, m, o⟩ := h
  exact ⟨ns, i, j, m, (upd_ne n1.symm).trans o.at_, (upd_ne n2.symm).trans o.cs, o.lo, o.hi, o.l, o.j0⟩
theorem But.set {s x : Addr} {H G : Hp} {u : HO} (n : H x = none) (b : But s H G) : But s H (upd G x u) := fun y o e ne => (upd_ne (ne_of_none e n)).trans (b y o e ne)
theorem But.fresh {s c x : Addr} {H H' : Hp} (b : But s H H') (h : SrcAt H' s c) (n : H' x = none) : H x = none := by
  cases e : H x with
  | none => rfl
  | some o =>
    by_cases z : x = s
    · exact (h.ne n z).elim
    · rw [b x o e z] at n; cases n
theorem SrcO.put {H : Hp} {s c : Addr} {ns : List Int} {i j k : Int} (h : SrcO H s c ns i j k) {i' j' k' : Int} (lo : 0 ≤ i') (hi : i' < ns.length) (j0 : 0 ≤ j') : SrcO (upd H s (.lst [.ref c, .int i', .int j', .int k'])) s c ns i' j' k' :=
  ⟨upd_same, (upd_ne h.ne).trans h.cs, lo, hi, h.l, j0⟩
theorem But.put {s : Addr} {H : Hp} {x : HO} : But s H (upd H s x) := fun _ _ e n => (upd_ne n).trans e
def sp__law_source (K : PySem.W.Frag) : Sp := fun vs H Q _ => ∃ (a : Addr) (ns : List Int), vs = [.ref a] ∧ SqL K H a (ns.map V.int) ∧ ns.length ≤ 63 ∧ ∀ H' s c, Same H H' → H s = none → SrcAt H' s c → Q (.ref s) H'
def sp__law_draw (_ : PySem.W.Frag) : Sp := fun vs H Q _ => ∃ (s c : Addr) (n : Int), vs = [.ref s, .int n] ∧ 0 < n ∧ n < 1073741824 ∧ SrcAt H s c ∧ ∀ H' r, But s H H' → SrcAt H' s c → 0 ≤ r → r < n → Q (.int r) H'
theorem ok__law_source {f : Addr} {C : Addr} {fd : FuncData} (T : Txt K mg C) (F : Fun K "_law_source" "_law_source" s__law_source f fd)  : FnOk P w K mg base CX0 1 f fd ["_law_script"] (sp__law_source K) := by
  have nd := sc__law_source.nd
  refine F.ok sc__law_source (fun vs H Q E h => ?_) (fun cdv A outer s H vs Q E hr h => ?_)
  · obtain ⟨a, ns, rfl, _⟩ := h
    rfl
  · obtain ⟨a, ns, rfl, ha, ln, q⟩ := h
    refine ⟨_, (pss_one (ps_ret (pe_lst (pa_cons (pe_op op_cat (pe_lc (own := [("_law_cell", 1)]) (g := gName 1) (tt := tYes) rfl nd (pi_list (pe_slice sl_list (pv 0) po_none (po_some pe_int))) (blkOk_by (N := ["_law_script", "_law_cell"]) (sc := defScope s__law_source) (by decide +kernel)) (fun _ _ _ _ _ => (pg_name (i := 1) nd rfl (.inl rfl))) (fun _ _ _ _ _ => pts_nil) (fun _ _ _ _ _ => (pe_callTy call_int1 (by rfl) T.m_int (by decide +kernel) (pa_cons (pv 1) pa_nil)))) (pe_lst (pa_cons pe_int pa_nil))) (pa_cons pe_int (pa_cons pe_int (pa_cons pe_int pa_nil))))))), ?_⟩
    refine ⟨.ref a, rfl, 63, rfl, a, ns.map V.int, rfl, ha, fun l nl => ?_⟩
    have ec : cutV (ns.map V.int) none (some (63 : Int)) = ns.map V.int := by
      rw [show (some (63 : Int)) = some ((63 : Nat) : Int) from rfl, cut_to, List.take_of_length_le (by rw [List.length_map]; omega)]
    rw [ec]
    have sl := same_upd (o := .lst (ns.map V.int)) nl
    have el : (upd H l (.lst (ns.map V.int))) l = some (.lst (ns.map V.int)) := upd_same
    generalize upd H l (.lst (ns.map V.int)) = H1 at sl el ⊢
    refine ⟨l, rfl, ⟨_, .inl (.inl el)⟩, fun LD nLD => ?_⟩
    refine lc_list (K := K) (xs := ns.map V.int) (fun i G => Same H1 G ∧ G LD = some (.lst ((ns.take i).map V.int))) ⟨same_upd nLD, upd_same⟩ (fun i G _ hP => .inl (.inl (hP.1 _ _ el))) (fun i x G hx hP => ?_) (fun G hP => ?_)
    · obtain ⟨S, eD⟩ := hP
      rw [List.getElem?_map] at hx
      cases gx : ns[i]? with
      | none => rw [gx] at hx; cases hx
      | some u =>
      rw [gx] at hx
      cases hx
      have hi : i < ns.length := (List.getElem?_eq_some_iff.mp gx).1
      refine ⟨rfl, ?_⟩
      unfold tYes
      refine iteT ⟨.int u, rfl, .inl ⟨u, rfl, _, eD, small (by rw [List.length_map, List.length_take]; omega), same_set nLD S, ?_⟩⟩
      rw [upd_same, take_more gx, List.map_append]; rfl
    · obtain ⟨S, eD⟩ := hP
      rw [List.length_map, List.take_length] at eD
      refine ⟨szl rfl, fun t3 n3 => ?_⟩
      have s3 := same_upd (o := .lst [V.int 0]) n3
      refine ⟨LD, t3, _, [V.int 0], rfl, rfl, s3 _ _ eD, upd_same, smallE (by rw [List.length_map]; show ns.length + 1 ≤ 100000; omega), fun t4 n4 => ?_⟩
      have s4 := s3.trans (same_upd (o := .lst (ns.map V.int ++ [V.int 0])) n4)
      have e4 : (upd (upd G t3 (.lst [V.int 0])) t4 (.lst (ns.map V.int ++ [V.int 0]))) t4 = some (.lst ((ns ++ [0]).map V.int)) := by rw [upd_same, List.map_append]; rfl
      generalize upd (upd G t3 (.lst [V.int 0])) t4 (.lst (ns.map V.int ++ [V.int 0])) = G4 at s4 e4 ⊢
      refine ⟨szl rfl, fun s ns_ => ?_⟩
      have s5 := same_upd (o := .lst [.ref t4, .int 0, .int 0, .int 0]) ns_
      have S5 := sl.trans (S.trans (s4.trans s5))
      refine q _ s t4 S5 ((sl.trans (S.trans s4)).free ns_) ⟨ns ++ [0], 0, 0, 0, upd_same, s5 _ _ e4, Int.le_refl _, ?_, ?_, Int.le_refl _⟩
      · rw [List.length_append]; exact Int.lt_of_lt_of_le (show (0 : Int) < 1 by decide) (by show (1 : Int) ≤ ((ns.length + 1 : Nat) : Int); omega)
      · rw [List.length_append]; show ns.length + 1 ≤ 64; omega
theorem ok__law_draw {f : Addr} {C : Addr} {fd : FuncData} (T : Txt K mg C) (F : Fun K "_law_draw" "_law_draw" s__law_draw f fd)  : FnOk P w K mg base CX0 1 f fd ["_law_source_here", "_law_many"] (sp__law_draw K) := by
  have nd := sc__law_draw.nd
  refine F.ok sc__law_draw (fun vs H Q E h => ?_) (fun cdv A outer s H vs Q E hr h => ?_)
  · obtain ⟨a, c, n, rfl, _⟩ := h
    rfl
  · obtain ⟨a, c, n, rfl, n0, n1, ⟨ns, i, j, k, o⟩, q⟩ := h
    refine ⟨_, (pss_cons (ps_augS (pv 0) pe_int KnL.get_list pe_int ip_add set_list)
      (pss_cons (ps_if (pt_cmpR op_gt (pe_ix (r := rIxL K) ix_list (pv 0) pe_int (fun _ _ => rfl)) pe_int (nomark _)) (pss_cons (ps_set (i := 2) nd rfl (.inl rfl) (pe_op op_mod (pe_callTy call_int1 (by rfl) T.m_int (by decide +kernel) (pa_cons (pe_ix (r := rIxL K) ix_list (pv 0) pe_int (fun _ _ => rfl)) pa_nil)) (pv 1)))
      (pss_cons (ps_asg (pe_op op_fdiv (pe_ix (r := rIxL K) ix_list (pv 0) pe_int (fun _ _ => rfl)) (pv 1)) (pg_sub (pv 0) pe_int set_list))
      (pss_one (ps_ret (pv 2))))) pss_nil)
      (pss_cons (ps_set (i := 3) nd rfl (.inl rfl) (pe_callTy call_int1 (by rfl) T.m_int (by decide +kernel) (pa_cons (pe_ix (r := rIxL K) ix_list (pe_ix (r := rIxL K) ix_list (pv 0) pe_int (fun _ _ => rfl)) (pe_ix (r := rIxL K) ix_list (pv 0) pe_int (fun _ _ => rfl)) (fun _ _ => rfl)) pa_nil)))
      (pss_cons (ps_asg (pe_op op_mod (pe_callTy call_int1 (by rfl) T.m_int (by decide +kernel) (pa_cons (pe_op op_add (pe_ix (r := rIxL K) ix_list (pv 0) pe_int (fun _ _ => rfl)) pe_int) pa_nil)) (pe_callB call_len (by rfl) T.m_len (by decide +kernel) (pa_cons (pe_ix (r := rIxL K) ix_list (pv 0) pe_int (fun _ _ => rfl)) pa_nil))) (pg_sub (pv 0) pe_int set_list))
      (pss_cons (ps_if (pt_cmpR op_ge (pv 3) (pe_op op_pow pe_int pe_int) (nomark _)) (pss_cons (ps_asg (pe_op op_fdiv (pv 3) (pv 1)) (pg_sub (pv 0) pe_int set_list))
      (pss_one (ps_ret (pe_op op_mod (pe_callTy call_int1 (by rfl) T.m_int (by decide +kernel) (pa_cons (pv 3) pa_nil)) (pv 1))))) pss_nil)
      (pss_cons (ps_set (i := 4) nd rfl (.inl rfl) (pe_op op_mod (pe_callTy call_int1 (by rfl) T.m_int (by decide +kernel) (pa_cons (pe_op op_mul (pe_op op_add (pe_op op_add (pv 3) (pe_op op_mul pe_int (pe_ix (r := rIxL K) ix_list (pv 0) pe_int (fun _ _ => rfl)))) pe_int) pe_int) pa_nil)) pe_int))
      (pss_cons (ps_set (i := 4) nd rfl (.inl rfl) (pe_op op_mod (pe_callTy call_int1 (by rfl) T.m_int (by decide +kernel) (pa_cons (pe_op op_mul (pv 4) (pe_op op_add (pe_op op_fdiv (pv 4) pe_int) pe_int)) pa_nil)) pe_int))
      (pss_cons (ps_set (i := 4) nd rfl (.inl rfl) (pe_op op_mod (pe_callTy call_int1 (by rfl) T.m_int (by decide +kernel) (pa_cons (pe_op op_mul (pv 4) (pe_op op_add (pe_op op_fdiv (pv 4) pe_int) pe_int)) pa_nil)) pe_int))
      (pss_one (ps_ret (pe_op op_mod (pe_callTy call_int1 (by rfl) T.m_int (by decide +kernel) (pa_cons (pe_op op_fdiv (pv 4) pe_int) pa_nil)) (pv 1)))))))))))), ?_⟩
    refine ⟨.ref a, rfl, a, _, 3, .int k, rfl, rfl, .inl (.inl o.at_), atI_nat (j := 3) rfl, k, 1, rfl, rfl, a, _, 3, 3, rfl, rfl, o.at_, rfl, ?_⟩
    have o1 := o.put (i' := i) (j' := j) (k' := k + 1) o.lo o.hi o.j0
    have b1 : But a H (upd H a (.lst [.ref c, .int i, .int j, .int (k + 1)])) := But.put
    show Ends.nx _ _ (upd H a (.lst [.ref c, .int i, .int j, .int (k + 1)]))
    generalize upd H a (.lst [.ref c, .int i, .int j, .int (k + 1)]) = G1 at o1 b1 ⊢
    refine ⟨.ref a, rfl, a, _, 2, .int j, rfl, rfl, .inl (.inl o1.at_), atI_nat (j := 2) rfl, j, 0, rfl, rfl, _, rfl, ite2 (fun c0 => ?_) (fun c0 => ?_)⟩
    · refine ⟨.ref a, rfl, a, _, 2, .int j, rfl, rfl, .inl (.inl o1.at_), atI_nat (j := 2) rfl, .inl ⟨j, rfl, .int n, rfl, j, n, rfl, rfl, n0, ?_⟩⟩
      refine ⟨.ref a, rfl, a, _, 2, .int j, rfl, rfl, .inl (.inl o1.at_), atI_nat (j := 2) rfl, .int n, rfl, j, n, rfl, rfl, ⟨n0, n1⟩, .ref a, rfl, a, _, 2, 2, rfl, rfl, o1.at_, rfl, ?_⟩
      have o2 := o1.put (i' := i) (j' := j / n) (k' := k + 1) o1.lo o1.hi (Int.ediv_nonneg o1.j0 (by omega))
      exact ⟨.int (j % n), rfl, q _ (j % n) (b1.trans But.put) ⟨_, _, _, _, o2⟩ (Int.emod_nonneg _ (by omega)) (Int.emod_lt_of_pos _ n0)⟩
    · obtain ⟨ii, rfl⟩ : ∃ m : Nat, i = (m : Int) := ⟨i.toNat, by have := o.lo; omega⟩
      have hi := o.hi
      have l64 := o.l
      have hii : ii < ns.length := by omega
      obtain ⟨x, gx⟩ : ∃ x, ns[ii]? = some x := ⟨_, List.getElem?_eq_getElem hii⟩
      have gx' : (ns.map V.int)[ii]? = some (.int x) := by rw [List.getElem?_map, gx]; rfl
      have lp : (0 : Int) < (ns.length : Int) := by omega
      refine ⟨.ref a, rfl, a, _, 0, .ref c, rfl, rfl, .inl (.inl o1.at_), atI_nat (j := 0) rfl, .ref a, rfl, a, _, 1, .int (ii : Int), rfl, rfl, .inl (.inl o1.at_), atI_nat (j := 1) rfl, c, ns.map V.int, (ii : Int), .int x, rfl, rfl, .inl (.inl o1.cs), atI_nat gx', .inl ⟨x, rfl, ?_⟩⟩
      refine ⟨.ref a, rfl, a, _, 1, .int (ii : Int), rfl, rfl, .inl (.inl o1.at_), atI_nat (j := 1) rfl, (ii : Int), 1, rfl, rfl, .inl ⟨_, rfl, .ref a, rfl, a, _, 0, .ref c, rfl, rfl, .inl (.inl o1.at_), atI_nat (j := 0) rfl, .ref c, ns.length, rfl, .inl ⟨_, .inl (.inl o1.cs), (List.length_map _).symm⟩, _, (ns.length : Int), rfl, rfl, lp, .ref a, rfl, a, _, 1, 1, rfl, rfl, o1.at_, rfl, ?_⟩⟩
      have o2 := o1.put (i' := ((ii : Int) + 1) % (ns.length : Int)) (j' := j) (k' := k + 1) (Int.emod_nonneg _ (by omega)) (Int.emod_lt_of_pos _ lp) o1.j0
      have b2 : But a H (upd G1 a (.lst [.ref c, .int (((ii : Int) + 1) % (ns.length : Int)), .int j, .int (k + 1)])) := b1.trans But.put
      show Ends.nx _ _ (upd G1 a (.lst [.ref c, .int (((ii : Int) + 1) % (ns.length : Int)), .int j, .int (k + 1)]))
      generalize upd G1 a (.lst [.ref c, .int (((ii : Int) + 1) % (ns.length : Int)), .int j, .int (k + 1)]) = G2 at o2 b2 ⊢
      refine ⟨.int x, rfl, 10, 18, rfl, rfl, ⟨by decide, by decide, by decide⟩, _, _, rfl, rfl, _, rfl, ite2 (fun c1 => ?_) (fun c1 => ?_)⟩
      · have c1 := of_decide_eq_true c1
        have x0 : 0 ≤ x := Int.le_trans (by decide) c1
        refine ⟨.int x, rfl, .int n, rfl, x, n, rfl, rfl, ⟨n0, n1⟩, .ref a, rfl, a, _, 2, 2, rfl, rfl, o2.at_, rfl, ?_⟩
        have o3 := o2.put (i' := ((ii : Int) + 1) % (ns.length : Int)) (j' := x / n) (k' := k + 1) o2.lo o2.hi (Int.ediv_nonneg x0 (by omega))
        exact ⟨.int x, rfl, .inl ⟨x, rfl, .int n, rfl, x, n, rfl, rfl, n0, q _ (x % n) (b2.trans But.put) ⟨_, _, _, _, o3⟩ (Int.emod_nonneg _ (by omega)) (Int.emod_lt_of_pos _ n0)⟩⟩
      · refine ⟨.int x, rfl, .ref a, rfl, a, _, 3, .int (k + 1), rfl, rfl, .inl (.inl o2.at_), atI_nat (j := 3) rfl, 7919, k + 1, rfl, rfl, .inl ⟨by decide, by decide⟩, x, _, rfl, rfl, _, 1, rfl, rfl, _, 48271, rfl, rfl, .inr ⟨by decide, by decide⟩, .inl ⟨_, rfl, _, 2147483647, rfl, rfl, (show (0 : Int) < 2147483647 by decide), ?_⟩⟩
        have m1 : ∀ y : Int, 0 ≤ y % 2147483647 ∧ y % 2147483647 < 2147483647 := fun y => ⟨Int.emod_nonneg _ (by decide), Int.emod_lt_of_pos _ (by decide)⟩
        obtain ⟨y1, y2⟩ := m1 ((x + 7919 * (k + 1) + 1) * 48271)
        obtain ⟨y, hy⟩ : ∃ y, ((x + 7919 * (k + 1) + 1) * 48271) % 2147483647 = y := ⟨_, rfl⟩
        rw [hy] at y1 y2
        have ey := congrArg (fun t => some (some (V.int t))) hy
        refine ⟨.int y, ey, .int y, ey, y, 1009, rfl, rfl, ⟨by decide, by decide⟩, y / 1009, 69621, rfl, rfl, y, _, rfl, rfl, .inl ⟨by omega, by omega⟩, .inl ⟨_, rfl, _, 2147483647, rfl, rfl, (show (0 : Int) < 2147483647 by decide), ?_⟩⟩
        obtain ⟨z1, z2⟩ := m1 (y * (y / 1009 + 69621))
        obtain ⟨z, hz⟩ : ∃ z, (y * (y / 1009 + 69621)) % 2147483647 = z := ⟨_, rfl⟩
        rw [hz] at z1 z2
        have ez := congrArg (fun t => some (some (V.int t))) hz
        refine ⟨.int z, ez, .int z, ez, z, 2003, rfl, rfl, ⟨by decide, by decide⟩, z / 2003, 40692, rfl, rfl, z, _, rfl, rfl, .inl ⟨by omega, by omega⟩, .inl ⟨_, rfl, _, 2147483399, rfl, rfl, (show (0 : Int) < 2147483399 by decide), ?_⟩⟩
        obtain ⟨u, hu⟩ : ∃ u, (z * (z / 2003 + 40692)) % 2147483399 = u := ⟨_, rfl⟩
        have eu := congrArg (fun t => some (some (V.int t))) hu
        exact ⟨.int u, eu, u, 3, rfl, rfl, ⟨by decide, by decide⟩, .inl ⟨_, rfl, .int n, rfl, u / 3, n, rfl, rfl, n0, q _ (u / 3 % n) b2 ⟨_, _, _, _, o2⟩ (Int.emod_nonneg _ (by omega)) (Int.emod_lt_of_pos _ n0)⟩⟩

/-! ### names, states, a step -/
def abc : Str := "abcdefghijklmnopqrstuvwxyz"
theorem abc_in : ∀ c ∈ abc.cps.toList, inL c = true := by decide +kernel
theorem cutS_mem {z : Str} {lo hi : Option Int} {c : Nat} (h : c ∈ (cutS z lo hi).cps.toList) : c ∈ z.cps.toList := by
  have h' : c ∈ (z.cps.toList.drop (HT.sIx z.length 0 lo)).take (HT.sIx z.length z.length hi - HT.sIx z.length 0 lo) := h
  exact List.mem_of_mem_drop (List.mem_of_mem_take h')
theorem join_size : ∀ {ys : List Str}, (∀ y ∈ ys, y.cps.size = 1) → (Txt.join "" ys).cps.size = ys.length := by
  intro ys
  rw [TL.join_eq]
  induction ys with
  | nil => intro _; rfl
  | cons x r ih =>
    intro h
    cases r with
    | nil => exact h x List.mem_cons_self
    | cons z r =>
      have h1 := h x List.mem_cons_self
      have h2 := ih fun y hy => h y (List.mem_cons_of_mem _ hy)
      have e : (Str.join "" (x :: z :: r)).cps.size = x.cps.size + 0 + (Str.join "" (z :: r)).cps.size := by
        show ((x.cps ++ #[]) ++ (Str.join "" (z :: r)).cps).size = _
        rw [Array.size_append, Array.size_append]; rfl
      rw [e, List.length_cons]
      omega
theorem join_mem {p : Nat → Prop} : ∀ {ys : List Str}, (∀ y ∈ ys, ∀ c ∈ y.cps.toList, p c) → ∀ c ∈ (Txt.join "" ys).cps.toList, p c := by
  intro ys
  rw [TL.join_eq]
  induction ys with
  | nil => intro _ c hc; exact absurd hc (by decide +revert)
  | cons x r ih =>
    intro h c hc
    cases r with
    | nil => exact h x List.mem_cons_self c hc
    | cons z r =>
      have h2 := ih fun y hy => h y (List.mem_cons_of_mem _ hy)
      have hc' : c ∈ ((x.cps ++ #[]) ++ (Str.join "" (z :: r)).cps).toList := hc
      rw [Array.toList_append, Array.toList_append, List.mem_append, List.mem_append] at hc'
      rcases hc' with (hc' | hc') | hc'
      · exact h x List.mem_cons_self c hc'
      · exact absurd hc' (by simp)
      · exact h2 c hc'
theorem join_sum {zs : List Str} (h : ∀ y ∈ zs, y.cps.size = 1) : (zs.map (·.length)).sum + zs.length * ("" : Str).length = zs.length := by
  have z0 : ("" : Str).length = 0 := rfl
  rw [z0, Nat.mul_zero, Nat.add_zero]
  induction zs with
  | nil => rfl
  | cons x r ih =>
    rw [List.map_cons, List.sum_cons, ih fun y hy => h y (List.mem_cons_of_mem _ hy), List.length_cons]
    have : x.length = 1 := h x List.mem_cons_self
    omega
theorem name_of {z : Str} (h1 : 1 ≤ z.cps.size) (h2 : z.cps.size ≤ 12) (h3 : ∀ c ∈ z.cps.toList, inL c = true) : nameB (.str z) = true := by
  rw [nameB_in h1 h2]
  exact List.all_eq_true.mpr h3
def sp__law_name (_ : PySem.W.Frag) : Sp := fun vs H Q _ => ∃ s c : Addr, vs = [.ref s] ∧ SrcAt H s c ∧ ∀ H' z, But s H H' → SrcAt H' s c → nameB (.str z) = true → Q (.str z) H'
theorem ok__law_name {f : Addr} {C : Addr} {fd : FuncData} (T : Txt K mg C) (F : Fun K "_law_name" "_law_name" s__law_name f fd) (c__law_draw : Cal P w K mg base 1 "_law_draw" (sp__law_draw K) []) : FnOk P w K mg base CX0 2 f fd ["_law_source_here"] (sp__law_name K) := by
  have nd := sc__law_name.nd
  refine F.ok sc__law_name (fun vs H Q E h => ?_) (fun cdv A outer s H vs Q E hr h => ?_)
  · obtain ⟨a, c, rfl, _⟩ := h
    rfl
  · obtain ⟨a, c, rfl, src, q⟩ := h
    refine ⟨_, (pss_cons (ps_set (i := 1) nd rfl (.inl rfl) (pe_ix (r := rIxL K) ix_list (pe_lst (pa_cons pe_int (pa_cons pe_int (pa_cons pe_int (pa_cons pe_int (pa_cons pe_int pa_nil)))))) (pe_c c__law_draw hr (by omega) (by rfl) (pa_cons (pv 0) (pa_cons pe_int pa_nil))) (fun _ _ => rfl)))
      (pss_cons (ps_setLc (i := 2) (own := [("_law_k", 3)]) (g := gName 3) (tt := tYes) rfl nd rfl rfl (sw_true rfl rfl rfl (by decide +kernel)) (pi_range1 (by rfl) T.m_range (pa_cons (pv 1) pa_nil)) (blkOk_by (N := ["_law_source_here", "_law_size", "_law_letters", "_law_k"]) (sc := defScope s__law_name) (by decide +kernel)) (fun _ _ _ _ _ => (pg_name (i := 3) nd rfl (.inl rfl))) (fun _ _ _ _ _ => pts_nil) (fun _ _ _ _ _ => (pe_c c__law_draw hr (by omega) (by rfl) (pa_cons (pv 0) (pa_cons pe_int pa_nil)))))
      (pss_one (ps_ret (pe_join pe_str (pe_lc (own := [("_law_k", 3)]) (g := gName 3) (tt := tYes) rfl nd (pi_list (pv 2)) (blkOk_by (N := ["_law_source_here", "_law_size", "_law_letters", "_law_k"]) (sc := defScope s__law_name) (by decide +kernel)) (fun _ _ _ _ _ => (pg_name (i := 3) nd rfl (.inl rfl))) (fun _ _ _ _ _ => pts_nil) (fun _ _ _ _ _ => (pe_ix ix_str pe_str (pv 3) (fun _ _ => rfl))))))))), ?_⟩
    refine ⟨szl rfl, fun p1 n1 => ?_⟩
    have s1 := same_upd (o := .lst [.int 1, .int 2, .int 3, .int 1, .int 12]) n1
    have e1 : (upd H p1 (.lst [V.int 1, .int 2, .int 3, .int 1, .int 12])) p1 = some (.lst [.int 1, .int 2, .int 3, .int 1, .int 12]) := upd_same
    have src1 := src.mono s1
    have n1a := src.ne n1
    have b1 := Same.but (s := a) s1
    generalize upd H p1 (.lst [V.int 1, .int 2, .int 3, .int 1, .int 12]) = H1 at s1 e1 src1 b1 ⊢
    refine ⟨.ref a, rfl, a, c, 5, rfl, by decide, by decide, src1, fun H2 r b2 src2 l0 u0 => ?_⟩
    have e2 := b2 _ _ e1 n1a
    obtain ⟨m, hm, m1, m12⟩ : ∃ m : Nat, atI [V.int 1, .int 2, .int 3, .int 1, .int 12] r = some (.int (m : Int)) ∧ 1 ≤ m ∧ m ≤ 12 := by
      obtain ⟨j, rfl⟩ : ∃ j : Nat, r = (j : Int) := ⟨r.toNat, by omega⟩
      match j, u0 with
      | 0, _ => exact ⟨1, atI_nat (j := 0) rfl, by decide, by decide⟩
      | 1, _ => exact ⟨2, atI_nat (j := 1) rfl, by decide, by decide⟩
      | 2, _ => exact ⟨3, atI_nat (j := 2) rfl, by decide, by decide⟩
      | 3, _ => exact ⟨1, atI_nat (j := 3) rfl, by decide, by decide⟩
      | 4, _ => exact ⟨12, atI_nat (j := 4) rfl, by decide, by decide⟩
      | j + 5, h => omega
    refine ⟨p1, _, r, .int (m : Int), rfl, rfl, .inl (.inl e2), hm, ?_⟩
    have B2 := b1.trans b2
    refine ⟨.int (m : Int), rfl, (m : Int), rfl, by omega, by omega, fun LD nLD => ?_⟩
    rw [Int.toNat_natCast]
    have nLa := src2.ne nLD
    have nLc := src2.nec nLD
    refine lc_range (lo := 0) (n := m) (fun i G => But a H2 G ∧ SrcAt G a c ∧ ∃ ks : List Int, G LD = some (.lst (ks.map V.int)) ∧ ks.length = i ∧ ∀ x ∈ ks, 0 ≤ x ∧ x < 26) ⟨But.set nLD But.refl, src2.set nLa nLc, [], upd_same, rfl, fun x hx => nomatch hx⟩ (fun i G hi hP => ?_) (fun G hP => ?_)
    · obtain ⟨b, sG, ks, eD, lk, hk⟩ := hP
      refine ⟨rfl, ?_⟩
      unfold tYes
      refine iteT ⟨.ref a, rfl, a, c, 26, rfl, by decide, by decide, sG, fun G2 r2 b3 sG2 l2 u2 => ?_⟩
      refine ⟨_, b3 _ _ eD nLa, small (by rw [List.length_map]; omega), But.set nLD (b.trans b3), sG2.set nLa nLc, ks ++ [r2], by rw [upd_same, List.map_append]; rfl, by rw [List.length_append, lk]; rfl, fun x hx => ?_⟩
      rcases List.mem_append.mp hx with hx | hx
      · exact hk x hx
      · rw [List.mem_singleton.mp hx]; exact ⟨l2, u2⟩
    · obtain ⟨b, sG, ks, eD, lk, hk⟩ := hP
      have B3 := B2.trans b
      refine ⟨⟨"", rfl⟩, .ref LD, rfl, LD, rfl, ⟨_, .inl (.inl eD)⟩, fun D nD => lc_list (K := K) (a := LD) (xs := ks.map V.int) (fun i G' => Same G G' ∧ ∃ ys : List Str, G' D = some (.lst (ys.map V.str)) ∧ ys.length = i ∧ (∀ y ∈ ys, y.cps.size = 1) ∧ ∀ y ∈ ys, ∀ c ∈ y.cps.toList, inL c = true)
        ⟨same_upd nD, [], upd_same, rfl, (fun y hy => nomatch hy), fun y hy => nomatch hy⟩ (fun i G' _ hP => hP.1.seq (.inl (.inl eD))) (fun i x G' hx hP => ?_) (fun G' hP => ?_)⟩
      · obtain ⟨sm', ys, eY, hl, h1, h2⟩ := hP
        rw [List.getElem?_map] at hx
        cases gx : ks[i]? with
        | none => rw [gx] at hx; cases hx
        | some r =>
        rw [gx] at hx
        cases hx
        obtain ⟨l, u⟩ := hk r (List.mem_of_getElem? gx)
        have hi : i < ks.length := (List.getElem?_eq_some_iff.mp gx).1
        obtain ⟨j, rfl⟩ : ∃ j : Nat, r = (j : Int) := ⟨r.toNat, by omega⟩
        have hj : j < abc.cps.toList.length := by
          have : abc.cps.toList.length = 26 := by decide
          omega
        refine ⟨rfl, ?_⟩
        unfold tYes
        refine iteT ?_
        refine ⟨.int j, rfl, abc, (j : Int), abc.cps.toList[j], rfl, rfl, smallE (by decide), atI_nat (List.getElem?_eq_getElem hj), ys.map V.str, eY, ?_, same_set nD sm', ys ++ [⟨#[abc.cps.toList[j]]⟩], ?_, ?_, ?_, ?_⟩
        · rw [List.length_map]; exact small (by omega)
        · rw [upd_same, List.map_append]; rfl
        · rw [List.length_append, hl]; rfl
        · intro y hy
          rcases List.mem_append.mp hy with hy | hy
          · exact h1 y hy
          · rw [List.mem_singleton.mp hy]; rfl
        · intro y hy c hc
          rcases List.mem_append.mp hy with hy | hy
          · exact h2 y hy c hc
          · rw [List.mem_singleton.mp hy] at hc
            rw [List.mem_singleton.mp (show c ∈ [abc.cps.toList[j]] from hc)]
            exact abc_in _ (List.getElem_mem hj)
      · obtain ⟨sm', ys, eY, hl, h1, h2⟩ := hP
        rw [List.length_map] at hl
        have hz1 := join_size h1
        have hin := join_mem h2
        have hs : (ys.map (·.length)).sum + ys.length * ("" : Str).length ≤ 16777216 := by rw [join_sum h1]; omega
        refine ⟨"", D, ys, rfl, rfl, .inl (.inl (.inl eY)), hs, ?_⟩
        exact q _ _ (B3.trans (Same.but sm')) (sG.mono sm') (name_of (by omega) (by omega) hin)

theorem inV_ints {x : Int} {ws : List Int} : inV (.int x) (ws.map V.int) = decide (x ∈ ws) := by
  unfold inV
  induction ws with
  | nil => rfl
  | cons y r ih =>
    rw [List.map_cons, List.any_cons, ih]
    have e : eqV (.int y) (.int x) = decide (y = x) := by
      show (y == x) = decide (y = x)
      by_cases z : y = x
      · rw [z]; simp
      · rw [decide_eq_false z]; exact beq_eq_false_iff_ne.mpr z
    rw [e]
    by_cases z : y = x
    · subst z; simp
    · have z' : ¬ x = y := fun q => z q.symm
      simp [z, z']
theorem flat_is (ws : List Int) : (ws.map V.int).all flatV = true := by
  rw [List.all_map]
  exact List.all_eq_true.mpr fun _ _ => rfl
theorem nodup_snoc {α : Type} {l : List α} {x : α} (n : l.Nodup) (h : x ∉ l) : (l ++ [x]).Nodup :=
  List.nodup_append.mpr ⟨n, by simp, fun a ha b hb e => h (by rw [List.mem_singleton] at hb; exact hb ▸ e ▸ ha)⟩
def sp__law_names (_ : PySem.W.Frag) : Sp := fun vs H Q _ => ∃ (s c : Addr) (m : Nat), vs = [.ref s, .int (m : Int)] ∧ 1 ≤ m ∧ m ≤ 1000 ∧ SrcAt H s c ∧ ∀ H' l (zs : List Str), But s H H' → SrcAt H' s c → H l = none → H' l = some (.lst (zs.map V.str)) → zs.Nodup → (∀ z ∈ zs, nameB (.str z) = true) → 1 ≤ zs.length → zs.length ≤ m → Q (.ref l) H'
theorem ok__law_names {f : Addr} {C : Addr} {fd : FuncData} (T : Txt K mg C) (F : Fun K "_law_names" "_law_names" s__law_names f fd) (c__law_name : Cal P w K mg base 2 "_law_name" (sp__law_name K) []) : FnOk P w K mg base CX0 3 f fd ["_law_source_here", "_law_many"] (sp__law_names K) := by
  have nd := sc__law_names.nd
  refine F.ok sc__law_names (fun vs H Q E h => ?_) (fun cdv A outer s H vs Q E hr h => ?_)
  · obtain ⟨a, c, m, rfl, _⟩ := h
    rfl
  · obtain ⟨a, c, m, rfl, m1, m2, src, q⟩ := h
    refine ⟨_, (pss_cons (ps_set (i := 2) nd rfl (.inl rfl) (pe_lst pa_nil))
      (pss_cons (ps_for PassesOwn.never rfl (pi_range1 (by rfl) T.m_range (pa_cons (pv 1) pa_nil)) (pg_name (i := 3) nd rfl (.inl rfl)) (pss_cons (ps_set (i := 4) nd rfl (.inl rfl) (pe_c c__law_name hr (by omega) (by rfl) (pa_cons (pv 0) pa_nil)))
      (pss_one (ps_if (pt_cmpR op_notIn_seq (pv 4) (pv 2) (by with_unfolding_all rfl)) (pss_one (ps_expr (pe_bm PySem.F.plainAttrs_list PySem.F.slot_list_append PySem.F.type_list_append mt_append (pv 2) (pa_cons (pv 4) pa_nil)))) pss_nil))))
      (pss_one (ps_ret (pv 2))))), ?_⟩
    refine ⟨szl rfl, fun l nl => ?_⟩
    have nla := src.ne nl
    have nlc := src.nec nl
    refine ⟨.int (m : Int), rfl, (m : Int), rfl, by omega, by omega, ?_⟩
    rw [Int.toNat_natCast]
    refine for_range (lo := 0) (n := m) (fun i σ G => ∃ (y3 y4 : Option V) (zs : List Str), σ = [some (.ref a), some (.int (m : Int)), some (.ref l), y3, y4] ∧ But a H G ∧ SrcAt G a c ∧ G l = some (.lst (zs.map V.str)) ∧ zs.Nodup ∧ (∀ z ∈ zs, nameB (.str z) = true) ∧ zs.length ≤ i ∧ (1 ≤ i → 1 ≤ zs.length))
      ⟨none, none, [], rfl, But.set nl But.refl, src.set nla nlc, upd_same, List.nodup_nil, (fun z hz => nomatch hz), Nat.le_refl _, fun h => by omega⟩ (fun i σ G hi hP => ?_) (fun σ G hP => ?_)
    · obtain ⟨y3, y4, zs, rfl, b, sG, el, nz, hz, lz, l1⟩ := hP
      refine ⟨.ref a, rfl, a, c, rfl, sG, fun G2 z b2 sG2 nmz => ?_⟩
      have el2 := b2 _ _ el nla
      refine ⟨.str z, rfl, .ref l, rfl, l, zs.map V.str, rfl, .inl (.inl (.inl el2)), rfl, flat_ws _, _, rfl, ?_⟩
      show if (!inV (.str z) (zs.map V.str)) = true then _ else _
      rw [inV_strs]
      by_cases hc : z ∈ zs
      · rw [decide_eq_true hc]
        exact iteF ⟨_, _, zs, rfl, b.trans b2, sG2, el2, nz, hz, by omega, fun _ => List.length_pos_of_mem hc⟩
      · rw [decide_eq_false hc]
        refine iteT ⟨.ref l, rfl, .inl ⟨rfl, _, .inl (.inl el2)⟩, .str z, rfl, l, _, .str z, rfl, rfl, el2, small (by rw [List.length_map]; omega), ?_⟩
        refine ⟨_, _, zs ++ [z], rfl, But.set nl (b.trans b2), sG2.set nla nlc, by rw [upd_same, List.map_append]; rfl, nodup_snoc nz hc, fun x hx => ?_, by rw [List.length_append]; exact Nat.succ_le_succ lz, fun _ => by rw [List.length_append]; exact Nat.le_add_left _ _⟩
        rcases List.mem_append.mp hx with hx | hx
        · exact hz x hx
        · rw [List.mem_singleton.mp hx]; exact nmz
    · obtain ⟨y3, y4, zs, rfl, b, sG, el, nz, hz, lz, l1⟩ := hP
      exact ⟨.ref l, rfl, q G l zs b sG nl el nz hz (l1 m1) lz⟩
def sp__law_states (_ : PySem.W.Frag) : Sp := fun vs H Q _ => ∃ (s c : Addr) (m : Int), vs = [.ref s, .int m] ∧ 1 ≤ m ∧ m ≤ 1000 ∧ SrcAt H s c ∧ ∀ H' l (xs : List Int), But s H H' → SrcAt H' s c → H l = none → H' l = some (.lst (xs.map V.int)) → xs.Nodup → (∀ x ∈ xs, 0 ≤ x ∧ x ≤ 99) → 1 ≤ xs.length → (xs.length : Int) ≤ m → Q (.ref l) H'
theorem ok__law_states {f : Addr} {C : Addr} {fd : FuncData} (T : Txt K mg C) (F : Fun K "_law_states" "_law_states" s__law_states f fd) (c__law_draw : Cal P w K mg base 1 "_law_draw" (sp__law_draw K) []) : FnOk P w K mg base CX0 2 f fd ["_law_source_here", "_law_most"] (sp__law_states K) := by
  have nd := sc__law_states.nd
  refine F.ok sc__law_states (fun vs H Q E h => ?_) (fun cdv A outer s H vs Q E hr h => ?_)
  · obtain ⟨a, c, m, rfl, _⟩ := h
    rfl
  · obtain ⟨a, c, m, rfl, m1, m2, src, q⟩ := h
    refine ⟨_, (pss_cons (ps_set (i := 2) nd rfl (.inl rfl) (pe_lst pa_nil))
      (pss_cons (ps_for PassesOwn.never rfl (pi_range1 (by rfl) T.m_range (pa_cons (pe_op op_add pe_int (pe_c c__law_draw hr (by omega) (by rfl) (pa_cons (pv 0) (pa_cons (pv 1) pa_nil)))) pa_nil)) (pg_name (i := 3) nd rfl (.inl rfl)) (pss_cons (ps_set (i := 4) nd rfl (.inl rfl) (pe_c c__law_draw hr (by omega) (by rfl) (pa_cons (pv 0) (pa_cons pe_int pa_nil))))
      (pss_one (ps_if (pt_cmpR op_notIn_seq (pv 4) (pv 2) (by with_unfolding_all rfl)) (pss_one (ps_expr (pe_bm PySem.F.plainAttrs_list PySem.F.slot_list_append PySem.F.type_list_append mt_append (pv 2) (pa_cons (pv 4) pa_nil)))) pss_nil))))
      (pss_one (ps_ret (pv 2))))), ?_⟩
    refine ⟨szl rfl, fun l nl => ?_⟩
    have nla := src.ne nl
    have nlc := src.nec nl
    refine ⟨.ref a, rfl, .int m, rfl, a, c, m, rfl, by omega, by omega, src.set nla nlc, fun G1 r b1 s1 l0 u0 => ?_⟩
    have el1 := b1 _ _ upd_same nla
    have B1 : But a H G1 := (But.set nl But.refl).trans b1
    obtain ⟨n, hn, n1, n2⟩ : ∃ n : Nat, 1 + r = (n : Int) ∧ 1 ≤ n ∧ (n : Int) ≤ m := ⟨(1 + r).toNat, by omega, by omega, by omega⟩
    refine ⟨1, r, rfl, rfl, 1 + r, rfl, by omega, by omega, ?_⟩
    rw [hn, Int.toNat_natCast]
    refine for_range (lo := 0) (n := n) (fun i σ G => ∃ (y3 y4 : Option V) (zs : List Int), σ = [some (.ref a), some (.int m), some (.ref l), y3, y4] ∧ But a H G ∧ SrcAt G a c ∧ G l = some (.lst (zs.map V.int)) ∧ zs.Nodup ∧ (∀ z ∈ zs, 0 ≤ z ∧ z ≤ 99) ∧ zs.length ≤ i ∧ (1 ≤ i → 1 ≤ zs.length))
      ⟨none, none, [], rfl, B1, s1, el1, List.nodup_nil, (fun z hz => nomatch hz), Nat.le_refl _, fun h => by omega⟩ (fun i σ G hi hP => ?_) (fun σ G hP => ?_)
    · obtain ⟨y3, y4, zs, rfl, b, sG, el, nz, hz, lz, l1⟩ := hP
      refine ⟨.ref a, rfl, a, c, 100, rfl, by decide, by decide, sG, fun G2 z b2 sG2 z0 z1 => ?_⟩
      have el2 := b2 _ _ el nla
      refine ⟨.int z, rfl, .ref l, rfl, l, zs.map V.int, rfl, .inl (.inl (.inl el2)), rfl, flat_is _, _, rfl, ?_⟩
      show if (!inV (.int z) (zs.map V.int)) = true then _ else _
      rw [inV_ints]
      by_cases hc : z ∈ zs
      · rw [decide_eq_true hc]
        exact iteF ⟨_, _, zs, rfl, b.trans b2, sG2, el2, nz, hz, by omega, fun _ => List.length_pos_of_mem hc⟩
      · rw [decide_eq_false hc]
        refine iteT ⟨.ref l, rfl, .inl ⟨rfl, _, .inl (.inl el2)⟩, .int z, rfl, l, _, .int z, rfl, rfl, el2, small (by rw [List.length_map]; omega), ?_⟩
        refine ⟨_, _, zs ++ [z], rfl, But.set nl (b.trans b2), sG2.set nla nlc, by rw [upd_same, List.map_append]; rfl, nodup_snoc nz hc, fun x hx => ?_, by rw [List.length_append]; exact Nat.succ_le_succ lz, fun _ => by rw [List.length_append]; exact Nat.le_add_left _ _⟩
        rcases List.mem_append.mp hx with hx | hx
        · exact hz x hx
        · rw [List.mem_singleton.mp hx]; exact ⟨z0, by omega⟩
    · obtain ⟨y3, y4, zs, rfl, b, sG, el, nz, hz, lz, l1⟩ := hP
      exact ⟨.ref l, rfl, q G l zs b sG nl el nz hz (l1 n1) (by omega)⟩
def sp__law_step (_ : PySem.W.Frag) : Sp := fun vs H Q _ => ∃ (s c ls lw : Addr) (st : Int) (xs : List Int) (zs : List Str), vs = [.ref s, .int st, .ref ls, .ref lw] ∧ SrcAt H s c ∧ H ls = some (.lst (xs.map V.int)) ∧ H lw = some (.lst (zs.map V.str)) ∧ 1 ≤ xs.length ∧ xs.length ≤ 1000 ∧ 1 ≤ zs.length ∧ zs.length ≤ 1000 ∧ ls ≠ s ∧ lw ≠ s ∧
  ∀ H' t w y, But s H H' → SrcAt H' s c → H t = none → H' t = some (tup3 (st, w, y)) → w ∈ zs → y ∈ xs → Q (.ref t) H'
theorem ok__law_step {f : Addr} {C : Addr} {fd : FuncData} (T : Txt K mg C) (F : Fun K "_law_step" "_law_step" s__law_step f fd) (c__law_draw : Cal P w K mg base 1 "_law_draw" (sp__law_draw K) []) : FnOk P w K mg base CX0 2 f fd ["_law_source_here", "_law_state", "_law_states_here", "_law_words"] (sp__law_step K) := by
  have nd := sc__law_step.nd
  refine F.ok sc__law_step (fun vs H Q E h => ?_) (fun cdv A outer s H vs Q E hr h => ?_)
  · obtain ⟨a, c, ls, lw, st, xs, zs, rfl, _⟩ := h
    rfl
  · obtain ⟨a, c, ls, lw, st, xs, zs, rfl, src, els, elw, x1, x2, z1, z2, nsa, nwa, q⟩ := h
    refine ⟨_, (pss_cons (ps_set (i := 4) nd rfl (.inl rfl) (pe_ix (r := rIxL K) ix_list (pv 3) (pe_c c__law_draw hr (by omega) (by rfl) (pa_cons (pv 0) (pa_cons (pe_callB call_len (by rfl) T.m_len (by decide +kernel) (pa_cons (pv 3) pa_nil)) pa_nil))) (fun _ _ => rfl)))
      (pss_one (ps_ret (pe_tup (pa_cons (pv 1) (pa_cons (pv 4) (pa_cons (pe_ix (r := rIxL K) ix_list (pv 2) (pe_c c__law_draw hr (by omega) (by rfl) (pa_cons (pv 0) (pa_cons (pe_callB call_len (by rfl) T.m_len (by decide +kernel) (pa_cons (pv 2) pa_nil)) pa_nil))) (fun _ _ => rfl)) pa_nil))))))), ?_⟩
    refine ⟨.ref lw, rfl, .ref a, rfl, .ref lw, rfl, .ref lw, zs.length, rfl, .inl ⟨_, .inl (.inl elw), (List.length_map _).symm⟩, a, c, (zs.length : Int), rfl, by omega, by omega, src, fun G1 r b1 s1 l0 u0 => ?_⟩
    have elw1 := b1 _ _ elw nwa
    have els1 := b1 _ _ els nsa
    obtain ⟨j, rfl⟩ : ∃ j : Nat, r = (j : Int) := ⟨r.toNat, by omega⟩
    have hj : j < zs.length := by omega
    refine ⟨lw, zs.map V.str, (j : Int), .str zs[j], rfl, rfl, .inl (.inl elw1), atI_nat (by rw [List.getElem?_map, List.getElem?_eq_getElem hj]; rfl), ?_⟩
    refine ⟨.int st, rfl, .str zs[j], rfl, .ref ls, rfl, .ref a, rfl, .ref ls, rfl, .ref ls, xs.length, rfl, .inl ⟨_, .inl (.inl els1), (List.length_map _).symm⟩, a, c, (xs.length : Int), rfl, by omega, by omega, s1, fun G2 r2 b2 s2 l2 u2 => ?_⟩
    have els2 := b2 _ _ els1 nsa
    obtain ⟨i, rfl⟩ : ∃ i : Nat, r2 = (i : Int) := ⟨r2.toNat, by omega⟩
    have hi : i < xs.length := by omega
    refine ⟨ls, xs.map V.int, (i : Int), .int xs[i], rfl, rfl, .inl (.inl els2), atI_nat (by rw [List.getElem?_map, List.getElem?_eq_getElem hi]; rfl), szl rfl, fun t nt => ?_⟩
    have B : But a H G2 := b1.trans b2
    exact q _ t zs[j] xs[i] (B.trans (Same.but (same_upd nt))) (s2.mono (same_upd nt)) (B.fresh s2 nt) upd_same (List.getElem_mem hj) (List.getElem_mem hi)

end
end Kn

set_option Elab.async false
set_option linter.all false
set_option maxRecDepth 100000
set_option maxHeartbeats 4000000
namespace Kn
open PySem PySem.Spec PyProof.Rows L2
open C8 (Cal pe_c pe_gc Mak pe_mk)
section
variable {P : Program} {w : World} {K : PySem.W.Frag} {mg : Str → Option Value} {base : Heap}
/-! ### a drawn machine -/
theorem paired_take {α β : Type} {F : α → β → Prop} {l : List α} {m : List β} (h : Paired F l m) : ∀ n, Paired F (l.take n) (m.take n) := by
  induction h with
  | nil => intro n; rw [List.take_nil, List.take_nil]; exact .nil
  | cons r _ ih =>
    intro n
    cases n with
    | zero => exact .nil
    | succ n => exact .cons r (ih n)
theorem paired_drop {α β : Type} {F : α → β → Prop} {l : List α} {m : List β} (h : Paired F l m) : ∀ n, Paired F (l.drop n) (m.drop n) := by
  induction h with
  | nil => intro n; rw [List.drop_nil, List.drop_nil]; exact .nil
  | cons r k ih =>
    intro n
    cases n with
    | zero => exact .cons r k
    | succ n => exact ih n
theorem paired_app {α β : Type} {F : α → β → Prop} {l l' : List α} {m m' : List β} (h : Paired F l m) (h' : Paired F l' m') : Paired F (l ++ l') (m ++ m') := by
  induction h with
  | nil => exact h'
  | cons r _ ih => exact .cons r ih
/-- steps of a drawn machine: `most` the greatest number that leave one state -/
structure Drawn (ls : List Int) (names : List Str) (ss : List KnA.Stp) (most : Nat) : Prop where
  nd : ss.Nodup
  good : ∀ x ∈ ss, x.1 ∈ ls ∧ x.2.1 ∈ names ∧ x.2.2 ∈ ls
  few : ∀ s, cnt ss s ≤ most
theorem cnt_app (l m : List KnA.Stp) (s : Int) : cnt (l ++ m) s = cnt l s + cnt m s := by
  unfold cnt
  rw [List.filter_append, List.length_append]
theorem cnt_one (x : KnA.Stp) (s : Int) : cnt [x] s ≤ 1 := List.length_filter_le _ _
theorem Drawn.push {ls : List Int} {names : List Str} {ss : List KnA.Stp} {most : Nat} (h : Drawn ls names ss most) {x : KnA.Stp} (hx : x ∉ ss) (g : x.1 ∈ ls ∧ x.2.1 ∈ names ∧ x.2.2 ∈ ls) : Drawn ls names (ss ++ [x]) (most + 1) := by
  refine ⟨?_, fun y hy => ?_, fun s => ?_⟩
  · refine List.nodup_append.mpr ⟨h.nd, by simp, fun a ha b hb e => ?_⟩
    rw [List.mem_singleton] at hb
    exact hx (hb ▸ e ▸ ha)
  · rcases List.mem_append.mp hy with q | q
    · exact h.good y q
    · rw [List.mem_singleton.mp q]; exact g
  · rw [cnt_app]
    have := h.few s
    have := cnt_one x s
    omega
theorem Drawn.up {ls : List Int} {names : List Str} {ss : List KnA.Stp} {m n : Nat} (h : Drawn ls names ss m) (k : m ≤ n) : Drawn ls names ss n := ⟨h.nd, h.good, fun s => Nat.le_trans (h.few s) k⟩
theorem Drawn.turn {ls : List Int} {names : List Str} {ss : List KnA.Stp} {m : Nat} (h : Drawn ls names ss m) (t : Nat) : Drawn ls names (ss.drop t ++ ss.take t) m := by
  have p : (ss.drop t ++ ss.take t).Perm ss := by
    have := List.perm_append_comm (l₁ := ss.drop t) (l₂ := ss.take t)
    rwa [List.take_append_drop] at this
  refine ⟨p.symm.nodup h.nd, fun x hx => h.good x (p.mem_iff.mp hx), fun s => ?_⟩
  have e : cnt (ss.drop t ++ ss.take t) s = cnt ss s := (p.filter _).length_eq
  rw [e]
  exact h.few s
/-- the base: each label has one step -/
theorem cnt_base {ss : List KnA.Stp} (h : (ss.map (·.1)).Nodup) (s : Int) : cnt ss s ≤ 1 := by
  unfold cnt
  induction ss with
  | nil => exact Nat.zero_le _
  | cons x r ih =>
    rw [List.map_cons, List.nodup_cons] at h
    by_cases e : x.1 = s
    · rw [List.filter_cons_of_pos (by simp [e])]
      have : r.filter (fun y => decide (y.1 = s)) = [] := List.filter_eq_nil_iff.mpr fun y hy z => h.1 (by
        have e2 := of_decide_eq_true z
        exact List.mem_map.mpr ⟨y, hy, e2.trans e.symm⟩)
      rw [this]
      exact Nat.le_refl _
    · rw [List.filter_cons_of_neg (by simp [e])]
      exact ih h.2
theorem nodup_base {ss : List KnA.Stp} (h : (ss.map (·.1)).Nodup) : ss.Nodup := by
  have := List.pairwise_map.mp h
  exact this.imp fun hne e => hne (congrArg (·.1) e)
theorem stateB_of {x : Int} (h : 0 ≤ x ∧ x ≤ 99) : stateB (.int x) = true := by
  show (decide (0 ≤ x) && decide (x ≤ 99)) = true
  rw [decide_eq_true h.1, decide_eq_true h.2]; rfl

/-! ### drawn steps -/
theorem ins_perm {α : Type} (l : List α) (x : α) (n : Nat) : (l.take n ++ [x] ++ l.drop n).Perm (x :: l) := by
  have h := (List.perm_middle (a := x) (l₁ := l.take n) (l₂ := l.drop n))
  rw [List.take_append_drop] at h
  rw [List.append_assoc]
  exact h
theorem Drawn.perm {xs : List Int} {zs : List Str} {ss tt : List KnA.Stp} {m : Nat} (h : Drawn xs zs ss m) (p : tt.Perm ss) : Drawn xs zs tt m :=
  ⟨p.symm.nodup h.nd, fun x hx => h.good x (p.mem_iff.mp hx), fun s => by
    have e : cnt tt s = cnt ss s := (p.filter _).length_eq
    rw [e]
    exact h.few s⟩
theorem cnt_cons (x : KnA.Stp) (ss : List KnA.Stp) (s : Int) : cnt (x :: ss) s = cnt ss s + if x.1 = s then 1 else 0 := by
  unfold cnt
  by_cases e : x.1 = s
  · rw [List.filter_cons_of_pos (by simp [e]), if_pos e]; rfl
  · rw [List.filter_cons_of_neg (by simp [e]), if_neg e]; rfl
theorem Drawn.cons {xs : List Int} {zs : List Str} {ss : List KnA.Stp} {m : Nat} {x : KnA.Stp} (h : Drawn xs zs ss m) (hx : x ∉ ss) (g : x.1 ∈ xs ∧ x.2.1 ∈ zs ∧ x.2.2 ∈ xs) (c : cnt ss x.1 < m) : Drawn xs zs (x :: ss) m := by
  refine ⟨List.nodup_cons.mpr ⟨hx, h.nd⟩, fun y hy => ?_, fun s => ?_⟩
  · rcases List.mem_cons.mp hy with q | q
    · rw [q]; exact g
    · exact h.good y q
  · rw [cnt_cons]
    by_cases e : x.1 = s
    · rw [if_pos e, ← e]; omega
    · rw [if_neg e]; exact h.few s
theorem stps_ins {H : Hp} {as : List Addr} {ss : List KnA.Stp} (h : Stps H as ss) (n : Nat) {t : Addr} {x : KnA.Stp} (e : H t = some (tup3 x)) : Stps H (as.take n ++ [t] ++ as.drop n) (ss.take n ++ [x] ++ ss.drop n) :=
  paired_app (paired_app (paired_take h n) (.cons e .nil)) (paired_drop h n)
theorem stps_set {H : Hp} {as : List Addr} {ss : List KnA.Stp} {l : Addr} {o o' : HO} (h : Stps H as ss) (e : H l = some o) (no : ∀ xs, o ≠ .tup xs) : Stps (upd H l o') as ss :=
  Paired.mapP h fun _ _ q => (upd_ne (fun z => by rw [z, e] at q; exact no _ (Option.some.inj q))).trans q
theorem Stps.but {s : Addr} {H H' : Hp} {as : List Addr} {ss : List KnA.Stp} (h : Stps H as ss) (b : But s H H') (hs : ∃ o, H s = some o ∧ ∀ xs, o ≠ .tup xs) : Stps H' as ss := by
  obtain ⟨o, eo, no⟩ := hs
  exact Paired.mapP h fun _ _ q => b _ _ q fun z => by rw [z, eo] at q; exact no _ (Option.some.inj q)
theorem SrcAt.notT {H : Hp} {s c : Addr} (h : SrcAt H s c) : ∃ o, H s = some o ∧ ∀ xs, o ≠ .tup xs := by
  obtain ⟨ns, i, j, n, o⟩ := h
  exact ⟨_, o.at_, fun xs z => by cases z⟩
def sp__law_steps (_ : PySem.W.Frag) : Sp := fun vs H Q _ => ∃ (s c lx lw : Addr) (xs : List Int) (zs : List Str) (ex mo : Nat), vs = [.ref s, .ref lx, .ref lw, .int (ex : Int), .int (mo : Int)] ∧ SrcAt H s c ∧ H lx = some (.lst (xs.map V.int)) ∧ H lw = some (.lst (zs.map V.str)) ∧ lx ≠ s ∧ lw ≠ s ∧
  xs.Nodup ∧ (∀ z ∈ zs, nameB (.str z) = true) ∧ 1 ≤ xs.length ∧ xs.length ≤ 100 ∧ 1 ≤ zs.length ∧ zs.length ≤ 100 ∧ ex ≤ 100 ∧ 1 ≤ mo ∧
  ∀ H' l as ss, But s H H' → SrcAt H' s c → H l = none → H' l = some (.lst (as.map V.ref)) → Stps H' as ss → Drawn xs zs ss mo → (∀ x ∈ xs, ∃ w y, (x, w, y) ∈ ss) → ss.length ≤ xs.length + ex → Q (.ref l) H'
theorem ok__law_steps {f : Addr} {C : Addr} {fd : FuncData} (T : Txt K mg C) (F : Fun K "_law_steps" "_law_steps" s__law_steps f fd) (c__law_step : Cal P w K mg base 2 "_law_step" (sp__law_step K) []) (c__law_draw : Cal P w K mg base 1 "_law_draw" (sp__law_draw K) []) : FnOk P w K mg base CX0 3 f fd ["_law_source_here", "_law_states_here", "_law_words", "_law_extra", "_law_most"] (sp__law_steps K) := by
  have nd := sc__law_steps.nd
  refine F.ok sc__law_steps (fun vs H Q E h => ?_) (fun cdv A outer s H vs Q E hr h => ?_)
  · obtain ⟨a, c, lx, lw, xs, zs, ex, mo, rfl, _⟩ := h
    rfl
  · obtain ⟨a, c, lx, lw, xs, zs, ex, mo, rfl, src, elx, elw, nxa, nwa, ndx, hz, x1, x2, z1, z2, ex2, mo1, q⟩ := h
    refine ⟨_, (pss_cons (ps_set (i := 5) nd rfl (.inl rfl) (pe_lst pa_nil))
      (pss_cons (ps_for PassesOwn.never rfl (pi_list (pv 1)) (pg_name (i := 6) nd rfl (.inr rfl)) (pss_cons (ps_set (i := 7) nd rfl (.inl rfl) (pe_c c__law_step hr (by omega) (by rfl) (pa_cons (pv 0) (pa_cons (pv 6) (pa_cons (pv 1) (pa_cons (pv 2) pa_nil))))))
      (pss_one (ps_expr (pe_bm PySem.F.plainAttrs_list PySem.F.slot_list_insert PySem.F.type_list_insert mt_insert (pv 5) (pa_cons (pe_c c__law_draw hr (by omega) (by rfl) (pa_cons (pv 0) (pa_cons (pe_op op_add (pe_callB call_len (by rfl) T.m_len (by decide +kernel) (pa_cons (pv 5) pa_nil)) pe_int) pa_nil))) (pa_cons (pv 7) pa_nil)))))))
      (pss_cons (ps_for PassesOwn.never rfl (pi_range1 (by rfl) T.m_range (pa_cons (pe_c c__law_draw hr (by omega) (by rfl) (pa_cons (pv 0) (pa_cons (pe_op op_add (pv 3) pe_int) pa_nil))) pa_nil)) (pg_name (i := 8) nd rfl (.inl rfl)) (pss_cons (ps_set (i := 6) nd rfl (.inr rfl) (pe_ix (r := rIxL K) ix_list (pv 1) (pe_c c__law_draw hr (by omega) (by rfl) (pa_cons (pv 0) (pa_cons (pe_callB call_len (by rfl) T.m_len (by decide +kernel) (pa_cons (pv 1) pa_nil)) pa_nil))) (fun _ _ => rfl)))
      (pss_cons (ps_set (i := 7) nd rfl (.inl rfl) (pe_c c__law_step hr (by omega) (by rfl) (pa_cons (pv 0) (pa_cons (pv 6) (pa_cons (pv 1) (pa_cons (pv 2) pa_nil))))))
      (pss_cons (ps_set (i := 9) nd rfl (.inl rfl) (pe_callB call_len (by rfl) T.m_len (by decide +kernel) (pa_cons (pe_lc (own := [("_law_step_here", 10)]) (g := gName 10) rfl nd (pi_list (pv 5)) (blkOk_by (N := ["_law_source_here", "_law_states_here", "_law_words", "_law_extra", "_law_most", "_law_steps_here", "_law_state", "_law_row", "_law_k", "_law_many", "_law_step_here"]) (sc := defScope s__law_steps) (by decide +kernel)) (fun _ _ _ _ _ => (pg_name (i := 10) nd rfl (.inl rfl))) (fun _ _ _ _ _ => (pts_one (pt_cmpR op_eq (pe_ix (r := rIxT K) ix_tup (pv 10) pe_int (fun _ _ => rfl)) (pv 6) (nomark _)))) (fun _ _ _ _ _ => (pv 10))) pa_nil)))
      (pss_one (ps_if (PW.pt (pw_and (pt_cmpR (op_notInD (KnC.un65 hr)) (pv 7) (pv 5) (by with_unfolding_all rfl)) (pw_and1 (pt_cmpR op_lt (pv 9) (pv 4) (nomark _))))) (pss_one (ps_expr (pe_bm PySem.F.plainAttrs_list PySem.F.slot_list_insert PySem.F.type_list_insert mt_insert (pv 5) (pa_cons (pe_c c__law_draw hr (by omega) (by rfl) (pa_cons (pv 0) (pa_cons (pe_op op_add (pe_callB call_len (by rfl) T.m_len (by decide +kernel) (pa_cons (pv 5) pa_nil)) pe_int) pa_nil))) (pa_cons (pv 7) pa_nil))))) pss_nil))))))
      (pss_one (ps_ret (pv 5)))))), ?_⟩
    refine ⟨szl rfl, fun l nl => ?_⟩
    have nla := src.ne nl
    have nlc := src.nec nl
    refine ⟨.ref lx, rfl, lx, rfl, ⟨_, .inl (.inl ((upd_ne (ne_of_none elx nl)).trans elx))⟩, ?_⟩
    refine for_list (K := K) (xs := xs.map V.int) (fun i σ G => ∃ (y6 y7 y8 y9 y10 : Option V) (as : List Addr) (ss : List KnA.Stp), σ = [some (.ref a), some (.ref lx), some (.ref lw), some (.int (ex : Int)), some (.int (mo : Int)), some (.ref l), y6, y7, y8, y9, y10] ∧ But a H G ∧ SrcAt G a c ∧ G l = some (.lst (as.map V.ref)) ∧ Stps G as ss ∧ (ss.map (·.1)).Perm (xs.take i) ∧ (∀ x ∈ ss, x.1 ∈ xs ∧ x.2.1 ∈ zs ∧ x.2.2 ∈ xs))
      ⟨none, none, none, none, none, [], [], rfl, But.set nl But.refl, src.set nla nlc, upd_same, .nil, .refl _, fun x hx => nomatch hx⟩ (fun i σ G _ hP => ?_) (fun i v σ G hv hP => ?_) (fun σ G hP => ?_)
    · obtain ⟨_, _, _, _, _, _, _, _, b, _⟩ := hP
      exact .inl (.inl (b _ _ elx nxa))
    · obtain ⟨y6, y7, y8, y9, y10, as, ss, rfl, b, sG, el, hst, pm, hg⟩ := hP
      rw [List.getElem?_map] at hv
      cases gx : xs[i]? with
      | none => rw [gx] at hv; cases hv
      | some x =>
      rw [gx] at hv
      cases hv
      have hxm := List.mem_of_getElem? gx
      have lss : ss.length ≤ 100 := by
        have h1 := pm.length_eq
        rw [List.length_map, List.length_take] at h1
        omega
      refine ⟨.ref a, rfl, .int x, rfl, .ref lx, rfl, .ref lw, rfl, a, c, lx, lw, x, xs, zs, rfl, sG, b _ _ elx nxa, b _ _ elw nwa, x1, by omega, z1, by omega, nxa, nwa, fun G2 t w y b2 s2 nt et hw hy => ?_⟩
      have el2 := b2 _ _ el nla
      have hst2 := hst.but b2 sG.notT
      have las : as.length = ss.length := hst.length
      refine ⟨.ref l, rfl, .inl ⟨rfl, _, .inl (.inl el2)⟩, .ref a, rfl, .ref l, rfl, .ref l, as.length, rfl, .inl ⟨_, .inl (.inl el2), (List.length_map _).symm⟩, (as.length : Int), 1, rfl, rfl, a, c, (as.length : Int) + 1, rfl, by omega, by omega, s2, fun G3 r b3 s3 l0 u0 => ?_⟩
      have el3 := b3 _ _ el2 nla
      have hst3 := hst2.but b3 s2.notT
      have et3 := b3 _ _ et (sG.ne nt)
      refine ⟨.ref t, rfl, l, as.map V.ref, r, .ref t, rfl, rfl, el3, small (by rw [List.length_map]; omega), l0, by omega, ?_⟩
      have pp := ins_perm ss (x, w, y) r.toNat
      refine ⟨_, _, y8, y9, y10, as.take r.toNat ++ [t] ++ as.drop r.toNat, ss.take r.toNat ++ [(x, w, y)] ++ ss.drop r.toNat, rfl, But.set nl ((b.trans b2).trans b3), s3.set nla nlc, ?_, stps_set (stps_ins hst3 _ et3) el3 (fun _ z => by cases z), ?_, fun u hu => ?_⟩
      · rw [upd_same, List.map_append, List.map_append, List.map_take, List.map_drop]; rfl
      · rw [take_more gx]
        exact (pp.map (fun x : KnA.Stp => x.1)).trans ((List.Perm.cons _ pm).trans (List.perm_append_comm (l₁ := [x])))
      · rcases List.mem_cons.mp (pp.mem_iff.mp hu) with e | e
        · rw [e]; exact ⟨hxm, hw, hy⟩
        · exact hg u e
    · obtain ⟨y6, y7, y8, y9, y10, as, ss, rfl, b, sG, el, hst, pm, hg⟩ := hP
      rw [List.length_map, List.take_length] at pm
      have nd1 : (ss.map (·.1)).Nodup := pm.symm.nodup ndx
      have dr : Drawn xs zs ss mo := ⟨nodup_base nd1, hg, fun s => Nat.le_trans (cnt_base nd1 s) mo1⟩
      have al : ∀ x ∈ xs, ∃ w y, (x, w, y) ∈ ss := fun x hx => by
        obtain ⟨⟨x', w, y⟩, hu, e⟩ := List.mem_map.mp (pm.mem_iff.mpr hx)
        cases e
        exact ⟨w, y, hu⟩
      have l0 : ss.length = xs.length := by have := pm.length_eq; rwa [List.length_map] at this
      refine ⟨.ref a, rfl, .int (ex : Int), rfl, (ex : Int), 1, rfl, rfl, a, c, (ex : Int) + 1, rfl, by omega, by omega, sG, fun G1 r b1 s1 r0 u0 => ?_⟩
      obtain ⟨n, rfl⟩ : ∃ n : Nat, r = (n : Int) := ⟨r.toNat, by omega⟩
      refine ⟨(n : Int), rfl, by omega, by omega, ?_⟩
      rw [Int.toNat_natCast]
      refine for_range (lo := 0) (n := n) (fun i σ G => ∃ (y6 y7 y8 y9 y10 : Option V) (as : List Addr) (ss : List KnA.Stp), σ = [some (.ref a), some (.ref lx), some (.ref lw), some (.int (ex : Int)), some (.int (mo : Int)), some (.ref l), y6, y7, y8, y9, y10] ∧ But a H G ∧ SrcAt G a c ∧ G l = some (.lst (as.map V.ref)) ∧ Stps G as ss ∧ Drawn xs zs ss mo ∧ (∀ x ∈ xs, ∃ w y, (x, w, y) ∈ ss) ∧ ss.length ≤ xs.length + i)
        ⟨_, _, _, _, _, as, ss, rfl, b.trans b1, s1, b1 _ _ el nla, hst.but b1 sG.notT, dr, al, by omega⟩ (fun i σ G hi hP => ?_) (fun σ G hP => ?_)
      · obtain ⟨y6, y7, y8, y9, y10, as, ss, rfl, b, sG, el, hst, dr, al, lss⟩ := hP
        refine ⟨.ref lx, rfl, .ref a, rfl, .ref lx, rfl, .ref lx, xs.length, rfl, .inl ⟨_, .inl (.inl (b _ _ elx nxa)), (List.length_map _).symm⟩, a, c, (xs.length : Int), rfl, by omega, by omega, sG, fun G2 r b2 s2 r0 u0 => ?_⟩
        obtain ⟨j, rfl⟩ : ∃ n : Nat, r = (n : Int) := ⟨r.toNat, by omega⟩
        have hj : j < xs.length := by omega
        have B2 := b.trans b2
        have el2 := b2 _ _ el nla
        have hst2 := hst.but b2 sG.notT
        refine ⟨lx, xs.map V.int, (j : Int), .int xs[j], rfl, rfl, .inl (.inl (B2 _ _ elx nxa)), atI_nat (by rw [List.getElem?_map, List.getElem?_eq_getElem hj]; rfl), ?_⟩
        have hxm : xs[j] ∈ xs := List.getElem_mem hj
        generalize xs[j] = x at hxm ⊢
        refine ⟨.ref a, rfl, .int x, rfl, .ref lx, rfl, .ref lw, rfl, a, c, lx, lw, x, xs, zs, rfl, s2, B2 _ _ elx nxa, B2 _ _ elw nwa, x1, by omega, z1, by omega, nxa, nwa, fun G3 t w y b3 s3 nt et hw hy => ?_⟩
        have el3 := b3 _ _ el2 nla
        have hst3 := hst2.but b3 s2.notT
        have B3 := B2.trans b3
        have nta : t ≠ a := s2.ne nt
        refine ⟨.ref l, rfl, l, rfl, ⟨_, .inl (.inl el3)⟩, fun D nD => lc_list (K := K) (a := l) (xs := as.map V.ref) (fun i G => Same G3 G ∧ ∃ ys : List V, G D = some (.lst ys) ∧ ys.length = cnt (ss.take i) x)
          ⟨same_upd nD, [], upd_same, rfl⟩ (fun i G _ hP => .inl (.inl (hP.1 _ _ el3))) (fun i v G hv hP => ?_) (fun G hP => ?_)⟩
        · obtain ⟨S, ys, eD, ly⟩ := hP
          obtain ⟨ai, st, rfl, gi, g, hai⟩ := ref_get (hst3.mono S) hv
          have hi2 : i < ss.length := (List.getElem?_eq_some_iff.mp g).1
          have ec : cnt (ss.take (i + 1)) x = cnt (ss.take i) x + if st.1 = x then 1 else 0 := by
            rw [take_more g, cnt_app]
            congr 1
            rw [cnt_cons]
            show 0 + _ = _
            omega
          refine ⟨rfl, .ref ai, rfl, ai, [.int st.1, .str st.2.1, .int st.2.2], 0, .int st.1, rfl, rfl, .inl (.inl hai), atI_nat (j := 0) rfl, .int x, rfl, rfl, _, rfl, ite2 (fun c0 => ?_) (fun c0 => ?_)⟩
          · have e : st.1 = x := V.int.inj (of_decide_eq_true c0)
            refine ⟨.ref ai, rfl, _, eD, small (by have := List.length_filter_le (fun y : KnA.Stp => decide (y.1 = x)) (ss.take i); rw [ly]; unfold cnt; rw [List.length_take] at this; omega), same_set nD S, _, upd_same, ?_⟩
            rw [List.length_append, ly, ec, if_pos e]; rfl
          · have e : ¬ st.1 = x := fun z => c0 (decide_eq_true (by rw [z]))
            exact ⟨S, ys, eD, by rw [ec, if_neg e]; exact ly⟩
        · obtain ⟨S, ys, eD, ly⟩ := hP
          have las : as.length = ss.length := hst.length
          rw [List.length_map, las, List.take_length] at ly
          have eld := S _ _ el3
          have hstd := hst3.mono S
          have s4 := s3.mono S
          have B4 := B3.trans (Same.but S)
          have etd := S _ _ et
          have hnm : ∀ u ∈ ss, nameB (.str u.2.1) = true := fun u hu => hz _ (dr.good u hu).2.1
          refine ⟨.ref D, ys.length, rfl, .inl ⟨_, .inl (.inl eD), rfl⟩, .ref t, rfl, .ref l, rfl, dat (x, w, y), ss.map dat, .tup (.inl (.inl etd)) (.cons (.int _) (.cons (.str _) (.cons (.int _) .nil))), .lst (.inl (.inl eld)) (dps hstd), dat_shaped (hz w hw), dats_shaped hnm, ?_⟩
          rw [dat_any]
          have base : ∃ (v6 v7 v8 v9 v10 : Option V) (as' : List Addr) (ss' : List KnA.Stp), ([some (.ref a), some (.ref lx), some (.ref lw), some (.int (ex : Int)), some (.int (mo : Int)), some (.ref l), some (.int x), some (.ref t), some (.int (0 + (i : Int))), some (.int (ys.length : Int)), y10] : L2.St) = [some (.ref a), some (.ref lx), some (.ref lw), some (.int (ex : Int)), some (.int (mo : Int)), some (.ref l), v6, v7, v8, v9, v10] ∧ But a H G ∧ SrcAt G a c ∧ G l = some (.lst (as'.map V.ref)) ∧ Stps G as' ss' ∧ Drawn xs zs ss' mo ∧ (∀ x ∈ xs, ∃ w y, (x, w, y) ∈ ss') ∧ ss'.length ≤ xs.length + (i + 1) :=
            ⟨_, _, _, _, _, as, ss, rfl, B4, s4, eld, hstd, dr, al, by omega⟩
          refine ⟨_, rfl, ?_⟩
          by_cases hm : (x, w, y) ∈ ss
          · rw [decide_eq_true hm]
            exact iteF base
          · rw [decide_eq_false hm]
            refine iteT ⟨.int (ys.length : Int), rfl, .int (mo : Int), rfl, _, _, rfl, rfl, _, rfl, ite2 (fun c0 => ?_) (fun _ => base)⟩
            have c0 : (ys.length : Int) < (mo : Int) := of_decide_eq_true c0
            refine ⟨.ref l, rfl, .inl ⟨rfl, _, .inl (.inl eld)⟩, .ref a, rfl, .ref l, rfl, .ref l, as.length, rfl, .inl ⟨_, .inl (.inl eld), (List.length_map _).symm⟩, (as.length : Int), 1, rfl, rfl, a, c, (as.length : Int) + 1, rfl, by omega, by omega, s4, fun G5 r b5 s5 l0 u0 => ?_⟩
            have el5 := b5 _ _ eld nla
            have hst5 := hstd.but b5 s4.notT
            have et5 := b5 _ _ etd nta
            refine ⟨.ref t, rfl, l, as.map V.ref, r, .ref t, rfl, rfl, el5, small (by rw [List.length_map]; omega), l0, by omega, ?_⟩
            have pp := ins_perm ss (x, w, y) r.toNat
            refine ⟨_, _, _, _, _, as.take r.toNat ++ [t] ++ as.drop r.toNat, ss.take r.toNat ++ [(x, w, y)] ++ ss.drop r.toNat, rfl, But.set nl (B4.trans b5), s5.set nla nlc, ?_, stps_set (stps_ins hst5 _ et5) el5 (fun _ z => by cases z), (dr.cons hm ⟨hxm, hw, hy⟩ (by show cnt ss x < mo; omega)).perm pp, fun u hu => ?_, ?_⟩
            · rw [upd_same, List.map_append, List.map_append, List.map_take, List.map_drop]; rfl
            · obtain ⟨w', y', h⟩ := al u hu
              exact ⟨w', y', pp.mem_iff.mpr (List.mem_cons.mpr (.inr h))⟩
            · have := pp.length_eq
              rw [List.length_cons] at this
              omega
      · obtain ⟨y6, y7, y8, y9, y10, as, ss, rfl, b, sG, el, hst, dr, al, lss⟩ := hP
        exact ⟨.ref l, rfl, q G l as ss b sG nl el hst dr al (by omega)⟩

end
end Kn

set_option Elab.async false
set_option linter.all false
set_option maxRecDepth 100000
set_option maxHeartbeats 4000000
namespace Kn
open PySem PySem.Spec PyProof.Rows L2
open C8 (Cal pe_c pe_gc Mak pe_mk)
section
variable {P : Program} {w : World} {K : PySem.W.Frag} {mg : Str → Option Value} {base : Heap}
/-! ### drawn faults, a drawn machine -/
theorem in_names {names : List Str} {i : Nat} {x : Str} (h : names[i]? = some x) : (names.map V.str)[i]? = some (.str x) := by rw [List.getElem?_map, h]; rfl
structure DrawF (fs : List (Str × Str)) (ws names : List Str) : Prop where
  nd : (fs.map (·.1)).Nodup
  mem : ∀ p ∈ fs, p.1 ∈ ws ∧ p.2 ∈ names
theorem DrawF.good {fs : List (Str × Str)} {ws names : List Str} (f : DrawF fs ws names) (h1 : ∀ z ∈ ws, nameB (.str z) = true) (h2 : ∀ z ∈ names, nameB (.str z) = true) (l3 : names.length ≤ 3) (l1 : ws.length ≤ 1000) : GoodFaults fs ws := by
  refine ⟨fun p hp => ⟨h1 _ (f.mem p hp).1, (f.mem p hp).1, h2 _ (f.mem p hp).2⟩, ?_, ?_⟩
  · obtain ⟨ys, ey, ny, my⟩ := allL_strs (fs.map (·.2))
    have e : (fs.map fun p => (Sum.inr p.2 : Key)) = (fs.map (·.2)).map Sum.inr := by rw [List.map_map]; rfl
    rw [e, ey, List.length_map]
    refine Nat.le_trans (sub_len ny fun x hx => ?_) l3
    obtain ⟨p, hp, e⟩ := List.mem_map.mp ((my x).mp hx)
    rw [← e]
    exact (f.mem p hp).2
  · have := sub_len f.nd (m := ws) fun x hx => by
      obtain ⟨p, hp, e⟩ := List.mem_map.mp hx
      rw [← e]
      exact (f.mem p hp).1
    rw [List.length_map] at this
    omega
def sp__law_faults (_ : PySem.W.Frag) : Sp := fun vs H Q _ => ∃ (s c l : Addr) (as : List Addr) (ss : List KnA.Stp) (m : Nat), vs = [.ref s, .ref l, .int (m : Int)] ∧ SrcAt H s c ∧ H l = some (.lst (as.map V.ref)) ∧ Stps H as ss ∧ l ≠ s ∧ 1 ≤ ss.length ∧ ss.length ≤ 1000 ∧ 1 ≤ m ∧ m ≤ 100 ∧
  ∀ H' t d fs z (names : List Str), But s H H' → SrcAt H' s c → H t = none → H d = none → t ≠ d → H' t = some (.lst [.ref d, .str z]) → H' d = some (.dK (fkv fs)) → DrawF fs (ss.map (·.2.1)) names → names.length ≤ m → (∀ x ∈ names, nameB (.str x) = true) → z ∈ fs.map (·.2) → Q (.ref t) H'
theorem ok__law_faults {f : Addr} {C : Addr} {fd : FuncData} (T : Txt K mg C) (F : Fun K "_law_faults" "_law_faults" s__law_faults f fd) (c__law_names : Cal P w K mg base 3 "_law_names" (sp__law_names K) []) (c__law_draw : Cal P w K mg base 1 "_law_draw" (sp__law_draw K) []) : FnOk P w K mg base CX0 4 f fd ["_law_source_here", "_law_steps_here", "_law_most"] (sp__law_faults K) := by
  have nd := sc__law_faults.nd
  refine F.ok sc__law_faults (fun vs H Q E h => ?_) (fun cdv A outer s H vs Q E hr h => ?_)
  · obtain ⟨a, c, l, as, ss, m, rfl, _⟩ := h
    rfl
  · obtain ⟨a, c, l, as, ss, m, rfl, src, el, hst, nla, ss1, ss2, m1, m2, q⟩ := h
    refine ⟨_, (pss_cons (ps_set (i := 3) nd rfl (.inl rfl) (pe_c c__law_names hr (by omega) (by rfl) (pa_cons (pv 0) (pa_cons (pe_op op_add pe_int (pe_c c__law_draw hr (by omega) (by rfl) (pa_cons (pv 0) (pa_cons (pv 2) pa_nil)))) pa_nil))))
      (pss_cons (ps_set (i := 4) nd rfl (.inl rfl) (pe_callB (show CallR _ (.builtin "sorted") (KnS.rSortedL P w) from KnS.cr_sortedL rfl) (by rfl) T.m_sorted (by decide +kernel) (pa_cons (pe_callTy (show CallR _ (.type "set") (KnS.rSetOf K P w) from KnS.cr_setOf rfl) (by rfl) T.m_set (by decide +kernel) (pa_cons (pe_lc (own := [("_law_row", 7)]) (g := gName 7) (tt := tYes) rfl nd (pi_list (pv 1)) (blkOk_by (N := ["_law_source_here", "_law_steps_here", "_law_most", "_law_names_here", "_law_used", "_law_faults_here", "_law_word", "_law_row"]) (sc := defScope s__law_faults) (by decide +kernel)) (fun _ _ _ _ _ => (pg_name (i := 7) nd rfl (.inl rfl))) (fun _ _ _ _ _ => pts_nil) (fun _ _ _ _ _ => (pe_ix (r := rIxT K) ix_tup (pv 7) pe_int (fun _ _ => rfl)))) pa_nil)) pa_nil)))
      (pss_cons (ps_set (i := 5) nd rfl (.inl rfl) (pe_disp (pps_cons (pe_ix (r := rIxL K) ix_list (pv 4) (pe_c c__law_draw hr (by omega) (by rfl) (pa_cons (pv 0) (pa_cons (pe_callB call_len (by rfl) T.m_len (by decide +kernel) (pa_cons (pv 4) pa_nil)) pa_nil))) (fun _ _ => rfl)) (pe_ix (r := rIxL K) ix_list (pv 3) pe_int (fun _ _ => rfl)) pps_nil) (by rfl) (by rfl) (fun z => by cases z) (by decide)))
      (pss_cons (ps_for PassesOwn.never rfl (pi_list (pv 4)) (pg_name (i := 6) nd rfl (.inl rfl)) (pss_one (ps_if (PW.pt (pw_and (pt_cmp (pc_dnotin (hu_of hr) (pv 6) (pv 5))) (pw_and1 (pt_cmpR op_eq (pe_c c__law_draw hr (by omega) (by rfl) (pa_cons (pv 0) (pa_cons pe_int pa_nil))) pe_int (nomark _))))) (pss_one (ps_dput (hu_of hr) (pv 5) (pv 6) (pe_ix (r := rIxL K) ix_list (pv 3) (pe_c c__law_draw hr (by omega) (by rfl) (pa_cons (pv 0) (pa_cons (pe_callB call_len (by rfl) T.m_len (by decide +kernel) (pa_cons (pv 3) pa_nil)) pa_nil))) (fun _ _ => rfl)) rfl)) pss_nil)))
      (pss_one (ps_ret (pe_lst (pa_cons (pv 5) (pa_cons (pe_ix (r := rIxL K) ix_list (pv 3) pe_int (fun _ _ => rfl)) pa_nil))))))))), ?_⟩
    refine ⟨.ref a, rfl, .ref a, rfl, .int (m : Int), rfl, a, c, (m : Int), rfl, by omega, by omega, src, fun H1 r b1 s1 r0 u0 => ?_⟩
    obtain ⟨n, hn, n1, n2⟩ : ∃ n : Nat, 1 + r = (n : Int) ∧ 1 ≤ n ∧ n ≤ m := ⟨(1 + r).toNat, by omega, by omega, by omega⟩
    refine ⟨1, r, rfl, rfl, a, c, n, (by show [V.ref a, V.int (1 + r)] = _; rw [hn]), n1, by omega, s1, fun H2 ln names b2 s2 nln eln ndn hnm ln1 lnn => ?_⟩
    have B2 := b1.trans b2
    have el2 := B2 _ _ el nla
    have hst2 := hst.but B2 src.notT
    have nlna : ln ≠ a := s1.ne nln
    refine ⟨.ref l, rfl, l, rfl, ⟨_, .inl (.inl el2)⟩, fun D nD => ?_⟩
    refine lc_list (K := K) (a := l) (xs := as.map V.ref) (fun i G => Same H2 G ∧ G D = some (.lst (((ss.take i).map (·.2.1)).map V.str))) ⟨same_upd nD, upd_same⟩ (fun i G _ hP => .inl (.inl (hP.1 _ _ el2))) (fun i v G hv hP => ?_) (fun G hP => ?_)
    · obtain ⟨S, eD⟩ := hP
      obtain ⟨ai, st, rfl, gi, g, hai⟩ := ref_get (hst2.mono S) hv
      refine ⟨rfl, ?_⟩
      unfold tYes
      refine iteT ?_
      refine ⟨.ref ai, rfl, ai, [.int st.1, .str st.2.1, .int st.2.2], 1, .str st.2.1, rfl, rfl, .inl (.inl hai), atI_nat (j := 1) rfl, _, eD, small (by rw [List.length_map, List.length_map, List.length_take]; omega), same_set nD S, ?_⟩
      rw [upd_same, take_more g, List.map_append, List.map_append]; rfl
    · obtain ⟨S, eD⟩ := hP
      rw [List.length_map, hst.length, List.take_length] at eD
      have nDa : D ≠ a := s2.ne nD
      have ek : (((ss.map (·.2.1)).map Sum.inr).map kV : List V) = (ss.map (·.2.1)).map V.str := by rw [List.map_map]; rfl
      refine ⟨D, (ss.map (·.2.1)).map Sum.inr, rfl, .inl (.inl (by rw [ek]; exact eD)), by rw [List.length_map, List.length_map]; unfold scanBound; omega, fun SS nSS => ?_⟩
      have sSS := same_upd (o := KnS.SetL P w SS (KnS.allL ((ss.map (·.2.1)).map Sum.inr))) nSS
      obtain ⟨ys, ey, ny, my⟩ := allL_strs (ss.map (·.2.1))
      refine ⟨SS, ys, rfl, by rw [← ey]; exact upd_same, fun ws lu pw sw nlu => ?_⟩
      have slu := same_upd (o := .lst (ws.map V.str)) nlu
      have elu : (upd (upd G SS (KnS.SetL P w SS (KnS.allL ((ss.map (·.2.1)).map Sum.inr)))) lu (.lst (ws.map V.str))) lu = some (.lst (ws.map V.str)) := upd_same
      have nlu2 : H2 lu = none := S.free (sSS.free nlu)
      have S3 := S.trans (sSS.trans slu)
      generalize upd (upd G SS (KnS.SetL P w SS (KnS.allL ((ss.map (·.2.1)).map Sum.inr)))) lu (.lst (ws.map V.str)) = H3 at S3 elu ⊢
      have mw : ∀ x, x ∈ ws ↔ x ∈ ss.map (·.2.1) := fun x => pw.mem_iff.trans (my x)
      have s3 := s2.mono S3
      have B3 : But a H H3 := B2.trans (Same.but S3)
      have nlua : lu ≠ a := s2.ne nlu2
      have eln3 := S3 _ _ eln
      have hlw : 1 ≤ ws.length ∧ ws.length ≤ 1000 := by
        have hp := pw.length_eq
        have h1 := sub_len ny fun x hx => (my x).mp hx
        rw [List.length_map] at h1
        refine ⟨?_, by omega⟩
        obtain ⟨x, hx⟩ : ∃ x, x ∈ ss.map (·.2.1) := ⟨(ss[0]'(by omega)).2.1, List.mem_map.mpr ⟨_, List.getElem_mem _, rfl⟩⟩
        exact List.length_pos_of_mem ((mw x).mpr hx)
      refine fun d nd_ => ?_
      have nda : d ≠ a := s3.ne nd_
      have ndc := s3.nec nd_
      have sd := same_upd (o := .dK []) nd_
      refine ⟨.ref lu, rfl, .ref a, rfl, .ref lu, rfl, .ref lu, ws.length, rfl, .inl ⟨_, .inl (.inl (sd _ _ elu)), (List.length_map _).symm⟩, a, c, (ws.length : Int), rfl, by omega, by omega, s3.set nda ndc, fun H4 r4 b4 s4 r40 u4 => ?_⟩
      obtain ⟨j, rfl⟩ : ∃ n : Nat, r4 = (n : Int) := ⟨r4.toNat, by omega⟩
      have hj : j < ws.length := by omega
      have elu4 := b4 _ _ (sd _ _ elu) nlua
      have eln4 := b4 _ _ (sd _ _ eln3) nlna
      have ed4 := b4 _ _ (upd_same (H := H3) (a := d) (o := .dK [])) nda
      have hxm : ws[j] ∈ ws := List.getElem_mem hj
      obtain ⟨z0, gz⟩ : ∃ z, names[0]? = some z := ⟨_, List.getElem?_eq_getElem (by omega)⟩
      refine ⟨lu, ws.map V.str, (j : Int), .str ws[j], rfl, rfl, .inl (.inl elu4), atI_nat (by rw [List.getElem?_map, List.getElem?_eq_getElem hj]; rfl), .ref ln, rfl, ln, names.map V.str, 0, .str z0, rfl, rfl, .inl (.inl eln4), atI_nat (j := 0) (in_names gz), ed4, [(.inr ws[j], .str z0)], rfl, Nat.le_of_ble_eq_true rfl, ?_⟩
      generalize ws[j] = x at hxm ⊢
      have B4 : But a H H4 := ((B3.trans (Same.but sd)).trans b4)
      have nd2 : H d = none := B3.fresh s3 nd_
      have nlnd : ln ≠ d := ne_of_none eln3 nd_
      have nlud : lu ≠ d := ne_of_none elu nd_
      refine ⟨.ref lu, rfl, lu, rfl, ⟨_, .inl (.inl ((upd_ne nlud).trans elu4))⟩, ?_⟩
      refine for_list (K := K) (xs := ws.map V.str) (fun i σ G => ∃ (y6 y7 : Option V) (fs : List (Str × Str)), σ = [some (.ref a), some (.ref l), some (.int (m : Int)), some (.ref ln), some (.ref lu), some (.ref d), y6, y7] ∧ But a H G ∧ SrcAt G a c ∧ G lu = some (.lst (ws.map V.str)) ∧ G ln = some (.lst (names.map V.str)) ∧ G d = some (.dK (fkv fs)) ∧ DrawF fs (ss.map (·.2.1)) names ∧ fs.length ≤ i + 1 ∧ z0 ∈ fs.map (·.2))
        ⟨_, _, [(x, z0)], rfl, But.set nd2 B4, s4.set nda ndc, (upd_ne nlud).trans elu4, (upd_ne nlnd).trans eln4, upd_same, ⟨by simp, fun p hp => by rw [List.mem_singleton.mp hp]; exact ⟨(mw x).mp hxm, List.mem_of_getElem? gz⟩⟩, by simp, by simp⟩
        (fun i σ G _ hP => ?_) (fun i v σ G hv hP => ?_) (fun σ G hP => ?_)
      · obtain ⟨_, _, _, _, _, _, h, _⟩ := hP
        exact .inl (.inl h)
      · obtain ⟨y6, y7, fs, rfl, b, sG, elu, eln, ed, df, lf, z0m⟩ := hP
        rw [List.getElem?_map] at hv
        cases gx : ws[i]? with
        | none => rw [gx] at hv; cases hv
        | some y =>
        rw [gx] at hv
        cases hv
        have hi : i < ws.length := (List.getElem?_eq_some_iff.mp gx).1
        refine ⟨.str y, rfl, .ref d, rfl, d, valV (fkv fs) (.inr y), rfl, DGet.k (k := .inr y) ed, _, rfl, ?_⟩
        rw [look_val]
        cases hl : look fs y with
        | some _ => exact iteF ⟨_, _, fs, rfl, b, sG, elu, eln, ed, df, by omega, z0m⟩
        | none =>
        refine iteT ⟨.ref a, rfl, a, c, 4, rfl, by decide, by decide, sG, fun G2 r b2 s2 r0 u0 => ?_⟩
        have elu2 := b2 _ _ elu nlua
        have eln2 := b2 _ _ eln nlna
        have ed2 := b2 _ _ ed nda
        refine ⟨rfl, _, rfl, ite2 (fun c0 => ?_) (fun c0 => ?_)⟩
        · refine ⟨.ref ln, rfl, .ref a, rfl, .ref ln, rfl, .ref ln, names.length, rfl, .inl ⟨_, .inl (.inl eln2), (List.length_map _).symm⟩, a, c, (names.length : Int), rfl, by omega, by omega, s2, fun G3 r3 b3 s3 r30 u3 => ?_⟩
          obtain ⟨k, rfl⟩ : ∃ n : Nat, r3 = (n : Int) := ⟨r3.toNat, by omega⟩
          have hk : k < names.length := by omega
          have elu3 := b3 _ _ elu2 nlua
          have eln3 := b3 _ _ eln2 nlna
          have ed3 := b3 _ _ ed2 nda
          refine ⟨ln, names.map V.str, (k : Int), .str names[k], rfl, rfl, .inl (.inl eln3), atI_nat (by rw [List.getElem?_map, List.getElem?_eq_getElem hk]; rfl), ?_⟩
          refine ⟨.ref d, rfl, .str y, rfl, d, _, rfl, DPut.k (k := .inr y) ed3 (small (by unfold fkv; rw [List.length_map]; omega)), ?_⟩
          have hk' : ∀ p ∈ fs, p.1 ≠ y := fun p hp e => by
            unfold look at hl
            cases hf : fs.find? fun p => decide (p.1 = y) with
            | none => exact List.find?_eq_none.mp hf p hp (decide_eq_true e)
            | some _ => rw [hf] at hl; cases hl
          refine ⟨_, _, fs ++ [(y, names[k])], rfl, But.set nd2 ((b.trans b2).trans b3), s3.set nda ndc, (upd_ne nlud).trans elu3, (upd_ne nlnd).trans eln3, ?_, ⟨?_, fun p hp => ?_⟩, by rw [List.length_append]; exact Nat.succ_le_succ lf, ?_⟩
          · rw [upd_same, putK_new _ (val_none hk')]
            unfold fkv
            rw [List.map_append]; rfl
          · rw [List.map_append]
            refine nodup_snoc df.nd fun hm => ?_
            obtain ⟨p, hp, e⟩ := List.mem_map.mp hm
            exact hk' p hp e
          · rcases List.mem_append.mp hp with h | h
            · exact df.mem p h
            · rw [List.mem_singleton.mp h]
              exact ⟨(mw y).mp (List.mem_of_getElem? gx), List.getElem_mem hk⟩
          · rw [List.map_append]; exact List.mem_append.mpr (.inl z0m)
        · exact ⟨_, _, fs, rfl, b.trans b2, s2, elu2, eln2, ed2, df, by omega, z0m⟩
      · obtain ⟨y6, y7, fs, rfl, b, sG, elu, eln, ed, df, lf, z0m⟩ := hP
        refine ⟨.ref d, rfl, .ref ln, rfl, ln, names.map V.str, 0, .str z0, rfl, rfl, .inl (.inl eln), atI_nat (j := 0) (in_names gz), szl rfl, fun t nt => ?_⟩
        have st := same_upd (o := .lst [.ref d, .str z0]) nt
        exact q _ t d fs z0 names (b.trans (Same.but st)) (sG.mono st) (b.fresh sG nt) nd2 (ne_of_none ed nt).symm upd_same (st _ _ ed) df (Nat.le_trans lnn n2) hnm z0m
def sp__law_machine (_ : PySem.W.Frag) : Sp := fun vs H Q _ => ∃ (s c : Addr) (sz ex wo mo : Nat), vs = [.ref s, .int (sz : Int), .int (ex : Int), .int (wo : Int), .int (mo : Int)] ∧ SrcAt H s c ∧ 1 ≤ sz ∧ sz ≤ 20 ∧ ex ≤ 60 ∧ 1 ≤ wo ∧ wo ≤ 14 ∧ 1 ≤ mo ∧ mo ≤ 8 ∧
  ∀ H' t l d as ss fs s0 z, But s H H' → SrcAt H' s c → H t = none → H l = none → H d = none → t ≠ d → l ≠ d → t ≠ l → H' t = some (.lst [.int s0, .ref l, .ref d, .str z]) → H' l = some (.lst (as.map V.ref)) → Stps H' as ss → H' d = some (.dK (fkv fs)) → GoodMach s0 ss fs → (fs.map (·.1)).Nodup → z ∈ fs.map (·.2) → Q (.ref t) H'
theorem ok__law_machine {f : Addr} {C : Addr} {fd : FuncData} (T : Txt K mg C) (F : Fun K "_law_machine" "_law_machine" s__law_machine f fd) (c__law_states : Cal P w K mg base 2 "_law_states" (sp__law_states K) []) (c__law_steps : Cal P w K mg base 3 "_law_steps" (sp__law_steps K) []) (c__law_names : Cal P w K mg base 3 "_law_names" (sp__law_names K) []) (c__law_draw : Cal P w K mg base 1 "_law_draw" (sp__law_draw K) []) (c__law_faults : Cal P w K mg base 4 "_law_faults" (sp__law_faults K) []) : FnOk P w K mg base CX0 5 f fd ["_law_source_here", "_law_size", "_law_extra", "_law_words", "_law_most"] (sp__law_machine K) := by
  have nd := sc__law_machine.nd
  refine F.ok sc__law_machine (fun vs H Q E h => ?_) (fun cdv A outer s H vs Q E hr h => ?_)
  · obtain ⟨a, c, sz, ex, wo, mo, rfl, _⟩ := h
    rfl
  · obtain ⟨a, c, sz, ex, wo, mo, rfl, src, sz1, sz2, ex2, wo1, wo2, mo1, mo2, q⟩ := h
    refine ⟨_, (pss_cons (ps_set (i := 5) nd rfl (.inl rfl) (pe_c c__law_states hr (by omega) (by rfl) (pa_cons (pv 0) (pa_cons (pv 1) pa_nil))))
      (pss_cons (ps_set (i := 6) nd rfl (.inl rfl) (pe_c c__law_steps hr (by omega) (by rfl) (pa_cons (pv 0) (pa_cons (pv 5) (pa_cons (pe_c c__law_names hr (by omega) (by rfl) (pa_cons (pv 0) (pa_cons (pe_op op_add pe_int (pe_c c__law_draw hr (by omega) (by rfl) (pa_cons (pv 0) (pa_cons (pv 3) pa_nil)))) pa_nil))) (pa_cons (pv 2) (pa_cons (pv 4) pa_nil)))))))
      (pss_cons (ps_asg (pe_c c__law_faults hr (by omega) (by rfl) (pa_cons (pv 0) (pa_cons (pv 6) (pa_cons pe_int pa_nil)))) (pg_lst (by rfl) (pgs_cons (pg_name (i := 7) nd rfl (.inl rfl)) (pgs_cons (pg_name (i := 8) nd rfl (.inl rfl)) pgs_nil))))
      (pss_one (ps_ret (pe_lst (pa_cons (pe_ix (r := rIxL K) ix_list (pv 5) (pe_c c__law_draw hr (by omega) (by rfl) (pa_cons (pv 0) (pa_cons (pe_callB call_len (by rfl) T.m_len (by decide +kernel) (pa_cons (pv 5) pa_nil)) pa_nil))) (fun _ _ => rfl)) (pa_cons (pv 6) (pa_cons (pv 7) (pa_cons (pv 8) pa_nil)))))))))), ?_⟩
    refine ⟨.ref a, rfl, .int (sz : Int), rfl, a, c, (sz : Int), rfl, by omega, by omega, src, fun H1 lx xs b1 s1 nlx elx ndx hx lx1 lx2 => ?_⟩
    have nxa : lx ≠ a := src.ne nlx
    refine ⟨.ref a, rfl, .ref lx, rfl, .ref a, rfl, .ref a, rfl, .int (wo : Int), rfl, a, c, (wo : Int), rfl, by omega, by omega, s1, fun H2 r b2 s2 r0 u0 => ?_⟩
    obtain ⟨n, hn, n1, n2⟩ : ∃ n : Nat, 1 + r = (n : Int) ∧ 1 ≤ n ∧ n ≤ wo := ⟨(1 + r).toNat, by omega, by omega, by omega⟩
    refine ⟨1, r, rfl, rfl, a, c, n, (by show [V.ref a, V.int (1 + r)] = _; rw [hn]), n1, by omega, s2, fun H3 lw zs b3 s3 nlw elw ndz hz z1 z2 => ?_⟩
    have nwa : lw ≠ a := s2.ne nlw
    have elx3 := b3 _ _ (b2 _ _ elx nxa) nxa
    refine ⟨.int (ex : Int), rfl, .int (mo : Int), rfl, a, c, lx, lw, xs, zs, ex, mo, rfl, s3, elx3, elw, nxa, nwa, ndx, hz, lx1, by omega, z1, by omega, by omega, mo1, fun H4 l as ss b4 s4 nl el hst dr al lss => ?_⟩
    have nla : l ≠ a := s3.ne nl
    have B3 : But a H H3 := (b1.trans b2).trans b3
    have B4 := B3.trans b4
    have ss1 : 1 ≤ ss.length := by
      obtain ⟨w, y, hm⟩ := al xs[0] (List.getElem_mem (by omega))
      exact List.length_pos_of_mem hm
    refine ⟨.ref a, rfl, .ref l, rfl, a, c, l, as, ss, 3, rfl, s4, el, hst, nla, ss1, by omega, by decide, by decide, fun H5 t d fs z names b5 s5 nt nd_ ntd et ed df l3 hnm zm => ?_⟩
    have B5 := B4.trans b5
    have elx5 := b5 _ _ (b4 _ _ elx3 nxa) nxa
    have el5 := b5 _ _ el nla
    have hst5 := hst.but b5 s4.notT
    refine ⟨t, _, rfl, .inl (.inl et), rfl, .ref d, _, rfl, .str z, [], rfl, rfl, ?_⟩
    refine ⟨.ref lx, rfl, .ref a, rfl, .ref lx, rfl, .ref lx, xs.length, rfl, .inl ⟨_, .inl (.inl elx5), (List.length_map _).symm⟩, a, c, (xs.length : Int), rfl, by omega, by omega, s5, fun H6 r6 b6 s6 r60 u6 => ?_⟩
    obtain ⟨j, rfl⟩ : ∃ n : Nat, r6 = (n : Int) := ⟨r6.toNat, by omega⟩
    have hj : j < xs.length := by omega
    have elx6 := b6 _ _ elx5 nxa
    refine ⟨lx, xs.map V.int, (j : Int), .int xs[j], rfl, rfl, .inl (.inl elx6), atI_nat (by rw [List.getElem?_map, List.getElem?_eq_getElem hj]; rfl), .ref l, rfl, .ref d, rfl, .str z, rfl, szl rfl, fun T nT => ?_⟩
    have hxm : xs[j] ∈ xs := List.getElem_mem hj
    generalize xs[j] = s0 at hxm ⊢
    have sT := same_upd (o := .lst [.int s0, .ref l, .ref d, .str z]) nT
    have B6 := B5.trans b6
    have nda : d ≠ a := s4.ne nd_
    have el6 := b6 _ _ el5 nla
    have ed6 := b6 _ _ ed nda
    have hst6 := hst5.but b6 s5.notT
    have hst' : ∀ x ∈ xs, stateB (.int x) = true := fun x h => stateB_of (hx x h)
    have gs : GoodSteps ss := ⟨ss1, by omega, fun x h => ⟨hst' _ (dr.good x h).1, hz _ (dr.good x h).2.1, hst' _ (dr.good x h).2.2⟩, dr.nd, fun s => Nat.le_trans (dr.few s) mo2⟩
    have gm : GoodMach s0 ss fs := ⟨hst' _ hxm, gs, fun w2 hw2 => by
        have := sub_len (m := zs) hw2.nd (fun x hx => by
          obtain ⟨u, hu, e⟩ := List.mem_map.mp ((hw2.mem x).mp hx)
          rw [← e]
          exact (dr.good u hu).2.1)
        omega, df.good (fun z h => by
          obtain ⟨u, hu, e⟩ := List.mem_map.mp h
          rw [← e]
          exact hz _ (dr.good u hu).2.1) hnm l3 (by rw [List.length_map]; omega), fun x r => al x (by
        induction r with
        | start => exact hxm
        | step _ m _ => exact (dr.good _ m).2.2)⟩
    have nl0 : H l = none := B3.fresh s3 nl
    have nd0 : H d = none := B4.fresh s4 nd_
    exact q _ T l d as ss fs s0 z (B6.trans (Same.but sT)) (s6.mono sT) (B6.fresh s6 nT) nl0 nd0 (ne_of_none ed6 nT).symm (ne_of_none el nd_) (ne_of_none el6 nT).symm upd_same (sT _ _ el6) (hst6.mono sT) (sT _ _ ed6) gm df.nd zm

end
end Kn

set_option Elab.async false
set_option linter.all false
set_option maxRecDepth 100000
set_option maxHeartbeats 4000000
namespace Kn
open PySem PySem.Spec PyProof.Rows L2
open C8 (Cal pe_c pe_gc Mak pe_mk)
section
variable {P : Program} {w : World} {K : PySem.W.Frag} {mg : Str → Option Value} {base : Heap}
theorem look_cons (x n : Str) (r : List (Str × Str)) (y : Str) : look ((x, n) :: r) y = if x = y then some n else look r y := by
  unfold look
  by_cases e : x = y
  · rw [List.find?_cons_of_pos (by simp [e]), if_pos e]; rfl
  · rw [List.find?_cons_of_neg (by simp [e]), if_neg e]
theorem look_mem {fs : List (Str × Str)} (nd : (fs.map (·.1)).Nodup) {x n : Str} : look fs x = some n ↔ (x, n) ∈ fs := by
  induction fs with
  | nil => exact ⟨fun h => (by cases h), fun h => nomatch h⟩
  | cons p r ih =>
    obtain ⟨y, m⟩ := p
    rw [List.map_cons, List.nodup_cons] at nd
    rw [look_cons]
    by_cases e : y = x
    · subst e
      rw [if_pos rfl]
      constructor
      · intro h; cases h; exact List.mem_cons_self
      · intro h
        rcases List.mem_cons.mp h with h | h
        · cases h; rfl
        · exact absurd (List.mem_map.mpr ⟨_, h, rfl⟩) nd.1
    · rw [if_neg e, ih nd.2]
      constructor
      · intro h; exact List.mem_cons_of_mem _ h
      · intro h
        rcases List.mem_cons.mp h with h | h
        · cases h; exact absurd rfl e
        · exact h
theorem order_mem {ws : List Str} {fs : List (Str × Str)} {p : Str × Str} : p ∈ orderF ws fs ↔ p.1 ∈ ws ∧ look fs p.1 = some p.2 := by
  unfold orderF
  rw [List.mem_filterMap]
  constructor
  · rintro ⟨x, hx, e⟩
    cases g : look fs x with
    | none => rw [g] at e; cases e
    | some n => rw [g] at e; cases e; exact ⟨hx, g⟩
  · rintro ⟨h1, h2⟩
    exact ⟨p.1, h1, by rw [h2]; rfl⟩
theorem order_fst (ws : List Str) (fs : List (Str × Str)) : (orderF ws fs).map (·.1) = ws.filter fun x => (look fs x).isSome := by
  unfold orderF
  induction ws with
  | nil => rfl
  | cons x r ih =>
    rw [List.filterMap_cons]
    cases e : look fs x with
    | none => rw [List.filter_cons_of_neg (by simp [e])]; exact ih
    | some n => rw [List.filter_cons_of_pos (by simp [e]), ← ih]; rfl
theorem order_same {ws : List Str} {fs : List (Str × Str)} (nws : ws.Nodup) (nd : (fs.map (·.1)).Nodup) (h : ∀ p ∈ fs, p.1 ∈ ws) : (orderF ws fs).Perm fs := by
  have n1 : ((orderF ws fs).map (·.1)).Nodup := by rw [order_fst]; exact List.filter_sublist.nodup nws
  have ndp : ∀ {l : List (Str × Str)}, (l.map (·.1)).Nodup → l.Nodup := fun {l} hl => (List.pairwise_map.mp hl).imp fun hne e => hne (congrArg (·.1) e)
  refine (List.perm_ext_iff_of_nodup (ndp n1) (ndp nd)).mpr fun p => ?_
  rw [order_mem, look_mem nd]
  exact ⟨fun q => q.2, fun q => ⟨h p q, q⟩⟩
def wordAt (ss : List KnA.Stp) (k : Nat) : Str := match ss[k]? with
  | some st => st.2.1
  | none => ""
theorem look_order {ws : List Str} {fs : List (Str × Str)} {x : Str} (nws : ws.Nodup) (hx : x ∈ ws) : look (orderF ws fs) x = look fs x := by
  have nd : ((orderF ws fs).map (·.1)).Nodup := by
    rw [order_fst]
    exact nws.filter _
  cases h : look fs x with
  | some n => exact (look_mem nd).mpr (order_mem.mpr ⟨hx, h⟩)
  | none =>
    cases h2 : look (orderF ws fs) x with
    | none => rfl
    | some n =>
      have := order_mem.mp ((look_mem nd).mp h2)
      rw [this.2] at h
      cases h

/-! ### what is behind a fault -/
def sp_check_fault (_ : PySem.W.Frag) (C : Addr) : Sp := fun vs H Q _ => ∃ (p : Addr) (s0 : Int) (ss : List KnA.Stp) (fs : List (Str × Str)) (z : Str), vs = [.ref p, .str z] ∧ MachAt C H p s0 ss fs ∧ ss.length ≤ 1000 ∧ (fs.map (·.1)).Nodup ∧ (∀ q ∈ fs, q.1 ∈ ss.map (·.2.1)) ∧ nameB (.str z) = true ∧ z ∈ fs.map (·.2) ∧ ∀ H', Same H H' → Q .non H'
theorem ok_check_fault {f : Addr} {C : Addr} {fd : FuncData} (T : Txt K mg C) (F : Fun K "check_fault" "check_fault" s_check_fault f fd) (c_is_name : Cal P w K mg base 1 "is_name" (sp_is_name K) []) (c_Machine_fault_names : KnP.Prp P w K mg base 1 C "fault_names" (sp_Machine_fault_names K C)) : FnOk P w K mg base CX0 3 f fd ["machine", "fault"] (sp_check_fault K C) := by
  have nd := sc_check_fault.nd
  refine F.ok sc_check_fault (fun vs H Q E h => ?_) (fun cdv A outer s H vs Q E hr h => ?_)
  · obtain ⟨p, s0, ss, fs, z, rfl, _⟩ := h
    rfl
  · obtain ⟨p, s0, ss, fs, z, rfl, hm, lss, ndf, hf, hz, mz, q⟩ := h
    refine ⟨_, (pss_one (ps_if (PW.pt (pw_or (pt_not (pt_val (pe_c c_is_name hr (by omega) (by rfl) (pa_cons (pv 1) pa_nil)))) (pw_or1 (pt_cmpR op_notIn_seq (pv 1) (KnP.pe_prp T.cl c_Machine_fault_names hr (by decide) (pv 0) (by rfl)) (by with_unfolding_all rfl))))) (pss_one ps_never) pss_nil)), ?_⟩
    have zl : z.cps.size ≤ 12 := (name_size hz).2
    refine ⟨.str z, rfl, .str z, rfl, .str z (by omega), fun H1 s1 => ⟨_, rfl, ?_⟩⟩
    rw [hz]
    obtain ⟨dx, ls, lw, df, lt, as, ws, ns, mm⟩ := hm.mono s1
    refine iteF ⟨.str z, rfl, .ref p, rfl, p, dx, _, rfl, mm.ob, p, s0, ss, fs, rfl, hm.mono s1, lss, fun H2 l ws2 xs s2 nl el hws hxs => ?_⟩
    have inx : z ∈ xs := (hxs.mem z).mpr (((order_same hws.nd ndf fun q hq => (hws.mem _).mpr (hf q hq)).map (·.2)).mem_iff.mpr mz)
    refine ⟨l, xs.map V.str, rfl, .inl (.inl (.inl el)), rfl, flat_ws xs, _, rfl, ?_⟩
    show if (!inV (.str z) (xs.map V.str)) = true then _ else _
    rw [inV_strs, decide_eq_true inx]
    exact iteF (q H2 (s1.trans s2))
/-- a dict comprehension over enumerate -/
theorem dc_en {K : PySem.W.Frag} {b : Bool} {a : Addr} {xs : List V} {g : TG} {tt : TT} {tk tv : TE} {vs : List Nat} {σ : L2.St} {H1 : Hp} {D : Addr} {Qd : Hp → Prop} (Pv : Nat → Hp → Prop) (h0 : Pv 0 (upd H1 D (.dK []))) (hl : ∀ i H, i ≤ xs.length → Pv i H → KnE.Sq K b H a xs)
    (hs : ∀ (i : Nat) (x : V) (T : Addr) (H : Hp), xs[i]? = some x → H T = none → Pv i H → g (.ref T) (wipe σ vs) (upd H T (.tup [.int (i : Nat), x])) fun σ2 H2 => wipe σ2 vs = wipe σ vs ∧ tt σ2 H2 fun c H3 =>
      if c = true then tk σ2 H3 fun y H4 => tv σ2 H4 fun z H5 => ∃ kvs k, y = kV k ∧ H5 D = some (.dK kvs) ∧ kvs.length < sizeLine ∧ Pv (i + 1) (upd H5 D (.dK (putK kvs k z))) else Pv (i + 1) H3) (hd : ∀ H, Pv xs.length H → Qd H) :
    ∃ W : Nat → Nat → Hp → Prop, (∃ m, W 0 m (upd H1 D (.dK []))) ∧ ∀ i m H, W i m H →
      ((KnE.ItN K b a).stop i H ∧ Qd H) ∨ ((KnE.ItN K b a).go i H ∧ ∃ Nx : Hp → Prop, (∀ H', Nx H' → ∃ m', m' < m ∧ W (i + 1) m' H') ∧ ∀ x H', (KnE.ItN K b a).yld i H x H' → g x (wipe σ vs) H' fun σ2 H2 => wipe σ2 vs = wipe σ vs ∧ tt σ2 H2 fun c H3 =>
        if c = true then tk σ2 H3 fun y H4 => tv σ2 H4 fun z H5 => ∃ kvs k, y = kV k ∧ H5 D = some (.dK kvs) ∧ kvs.length < sizeLine ∧ Nx (upd H5 D (.dK (putK kvs k z))) else Nx H3) := by
  refine ⟨fun i m H => m = xs.length - i ∧ i ≤ xs.length ∧ Pv i H, ⟨xs.length, rfl, Nat.zero_le _, h0⟩, fun i m H ⟨em, hi, p⟩ => ?_⟩
  have q := hl i H hi p
  rcases Nat.lt_or_eq_of_le hi with lt | e
  · refine .inr ⟨⟨xs, xs[i], q, List.getElem?_eq_getElem lt⟩, Pv (i + 1), fun H' p' => ⟨xs.length - (i + 1), by omega, rfl, lt, p'⟩, fun v H' ⟨T, x, ev, nT, eH, at_⟩ => ?_⟩
    subst ev eH
    exact hs i x T H (at_ xs q) nT p
  · subst e
    exact .inl ⟨⟨xs, q, rfl⟩, hd H p⟩
def sp_steps_of_fault (_ : PySem.W.Frag) (C : Addr) : Sp := fun vs H Q _ => ∃ (p : Addr) (s0 : Int) (ss : List KnA.Stp) (fs : List (Str × Str)) (z : Str), vs = [.ref p, .str z] ∧ MachAt C H p s0 ss fs ∧ ss.length ≤ 1000 ∧
  ∀ H' d kvs, Same H H' → H d = none → H' d = some (.dK kvs) → (∀ k, k < ss.length → (valV kvs (.inl (k : Int))).isSome = decide (look fs (wordAt ss k) = some z)) → Q (.ref d) H'
theorem ok_steps_of_fault {f : Addr} {C : Addr} {fd : FuncData} (T : Txt K mg C) (F : Fun K "steps_of_fault" "steps_of_fault" s_steps_of_fault f fd) (c_Machine_faults : KnP.Prp P w K mg base 1 C "faults" (sp_Machine_faults K C)) (c_Machine_steps : KnP.Prp P w K mg base 1 C "steps" (sp_Machine_steps K C)) : FnOk P w K mg base CX0 3 f fd ["machine", "fault"] (sp_steps_of_fault K C) := by
  have nd := sc_steps_of_fault.nd
  refine F.ok sc_steps_of_fault (fun vs H Q E h => ?_) (fun cdv A outer s H vs Q E hr h => ?_)
  · obtain ⟨p, s0, ss, fs, z, rfl, _⟩ := h
    rfl
  · obtain ⟨p, s0, ss, fs, z, rfl, hm, lss, q⟩ := h
    refine ⟨_, (pss_cons (ps_set (i := 2) nd rfl (.inr rfl) (KnP.pe_prp T.cl c_Machine_faults hr (by decide) (pv 0) (by rfl)))
      (pss_one (ps_ret (pe_dc (own := [("number", 3), ("step", 4)]) (g := gTup K 2 (gCons (gName 3) (gCons (gName 4) gNil))) rfl nd (KnE.pi_en (by rfl) T.m_enumerate (pa_cons (KnP.pe_prp T.cl c_Machine_steps hr (by decide) (pv 0) (by rfl)) pa_nil)) (blkOk_by (own := [("number", 3), ("step", 4)]) (N := ["machine", "fault", "faults", "number", "step"]) (sc := defScope s_steps_of_fault) (by decide +kernel)) (fun _ _ _ _ _ => (pg_tup (by rfl) (pgs_cons (pg_name (i := 3) nd rfl (.inl rfl)) (pgs_cons (pg_name (i := 4) nd rfl (.inl rfl)) pgs_nil)))) (fun _ _ _ _ _ => (pts_one (pt_cmpR op_eq (pe_dget1 (hu_of hr) (pv 2) (pe_ix (r := rIxT K) ix_tup (pv 4) pe_int (fun _ _ => rfl)) ⟨rfl, rfl, rfl, rfl⟩) (pv 1) (nomark _)))) (fun _ _ _ _ _ => (pv 3)) (fun _ _ _ _ _ => pe_bl))))), ?_⟩
    obtain ⟨dx, ls, lw, df, lt, as, ws, ns, mm⟩ := id hm
    refine ⟨.ref p, rfl, p, dx, _, rfl, mm.ob, p, s0, ss, fs, rfl, hm, fun H1 d ws1 s1 nd1 ed hws => ?_⟩
    refine ⟨.ref p, rfl, p, dx, _, rfl, s1 _ _ mm.ob, p, s0, ss, fs, rfl, hm.mono s1, fun H2 l as2 s2 nl el hst => ?_⟩
    have s02 := s1.trans s2
    have ed2 := s2 _ _ ed
    refine ⟨l, true, as2.map V.ref, rfl, row_sq (b := true) el, fun LD nD => ?_⟩
    refine dc_en (K := K) (b := true) (a := l) (xs := as2.map V.ref) (fun i G => Same H2 G ∧ ∃ kvs, G LD = some (.dK kvs) ∧ kvs.length ≤ i ∧ ∀ k : Nat, (valV kvs (.inl (k : Int))).isSome = (decide (k < i) && decide (look fs (wordAt ss k) = some z)))
      ⟨same_upd nD, [], upd_same, Nat.le_refl _, fun k => by simp [valV]⟩ (fun i G _ hP => row_sq (b := true) (hP.1 _ _ el)) (fun i x T G hx nT hP => ?_) (fun G hP => ?_)
    · obtain ⟨S, kvs, eD, lk, vk⟩ := hP
      obtain ⟨ai, st, rfl, gi, gst, hai⟩ := ref_get (hst.mono S) hx
      have hi : i < ss.length := (List.getElem?_eq_some_iff.mp gst).1
      have sT := same_upd (o := .tup [.int (i : Nat), .ref ai]) nT
      have S' : Same H2 (upd G T (.tup [.int (i : Nat), .ref ai])) := S.trans sT
      have eD' := sT _ _ eD
      have hai' := sT _ _ hai
      have eT : (upd G T (.tup [.int (i : Nat), .ref ai])) T = some (.tup [.int (i : Nat), .ref ai]) := upd_same
      show gTup _ _ _ _ _ (upd G T (.tup [.int (i : Nat), .ref ai])) _
      generalize upd G T (.tup [.int (i : Nat), .ref ai]) = G2 at S' eD' hai' eT ⊢
      have ew : wordAt ss i = st.2.1 := by unfold wordAt; rw [gst]
      have dg : DGet G2 d (.str st.2.1) (valV (fkv (orderF ws1 fs)) (.inr st.2.1)) := DGet.k (k := .inr st.2.1) (S' _ _ ed2)
      rw [look_val, look_order hws.nd ((hws.mem _).mpr (List.mem_map.mpr ⟨st, List.mem_of_getElem? gst, rfl⟩))] at dg
      have step : ∀ c : Bool, c = decide (look fs st.2.1 = some z) → ∀ k : Nat, (if c = true then (if (Sum.inl (k : Int) : Key) = Sum.inl (i : Int) then true else (valV kvs (.inl (k : Int))).isSome) else (valV kvs (.inl (k : Int))).isSome) = (decide (k < i + 1) && decide (look fs (wordAt ss k) = some z)) := fun c hc k => by
        by_cases e : k = i
        · subst e
          rw [ew, ← hc, vk k]
          cases c <;> simp
        · have ne : ¬ (Sum.inl (k : Int) : Key) = Sum.inl (i : Int) := fun t => e (by have := Sum.inl.inj t; omega)
          rw [if_neg ne, vk k]
          have : decide (k < i + 1) = decide (k < i) := by
            by_cases h : k < i
            · rw [decide_eq_true h, decide_eq_true (by omega)]
            · rw [decide_eq_false h, decide_eq_false (by omega)]
          rw [this]
          cases c <;> rfl
      refine ⟨T, [.int (i : Nat), .ref ai], rfl, .inl (.inl eT), rfl, .int (i : Nat), [.ref ai], rfl, .ref ai, [], rfl, rfl, rfl, ?_⟩
      refine ⟨.ref d, rfl, d, rfl, .inl ⟨_, .inl (S' _ _ ed2)⟩, .ref ai, rfl, ai, [.int st.1, .str st.2.1, .int st.2.2], 1, .str st.2.1, rfl, rfl, .inl (.inl hai'), atI_nat (j := 1) rfl, _, dg, .str z, rfl, ?_⟩
      have goal : ∀ c : Bool, c = decide (look fs st.2.1 = some z) → c = true → ∃ kvs2 k, V.int (i : Nat) = kV k ∧ G2 LD = some (.dK kvs2) ∧ kvs2.length < sizeLine ∧ Same H2 (upd G2 LD (.dK (putK kvs2 k (.bl true)))) ∧ ∃ kvs, (upd G2 LD (.dK (putK kvs2 k (.bl true)))) LD = some (.dK kvs) ∧ kvs.length ≤ i + 1 ∧ ∀ k : Nat, (valV kvs (.inl (k : Int))).isSome = (decide (k < i + 1) && decide (look fs (wordAt ss k) = some z)) := fun c hc ct => by
        refine ⟨kvs, .inl (i : Int), rfl, eD', small (by omega), same_set nD S', _, upd_same, Nat.le_trans (length_putK _ _ _) (by omega), fun k => ?_⟩
        rw [valV_put, ← step c hc k, if_pos ct]
        by_cases e : (Sum.inl (k : Int) : Key) = Sum.inl (i : Int)
        · rw [if_pos e, if_pos e]; rfl
        · rw [if_neg e, if_neg e]
      have stay : ∀ c : Bool, c = decide (look fs st.2.1 = some z) → ¬ c = true → Same H2 G2 ∧ ∃ kvs, G2 LD = some (.dK kvs) ∧ kvs.length ≤ i + 1 ∧ ∀ k : Nat, (valV kvs (.inl (k : Int))).isSome = (decide (k < i + 1) && decide (look fs (wordAt ss k) = some z)) := fun c hc ct =>
        ⟨S', kvs, eD', by omega, fun k => by rw [← step c hc k, if_neg ct]⟩
      cases h : look fs st.2.1 with
      | none =>
        rw [h] at goal stay
        exact ⟨rfl, _, rfl, iteF (stay false (by simp) (by simp))⟩
      | some y =>
        rw [h] at goal stay
        refine ⟨rfl, _, rfl, ite2 (fun c => ?_) (fun c => ?_)⟩
        · have e : y = z := V.str.inj (of_decide_eq_true c)
          exact ⟨.int (i : Nat), rfl, goal true (by rw [e]; exact (decide_eq_true rfl).symm) rfl⟩
        · have e : ¬ y = z := fun t => c (decide_eq_true (show V.str y = V.str z by rw [t]))
          exact stay false (by rw [decide_eq_false (fun t => e (Option.some.inj t))]) (by simp)
    · obtain ⟨S, kvs, eD, lk, vk⟩ := hP
      have lst : (as2.map V.ref).length = ss.length := by rw [List.length_map, hst.length]
      rw [lst] at vk
      exact q G LD kvs (s02.trans S) (s02.free nD) eD fun k hk => by rw [vk k, decide_eq_true hk, Bool.true_and]

/-! ### which states can go on without the fault -/
def gon (ok : KnA.Stp → Bool) (ss : List KnA.Stp) (kept : List Int) (s : Int) : Bool := ss.any fun x => decide (x.1 = s) && ok x && decide (x.2.2 ∈ kept)
def thin (ok : KnA.Stp → Bool) (ss : List KnA.Stp) (kept : List Int) : List Int := kept.filter (gon ok ss kept)
def thins (ok : KnA.Stp → Bool) (ss : List KnA.Stp) (ns : List Int) : Nat → List Int
  | 0 => ns
  | n + 1 => thin ok ss (thins ok ss ns n)
theorem thin_sub (ok : KnA.Stp → Bool) (ss : List KnA.Stp) (k : List Int) : (thin ok ss k).Sublist k := List.filter_sublist
theorem thins_sub (ok : KnA.Stp → Bool) (ss : List KnA.Stp) (ns : List Int) : ∀ n, (thins ok ss ns n).Sublist ns
  | 0 => List.Sublist.refl _
  | n + 1 => (thin_sub ok ss _).trans (thins_sub ok ss ns n)
theorem thins_stay {ok : KnA.Stp → Bool} {ss : List KnA.Stp} {ns : List Int} {j : Nat} (h : (thin ok ss (thins ok ss ns j)).length = (thins ok ss ns j).length) : ∀ d, thins ok ss ns (j + d) = thins ok ss ns j
  | 0 => rfl
  | d + 1 => by
    show thin ok ss (thins ok ss ns (j + d)) = _
    rw [thins_stay h d]
    exact (thin_sub ok ss _).eq_of_length h
def tg (ok : KnA.Stp → Bool) (ss : List KnA.Stp) (s : Int) : List Int := (ss.filter fun x => decide (x.1 = s) && ok x).map (·.2.2)
theorem gon_tg (ok : KnA.Stp → Bool) (ss : List KnA.Stp) (kept : List Int) (s : Int) : gon ok ss kept s = (tg ok ss s).any fun y => decide (y ∈ kept) := by
  unfold gon tg
  induction ss with
  | nil => rfl
  | cons x r ih =>
    rw [List.any_cons, ih]
    cases h : (decide (x.1 = s) && ok x) with
    | false => rw [List.filter_cons_of_neg (p := fun x : KnA.Stp => decide (x.1 = s) && ok x) (by rw [h]; decide), Bool.false_and, Bool.false_or]
    | true => rw [List.filter_cons_of_pos (p := fun x : KnA.Stp => decide (x.1 = s) && ok x) h, List.map_cons, List.any_cons, Bool.true_and]
theorem tg_take {ok : KnA.Stp → Bool} {ss : List KnA.Stp} {i : Nat} {x : KnA.Stp} (h : ss[i]? = some x) (s : Int) : tg ok (ss.take (i + 1)) s = tg ok (ss.take i) s ++ if (decide (x.1 = s) && ok x) = true then [x.2.2] else [] := by
  unfold tg
  rw [take_more h, List.filter_append, List.map_append]
  congr 1
  cases e : (decide (x.1 = s) && ok x) with
  | false => rw [List.filter_cons_of_neg (p := fun x : KnA.Stp => decide (x.1 = s) && ok x) (by rw [e]; decide)]; rfl
  | true => rw [List.filter_cons_of_pos (p := fun x : KnA.Stp => decide (x.1 = s) && ok x) e]; rfl
def okF (fs : List (Str × Str)) (z : Str) (x : KnA.Stp) : Bool := !decide (look fs x.2.1 = some z)
abbrev tupN (m : Int × Int) : HO := .tup [.int m.1, .int m.2]
def Prs (H : Hp) (as : List Addr) (ms : List (Int × Int)) : Prop := Paired (fun a m => H a = some (tupN m)) as ms
theorem Prs.mono {H H' : Hp} {as : List Addr} {ms : List (Int × Int)} (h : Prs H as ms) (s : Same H H') : Prs H' as ms := Paired.mapP h fun _ _ e => s _ _ e
theorem Prs.set {H : Hp} {as : List Addr} {ms : List (Int × Int)} {l : Addr} {o o' : HO} (h : Prs H as ms) (e : H l = some o) (no : ∀ xs, o ≠ .tup xs) : Prs (upd H l o') as ms :=
  Paired.mapP h fun _ _ q => (upd_ne (fun z => by rw [z, e] at q; exact no _ (Option.some.inj q))).trans q
/-- for each state the list of its steps that are left -/
structure Frees (H G : Hp) (f : Addr) (kvs : List (Key × V)) (ns : List Int) (t : Int → List Int) : Prop where
  at_ : G f = some (.dK kvs)
  len : kvs.length ≤ ns.length
  dom : ∀ s, (valV kvs (.inl s)).isSome = decide (s ∈ ns)
  yes : ∀ s ∈ ns, ∃ l as ms, valV kvs (.inl s) = some (.ref l) ∧ H l = none ∧ G l = some (.lst (as.map V.ref)) ∧ Prs G as ms ∧ ms.map (·.2) = t s
  apart : ∀ s u : Int, ∀ l, valV kvs (.inl s) = some (.ref l) → valV kvs (.inl u) = some (.ref l) → s = u
def Free (ok : KnA.Stp → Bool) (H : Hp) (f : Addr) (ss : List KnA.Stp) (ns : List Int) : Prop := ∃ kvs, H f = some (.dK kvs) ∧ ∀ s ∈ ns, ∃ l as ms, valV kvs (.inl s) = some (.ref l) ∧ H l = some (.lst (as.map V.ref)) ∧ Prs H as ms ∧ ms.map (·.2) = tg ok ss s
theorem Free.mono {ok : KnA.Stp → Bool} {H H' : Hp} {f : Addr} {ss : List KnA.Stp} {ns : List Int} (h : Free ok H f ss ns) (s : Same H H') : Free ok H' f ss ns := by
  obtain ⟨kvs, e, h⟩ := h
  refine ⟨kvs, s _ _ e, fun x hx => ?_⟩
  obtain ⟨l, as, ms, a, b, c, d⟩ := h x hx
  exact ⟨l, as, ms, a, s _ _ b, c.mono s, d⟩
theorem Frees.same {H G G' : Hp} {f : Addr} {kvs : List (Key × V)} {ns : List Int} {t : Int → List Int} (F : Frees H G f kvs ns t) (s : Same G G') : Frees H G' f kvs ns t :=
  ⟨s _ _ F.at_, F.len, F.dom, fun x hx => let ⟨l, as, ms, a, b, c, d, e⟩ := F.yes x hx; ⟨l, as, ms, a, b, s _ _ c, d.mono s, e⟩, F.apart⟩
/-- one cell that is neither the dict nor a list of it -/
theorem Frees.set {H G : Hp} {f b : Addr} {kvs : List (Key × V)} {ns : List Int} {t : Int → List Int} {o o' : HO} (F : Frees H G f kvs ns t) (nf : b ≠ f) (e : G b = some o) (no : ∀ xs, o ≠ .tup xs) (nl : ∀ xs, o ≠ .lst xs) : Frees H (upd G b o') f kvs ns t :=
  ⟨(upd_ne nf.symm).trans F.at_, F.len, F.dom, fun x hx => let ⟨l, as, ms, h1, h2, h3, h4, h5⟩ := F.yes x hx
    ⟨l, as, ms, h1, h2, (upd_ne (fun z => by rw [z, e] at h3; exact nl _ (Option.some.inj h3))).trans h3, h4.set e no, h5⟩, F.apart⟩
theorem Frees.add {H G : Hp} {f l : Addr} {kvs : List (Key × V)} {ns : List Int} {s : Int} (F : Frees H G f kvs ns (fun _ => [])) (S : Same H G) (hs : s ∉ ns) (nl : G l = none) : Frees H (upd (upd G l (.lst [])) f (.dK (putK kvs (.inl s) (.ref l)))) f (putK kvs (.inl s) (.ref l)) (ns ++ [s]) (fun _ => []) := by
  have nfl : f ≠ l := ne_of_none F.at_ nl
  have hv : valV kvs (.inl s) = none := by
    have := F.dom s
    rw [decide_eq_false hs] at this
    cases e : valV kvs (.inl s) with
    | none => rfl
    | some v => rw [e] at this; cases this
  have nol : ∀ u : Int, valV kvs (.inl u) = some (.ref l) → False := fun u q => by
    have hu : u ∈ ns := by
      have := F.dom u
      rw [q] at this
      exact of_decide_eq_true this.symm
    obtain ⟨l', _, _, q', _, q2, _⟩ := F.yes u hu
    rw [q] at q'
    cases q'
    rw [nl] at q2
    cases q2
  refine ⟨upd_same, ?_, fun u => ?_, fun u hu => ?_, fun u u' l' h1 h2 => ?_⟩
  · have := length_putK kvs (.inl s : Key) (.ref l)
    have := F.len
    rw [List.length_append]
    show _ ≤ _ + 1
    omega
  · rw [valV_put]
    by_cases e : u = s
    · rw [if_pos (congrArg Sum.inl e), e]; simp
    · rw [if_neg fun z => e (Sum.inl.inj z), F.dom]
      simp [e]
  · rw [valV_put]
    by_cases e : u = s
    · subst e
      exact ⟨l, [], [], if_pos rfl, S.free nl, (upd_ne nfl.symm).trans upd_same, .nil, rfl⟩
    · have hu' : u ∈ ns := by
        rcases List.mem_append.mp hu with h | h
        · exact h
        · exact (e (List.mem_singleton.mp h)).elim
      obtain ⟨l', as, ms, h1, h2, h3, h4, h5⟩ := F.yes u hu'
      have ne1 : l' ≠ l := ne_of_none h3 nl
      have ne2 : l' ≠ f := ne_of h3 F.at_ (fun z => by cases z)
      refine ⟨l', as, ms, by rw [if_neg fun z => e (Sum.inl.inj z)]; exact h1, h2, (upd_ne ne2).trans ((upd_ne ne1).trans h3), ?_, h5⟩
      exact (h4.mono (same_upd nl)).set ((upd_ne nfl).trans F.at_) (fun _ z => by cases z)
  · rw [valV_put] at h1 h2
    by_cases e1 : u = s
    · by_cases e2 : u' = s
      · rw [e1, e2]
      · rw [if_pos (congrArg Sum.inl e1)] at h1
        rw [if_neg fun z => e2 (Sum.inl.inj z)] at h2
        cases h1
        exact (nol u' h2).elim
    · rw [if_neg fun z => e1 (Sum.inl.inj z)] at h1
      by_cases e2 : u' = s
      · rw [if_pos (congrArg Sum.inl e2)] at h2
        cases h2
        exact (nol u h1).elim
      · rw [if_neg fun z => e2 (Sum.inl.inj z)] at h2
        exact F.apart u u' l' h1 h2
theorem Frees.push {H G : Hp} {f l T : Addr} {kvs : List (Key × V)} {ns : List Int} {t t' : Int → List Int} {as : List Addr} {ms : List (Int × Int)} {s : Int} {m : Int × Int} (F : Frees H G f kvs ns t) (hv : valV kvs (.inl s) = some (.ref l)) (hl : G l = some (.lst (as.map V.ref))) (hm : Prs G as ms) (em : ms.map (·.2) = t s)
    (nT : G T = none) (e1 : t' s = t s ++ [m.2]) (e2 : ∀ u, u ≠ s → t' u = t u) : Frees H (upd (upd G T (tupN m)) l (.lst (as.map V.ref ++ [.ref T]))) f kvs ns t' := by
  have nfl : f ≠ l := ne_of F.at_ hl (fun z => by cases z)
  have sT := same_upd (o := tupN m) nT
  have hl1 := sT _ _ hl
  have F1 := F.same sT
  have hsn : s ∈ ns := by
    have := F.dom s
    rw [hv] at this
    exact of_decide_eq_true this.symm
  have hn : H l = none := by
    obtain ⟨l', _, _, q, h, _⟩ := F.yes s hsn
    rw [hv] at q
    cases q
    exact h
  refine ⟨(upd_ne nfl).trans F1.at_, F.len, F.dom, fun u hu => ?_, F.apart⟩
  by_cases e : u = s
  · subst e
    refine ⟨l, as ++ [T], ms ++ [m], hv, hn, by rw [upd_same, List.map_append]; rfl, ?_, by rw [List.map_append, em, e1]; rfl⟩
    exact ((hm.mono sT).set hl1 (fun _ z => by cases z)).snoc ((upd_ne (ne_of_none hl nT).symm).trans upd_same)
  · obtain ⟨l', as', ms', h1, h2, h3, h4, h5⟩ := F1.yes u hu
    have ne : l' ≠ l := fun z => e (F.apart u s l (z ▸ h1) hv)
    exact ⟨l', as', ms', h1, h2, (upd_ne ne).trans h3, h4.set hl1 (fun _ z => by cases z), by rw [h5, e2 u e]⟩
theorem tg_len (ok : KnA.Stp → Bool) (ss : List KnA.Stp) (s : Int) : (tg ok ss s).length ≤ ss.length := by
  unfold tg
  rw [List.length_map]
  exact List.length_filter_le _ _
theorem Frees.congr {H G : Hp} {f : Addr} {kvs : List (Key × V)} {ns : List Int} {t t' : Int → List Int} (F : Frees H G f kvs ns t) (h : ∀ s ∈ ns, t' s = t s) : Frees H G f kvs ns t' :=
  ⟨F.at_, F.len, F.dom, fun x hx => let ⟨l, as, ms, h1, h2, h3, h4, h5⟩ := F.yes x hx; ⟨l, as, ms, h1, h2, h3, h4, h5.trans (h x hx).symm⟩, F.apart⟩
def sp_steps_by_state (_ : PySem.W.Frag) (C : Addr) : Sp := fun vs H Q _ => ∃ (p : Addr) (s0 : Int) (ss : List KnA.Stp) (fs : List (Str × Str)) (z : Str) (ns : List Int), vs = [.ref p, .str z] ∧ MachAt C H p s0 ss fs ∧ ss.length ≤ 1000 ∧ KnA.States ns ss s0 ∧ ns.length ≤ 100 ∧
  ∀ H' t f b, Same H H' → H' t = some (.tup [.ref f, .ref b]) → Free (okF fs z) H' f ss ns → Q (.ref t) H'
theorem states_nd {ns : List Int} {ss : List KnA.Stp} {s0 : Int} (h : KnA.States ns ss s0) : ns.Nodup := h.up.imp fun h e => by omega
theorem ok_steps_by_state {f : Addr} {C : Addr} {fd : FuncData} (T : Txt K mg C) (F : Fun K "steps_by_state" "steps_by_state" s_steps_by_state f fd) (c_Machine_states : KnP.Prp P w K mg base 1 C "states" (sp_Machine_states K C)) (c_steps_of_fault : Cal P w K mg base 3 "steps_of_fault" (sp_steps_of_fault K C) []) (c_Machine_steps : KnP.Prp P w K mg base 1 C "steps" (sp_Machine_steps K C)) : FnOk P w K mg base CX0 4 f fd ["machine", "fault"] (sp_steps_by_state K C) := by
  have nd := sc_steps_by_state.nd
  refine F.ok sc_steps_by_state (fun vs H Q E h => ?_) (fun cdv A outer s H vs Q E hr h => ?_)
  · obtain ⟨p, s0, ss, fs, z, ns, rfl, _⟩ := h
    rfl
  · obtain ⟨p, s0, ss, fs, z, ns, rfl, hm, lss, hns, lns, q⟩ := h
    refine ⟨_, (pss_cons (KnDc.ps_setDc (i := 2) (own := [("state", 9)]) (g := gName 9) (tt := tYes) rfl nd rfl rfl (KnDc.swD rfl rfl rfl (by decide +kernel)) (pi_list (KnP.pe_prp T.cl c_Machine_states hr (by decide) (pv 0) (by rfl))) (blkOk_by (own := [("state", 9)]) (N := ["machine", "fault", "free", "breaking", "of_fault", "number", "source", "word", "target", "state"]) (sc := defScope s_steps_by_state) (by decide +kernel)) (fun _ _ _ _ _ => (pg_name (i := 9) nd rfl (.inl rfl))) (fun _ _ _ _ _ => pts_nil) (fun _ _ _ _ _ => (pv 9)) (fun _ _ _ _ _ => (pe_lst pa_nil)))
      (pss_cons (ps_set (i := 3) nd rfl (.inl rfl) pe_dnewK)
      (pss_cons (ps_set (i := 4) nd rfl (.inl rfl) (pe_c c_steps_of_fault hr (by omega) (by rfl) (pa_cons (pv 0) (pa_cons (pv 1) pa_nil))))
      (pss_cons (ps_for PassesOwn.never rfl (KnE.pi_en (by rfl) T.m_enumerate (pa_cons (KnP.pe_prp T.cl c_Machine_steps hr (by decide) (pv 0) (by rfl)) pa_nil)) (pg_tup (by rfl) (pgs_cons (pg_name (i := 5) nd rfl (.inl rfl)) (pgs_cons (pg_tup (by rfl) (pgs_cons (pg_name (i := 6) nd rfl (.inl rfl)) (pgs_cons (pg_name (i := 7) nd rfl (.inl rfl)) (pgs_cons (pg_name (i := 8) nd rfl (.inl rfl)) pgs_nil)))) pgs_nil))) (pss_one (ps_if (PW.pt (pw_and (pt_cmp (pc_din (hu_of hr) (pv 6) (pv 2))) (pw_and1 (pt_cmp (pc_dnotin (hu_of hr) (pv 5) (pv 4)))))) (pss_one (ps_expr (pe_bm PySem.F.plainAttrs_list PySem.F.slot_list_append PySem.F.type_list_append mt_append (pe_dget (hu_of hr) (pv 2) (pv 6) (fun _ _ => rfl)) (pa_cons (pe_tup (pa_cons (pv 5) (pa_cons (pv 8) pa_nil))) pa_nil)))) (pss_one (ps_if (pt_cmp (pc_din (hu_of hr) (pv 6) (pv 2))) (pss_one (ps_dput (hu_of hr) (pv 3) (pv 6) pe_bl rfl)) pss_nil)))))
      (pss_one (ps_ret (pe_tup (pa_cons (pv 2) (pa_cons (pv 3) pa_nil))))))))), ?_⟩
    obtain ⟨dx, ls, lw, df, lt, as, ws, ns0, mm⟩ := id hm
    have ndn := states_nd hns
    refine ⟨.ref p, rfl, p, dx, _, rfl, mm.ob, p, s0, ss, fs, rfl, hm, fun H1 l1 ns1 s1 n1 e1 hns1 => ?_⟩
    rw [hns1.uniq hns] at e1
    refine ⟨l1, rfl, ⟨_, .inl (.inl e1)⟩, fun D nD => ?_⟩
    refine KnC.dc_list (K := K) (xs := ns.map V.int) (fun i G => Same H1 G ∧ ∃ kvs, Frees H1 G D kvs (ns.take i) (fun _ => []))
      ⟨same_upd nD, [], upd_same, Nat.zero_le _, fun s => by simp [valV], fun s hs => (by simp at hs), fun s u l h => by cases h⟩ (fun i G _ hP => .inl (.inl (hP.1 _ _ e1))) (fun i x G hx hP => ?_) (fun G hP => ?_)
    · obtain ⟨S, kvs, F⟩ := hP
      rw [List.getElem?_map] at hx
      cases gx : ns[i]? with
      | none => rw [gx] at hx; cases hx
      | some s =>
      rw [gx] at hx
      cases hx
      have hi : i < ns.length := (List.getElem?_eq_some_iff.mp gx).1
      have lk := F.len
      rw [List.length_take] at lk
      have hs : s ∉ ns.take i := fun h => by
        obtain ⟨j, hj, e⟩ := List.mem_iff_getElem.mp h
        rw [List.getElem_take] at e
        rw [List.length_take] at hj
        have := (List.getElem_inj ndn).mp (e.trans (List.getElem?_eq_some_iff.mp gx).2.symm)
        omega
      refine ⟨rfl, ?_⟩
      unfold tYes
      refine iteT ⟨.int s, rfl, szl rfl, fun l nl => ⟨kvs, .inl s, rfl, (upd_ne (ne_of_none F.at_ nl)).trans F.at_, small (by omega), same_set nD (S.trans (same_upd nl)), putK kvs (.inl s) (.ref l), ?_⟩⟩
      rw [take_more gx]
      exact F.add S hs nl
    · obtain ⟨S, kvs, F⟩ := hP
      rw [List.length_map, List.take_length] at F
      refine fun b nb => ?_
      have sb := same_upd (o := .dK []) nb
      have F0 : Frees H1 (upd G b (.dK [])) D kvs ns (tg (okF fs z) (ss.take 0)) := F.same sb
      have nDb : b ≠ D := (ne_of_none F.at_ nb).symm
      have S0 : Same H1 (upd G b (.dK [])) := S.trans sb
      have eb : (upd G b (.dK [])) b = some (.dK []) := upd_same
      generalize upd G b (.dK []) = G1 at F0 S0 eb ⊢
      have nb1 : H1 b = none := S.free nb
      have hm1 := hm.mono (s1.trans S0)
      refine ⟨.ref p, rfl, .str z, rfl, p, s0, ss, fs, z, rfl, hm1, lss, fun H2 d dk s2 nd1 ed hdk => ?_⟩
      refine ⟨.ref p, rfl, p, dx, _, rfl, s2 _ _ ((s1.trans S0) _ _ mm.ob), p, s0, ss, fs, rfl, hm1.mono s2, fun H3 l as3 s3 nl el hst => ?_⟩
      have S3 : Same H1 H3 := S0.trans (s2.trans s3)
      refine ⟨l, true, as3.map V.ref, rfl, row_sq (b := true) el, ?_⟩
      have nbd : b ≠ d := ne_of_none eb nd1
      have hnl : ∀ u lx, valV kvs (.inl u) = some (.ref lx) → lx ≠ l := fun u lx e => by
        have hu : u ∈ ns := by
          have := F0.dom u
          rw [e] at this
          exact of_decide_eq_true this.symm
        obtain ⟨l', _, _, h1, _, h3, _⟩ := (F0.same s2).yes u hu
        rw [e] at h1
        cases h1
        exact ne_of_none h3 nl
      refine KnE.for_en (K := K) (b := true) (a := l) (xs := as3.map V.ref) (fun i σ G => ∃ (y5 y6 y7 y8 y9 : Option V) (kb : List (Key × V)), σ = [some (.ref p), some (.str z), some (.ref D), some (.ref b), some (.ref d), y5, y6, y7, y8, y9] ∧ Same H1 G ∧ Frees H1 G D kvs ns (tg (okF fs z) (ss.take i)) ∧ G b = some (.dK kb) ∧ kb.length ≤ i ∧ G d = some (.dK dk) ∧ G l = some (.lst (as3.map V.ref)) ∧ Stps G as3 ss)
        ⟨_, _, _, _, _, [], rfl, S3, F0.same (s2.trans s3), (s2.trans s3) _ _ eb, Nat.le_refl _, s3 _ _ ed, el, hst⟩ (fun i σ G _ hP => ?_) (fun i x T σ G hx nT hP => ?_) (fun σ G hP => ?_)
      · obtain ⟨_, _, _, _, _, _, _, _, _, _, _, _, h, _⟩ := hP
        exact row_sq (b := true) h
      · obtain ⟨y5, y6, y7, y8, y9, kb, rfl, S, F, eb, lkb, ed, el, hst⟩ := hP
        obtain ⟨ai, st, rfl, gi, g, hai⟩ := ref_get hst hx
        have hi : i < ss.length := (List.getElem?_eq_some_iff.mp g).1
        have sT := same_upd (o := .tup [.int (i : Nat), .ref ai]) nT
        have S' : Same H1 (upd G T (.tup [.int (i : Nat), .ref ai])) := S.trans sT
        have F' := F.same sT
        have eb' := sT _ _ eb
        have ed' := sT _ _ ed
        have el' := sT _ _ el
        have hai' := sT _ _ hai
        have hst' := hst.mono sT
        have eT : (upd G T (.tup [.int (i : Nat), .ref ai])) T = some (.tup [.int (i : Nat), .ref ai]) := upd_same
        show gTup _ _ _ _ _ (upd G T (.tup [.int (i : Nat), .ref ai])) _
        generalize upd G T (.tup [.int (i : Nat), .ref ai]) = G2 at S' F' eb' ed' el' hai' hst' eT ⊢
        have ew : wordAt ss i = st.2.1 := by unfold wordAt; rw [g]
        refine ⟨T, [.int (i : Nat), .ref ai], rfl, .inl (.inl eT), rfl, .int (i : Nat), [.ref ai], rfl, .ref ai, [], rfl, ?_⟩
        refine ⟨ai, _, rfl, .inl (.inl hai'), rfl, .int st.1, _, rfl, .str st.2.1, _, rfl, .int st.2.2, [], rfl, rfl, rfl, ?_⟩
        refine ⟨.int st.1, rfl, .ref D, rfl, D, valV kvs (.inl st.1), rfl, DGet.k (k := .inl st.1) F'.at_, _, rfl, ?_⟩
        have tk := fun u => tg_take (ok := okF fs z) g u
        have dm := F'.dom st.1
        rw [dm]
        have eok : okF fs z st = !(valV dk (.inl (i : Int))).isSome := by
          unfold okF
          rw [hdk i hi, ew]
        by_cases hs : st.1 ∈ ns
        · rw [decide_eq_true hs]
          refine iteT ⟨.int (i : Nat), rfl, .ref d, rfl, d, valV dk (.inl (i : Int)), rfl, DGet.k (k := .inl (i : Int)) ed', _, rfl, ?_⟩
          rw [← eok]
          by_cases ho : okF fs z st = true
          · rw [ho]
            obtain ⟨lq, aq, mq, v1, v2, v3, v4, v5⟩ := F'.yes st.1 hs
            have lq1 : mq.length ≤ i := by
              have h1 := congrArg List.length v5
              have h2 := tg_len (okF fs z) (ss.take i) st.1
              rw [List.length_map] at h1
              rw [List.length_take] at h2
              omega
            have lq2 : aq.length = mq.length := v4.length
            refine iteT ⟨.ref D, rfl, .int st.1, rfl, D, .ref lq, rfl, v1 ▸ DGet.k (k := .inl st.1) F'.at_, .inl ⟨rfl, _, .inl (.inl v3)⟩, .int (i : Nat), rfl, .int st.2.2, rfl, szl rfl, fun U nU => ⟨lq, aq.map V.ref, .ref U, rfl, rfl, (same_upd nU) _ _ v3, small (by rw [List.length_map]; omega), ?_⟩⟩
            have sU := same_upd (o := tupN ((i : Int), st.2.2)) nU
            have el2 := sU _ _ v3
            have nbl : b ≠ lq := ne_of eb' v3 (fun q => by cases q)
            have ndl : d ≠ lq := ne_of ed' v3 (fun q => by cases q)
            have nll : l ≠ lq := (hnl st.1 lq v1).symm
            refine ⟨_, _, _, _, _, kb, rfl, same_set v2 (S'.trans sU), F'.push (t' := tg (okF fs z) (ss.take (i + 1))) (m := ((i : Int), st.2.2)) v1 v3 v4 v5 nU (by rw [tk, if_pos (by rw [decide_eq_true rfl, ho]; rfl)]) (fun u hu => by rw [tk, if_neg (by rw [decide_eq_false (fun e : st.1 = u => hu e.symm)]; exact Bool.false_ne_true), List.append_nil]), (upd_ne nbl).trans (sU _ _ eb'), by omega, (upd_ne ndl).trans (sU _ _ ed'), (upd_ne nll).trans (sU _ _ el'), stps_set (hst'.mono sU) el2 (fun _ q => by cases q)⟩
          · rw [Bool.eq_false_iff.mpr ho]
            refine iteF ⟨.int st.1, rfl, .ref D, rfl, D, valV kvs (.inl st.1), rfl, DGet.k (k := .inl st.1) F'.at_, _, rfl, ?_⟩
            rw [dm, decide_eq_true hs]
            refine iteT ⟨.ref b, rfl, .int st.1, rfl, b, _, rfl, DPut.k (k := .inl st.1) eb' (small (by omega)), ?_⟩
            have nbl : l ≠ b := ne_of el' eb' (fun q => by cases q)
            have lk := length_putK kb (.inl st.1 : Key) (.bl true)
            exact ⟨_, _, _, _, _, _, rfl, same_set nb1 S', (F'.set nDb eb' (fun _ q => by cases q) (fun _ q => by cases q)).congr (fun u _ => by rw [tk, if_neg (by rw [Bool.eq_false_iff.mpr ho, Bool.and_false]; decide), List.append_nil]), upd_same, by omega, (upd_ne nbd.symm).trans ed', (upd_ne nbl).trans el', stps_set hst' eb' (fun _ q => by cases q)⟩
        · rw [decide_eq_false hs]
          refine iteF ⟨.int st.1, rfl, .ref D, rfl, D, valV kvs (.inl st.1), rfl, DGet.k (k := .inl st.1) F'.at_, _, rfl, ?_⟩
          rw [dm, decide_eq_false hs]
          refine iteF ⟨_, _, _, _, _, kb, rfl, S', F'.congr (fun u hu => by rw [tk, if_neg (by rw [decide_eq_false (fun e : st.1 = u => hs (by rw [e]; exact hu))]; exact Bool.false_ne_true), List.append_nil]), eb', by omega, ed', el', hst'⟩
      · obtain ⟨y5, y6, y7, y8, y9, kb, rfl, S, F, eb, lkb, ed, el, hst⟩ := hP
        rw [List.length_map, hst.length, List.take_length] at F
        refine ⟨.ref D, rfl, .ref b, rfl, szl rfl, fun t nt => ?_⟩
        have st := same_upd (o := .tup [.ref D, .ref b]) nt
        have Ft := F.same st
        exact q _ t D b (s1.trans (S.trans st)) upd_same ⟨kvs, Ft.at_, fun s hs => let ⟨l, as, ms, h1, _, h3, h4, h5⟩ := Ft.yes s hs; ⟨l, as, ms, h1, h3, h4, h5⟩⟩

end
end Kn

set_option Elab.async false
set_option linter.all false
set_option maxRecDepth 100000
set_option maxHeartbeats 4000000
namespace Kn
open PySem PySem.Spec PyProof.Rows L2
open C8 (Cal pe_c pe_gc Mak pe_mk)
section
variable {P : Program} {w : World} {K : PySem.W.Frag} {mg : Str → Option Value} {base : Heap}
/-! ### safe_steps, avoiding -/
/-- what a walk over the keys of a dict asks -/
theorem for_keys {d : Addr} {o : Obj} {kvs : List (Key × V)} {g : TG} {tb : TS} {D : Ends} {σ : L2.St} {H : Hp} (Pv : Nat → L2.St → Hp → Prop) (h0 : Pv 0 σ H) (hl : ∀ i σ H, i ≤ kvs.length → Pv i σ H → H d = some (.frz o (.dK kvs)))
    (hs : ∀ (i : Nat) (k : Key) (v : V) (σ : L2.St) (H : Hp), kvs[i]? = some (k, v) → Pv i σ H → g (kV k) σ H fun σ2 H2 => tb { D with nx := Pv (i + 1), ct := Pv (i + 1), bk := D.nx } σ2 H2) (hd : ∀ σ H, Pv kvs.length σ H → D.nx σ H) :
    ∃ W : Nat → Nat → L2.St → Hp → Prop, (∃ m, W 0 m σ H) ∧ ∀ i m σ H, W i m σ H →
      ((Itk d o kvs).stop i H ∧ D.nx σ H) ∨ ((Itk d o kvs).go i H ∧ ∃ N : L2.St → Hp → Prop, (∀ σ' H', N σ' H' → ∃ m', m' < m ∧ W (i + 1) m' σ' H') ∧ ∀ x H', (Itk d o kvs).yld i H x H' → g x σ H' fun σ2 H2 => tb { D with nx := N, ct := N, bk := D.nx } σ2 H2) := by
  refine ⟨fun i m σ H => m = kvs.length - i ∧ i ≤ kvs.length ∧ Pv i σ H, ⟨kvs.length, rfl, Nat.zero_le _, h0⟩, fun i m σ H ⟨em, hi, p⟩ => ?_⟩
  have q := hl i σ H hi p
  rcases Nat.lt_or_eq_of_le hi with lt | e
  · refine .inr ⟨⟨q, lt⟩, Pv (i + 1), fun σ' H' p' => ⟨kvs.length - (i + 1), by omega, rfl, lt, p'⟩, fun v H' ⟨eH, k, u, ek, ev⟩ => ?_⟩
    subst ev eH
    exact hs i k u σ _ ek p
  · subst e
    exact .inl ⟨⟨q, Nat.le_refl _⟩, hd σ H p⟩
/-- a dict with these ints as its keys -/
def keysI (kvs : List (Key × V)) (ns : List Int) : Prop := kvs.map (·.1) = ns.map Sum.inl
theorem any_inl (ns : List Int) (x : Int) : ((ns.map Sum.inl : List Key).any fun k => decide (k = (Sum.inl x : Key))) = decide (x ∈ ns) := by
  induction ns with
  | nil => rfl
  | cons y r ih =>
    rw [List.map_cons, List.any_cons, ih]
    by_cases e : y = x
    · subst e; simp
    · have e' : ¬ x = y := fun q => e q.symm
      simp [e, e']
theorem keysI.has {kvs : List (Key × V)} {ns : List Int} (h : keysI kvs ns) (x : Int) : (valV kvs (.inl x)).isSome = decide (x ∈ ns) := by
  rw [← valV_any]
  have e : (kvs.any fun kv => decide (kv.1 = (Sum.inl x : Key))) = (kvs.map (·.1)).any fun k => decide (k = (Sum.inl x : Key)) := by rw [List.any_map]; rfl
  rw [e, h]
  exact any_inl ns x
theorem keysI.len {kvs : List (Key × V)} {ns : List Int} (h : keysI kvs ns) : kvs.length = ns.length := by
  have := congrArg List.length h
  rwa [List.length_map, List.length_map] at this
theorem keysI.put {kvs : List (Key × V)} {ns : List Int} (h : keysI kvs ns) {x : Int} (hx : x ∉ ns) (v : V) : keysI (putK kvs (.inl x) v) (ns ++ [x]) := by
  have e : valV kvs (.inl x) = none := by
    have := h.has x
    rw [decide_eq_false hx] at this
    cases e : valV kvs (.inl x) with
    | none => rfl
    | some v => rw [e] at this; cases this
  unfold keysI at h ⊢
  rw [putK_new _ e, List.map_append, h, List.map_append]; rfl
theorem keysI.get {kvs : List (Key × V)} {ns : List Int} (h : keysI kvs ns) {i : Nat} {k : Key} {v : V} (e : kvs[i]? = some (k, v)) : ∃ x, ns[i]? = some x ∧ k = .inl x := by
  have e1 : (kvs.map (·.1))[i]? = some k := by rw [List.getElem?_map, e]; rfl
  rw [h, List.getElem?_map] at e1
  cases g : ns[i]? with
  | none => rw [g] at e1; cases e1
  | some x => rw [g] at e1; exact ⟨x, rfl, (Option.some.inj e1).symm⟩
theorem filter_take {p : Int → Bool} {l : List Int} {i : Nat} {x : Int} (h : l[i]? = some x) : (l.take (i + 1)).filter p = (l.take i).filter p ++ if p x = true then [x] else [] := by
  rw [take_more h, List.filter_append]
  congr 1
  cases e : p x with
  | false => rw [List.filter_cons_of_neg (by rw [e]; decide)]; rfl
  | true => rw [List.filter_cons_of_pos e]; rfl
theorem not_before {l : List Int} (nd : l.Nodup) {i : Nat} {x : Int} (h : l[i]? = some x) : x ∉ l.take i := fun hm => by
  obtain ⟨j, hj, e⟩ := List.mem_iff_getElem.mp hm
  rw [List.getElem_take] at e
  rw [List.length_take] at hj
  have hi := (List.getElem?_eq_some_iff.mp h).1
  have := (List.getElem_inj nd).mp (e.trans (List.getElem?_eq_some_iff.mp h).2.symm)
  omega
def sp_safe_steps (_ : PySem.W.Frag) : Sp := fun vs H Q _ => ∃ (l f : Addr) (ns : List Int) (ss : List KnA.Stp) (ok : KnA.Stp → Bool), vs = [.ref l, .ref f] ∧ H l = some (.lst (ns.map V.int)) ∧ ns.Nodup ∧ ns.length ≤ 100 ∧ ss.length ≤ 1000 ∧ Free ok H f ss ns ∧
  ∀ H' d kvs, Same H H' → H d = none → H' d = some (.dK kvs) → keysI kvs (thins ok ss ns ns.length) → Q (.ref d) H'
theorem ok_safe_steps {f : Addr} {C : Addr} {fd : FuncData} (T : Txt K mg C) (F : Fun K "safe_steps" "safe_steps" s_safe_steps f fd)  : FnOk P w K mg base CX0 1 f fd ["states", "free"] (sp_safe_steps K) := by
  have nd := sc_safe_steps.nd
  refine F.ok sc_safe_steps (fun vs H Q E h => ?_) (fun cdv A outer s H vs Q E hr h => ?_)
  · obtain ⟨l, f, ns, ss, ok, rfl, _⟩ := h
    rfl
  · obtain ⟨l, f, ns, ss, ok, rfl, el, ndn, lns, lss, hf, q⟩ := h
    refine ⟨_, (pss_cons (ps_set (i := 2) nd rfl (.inr rfl) (pe_dc (own := [("state", 4)]) (g := gName 4) (tt := tYes) rfl nd (pi_list (pv 0)) (blkOk_by (own := [("state", 4)]) (N := ["states", "free", "safe", "found", "state", "rows", "number", "target"]) (sc := defScope s_safe_steps) (by decide +kernel)) (fun _ _ _ _ _ => (pg_name (i := 4) nd rfl (.inl rfl))) (fun _ _ _ _ _ => pts_nil) (fun _ _ _ _ _ => (pv 4)) (fun _ _ _ _ _ => pe_bl)))
      (pss_one (ps_while PassesOwn.never (pt_val pe_bl) (pss_cons (ps_set (i := 3) nd rfl (.inl rfl) pe_dnewK)
      (pss_cons (ps_lock (ps_for PassesOwn.never rfl (pi_keys (pv 2)) (pg_name (i := 4) nd rfl (.inl rfl)) (pss_cons (ps_setLc (i := 5) (own := [("number", 6), ("target", 7)]) (g := gTup K 2 (gCons (gName 6) (gCons (gName 7) gNil))) rfl nd rfl rfl (sw_true rfl rfl rfl (by decide +kernel)) (pi_list (pe_dget (hu_of hr) (pv 1) (pv 4) (fun _ _ => rfl))) (blkOk_by (N := ["states", "free", "safe", "found", "state", "rows", "number", "target"]) (sc := defScope s_safe_steps) (by decide +kernel)) (fun _ _ _ _ _ => (pg_tup (by rfl) (pgs_cons (pg_name (i := 6) nd rfl (.inl rfl)) (pgs_cons (pg_name (i := 7) nd rfl (.inl rfl)) pgs_nil)))) (fun _ _ _ _ _ => (pts_one (pt_cmp (pc_din (hu_of hr) (pv 7) (pv 2))))) (fun _ _ _ _ _ => (pe_tup (pa_cons (pv 6) (pa_cons (pv 7) pa_nil)))))
      (pss_one (ps_if (pt_cmpR op_gt (pe_callB call_len (by rfl) T.m_len (by decide +kernel) (pa_cons (pv 5) pa_nil)) pe_int (nomark _)) (pss_one (ps_dput (hu_of hr) (pv 3) (pv 4) (pe_ix (r := rIxL K) ix_list (pv 5) pe_int (fun _ _ => rfl)) rfl)) pss_nil)))))
      (pss_cons (ps_if (pt_cmpR op_eq (pe_callB call_lenD (by rfl) T.m_len (by decide +kernel) (pa_cons (pv 3) pa_nil)) (pe_callB call_lenD (by rfl) T.m_len (by decide +kernel) (pa_cons (pv 2) pa_nil)) (nomark _)) (pss_one (ps_ret (pv 3))) pss_nil)
      (pss_one (ps_set (i := 2) nd rfl (.inr rfl) (pv 3))))))))), ?_⟩
    refine ⟨.ref l, rfl, l, rfl, ⟨_, .inl (.inl el)⟩, fun D nD => ?_⟩
    refine KnC.dc_list (K := K) (xs := ns.map V.int) (fun i G => Same H G ∧ ∃ kvs, G D = some (.dK kvs) ∧ keysI kvs (ns.take i))
      ⟨same_upd nD, [], upd_same, rfl⟩ (fun i G _ hP => .inl (.inl (hP.1 _ _ el))) (fun i x G hx hP => ?_) (fun G hP => ?_)
    · obtain ⟨S, kvs, eD, hk⟩ := hP
      rw [List.getElem?_map] at hx
      cases gx : ns[i]? with
      | none => rw [gx] at hx; cases hx
      | some s =>
      rw [gx] at hx
      cases hx
      have lk := hk.len
      rw [List.length_take] at lk
      refine ⟨rfl, ?_⟩
      unfold tYes
      refine iteT ⟨.int s, rfl, kvs, .inl s, rfl, eD, small (by omega), same_set nD S, _, upd_same, ?_⟩
      rw [take_more gx]
      exact hk.put (not_before ndn gx) _
    · obtain ⟨S, kvs, eD, hk⟩ := hP
      rw [List.length_map, List.take_length] at hk
      refine ⟨fun m σ G => ∃ (y3 y4 y5 y6 y7 : Option V) (D : Addr) (kvs : List (Key × V)) (j : Nat), σ = [some (.ref l), some (.ref f), some (.ref D), y3, y4, y5, y6, y7] ∧ Same H G ∧ H D = none ∧ G D = some (.dK kvs) ∧ keysI kvs (thins ok ss ns j) ∧ (thins ok ss ns j).length + j ≤ ns.length ∧ m = (thins ok ss ns j).length,
        ⟨_, _, _, _, _, _, D, kvs, 0, rfl, S, nD, eD, hk, Nat.le_refl _, rfl⟩, fun m σ G hW => ?_⟩
      obtain ⟨y3, y4, y5, y6, y7, D, kvs, j, rfl, S, nD, eD, hk, lj, rfl⟩ := hW
      generalize eT : thins ok ss ns j = T at hk lj ⊢
      have subT : T.Sublist ns := eT ▸ thins_sub ok ss ns j
      have ndT : T.Nodup := subT.nodup ndn
      have lT : T.length ≤ 100 := Nat.le_trans subT.length_le lns
      refine ⟨_, rfl, iteT ⟨fun σ' H' => ∃ (y3 y4 y5 y6 y7 : Option V) (D : Addr) (kvs : List (Key × V)), σ' = [some (.ref l), some (.ref f), some (.ref D), y3, y4, y5, y6, y7] ∧ Same H H' ∧ H D = none ∧ H' D = some (.dK kvs) ∧ keysI kvs (thins ok ss ns (j + 1)) ∧ (thins ok ss ns (j + 1)).length + (j + 1) ≤ ns.length ∧ (thins ok ss ns (j + 1)).length < T.length,
        fun σ' H' ⟨y3, y4, y5, y6, y7, D, kvs, h1, h2, h3, h4, h5, h6, h7⟩ => ⟨_, h7, y3, y4, y5, y6, y7, D, kvs, j + 1, h1, h2, h3, h4, h5, h6, rfl⟩, ?_⟩⟩
      have ej : thins ok ss ns (j + 1) = T.filter (gon ok ss T) := by rw [← eT]; rfl
      refine fun d2 nd2 => ?_
      have sd := same_upd (o := .dK []) nd2
      have nd2H : H d2 = none := S.free nd2
      have nDd : D ≠ d2 := ne_of_none eD nd2
      refine ⟨D, .dK kvs, sd _ _ eD, trivial, fun od => ⟨.ref D, rfl, D, od, rfl, .inl ⟨kvs, upd_same, ?_⟩⟩⟩
      refine for_keys (fun i σ G => ∃ (y4 y5 y6 y7 : Option V) (kf : List (Key × V)), σ = [some (.ref l), some (.ref f), some (.ref D), some (.ref d2), y4, y5, y6, y7] ∧ Same H G ∧ G D = some (.frz od (.dK kvs)) ∧ G d2 = some (.dK kf) ∧ keysI kf ((T.take i).filter (gon ok ss T)))
        ⟨_, _, _, _, [], rfl, same_set nD (S.trans sd), upd_same, (upd_ne nDd.symm).trans upd_same, rfl⟩ (fun i σ G _ hP => ?_) (fun i k v σ G hx hP => ?_) (fun σ G hP => ?_)
      · obtain ⟨_, _, _, _, _, _, _, h, _⟩ := hP
        exact h
      · obtain ⟨y4, y5, y6, y7, kf, rfl, S, eD, e2, hkf⟩ := hP
        obtain ⟨s, gs, rfl⟩ := hk.get hx
        have hsn : s ∈ ns := subT.subset (List.mem_of_getElem? gs)
        obtain ⟨kq, ef, hq⟩ := hf.mono S
        obtain ⟨lq, aq, mq, v1, v2, v3, v4⟩ := hq s hsn
        have lmq : mq.length ≤ 1000 := by
          have h1 := congrArg List.length v4
          have h2 := tg_len ok ss s
          rw [List.length_map] at h1
          omega
        refine ⟨.ref f, rfl, .int s, rfl, f, .ref lq, rfl, v1 ▸ DGet.k (k := .inl s) ef, lq, rfl, ⟨_, .inl (.inl v2)⟩, fun LD nLD => ?_⟩
        refine lc_list (K := K) (a := lq) (xs := aq.map V.ref) (fun i G' => Same G G' ∧ ∃ ys : List V, G' LD = some (.lst ys) ∧ ys.length ≤ i ∧ decide (0 < ys.length) = (mq.take i).any fun m => decide (m.2 ∈ T))
          ⟨same_upd nLD, [], upd_same, Nat.le_refl _, rfl⟩ (fun i G' _ hP => .inl (.inl (hP.1 _ _ v2))) (fun i' x G' hx' hP => ?_) (fun G' hP => ?_)
        · obtain ⟨S1, ys, eLD, ly, by_⟩ := hP
          rw [List.getElem?_map] at hx'
          cases ga : aq[i']? with
          | none => rw [ga] at hx'; cases hx'
          | some ai =>
          rw [ga] at hx'
          cases hx'
          obtain ⟨m, gm, hai⟩ := paired_get (v3.mono S1) ga
          have hi' : i' < mq.length := (List.getElem?_eq_some_iff.mp gm).1
          have tk : ((mq.take (i' + 1)).any fun m => decide (m.2 ∈ T)) = (decide (0 < ys.length) || decide (m.2 ∈ T)) := by
            rw [take_more gm, List.any_append, ← by_, List.any_cons, List.any_nil, Bool.or_false]
          have hh := hk.has m.2
          refine ⟨ai, _, rfl, .inl (.inl hai), rfl, .int m.1, _, rfl, .int m.2, [], rfl, rfl, rfl, .int m.2, rfl, .ref D, rfl, D, valV kvs (.inl m.2), rfl, .inl ⟨kvs, .inl m.2, .inr ⟨od, S1 _ _ eD⟩, rfl, rfl⟩, _, rfl, ?_⟩
          rw [hh]
          by_cases hm : m.2 ∈ T
          · rw [decide_eq_true hm]
            refine iteT ⟨.int m.1, rfl, .int m.2, rfl, szl rfl, fun U nU => ⟨ys, (same_upd nU) _ _ eLD, small (by omega), same_set nLD (S1.trans (same_upd nU)), _, upd_same, by rw [List.length_append]; exact Nat.succ_le_succ ly, ?_⟩⟩
            rw [tk, decide_eq_true hm, Bool.or_true]
            exact decide_eq_true (by rw [List.length_append]; exact Nat.succ_pos _)
          · rw [decide_eq_false hm]
            refine iteF ⟨S1, ys, eLD, by omega, ?_⟩
            rw [tk, decide_eq_false hm, Bool.or_false]
        · obtain ⟨S1, ys, eLD, ly, by_⟩ := hP
          rw [List.length_map, v3.length, List.take_length] at by_
          rw [List.length_map, v3.length] at ly
          have eg : gon ok ss T s = decide (0 < ys.length) := by
            rw [gon_tg, ← v4, by_, List.any_map]; rfl
          have fk := filter_take (p := gon ok ss T) gs
          have S2 := S.trans S1
          refine ⟨.ref LD, rfl, .ref LD, ys.length, rfl, .inl ⟨_, .inl (.inl eLD), rfl⟩, (ys.length : Int), 0, rfl, rfl, _, rfl, ite2 (fun c0 => ?_) (fun c0 => ?_)⟩
          · have c0 : (0 : Int) < (ys.length : Int) := of_decide_eq_true c0
            obtain ⟨y, gy⟩ : ∃ y, ys[0]? = some y := ⟨_, List.getElem?_eq_getElem (by omega)⟩
            have lkf := hkf.len
            have lf2 : ((T.take i).filter (gon ok ss T)).length ≤ 100 := Nat.le_trans (List.length_filter_le _ _) (by rw [List.length_take]; omega)
            refine ⟨.ref LD, rfl, LD, ys, 0, y, rfl, rfl, .inl (.inl eLD), atI_nat (j := 0) gy, .ref d2, rfl, .int s, rfl, d2, _, rfl, DPut.k (k := .inl s) (S1 _ _ e2) (small (by omega)), ?_⟩
            refine ⟨_, _, _, _, _, rfl, same_set nd2H S2, (upd_ne nDd).trans (S1 _ _ eD), upd_same, ?_⟩
            rw [fk, if_pos (by rw [eg]; exact decide_eq_true (by omega))]
            exact hkf.put (fun hm => not_before ndT gs (List.mem_filter.mp hm).1) _
          · have c0 : ¬ (0 : Int) < (ys.length : Int) := fun z => c0 (decide_eq_true z)
            refine ⟨_, _, _, _, kf, rfl, S2, S1 _ _ eD, S1 _ _ e2, ?_⟩
            rw [fk, if_neg (by rw [eg]; exact fun z => c0 (by have := of_decide_eq_true z; omega)), List.append_nil]
            exact hkf
      · obtain ⟨y4, y5, y6, y7, kf, rfl, S, eD, e2, hkf⟩ := hP
        rw [hk.len, List.take_length, ← ej] at hkf
        refine ⟨eD, ?_⟩
        have Su : Same H (upd G D (.dK kvs)) := same_set nD S
        have e2u : (upd G D (.dK kvs)) d2 = some (.dK kf) := (upd_ne nDd.symm).trans e2
        have l1 := hk.len
        have l2 := hkf.len
        refine ⟨.ref d2, rfl, d2, kf, rfl, e2u, .ref D, rfl, D, kvs, rfl, upd_same, rfl, _, rfl, ite2 (fun c0 => ?_) (fun c0 => ?_)⟩
        · have c0 : kf.length = kvs.length := by have := V.int.inj (of_decide_eq_true c0); omega
          have st : (thin ok ss (thins ok ss ns j)).length = (thins ok ss ns j).length := by
            show (thins ok ss ns (j + 1)).length = _
            rw [eT]; omega
          have e1 := thins_stay st (ns.length - j)
          rw [show j + (ns.length - j) = ns.length by omega] at e1
          have e3 : thins ok ss ns (j + 1) = thins ok ss ns j := thins_stay st 1
          exact ⟨.ref d2, rfl, q _ d2 kf Su nd2H e2u (by rw [e1, ← e3]; exact hkf)⟩
        · have c0 : ¬ kf.length = kvs.length := fun z => c0 (decide_eq_true (by rw [z]))
          have h3 : (thins ok ss ns (j + 1)).length ≤ T.length := by rw [ej]; exact List.length_filter_le _ _
          exact ⟨.ref d2, rfl, _, _, _, _, _, d2, kf, rfl, Su, nd2H, e2u, hkf, by omega, by omega⟩
def sp_avoiding (_ : PySem.W.Frag) (C : Addr) : Sp := fun vs H Q _ => ∃ (p : Addr) (s0 : Int) (ss : List KnA.Stp) (fs : List (Str × Str)) (z : Str) (ns : List Int), vs = [.ref p, .str z] ∧ MachAt C H p s0 ss fs ∧ ss.length ≤ 1000 ∧ KnA.States ns ss s0 ∧ ns.length ≤ 100 ∧ (fs.map (·.1)).Nodup ∧ (∀ q ∈ fs, q.1 ∈ ss.map (·.2.1)) ∧ nameB (.str z) = true ∧ z ∈ fs.map (·.2) ∧
  ∀ H' l, Same H H' → H l = none → H' l = some (.lst ((thins (okF fs z) ss ns ns.length).map V.int)) → Q (.ref l) H'
theorem ok_avoiding {f : Addr} {C : Addr} {fd : FuncData} (T : Txt K mg C) (F : Fun K "avoiding" "avoiding" s_avoiding f fd) (c_check_fault : Cal P w K mg base 3 "check_fault" (sp_check_fault K C) []) (c_steps_by_state : Cal P w K mg base 4 "steps_by_state" (sp_steps_by_state K C) []) (c_safe_steps : Cal P w K mg base 1 "safe_steps" (sp_safe_steps K) []) (c_Machine_states : KnP.Prp P w K mg base 1 C "states" (sp_Machine_states K C)) : FnOk P w K mg base CX0 5 f fd ["machine", "fault"] (sp_avoiding K C) := by
  have nd := sc_avoiding.nd
  refine F.ok sc_avoiding (fun vs H Q E h => ?_) (fun cdv A outer s H vs Q E hr h => ?_)
  · obtain ⟨p, s0, ss, fs, z, ns, rfl, _⟩ := h
    rfl
  · obtain ⟨p, s0, ss, fs, z, ns, rfl, hm, lss, hns, lns, ndf, hf, hz, mz, q⟩ := h
    refine ⟨_, (pss_cons (ps_expr (pe_c c_check_fault hr (by omega) (by rfl) (pa_cons (pv 0) (pa_cons (pv 1) pa_nil))))
      (pss_cons (ps_asg (pe_c c_steps_by_state hr (by omega) (by rfl) (pa_cons (pv 0) (pa_cons (pv 1) pa_nil))) (pg_tup (by rfl) (pgs_cons (pg_name (i := 2) nd rfl (.inl rfl)) (pgs_cons (pg_name (i := 3) nd rfl (.inl rfl)) pgs_nil))))
      (pss_one (ps_ret (pe_callTy (call_listD rfl) (by rfl) T.m_list (by decide +kernel) (pa_cons (pe_c c_safe_steps hr (by omega) (by rfl) (pa_cons (KnP.pe_prp T.cl c_Machine_states hr (by decide) (pv 0) (by rfl)) (pa_cons (pv 2) pa_nil))) pa_nil)))))), ?_⟩
    refine ⟨.ref p, rfl, .str z, rfl, p, s0, ss, fs, z, rfl, hm, lss, ndf, hf, hz, mz, fun H1 s1 => ?_⟩
    have hm1 := hm.mono s1
    refine ⟨.ref p, rfl, .str z, rfl, p, s0, ss, fs, z, ns, rfl, hm1, lss, hns, lns, fun H2 t f b s2 et hf => ?_⟩
    have hm2 := hm1.mono s2
    refine ⟨t, _, rfl, .inl (.inl et), rfl, .ref f, _, rfl, .ref b, [], rfl, rfl, ?_⟩
    obtain ⟨dx, ls, lw, df, lt, as, ws, ns0, mm⟩ := id hm2
    refine ⟨.ref p, rfl, p, dx, _, rfl, mm.ob, p, s0, ss, fs, rfl, hm2, fun H3 l3 ns3 s3 n3 e3 hns3 => ?_⟩
    rw [hns3.uniq hns] at e3
    refine ⟨.ref f, rfl, l3, f, ns, ss, okF fs z, rfl, e3, states_nd hns, lns, lss, hf.mono s3, fun H4 d kvs s4 n4 e4 hk => ?_⟩
    have S := s1.trans (s2.trans (s3.trans s4))
    refine ⟨d, kvs, rfl, .inl e4, fun l nl => ?_⟩
    have ek : kvs.map (fun kv => kV kv.1) = (thins (okF fs z) ss ns ns.length).map V.int := by
      have e : kvs.map (fun kv => kV kv.1) = (kvs.map (·.1)).map kV := by rw [List.map_map]; rfl
      rw [e, hk, List.map_map]; rfl
    rw [ek]
    exact q _ l (S.trans (same_upd nl)) (S.free nl) upd_same

end
end Kn

set_option Elab.async false
set_option linter.all false
set_option maxRecDepth 100000
set_option maxHeartbeats 4000000
namespace Kn
open PySem PySem.Spec PyProof.Rows L2
open C8 (Cal pe_c pe_gc Mak pe_mk)
section
variable {P : Program} {w : World} {K : PySem.W.Frag} {mg : Str → Option Value} {base : Heap}
/-! ### the law's own search -/
theorem op_k {r : R2} {x y : V} {H : Hp} {k : V → Hp → Prop} (C : V → Hp → Prop) (h1 : (∀ v H', C v H' → k v H') → r x y H k) (h2 : ∀ v H', C v H' → k v H') : r x y H k := h1 h2
structure DatO (H : Hp) (t l d : Addr) (s0 : Int) (z : Str) (as : List Addr) (ss : List KnA.Stp) (fs : List (Str × Str)) : Prop where
  at_ : H t = some (.lst [.int s0, .ref l, .ref d, .str z])
  hl : H l = some (.lst (as.map V.ref))
  st : Stps H as ss
  hd : H d = some (.dK (fkv fs))
theorem DatO.mono {H H' : Hp} {t l d : Addr} {s0 : Int} {z : Str} {as : List Addr} {ss : List KnA.Stp} {fs : List (Str × Str)} (h : DatO H t l d s0 z as ss fs) (s : Same H H') : DatO H' t l d s0 z as ss fs := ⟨s _ _ h.at_, s _ _ h.hl, h.st.mono s, s _ _ h.hd⟩
theorem drop_at {α : Type} {l : List α} {i : Nat} {x : α} (h : l[i]? = some x) : l.drop i = x :: l.drop (i + 1) := by
  obtain ⟨hi, e⟩ := List.getElem?_eq_some_iff.mp h
  rw [List.drop_eq_getElem_cons hi, e]
def sp__law_reached (_ : PySem.W.Frag) : Sp := fun vs H Q _ => ∃ (t l d : Addr) (s0 : Int) (z : Str) (as : List Addr) (ss : List KnA.Stp) (fs : List (Str × Str)), vs = [.ref t] ∧ DatO H t l d s0 z as ss fs ∧ stateB (.int s0) = true ∧ (∀ x ∈ ss, GoodStep x) ∧
  ∀ H' a ns, Same H H' → H a = none → H' a = some (.lst (ns.map V.int)) → KnA.States ns ss s0 → Q (.ref a) H'
theorem ok__law_reached {f : Addr} {C : Addr} {fd : FuncData} (T : Txt K mg C) (F : Fun K "_law_reached" "_law_reached" s__law_reached f fd)  : FnOk P w K mg base CX0 1 f fd ["_law_data"] (sp__law_reached K) := by
  have nd := sc__law_reached.nd
  refine F.ok sc__law_reached (fun vs H Q E h => ?_) (fun cdv A outer s H vs Q E hr h => ?_)
  · obtain ⟨t, l, d, s0, z, as, ss, fs, rfl, _⟩ := h
    rfl
  · obtain ⟨t, l, d, s0, z, as, ss, fs, rfl, da, st0, gd, q⟩ := h
    refine ⟨_, (pss_cons (ps_set (i := 1) nd rfl (.inl rfl) (pe_lst (pa_cons (pe_ix (r := rIxL K) ix_list (pv 0) pe_int (fun _ _ => rfl)) pa_nil)))
      (pss_cons (ps_set (i := 2) nd rfl (.inl rfl) pe_int)
      (pss_cons (ps_while PassesOwn.never (pt_cmpR op_lt (pv 2) (pe_callB call_len (by rfl) T.m_len (by decide +kernel) (pa_cons (pv 1) pa_nil)) (nomark _)) (pss_cons (ps_for PassesOwn.never rfl (pi_list (pe_ix (r := rIxL K) ix_list (pv 0) pe_int (fun _ _ => rfl))) (pg_name (i := 3) nd rfl (.inl rfl)) (pss_one (ps_if (PW.pt (pw_and (pt_cmpR op_eq (pe_ix (r := rIxT K) ix_tup (pv 3) pe_int (fun _ _ => rfl)) (pe_ix (r := rIxL K) ix_list (pv 1) (pv 2) (fun _ _ => rfl)) (nomark _)) (pw_and1 (pt_cmpR op_notIn_seq (pe_ix (r := rIxT K) ix_tup (pv 3) pe_int (fun _ _ => rfl)) (pv 1) (by with_unfolding_all rfl))))) (pss_one (ps_expr (pe_bm PySem.F.plainAttrs_list PySem.F.slot_list_append PySem.F.type_list_append mt_append (pv 1) (pa_cons (pe_ix (r := rIxT K) ix_tup (pv 3) pe_int (fun _ _ => rfl)) pa_nil)))) pss_nil)))
      (pss_one (ps_aug (i := 2) nd rfl (.inl rfl) pe_int ip_add))))
      (pss_one (ps_ret (pe_callB cr_sortedI (by rfl) T.m_sorted (by decide +kernel) (pa_cons (pv 1) pa_nil))))))), ?_⟩
    refine ⟨.ref t, rfl, t, _, 0, .int s0, rfl, rfl, .inl (.inl da.at_), atI_nat (j := 0) rfl, szl rfl, fun r nr => ?_⟩
    have s1 := same_upd (o := .lst [.int s0]) nr
    refine ⟨fun m σ G => ∃ (y3 : Option V) (R : List Int) (i : Nat), σ = [some (.ref t), some (.ref r), some (.int (i : Int)), y3] ∧ Same H G ∧ G r = some (.lst (R.map V.int)) ∧ Walk ss s0 R (R.drop i) (fun _ => False) ∧ i ≤ R.length ∧ m = 101 - i,
      ⟨_, none, [s0], 0, rfl, s1, upd_same, ⟨by simp, Nat.le_refl _, fun x hx => hx, fun x hx => by rw [List.mem_singleton.mp hx]; exact .start, fun x hx => by rw [List.mem_singleton.mp hx]; exact state_in st0, List.mem_singleton.mpr rfl, fun x w y hx hn => absurd hx hn⟩, Nat.zero_le _, rfl⟩, fun m σ G hW => ?_⟩
    obtain ⟨y3, R, i, rfl, S, er, wk, hi, rfl⟩ := hW
    have few := wk.few
    refine ⟨.int (i : Int), rfl, .ref r, rfl, .ref r, R.length, rfl, .inl ⟨_, .inl (.inl er), (List.length_map _).symm⟩, (i : Int), (R.length : Int), rfl, rfl, _, rfl, ite2 (fun c0 => ?_) (fun c0 => ?_)⟩
    · have c0 : i < R.length := by have : (i : Int) < (R.length : Int) := of_decide_eq_true c0; omega
      refine ⟨fun σ' G' => ∃ (y3 : Option V) (R : List Int), σ' = [some (.ref t), some (.ref r), some (.int ((i + 1 : Nat) : Int)), y3] ∧ Same H G' ∧ G' r = some (.lst (R.map V.int)) ∧ Walk ss s0 R (R.drop (i + 1)) (fun _ => False) ∧ i + 1 ≤ R.length,
        fun σ' G' ⟨y3, R, h1, h2, h3, h4, h5⟩ => ⟨_, by omega, y3, R, i + 1, h1, h2, h3, h4, h5, rfl⟩, ?_⟩
      obtain ⟨x, gx⟩ : ∃ x, R[i]? = some x := ⟨_, List.getElem?_eq_getElem c0⟩
      have hxR := List.mem_of_getElem? gx
      have wk0 : Walk ss s0 R (R.drop (i + 1)) (fun u => u = x) := ⟨wk.nd, by rw [List.length_drop]; omega, fun u hu => List.mem_of_mem_drop hu, wk.re, wk.st, wk.s0, fun u w y hu hn hne hm => wk.cl u w y hu (fun hin => by
        rw [drop_at gx] at hin
        rcases List.mem_cons.mp hin with h | h
        · exact hne h
        · exact hn h) id hm⟩
      refine ⟨.ref t, rfl, t, _, 1, .ref l, rfl, rfl, .inl (.inl (S _ _ da.at_)), atI_nat (j := 1) rfl, l, rfl, ⟨_, .inl (.inl (S _ _ da.hl))⟩, ?_⟩
      refine for_list (K := K) (xs := as.map V.ref) (fun k σ G => ∃ (y3 : Option V) (R : List Int), σ = [some (.ref t), some (.ref r), some (.int (i : Int)), y3] ∧ Same H G ∧ G r = some (.lst (R.map V.int)) ∧ Walk ss s0 R (R.drop (i + 1)) (fun u => u = x) ∧ i + 1 ≤ R.length ∧ R[i]? = some x ∧ ∀ u ∈ ss.take k, u.1 = x → u.2.2 ∈ R)
        ⟨_, R, rfl, S, er, wk0, c0, gx, fun u hu => by simp at hu⟩ (fun k σ G _ hP => ?_) (fun k v σ G hv hP => ?_) (fun σ G hP => ?_)
      · obtain ⟨_, _, _, S, _⟩ := hP
        exact .inl (.inl (S _ _ da.hl))
      · obtain ⟨y3, R, rfl, S, er, wk, hi, gx, hin⟩ := hP
        obtain ⟨ai, st, rfl, gi, g, hai⟩ := ref_get (da.st.mono S) hv
        have hss := List.mem_of_getElem? g
        have few := wk.few
        have hxR := List.mem_of_getElem? gx
        have more : ∀ R' : List Int, (∀ u ∈ R, u ∈ R') → (st.1 = x → st.2.2 ∈ R') → ∀ u ∈ ss.take (k + 1), u.1 = x → u.2.2 ∈ R' := fun R' h1 h2 u hu hx => by
          rw [take_more g, List.mem_append, List.mem_singleton] at hu
          rcases hu with hu | hu
          · exact h1 _ (hin u hu hx)
          · rw [hu] at hx ⊢; exact h2 hx
        refine ⟨.ref ai, rfl, ai, [.int st.1, .str st.2.1, .int st.2.2], 0, .int st.1, rfl, rfl, .inl (.inl hai), atI_nat (j := 0) rfl, .ref r, rfl, .int (i : Int), rfl, r, R.map V.int, (i : Int), .int x, rfl, rfl, .inl (.inl er), atI_nat (by rw [List.getElem?_map, gx]; rfl), rfl, _, rfl, ite2 (fun c1 => ?_) (fun c1 => ?_)⟩
        · have c1 : st.1 = x := V.int.inj (of_decide_eq_true c1)
          refine ⟨.ref ai, rfl, ai, [.int st.1, .str st.2.1, .int st.2.2], 2, .int st.2.2, rfl, rfl, .inl (.inl hai), atI_nat (j := 2) rfl, .ref r, rfl, r, R.map V.int, rfl, .inl (.inl (.inl er)), rfl, flat_is _, _, rfl, ?_⟩
          show if (!inV (.int st.2.2) (R.map V.int)) = true then _ else _
          rw [inV_ints]
          by_cases hm : st.2.2 ∈ R
          · rw [decide_eq_true hm]
            exact iteF ⟨_, R, rfl, S, er, wk, hi, gx, more R (fun _ h => h) (fun _ => hm)⟩
          · rw [decide_eq_false hm]
            refine iteT ⟨.ref r, rfl, .inl ⟨rfl, _, .inl (.inl er)⟩, .ref ai, rfl, ai, [.int st.1, .str st.2.1, .int st.2.2], 2, .int st.2.2, rfl, rfl, .inl (.inl hai), atI_nat (j := 2) rfl, r, _, .int st.2.2, rfl, rfl, er, small (by rw [List.length_map]; omega), ?_⟩
            have pw := wk.push hm (.step (wk.re x hxR) (show (x, st.2.1, st.2.2) ∈ ss by rw [← c1]; exact hss)) (state_in (gd _ hss).t)
            have ed : (R ++ [st.2.2]).drop (i + 1) = R.drop (i + 1) ++ [st.2.2] := List.drop_append_of_le_length hi
            refine ⟨_, R ++ [st.2.2], rfl, same_set nr S, by rw [upd_same, List.map_append]; rfl, by rw [ed]; exact pw, by rw [List.length_append]; omega, by rw [List.getElem?_append_left (by omega)]; exact gx, more _ (fun _ h => List.mem_append.mpr (.inl h)) (fun _ => List.mem_append.mpr (.inr (List.mem_singleton.mpr rfl)))⟩
        · have c1 : ¬ st.1 = x := fun e => c1 (decide_eq_true (by rw [e]))
          exact ⟨_, R, rfl, S, er, wk, hi, gx, more R (fun _ h => h) (fun h => (c1 h).elim)⟩
      · obtain ⟨y3, R, rfl, S, er, wk, hi, gx, hin⟩ := hP
        rw [List.length_map, da.st.length, List.take_length] at hin
        refine ⟨.int (i : Int), rfl, (i : Int), 1, rfl, rfl, _, R, rfl, S, er, ⟨wk.nd, wk.le, wk.sub, wk.re, wk.st, wk.s0, fun u w y hu hn _ hm => ?_⟩, hi⟩
        by_cases e : u = x
        · exact hin _ hm e
        · exact wk.cl u w y hu hn e hm
    · have c0 : R.length ≤ i := by
        have : ¬ (i : Int) < (R.length : Int) := fun z => c0 (decide_eq_true z)
        omega
      refine ⟨.ref r, rfl, r, R, rfl, .inl (.inl er), fun ns o hp hs no => ?_⟩
      refine q _ o ns (S.trans (same_upd no)) (S.free no) upd_same ⟨KnA.lt_of_le hs (hp.symm.nodup wk.nd), fun x => ?_⟩
      rw [hp.mem_iff]
      refine KnA.reach_of wk.s0 (fun x w y hx => wk.cl x w y hx (fun z => ?_) id) wk.re x
      rw [List.drop_of_length_le c0] at z
      exact nomatch z
def sp__law_goes_on (_ : PySem.W.Frag) : Sp := fun vs H Q _ => ∃ (t l d k : Addr) (s0 s : Int) (z : Str) (as : List Addr) (ss : List KnA.Stp) (fs : List (Str × Str)) (kept : List Int), vs = [.ref t, .int s, .ref k] ∧ DatO H t l d s0 z as ss fs ∧ H k = some (.lst (kept.map V.int)) ∧
  ∀ H', Same H H' → Q (.bl (gon (okF fs z) ss kept s)) H'
theorem ok__law_goes_on {f : Addr} {C : Addr} {fd : FuncData} (T : Txt K mg C) (F : Fun K "_law_goes_on" "_law_goes_on" s__law_goes_on f fd)  : FnOk P w K mg base CX0 1 f fd ["_law_data", "_law_state", "_law_kept"] (sp__law_goes_on K) := by
  have nd := sc__law_goes_on.nd
  refine F.ok sc__law_goes_on (fun vs H Q E h => ?_) (fun cdv A outer s H vs Q E hr h => ?_)
  · obtain ⟨t, l, d, k, s0, s, z, as, ss, fs, kept, rfl, _⟩ := h
    rfl
  · obtain ⟨t, l, d, k, s0, s, z, as, ss, fs, kept, rfl, da, ek, q⟩ := h
    refine ⟨_, (pss_cons (ps_for PassesOwn.never rfl (pi_list (pe_ix (r := rIxL K) ix_list (pv 0) pe_int (fun _ _ => rfl))) (pg_name (i := 3) nd rfl (.inl rfl)) (pss_one (ps_if (PW.pt (pw_and (pt_cmpR op_eq (pe_ix (r := rIxT K) ix_tup (pv 3) pe_int (fun _ _ => rfl)) (pv 1) (nomark _)) (pw_and (pt_cmpR op_ne (pe_dget1 (hu_of hr) (pe_ix (r := rIxL K) ix_list (pv 0) pe_int (fun _ _ => rfl)) (pe_ix (r := rIxT K) ix_tup (pv 3) pe_int (fun _ _ => rfl)) ⟨rfl, rfl, rfl, rfl⟩) (pe_ix (r := rIxL K) ix_list (pv 0) pe_int (fun _ _ => rfl)) (nomark _)) (pw_and1 (pt_cmpR op_in_seq (pe_ix (r := rIxT K) ix_tup (pv 3) pe_int (fun _ _ => rfl)) (pv 2) (by with_unfolding_all rfl)))))) (pss_one (ps_ret pe_bl)) pss_nil)))
      (pss_one (ps_ret pe_bl))), ?_⟩
    refine ⟨.ref t, rfl, t, _, 1, .ref l, rfl, rfl, .inl (.inl da.at_), atI_nat (j := 1) rfl, l, rfl, ⟨_, .inl (.inl da.hl)⟩, ?_⟩
    refine for_list (K := K) (xs := as.map V.ref) (fun i σ G => ∃ (y3 : Option V), σ = [some (.ref t), some (.int s), some (.ref k), y3] ∧ Same H G ∧ gon (okF fs z) (ss.take i) kept s = false)
      ⟨_, rfl, Same.refl _, rfl⟩ (fun i σ G _ ⟨_, _, S, _⟩ => .inl (.inl (S _ _ da.hl))) (fun i v σ G hv hP => ?_) (fun σ G hP => ?_)
    · obtain ⟨y3, rfl, S, h0⟩ := hP
      have da := da.mono S
      have ek := S _ _ ek
      obtain ⟨ai, st, rfl, gi, g, hai⟩ := ref_get da.st hv
      have tk : gon (okF fs z) (ss.take (i + 1)) kept s = (decide (st.1 = s) && okF fs z st && decide (st.2.2 ∈ kept)) := by
        have h0' := h0
        unfold gon at h0' ⊢
        rw [take_more g, List.any_append, h0', Bool.false_or, List.any_cons, List.any_nil, Bool.or_false]
      have yes : (decide (st.1 = s) && okF fs z st && decide (st.2.2 ∈ kept)) = true → gon (okF fs z) ss kept s = true := fun e => List.any_eq_true.mpr ⟨st, List.mem_of_getElem? g, e⟩
      have at1 : atI [V.int st.1, .str st.2.1, .int st.2.2] 1 = some (.str st.2.1) := atI_nat (j := 1) rfl
      refine ⟨.ref ai, rfl, ai, [.int st.1, .str st.2.1, .int st.2.2], 0, .int st.1, rfl, rfl, .inl (.inl hai), atI_nat (j := 0) rfl, .int s, rfl, rfl, _, rfl, ite2 (fun c0 => ?_) (fun c0 => ?_)⟩
      · have c0 : st.1 = s := V.int.inj (of_decide_eq_true c0)
        refine ⟨.ref t, rfl, t, _, 2, .ref d, rfl, rfl, .inl (.inl da.at_), atI_nat (j := 2) rfl, d, rfl, .inl ⟨_, .inl da.hd⟩, .ref ai, rfl, ai, [.int st.1, .str st.2.1, .int st.2.2], 1, .str st.2.1, rfl, rfl, .inl (.inl hai), at1, valV (fkv fs) (.inr st.2.1), DGet.k (k := .inr st.2.1) da.hd, .ref t, rfl, t, _, 3, .str z, rfl, rfl, .inl (.inl da.at_), atI_nat (j := 3) rfl, ?_⟩
        rw [look_val]
        show rNe _ _ _ _
        refine op_k (r := rNe) (fun v H' => v = .bl (okF fs z st) ∧ H' = G) (fun kk => ?_) (fun v H' hv => ?_)
        · unfold okF at kk
          cases h : look fs st.2.1 with
          | none =>
            rw [h] at kk
            exact ⟨rfl, kk _ _ ⟨by show V.bl (!decide (V.non = V.str z)) = _; rw [decide_eq_false (fun e => V.noConfusion e)]; simp, rfl⟩⟩
          | some y =>
            rw [h] at kk
            refine ⟨rfl, kk _ _ ⟨?_, rfl⟩⟩
            show V.bl (!decide (V.str y = V.str z)) = _
            congr 2
            by_cases e : y = z
            · subst e; simp
            · rw [decide_eq_false (fun q => e (V.str.inj q)), decide_eq_false (fun q => e (Option.some.inj q))]
        · obtain ⟨rfl, rfl⟩ := hv
          refine ⟨_, rfl, ?_⟩
          by_cases ho : okF fs z st = true
          · rw [ho]
            refine iteT ⟨.ref ai, rfl, ai, [.int st.1, .str st.2.1, .int st.2.2], 2, .int st.2.2, rfl, rfl, .inl (.inl hai), atI_nat (j := 2) rfl, .ref k, rfl, k, kept.map V.int, rfl, .inl (.inl (.inl ek)), rfl, flat_is _, _, rfl, ?_⟩
            show if inV (.int st.2.2) (kept.map V.int) = true then _ else _
            rw [inV_ints]
            by_cases hm : st.2.2 ∈ kept
            · rw [decide_eq_true hm]
              have e := yes (by rw [decide_eq_true c0, ho, decide_eq_true hm]; rfl)
              have := q _ S
              rw [e] at this
              exact iteT this
            · rw [decide_eq_false hm]
              exact iteF ⟨_, rfl, S, by rw [tk, decide_eq_false hm, Bool.and_false]⟩
          · rw [Bool.eq_false_iff.mpr ho]
            exact iteF ⟨_, rfl, S, by rw [tk, Bool.eq_false_iff.mpr ho, Bool.and_false]; rfl⟩
      · have c0 : ¬ st.1 = s := fun e => c0 (decide_eq_true (by rw [e]))
        exact ⟨_, rfl, S, by rw [tk, decide_eq_false c0]; rfl⟩
    · obtain ⟨y3, rfl, S, h0⟩ := hP
      rw [List.length_map, da.st.length, List.take_length] at h0
      have := q _ S
      rw [h0] at this
      exact this
def sp__law_avoiding (_ : PySem.W.Frag) : Sp := fun vs H Q _ => ∃ (t l d : Addr) (s0 : Int) (z : Str) (as : List Addr) (ss : List KnA.Stp) (fs : List (Str × Str)) (ns : List Int), vs = [.ref t] ∧ DatO H t l d s0 z as ss fs ∧ stateB (.int s0) = true ∧ (∀ x ∈ ss, GoodStep x) ∧ KnA.States ns ss s0 ∧ ns.length ≤ 100 ∧
  ∀ H' a, Same H H' → H a = none → H' a = some (.lst ((thins (okF fs z) ss ns ns.length).map V.int)) → Q (.ref a) H'
theorem ok__law_avoiding {f : Addr} {C : Addr} {fd : FuncData} (T : Txt K mg C) (F : Fun K "_law_avoiding" "_law_avoiding" s__law_avoiding f fd) (c__law_reached : Cal P w K mg base 1 "_law_reached" (sp__law_reached K) []) (c__law_goes_on : Cal P w K mg base 1 "_law_goes_on" (sp__law_goes_on K) []) : FnOk P w K mg base CX0 2 f fd ["_law_data"] (sp__law_avoiding K) := by
  have nd := sc__law_avoiding.nd
  refine F.ok sc__law_avoiding (fun vs H Q E h => ?_) (fun cdv A outer s H vs Q E hr h => ?_)
  · obtain ⟨t, l, d, s0, z, as, ss, fs, ns, rfl, _⟩ := h
    rfl
  · obtain ⟨t, l, d, s0, z, as, ss, fs, ns, rfl, da, st0, gd, hns, lns, q⟩ := h
    refine ⟨_, (pss_cons (ps_set (i := 1) nd rfl (.inr rfl) (pe_c c__law_reached hr (by omega) (by rfl) (pa_cons (pv 0) pa_nil)))
      (pss_cons (ps_for PassesOwn.never rfl (pi_range1 (by rfl) T.m_range (pa_cons (pe_callB call_len (by rfl) T.m_len (by decide +kernel) (pa_cons (pv 1) pa_nil)) pa_nil)) (pg_name (i := 2) nd rfl (.inl rfl)) (pss_one (ps_set (i := 1) nd rfl (.inr rfl) (pe_lc (own := [("_law_state", 3)]) (g := gName 3) rfl nd (pi_list (pv 1)) (blkOk_by (N := ["_law_data", "_law_kept", "_law_turn", "_law_state"]) (sc := defScope s__law_avoiding) (by decide +kernel)) (fun _ _ _ _ _ => (pg_name (i := 3) nd rfl (.inl rfl))) (fun _ _ _ _ _ => (pts_one (pt_val (pe_c c__law_goes_on hr (by omega) (by rfl) (pa_cons (pv 0) (pa_cons (pv 3) (pa_cons (pv 1) pa_nil))))))) (fun _ _ _ _ _ => (pv 3))))))
      (pss_one (ps_ret (pv 1))))), ?_⟩
    refine ⟨.ref t, rfl, t, l, d, s0, z, as, ss, fs, rfl, da, st0, gd, fun H1 a ns1 s1 na ea hns1 => ?_⟩
    rw [hns1.uniq hns] at ea
    refine ⟨.ref a, rfl, .ref a, ns.length, rfl, .inl ⟨_, .inl (.inl ea), (List.length_map _).symm⟩, (ns.length : Int), rfl, by omega, by omega, ?_⟩
    rw [Int.toNat_natCast]
    refine for_range (lo := 0) (n := ns.length) (fun i σ G => ∃ (a : Addr) (y2 y3 : Option V), σ = [some (.ref t), some (.ref a), y2, y3] ∧ Same H G ∧ H a = none ∧ G a = some (.lst ((thins (okF fs z) ss ns i).map V.int)))
      ⟨a, _, _, rfl, s1, na, ea⟩ (fun i σ G hi hP => ?_) (fun σ G hP => ?_)
    · obtain ⟨a, y2, y3, rfl, S, na, ea⟩ := hP
      have lT : (thins (okF fs z) ss ns i).length ≤ 100 := Nat.le_trans (thins_sub _ _ _ _).length_le lns
      have e1 : thins (okF fs z) ss ns (i + 1) = (thins (okF fs z) ss ns i).filter (gon (okF fs z) ss (thins (okF fs z) ss ns i)) := rfl
      rw [e1]
      generalize thins (okF fs z) ss ns i = T at ea lT ⊢
      have nv : wipe ([some (.ref t), some (.ref a), y2, y3].set 2 (some (.int (0 + (i : Int))))) [3] = [some (.ref t), some (.ref a), some (.int (0 + (i : Int))), none] := rfl
      refine ⟨.ref a, rfl, a, rfl, ⟨_, .inl (.inl ea)⟩, fun LD nLD => ?_⟩
      refine lc_list (K := K) (a := a) (xs := T.map V.int) (fun j G' => Same G G' ∧ G' LD = some (.lst (((T.take j).filter (gon (okF fs z) ss T)).map V.int)))
        ⟨same_upd nLD, upd_same⟩ (fun j G' _ hP => .inl (.inl (hP.1 _ _ ea))) (fun j x G' hx hP => ?_) (fun G' hP => ?_)
      · obtain ⟨S1, eD⟩ := hP
        rw [List.getElem?_map] at hx
        cases gx : T[j]? with
        | none => rw [gx] at hx; cases hx
        | some s =>
        rw [gx] at hx
        cases hx
        have fk := filter_take (p := gon (okF fs z) ss T) gx
        have lf : ((T.take j).filter (gon (okF fs z) ss T)).length ≤ 100 := Nat.le_trans (List.length_filter_le _ _) (by rw [List.length_take]; omega)
        refine ⟨rfl, .ref t, rfl, .int s, rfl, .ref a, rfl, t, l, d, a, s0, s, z, as, ss, fs, T, rfl, da.mono (S.trans S1), S1 _ _ ea, fun H2 s2 => ⟨_, rfl, ite2 (fun c0 => ?_) (fun c0 => ?_)⟩⟩
        · refine ⟨.int s, rfl, _, s2 _ _ eD, small (by rw [List.length_map]; omega), same_set nLD (S1.trans s2), ?_⟩
          rw [upd_same, fk, if_pos c0, List.map_append]; rfl
        · refine ⟨S1.trans s2, ?_⟩
          rw [fk, if_neg c0, List.append_nil]
          exact s2 _ _ eD
      · obtain ⟨S1, eD⟩ := hP
        rw [List.length_map, List.take_length] at eD
        exact ⟨LD, _, _, rfl, S.trans S1, S.free nLD, eD⟩
    · obtain ⟨a, y2, y3, rfl, S, na, ea⟩ := hP
      exact ⟨.ref a, rfl, q _ a S na ea⟩
def sp__law_same_list (_ : PySem.W.Frag) : Sp := fun vs H Q _ => ∃ (a b : Addr) (xs : List Int), vs = [.ref a, .ref b] ∧ H a = some (.lst (xs.map V.int)) ∧ H b = some (.lst (xs.map V.int)) ∧ xs.length ≤ 1000 ∧ ∀ H', Same H H' → Q (.bl true) H'
theorem ok__law_same_list {f : Addr} {C : Addr} {fd : FuncData} (T : Txt K mg C) (F : Fun K "_law_same_list" "_law_same_list" s__law_same_list f fd) (c__law_is_integer : Cal P w K mg base 1 "_law_is_integer" (sp__law_is_integer K) []) : FnOk P w K mg base CX0 2 f fd ["_law_actual", "_law_due"] (sp__law_same_list K) := by
  have nd := sc__law_same_list.nd
  refine F.ok sc__law_same_list (fun vs H Q E h => ?_) (fun cdv A outer s H vs Q E hr h => ?_)
  · obtain ⟨a, b, xs, rfl, _⟩ := h
    rfl
  · obtain ⟨a, b, xs, rfl, ea, eb, lx, q⟩ := h
    refine ⟨_, (pss_cons (ps_if (PW.pt (pw_or (pt_not (pt_val (pe_callB call_isi (by rfl) T.m_isinstance (by decide +kernel) (pa_cons (pv 0) (pa_cons (pe_bltn (v := .ty "list") (u := .type "list") (by rfl) T.m_list (by decide +kernel) rfl) pa_nil))))) (pw_or1 (pt_cmpR op_ne (pe_callB call_len (by rfl) T.m_len (by decide +kernel) (pa_cons (pv 0) pa_nil)) (pe_callB call_len (by rfl) T.m_len (by decide +kernel) (pa_cons (pv 1) pa_nil)) (nomark _))))) (pss_one (ps_ret pe_bl)) pss_nil)
      (pss_cons (ps_for PassesOwn.never rfl (pi_range1 (by rfl) T.m_range (pa_cons (pe_callB call_len (by rfl) T.m_len (by decide +kernel) (pa_cons (pv 1) pa_nil)) pa_nil)) (pg_name (i := 2) nd rfl (.inl rfl)) (pss_one (ps_if (PW.pt (pw_or (pt_not (pt_val (pe_c c__law_is_integer hr (by omega) (by rfl) (pa_cons (pe_ix (r := rIxL K) ix_list (pv 0) (pv 2) (fun _ _ => rfl)) pa_nil)))) (pw_or1 (pt_cmpR op_ne (pe_ix (r := rIxL K) ix_list (pv 0) (pv 2) (fun _ _ => rfl)) (pe_ix (r := rIxL K) ix_list (pv 1) (pv 2) (fun _ _ => rfl)) (nomark _))))) (pss_one (ps_ret pe_bl)) pss_nil)))
      (pss_one (ps_ret pe_bl)))), ?_⟩
    refine ⟨.ref a, rfl, .ref a, .ty "list", .type "list", _, true, rfl, .ty _, .base (.lst ea), kit_ty (show kitB "list" "list" = some true by decide +kernel), _, rfl, iteF ?_⟩
    refine ⟨.ref a, rfl, .ref a, xs.length, rfl, .inl ⟨_, .inl (.inl ea), (List.length_map _).symm⟩, .ref b, rfl, .ref b, xs.length, rfl, .inl ⟨_, .inl (.inl eb), (List.length_map _).symm⟩, rfl, _, rfl, ?_⟩
    rw [decide_eq_true (rfl : V.int (xs.length : Int) = V.int (xs.length : Int))]
    refine iteF ⟨.ref b, rfl, .ref b, xs.length, rfl, .inl ⟨_, .inl (.inl eb), (List.length_map _).symm⟩, (xs.length : Int), rfl, by omega, by omega, ?_⟩
    rw [Int.toNat_natCast]
    refine for_range (lo := 0) (n := xs.length) (fun i σ G => ∃ (y2 : Option V), σ = [some (.ref a), some (.ref b), y2] ∧ Same H G)
      ⟨none, rfl, Same.refl _⟩ (fun i σ G hi hP => ?_) (fun σ G hP => ?_)
    · obtain ⟨y2, rfl, S⟩ := hP
      obtain ⟨x, gx⟩ : ∃ x, xs[i]? = some x := ⟨_, List.getElem?_eq_getElem hi⟩
      have ga : atI (xs.map V.int) (0 + (i : Int)) = some (.int x) := by rw [Int.zero_add]; exact atI_nat (by rw [List.getElem?_map, gx]; rfl)
      refine ⟨.ref a, rfl, .int (0 + (i : Int)), rfl, a, _, _, .int x, rfl, rfl, .inl (.inl (S _ _ ea)), ga, .int x, rfl, .int x, fun H1 s1 => ⟨_, rfl, iteF ?_⟩⟩
      have S1 := S.trans s1
      refine ⟨.ref a, rfl, .int (0 + (i : Int)), rfl, a, _, _, .int x, rfl, rfl, .inl (.inl (S1 _ _ ea)), ga, .ref b, rfl, .int (0 + (i : Int)), rfl, b, _, _, .int x, rfl, rfl, .inl (.inl (S1 _ _ eb)), ga, rfl, _, rfl, ?_⟩
      rw [decide_eq_true (rfl : V.int x = V.int x)]
      exact iteF ⟨_, rfl, S1⟩
    · obtain ⟨y2, rfl, S⟩ := hP
      exact q _ S

end
end Kn

set_option Elab.async false
set_option linter.all false
set_option maxRecDepth 100000
set_option maxHeartbeats 4000000
namespace Kn
open PySem PySem.Spec PyProof.Rows L2
open C8 (Cal pe_c pe_gc Mak pe_mk)
section
variable {P : Program} {w : World} {K : PySem.W.Frag} {mg : Str → Option Value} {base : Heap}
theorem MachO.but {C : Addr} {H H' : Hp} {t p dx ls lw df lt : Addr} {as : List Addr} {ws : List Str} {ns : List Int} {s0 : Int} {ss : List KnA.Stp} {fs : List (Str × Str)} (m : MachO C H p dx ls lw df lt as ws ns s0 ss fs) (b : But t H H') (xs : List V) (e : H t = some (.lst xs)) (n1 : ls ≠ t) (n2 : lw ≠ t) (n4 : lt ≠ t) : MachO C H' p dx ls lw df lt as ws ns s0 ss fs :=
  ⟨b _ _ m.ob (ne_of m.ob e (fun z => by cases z)), b _ _ m.hs n1, Paired.mapP m.st fun _ _ q => b _ _ q (ne_of q e (fun z => by cases z)), b _ _ m.hw n2, m.wo, b _ _ m.hf (ne_of m.hf e (fun z => by cases z)), b _ _ m.ht n4, m.re⟩
theorem ok_law {f : Addr} {C : Addr} {fd : FuncData} (T : Txt K mg C) (F : Fun K "law" "law" s_law f fd) (c__law_source : Cal P w K mg base 1 "_law_source" (sp__law_source K) []) (c__law_machine : Cal P w K mg base 5 "_law_machine" (sp__law_machine K) []) (c_Machine_init : Mak P w K mg base 5 "Machine" C (sp_Machine_init K C) []) (c__law_avoiding : Cal P w K mg base 2 "_law_avoiding" (sp__law_avoiding K) []) (c_avoiding : Cal P w K mg base 5 "avoiding" (sp_avoiding K C) []) (c__law_same_list : Cal P w K mg base 2 "_law_same_list" (sp__law_same_list K) []) : FnOk P w K mg base CX0 7 f fd ["_law_script"] (sp_law K) := by
  have nd := sc_law.nd
  refine F.ok sc_law (fun vs H Q E h => ?_) (fun cdv A outer s H vs Q E hr h => ?_)
  · obtain ⟨a, ns, rfl, _⟩ := h
    rfl
  · obtain ⟨a, ns, rfl, hS, hlen, q⟩ := h
    refine ⟨_, (pss_cons (ps_set (i := 1) nd rfl (.inl rfl) (pe_c c__law_source hr (by omega) (by rfl) (pa_cons (pv 0) pa_nil)))
      (pss_cons (ps_set (i := 2) nd rfl (.inl rfl) (pe_c c__law_machine hr (by omega) (by rfl) (pa_cons (pv 1) (pa_cons pe_int (pa_cons pe_int (pa_cons pe_int (pa_cons pe_int pa_nil)))))))
      (pss_cons (ps_set (i := 3) nd rfl (.inl rfl) (pe_mk c_Machine_init hr (by omega) (by rfl) (pa_cons (pe_ix (r := rIxL K) ix_list (pv 2) pe_int (fun _ _ => rfl)) (pa_cons (pe_callTy call_list_of (by rfl) T.m_list (by decide +kernel) (pa_cons (pe_ix (r := rIxL K) ix_list (pv 2) pe_int (fun _ _ => rfl)) pa_nil)) (pa_cons (pe_callTy call_dictD (by rfl) T.m_dict (by decide +kernel) (pa_cons (pe_ix (r := rIxL K) ix_list (pv 2) pe_int (fun _ _ => rfl)) pa_nil)) pa_nil)))))
      (pss_cons (ps_for PassesOwn.never rfl (pi_list (pe_callB (show CallR _ (.builtin "sorted") (KnS.rSortedL P w) from KnS.cr_sortedL rfl) (by rfl) T.m_sorted (by decide +kernel) (pa_cons (pe_callTy (show CallR _ (.type "set") (KnS.rSetOf K P w) from KnS.cr_setOf rfl) (by rfl) T.m_set (by decide +kernel) (pa_cons (KnM.pe_listVals rfl (by rfl) T.m_list (pe_ix (r := rIxL K) ix_list (pv 2) pe_int (fun _ _ => rfl))) pa_nil)) pa_nil))) (pg_name (i := 4) nd rfl (.inl rfl)) (pss_cons (ps_asg (pv 4) (pg_sub (pv 2) pe_int set_list))
      (pss_cons (ps_set (i := 5) nd rfl (.inl rfl) (pe_c c__law_avoiding hr (by omega) (by rfl) (pa_cons (pv 2) pa_nil)))
      (pss_cons (ps_set (i := 6) nd rfl (.inl rfl) (pe_c c_avoiding hr (by omega) (by rfl) (pa_cons (pv 3) (pa_cons (pv 4) pa_nil))))
      (pss_cons (ps_if (pt_not (pt_val (pe_c c__law_same_list hr (by omega) (by rfl) (pa_cons (pv 6) (pa_cons (pv 5) pa_nil))))) (pss_one (ps_ret pe_bl)) pss_nil)
      (pss_cons (ps_expr (pe_bm PySem.F.plainAttrs_list PySem.F.slot_list_append PySem.F.type_list_append mt_append (pv 6) (pa_cons (pe_un un_neg pe_int) pa_nil)))
      (pss_one (ps_if (pt_not (pt_val (pe_c c__law_same_list hr (by omega) (by rfl) (pa_cons (pe_c c_avoiding hr (by omega) (by rfl) (pa_cons (pv 3) (pa_cons (pv 4) pa_nil))) (pa_cons (pv 5) pa_nil))))) (pss_one (ps_ret pe_bl)) pss_nil))))))))
      (pss_one (ps_ret pe_bl)))))), ?_⟩
    refine ⟨.ref a, rfl, a, ns, rfl, hS, hlen, fun H1 s c s1 ns_ src => ?_⟩
    refine ⟨.ref s, rfl, s, c, 9, 14, 6, 8, rfl, src, by decide, by decide, by decide, by decide, by decide, by decide, by decide, fun H2 t l d as ss fs s0 z b2 src2 nt nl nd_ ntd nld ntl et el hst ed gm ndf zm => ?_⟩
    have gs := gm.gs
    have hi80 := gs.hi
    -- the machine
    refine ⟨.ref t, rfl, t, _, 0, .int s0, rfl, rfl, .inl (.inl et), atI_nat (j := 0) rfl, .ref t, rfl, t, _, 1, .ref l, rfl, rfl, .inl (.inl et), atI_nat (j := 1) rfl, l, as.map V.ref, rfl, .inl (.inl (.inl el)), fun l2 nl2 => ?_⟩
    have sl := same_upd (o := .lst (as.map V.ref)) nl2
    have el2 : (upd H2 l2 (.lst (as.map V.ref))) l2 = some (.lst (as.map V.ref)) := upd_same
    generalize upd H2 l2 (.lst (as.map V.ref)) = H3 at sl el2 ⊢
    refine ⟨.ref t, rfl, t, _, 2, .ref d, rfl, rfl, .inl (.inl (sl _ _ et)), atI_nat (j := 2) rfl, d, _, rfl, .inl (sl _ _ ed), fun d2 nd2 => ?_⟩
    have sd := same_upd (o := .dK (fkv fs)) nd2
    have ed2 : (upd H3 d2 (.dK (fkv fs))) d2 = some (.dK (fkv fs)) := upd_same
    generalize upd H3 d2 (.dK (fkv fs)) = H4 at sd ed2 ⊢
    have el4 := sd _ _ el2
    have da4 : DatO H4 t l d s0 z as ss fs := (⟨et, el, hst, ed⟩ : DatO H2 t l d s0 z as ss fs).mono (sl.trans sd)
    refine fun x dx nx ndx nex => ?_
    have sx : Same H4 (upd (upd H4 dx (.own x)) x (.ins C dx [])) := fun b o e => (upd_ne (ne_of_none e nx)).trans ((upd_ne (ne_of_none e ndx)).trans e)
    refine ⟨x, dx, l2, s0, .ref d2, true, as, ss, fs, rfl, upd_same, sx _ _ el4, da4.st.mono sx, .inr ⟨d2, rfl, sx _ _ ed2⟩, gm, fun H5 dx' l1 l2' l3 l4 w2 n2' kp mo f1 f2 f3 f4 => ⟨rfl, ?_⟩⟩
    have s45 : Same H4 H5 := fun b o e => kp b o (sx _ _ e) (ne_of_none e nx)
    have hm : MachAt C H5 x s0 ss fs := ⟨_, _, _, _, _, _, _, _, mo⟩
    obtain ⟨_, _, _, _, _, _, _, sts, mo'⟩ := id hm
    have hsts := mo'.re
    have ext := sx _ _ da4.at_
    have hmb : ∀ G, But t H5 G → MachAt C G x s0 ss fs := fun G b => ⟨_, _, _, _, _, _, _, _, mo.but b _ (s45 _ _ da4.at_) (ne_of_none ext f1).symm (ne_of_none ext f2).symm (ne_of_none ext f4).symm⟩
    clear kp mo mo' sx f1 f2 f3 f4 ext
    have da5 := da4.mono s45
    have lsts : sts.length ≤ 100 := by
      have := sub_len (m := (List.range 100).map fun (i : Nat) => (i : Int)) (states_nd hsts) fun y hy => by
        have hr := (hsts.mem y).mp hy
        have hs : 0 ≤ y ∧ y ≤ 99 := by
          cases hr with
          | start => exact state_in gm.st0
          | step _ m => exact state_in (gs.good _ m).t
        exact List.mem_map.mpr ⟨y.toNat, List.mem_range.mpr (by omega), by omega⟩
      rwa [List.length_map, List.length_range] at this
    -- the names
    refine ⟨.ref t, rfl, t, _, 2, .ref d, rfl, rfl, .inl (.inl da5.at_), atI_nat (j := 2) rfl, d, _, rfl, .inl da5.hd, fun v1 nv1 => ?_⟩
    have sv := same_upd (o := .lst ((fkv fs).map (·.2))) nv1
    have ev : (fkv fs).map (·.2) = ((fs.map (·.2)).map Sum.inr).map kV := by
      unfold fkv
      rw [List.map_map, List.map_map, List.map_map]
      rfl
    have lfs := gm.gf.len
    refine ⟨v1, (fs.map (·.2)).map Sum.inr, rfl, .inl (.inl (by rw [upd_same, ev])), by rw [List.length_map, List.length_map]; unfold scanBound; omega, fun D nD => ?_⟩
    have sD := same_upd (o := KnS.SetL P w D (KnS.allL ((fs.map (·.2)).map Sum.inr))) nD
    obtain ⟨ys, ey, ny, my⟩ := allL_strs (fs.map (·.2))
    refine ⟨D, ys, rfl, by rw [← ey]; exact upd_same, fun xs xl px sx nxl => ?_⟩
    have s6 := same_upd (o := .lst (xs.map V.str)) nxl
    have exl : (upd (upd (upd H5 v1 (.lst ((fkv fs).map (·.2)))) D (KnS.SetL P w D (KnS.allL ((fs.map (·.2)).map Sum.inr)))) xl (.lst (xs.map V.str))) xl = some (.lst (xs.map V.str)) := upd_same
    have s56 := sv.trans (sD.trans s6)
    have nxl5 : H5 xl = none := sv.free (sD.free nxl)
    generalize upd (upd (upd H5 v1 (.lst ((fkv fs).map (·.2)))) D (KnS.SetL P w D (KnS.allL ((fs.map (·.2)).map Sum.inr)))) xl (.lst (xs.map V.str)) = H6 at s56 exl ⊢
    clear sv sD s6
    have nxt : xl ≠ t := (ne_of_none da5.at_ nxl5).symm
    refine ⟨xl, rfl, ⟨_, .inl (.inl exl)⟩, ?_⟩
    refine for_list (K := K) (xs := xs.map V.str) (fun i σ G => ∃ (y4 y5 y6 : Option V) (z' : Str), σ = [some (.ref a), some (.ref s), some (.ref t), some (.ref x), y4, y5, y6] ∧ But t H5 G ∧ G xl = some (.lst (xs.map V.str)) ∧ G t = some (.lst [.int s0, .ref l, .ref d, .str z']))
      ⟨_, _, _, z, rfl, Same.but s56, exl, s56 _ _ da5.at_⟩ (fun i σ G _ hP => ?_) (fun i v σ G hx hP => ?_) (fun σ G hP => ?_)
    · obtain ⟨_, _, _, _, _, _, h, _⟩ := hP
      exact .inl (.inl h)
    · obtain ⟨y4, y5, y6, z', rfl, b, exl, et⟩ := hP
      rw [List.getElem?_map] at hx
      cases gx : xs[i]? with
      | none => rw [gx] at hx; cases hx
      | some n =>
      rw [gx] at hx
      cases hx
      have hn : n ∈ fs.map (·.2) := (my n).mp (px.mem_iff.mp (List.mem_of_getElem? gx))
      have hnb : nameB (.str n) = true := by
        obtain ⟨p, hp, e⟩ := List.mem_map.mp hn
        rw [← e]
        exact (gm.gf.word p hp).2.2
      refine ⟨.str n, rfl, .ref t, rfl, t, _, 3, 3, rfl, rfl, et, rfl, ?_⟩
      have b1 : But t H5 (upd G t (.lst [.int s0, .ref l, .ref d, .str n])) := b.trans But.put
      have et1 : (upd G t (.lst [.int s0, .ref l, .ref d, .str n])) t = some (.lst [.int s0, .ref l, .ref d, .str n]) := upd_same
      have exl1 : (upd G t (.lst [.int s0, .ref l, .ref d, .str n])) xl = some (.lst (xs.map V.str)) := (upd_ne nxt).trans exl
      show Ends.nx _ _ (upd G t (.lst [.int s0, .ref l, .ref d, .str n]))
      generalize upd G t (.lst [.int s0, .ref l, .ref d, .str n]) = G1 at b1 et1 exl1 ⊢
      have da1 : DatO G1 t l d s0 n as ss fs := ⟨et1, b1 _ _ da5.hl ntl.symm, Paired.mapP da5.st fun _ _ q => b1 _ _ q (ne_of q da5.at_ (fun z => by cases z)), b1 _ _ da5.hd ntd.symm⟩
      have hm1 := hmb G1 b1
      refine ⟨.ref t, rfl, t, l, d, s0, n, as, ss, fs, sts, rfl, da1, gm.st0, gs.good, hsts, lsts, fun G2 du s2 ndu edu => ?_⟩
      have hm2 := hm1.mono s2
      have lT : (thins (okF fs n) ss sts sts.length).length ≤ 100 := Nat.le_trans (thins_sub _ _ _ _).length_le lsts
      have hff : ∀ q ∈ fs, q.1 ∈ ss.map (·.2.1) := fun q hq => (gm.gf.word q hq).2.1
      refine ⟨.ref x, rfl, .str n, rfl, x, s0, ss, fs, n, sts, rfl, hm2, by omega, hsts, lsts, ndf, hff, hnb, hn, fun G3 ac s3 nac eac => ?_⟩
      refine ⟨.ref ac, rfl, .ref du, rfl, ac, du, _, rfl, eac, s3 _ _ edu, by omega, fun G4 s4 => ⟨_, rfl, iteF ?_⟩⟩
      have eac4 := s4 _ _ eac
      refine ⟨.ref ac, rfl, .inl ⟨rfl, _, .inl (.inl eac4)⟩, 1, rfl, ac, _, _, rfl, rfl, eac4, small (by rw [List.length_map]; omega), ?_⟩
      have s24 := s3.trans s4
      have s25 : Same G2 (upd G4 ac (.lst ((thins (okF fs n) ss sts sts.length).map V.int ++ [V.int (-1)]))) := same_set nac s24
      generalize upd G4 ac (.lst ((thins (okF fs n) ss sts sts.length).map V.int ++ [V.int (-1)])) = G5 at s25
      refine ⟨.ref x, rfl, .str n, rfl, x, s0, ss, fs, n, sts, rfl, hm2.mono s25, by omega, hsts, lsts, ndf, hff, hnb, hn, fun G6 ac2 s6 nac2 eac2 => ?_⟩
      have s26 := s25.trans s6
      refine ⟨.ref du, rfl, ac2, du, _, rfl, eac2, s26 _ _ edu, by omega, fun G7 s7 => ⟨_, rfl, iteF ?_⟩⟩
      have s17 := s2.trans (s26.trans s7)
      exact ⟨_, _, _, n, rfl, b1.trans (Same.but s17), s17 _ _ exl1, s17 _ _ et1⟩
    · exact q G

end
end Kn

set_option Elab.async false
set_option linter.all false
set_option maxRecDepth 100000
set_option maxHeartbeats 4000000
namespace Kn
open PySem PySem.Spec PyProof.Rows L2
open C8 (Cal pe_c pe_gc Mak pe_mk)
theorem all_mk {l : PySem.W.OpenLaw} {w : World} {K : PySem.W.Frag} {h : Heap} {mg : Str → Option Value} {fa : Addr} (X : K.In h) (G : h.Ns mainGlobals mg) (hfa : mg "law" = some (.ref fa))
    {t18 : Addr} {tc18 : Value} {td18 : Option Addr} {tn18 : Nat} {ts18 : Array (Option Value)}
    {od0 an0 : Option Addr} {sl0 : Array (Option Value)} {oc0 kV0 dc0 pm0 cd0 ct0 : Value} {f0 : Addr}
    {od1 an1 : Option Addr} {sl1 : Array (Option Value)} {oc1 kV1 dc1 pm1 cd1 ct1 : Value} {f1 : Addr}
    {od2 an2 : Option Addr} {sl2 : Array (Option Value)} {oc2 kV2 dc2 pm2 cd2 ct2 : Value} {f2 : Addr}
    {od3 an3 : Option Addr} {sl3 : Array (Option Value)} {oc3 kV3 dc3 pm3 cd3 ct3 : Value} {f3 : Addr}
    {od4 an4 : Option Addr} {sl4 : Array (Option Value)} {oc4 kV4 dc4 pm4 cd4 ct4 : Value} {f4 : Addr}
    {od5 an5 : Option Addr} {sl5 : Array (Option Value)} {oc5 kV5 dc5 pm5 cd5 ct5 : Value} {f5 : Addr}
    {od6 an6 : Option Addr} {sl6 : Array (Option Value)} {oc6 kV6 dc6 pm6 cd6 ct6 : Value} {f6 : Addr}
    {od7 an7 : Option Addr} {sl7 : Array (Option Value)} {oc7 kV7 dc7 pm7 cd7 ct7 : Value} {f7 : Addr}
    {od8 an8 : Option Addr} {sl8 : Array (Option Value)} {oc8 kV8 dc8 pm8 cd8 ct8 : Value} {f8 : Addr}
    {od9 an9 : Option Addr} {sl9 : Array (Option Value)} {oc9 kV9 dc9 pm9 cd9 ct9 : Value} {f9 : Addr}
    {od10 an10 : Option Addr} {sl10 : Array (Option Value)} {oc10 kV10 dc10 pm10 cd10 ct10 : Value} {f10 : Addr}
    {od11 an11 : Option Addr} {sl11 : Array (Option Value)} {oc11 kV11 dc11 pm11 cd11 ct11 : Value} {f11 : Addr}
    {od12 an12 : Option Addr} {sl12 : Array (Option Value)} {oc12 kV12 dc12 pm12 cd12 ct12 : Value} {f12 : Addr}
    {od13 an13 : Option Addr} {sl13 : Array (Option Value)} {oc13 kV13 dc13 pm13 cd13 ct13 : Value} {f13 : Addr}
    {od14 an14 : Option Addr} {sl14 : Array (Option Value)} {oc14 kV14 dc14 pm14 cd14 ct14 : Value} {f14 : Addr}
    {od15 an15 : Option Addr} {sl15 : Array (Option Value)} {oc15 kV15 dc15 pm15 cd15 ct15 : Value} {f15 : Addr}
    {od16 an16 : Option Addr} {sl16 : Array (Option Value)} {oc16 kV16 dc16 pm16 cd16 ct16 : Value} {f16 : Addr}
    {od17 an17 : Option Addr} {sl17 : Array (Option Value)} {oc17 kV17 dc17 pm17 cd17 ct17 : Value} {f17 : Addr}
    {od18 an18 : Option Addr} {sl18 : Array (Option Value)} {oc18 kV18 dc18 pm18 cd18 ct18 : Value} {f18 : Addr}
    {od19 an19 : Option Addr} {sl19 : Array (Option Value)} {oc19 kV19 dc19 pm19 cd19 ct19 : Value} {f19 : Addr}
    {od20 an20 : Option Addr} {sl20 : Array (Option Value)} {oc20 kV20 dc20 pm20 cd20 ct20 : Value} {f20 : Addr}
    {od21 an21 : Option Addr} {sl21 : Array (Option Value)} {oc21 kV21 dc21 pm21 cd21 ct21 : Value} {f21 : Addr}
    {od22 an22 : Option Addr} {sl22 : Array (Option Value)} {oc22 kV22 dc22 pm22 cd22 ct22 : Value} {f22 : Addr}
    {od23 an23 : Option Addr} {sl23 : Array (Option Value)} {oc23 kV23 dc23 pm23 cd23 ct23 : Value} {f23 : Addr}
    {od24 an24 : Option Addr} {sl24 : Array (Option Value)} {oc24 kV24 dc24 pm24 cd24 ct24 : Value} {f24 : Addr}
    {od25 an25 : Option Addr} {sl25 : Array (Option Value)} {oc25 kV25 dc25 pm25 cd25 ct25 : Value} {f25 : Addr}
    {od26 an26 : Option Addr} {sl26 : Array (Option Value)} {oc26 kV26 dc26 pm26 cd26 ct26 : Value} {f26 : Addr}
    {od27 an27 : Option Addr} {sl27 : Array (Option Value)} {oc27 kV27 dc27 pm27 cd27 ct27 : Value} {f27 : Addr}
    {od28 an28 : Option Addr} {sl28 : Array (Option Value)} {oc28 kV28 dc28 pm28 cd28 ct28 : Value} {f28 : Addr}
    {od29 an29 : Option Addr} {sl29 : Array (Option Value)} {oc29 kV29 dc29 pm29 cd29 ct29 : Value} {f29 : Addr}
    {od30 an30 : Option Addr} {sl30 : Array (Option Value)} {oc30 kV30 dc30 pm30 cd30 ct30 : Value} {f30 : Addr}
    {od31 an31 : Option Addr} {sl31 : Array (Option Value)} {oc31 kV31 dc31 pm31 cd31 ct31 : Value} {f31 : Addr}
    {od32 an32 : Option Addr} {sl32 : Array (Option Value)} {oc32 kV32 dc32 pm32 cd32 ct32 : Value} {f32 : Addr}
    {od33 an33 : Option Addr} {sl33 : Array (Option Value)} {oc33 kV33 dc33 pm33 cd33 ct33 : Value} {f33 : Addr}
    {C : Addr} (aC : PySem.W.nsIn K mainGlobals "Machine" = some (some (.ref C)))
    (ihn : PySem.W.specialIn K (.builtin "object.__class__") "__get__" = some (some (.builtin "getset_descriptor.__get__"))) (ihtk : PySem.W.takesIn K (.builtin "object.__class__") = some true)
    (a0 : PySem.W.nsIn K mainGlobals "_law_source" = some (some (.ref f0)))
    (l0 : K.lookup f0 = some ⟨oc0, od0, .func (PySem.W.fnOf "_law_source" "_law_source" (defArgs s__law_source) (defBody s__law_source) (defScope s__law_source) .none kV0 dc0 pm0 an0 cd0 ct0), sl0⟩) (d0 : PySem.W.codeIn K cd0 "_law_source" = true) (k0 : PySem.W.keepIn K (.ref f0) = true)
    (a1 : PySem.W.nsIn K mainGlobals "_law_draw" = some (some (.ref f1)))
    (l1 : K.lookup f1 = some ⟨oc1, od1, .func (PySem.W.fnOf "_law_draw" "_law_draw" (defArgs s__law_draw) (defBody s__law_draw) (defScope s__law_draw) .none kV1 dc1 pm1 an1 cd1 ct1), sl1⟩) (d1 : PySem.W.codeIn K cd1 "_law_draw" = true) (k1 : PySem.W.keepIn K (.ref f1) = true)
    (a2 : PySem.W.nsIn K mainGlobals "_law_states" = some (some (.ref f2)))
    (l2 : K.lookup f2 = some ⟨oc2, od2, .func (PySem.W.fnOf "_law_states" "_law_states" (defArgs s__law_states) (defBody s__law_states) (defScope s__law_states) .none kV2 dc2 pm2 an2 cd2 ct2), sl2⟩) (d2 : PySem.W.codeIn K cd2 "_law_states" = true) (k2 : PySem.W.keepIn K (.ref f2) = true)
    (a3 : PySem.W.nsIn K mainGlobals "_law_step" = some (some (.ref f3)))
    (l3 : K.lookup f3 = some ⟨oc3, od3, .func (PySem.W.fnOf "_law_step" "_law_step" (defArgs s__law_step) (defBody s__law_step) (defScope s__law_step) .none kV3 dc3 pm3 an3 cd3 ct3), sl3⟩) (d3 : PySem.W.codeIn K cd3 "_law_step" = true) (k3 : PySem.W.keepIn K (.ref f3) = true)
    (a4 : PySem.W.nsIn K mainGlobals "_law_steps" = some (some (.ref f4)))
    (l4 : K.lookup f4 = some ⟨oc4, od4, .func (PySem.W.fnOf "_law_steps" "_law_steps" (defArgs s__law_steps) (defBody s__law_steps) (defScope s__law_steps) .none kV4 dc4 pm4 an4 cd4 ct4), sl4⟩) (d4 : PySem.W.codeIn K cd4 "_law_steps" = true) (k4 : PySem.W.keepIn K (.ref f4) = true)
    (a5 : PySem.W.nsIn K mainGlobals "_law_name" = some (some (.ref f5)))
    (l5 : K.lookup f5 = some ⟨oc5, od5, .func (PySem.W.fnOf "_law_name" "_law_name" (defArgs s__law_name) (defBody s__law_name) (defScope s__law_name) .none kV5 dc5 pm5 an5 cd5 ct5), sl5⟩) (d5 : PySem.W.codeIn K cd5 "_law_name" = true) (k5 : PySem.W.keepIn K (.ref f5) = true)
    (a6 : PySem.W.nsIn K mainGlobals "_law_names" = some (some (.ref f6)))
    (l6 : K.lookup f6 = some ⟨oc6, od6, .func (PySem.W.fnOf "_law_names" "_law_names" (defArgs s__law_names) (defBody s__law_names) (defScope s__law_names) .none kV6 dc6 pm6 an6 cd6 ct6), sl6⟩) (d6 : PySem.W.codeIn K cd6 "_law_names" = true) (k6 : PySem.W.keepIn K (.ref f6) = true)
    (a7 : PySem.W.nsIn K mainGlobals "_law_faults" = some (some (.ref f7)))
    (l7 : K.lookup f7 = some ⟨oc7, od7, .func (PySem.W.fnOf "_law_faults" "_law_faults" (defArgs s__law_faults) (defBody s__law_faults) (defScope s__law_faults) .none kV7 dc7 pm7 an7 cd7 ct7), sl7⟩) (d7 : PySem.W.codeIn K cd7 "_law_faults" = true) (k7 : PySem.W.keepIn K (.ref f7) = true)
    (a8 : PySem.W.nsIn K mainGlobals "_law_machine" = some (some (.ref f8)))
    (l8 : K.lookup f8 = some ⟨oc8, od8, .func (PySem.W.fnOf "_law_machine" "_law_machine" (defArgs s__law_machine) (defBody s__law_machine) (defScope s__law_machine) .none kV8 dc8 pm8 an8 cd8 ct8), sl8⟩) (d8 : PySem.W.codeIn K cd8 "_law_machine" = true) (k8 : PySem.W.keepIn K (.ref f8) = true)
    (a9 : PySem.W.nsIn K mainGlobals "is_whole" = some (some (.ref f9)))
    (l9 : K.lookup f9 = some ⟨oc9, od9, .func (PySem.W.fnOf "is_whole" "is_whole" (defArgs s_is_whole) (defBody s_is_whole) (defScope s_is_whole) .none kV9 dc9 pm9 an9 cd9 ct9), sl9⟩) (d9 : PySem.W.codeIn K cd9 "is_whole" = true) (k9 : PySem.W.keepIn K (.ref f9) = true)
    (a10 : PySem.W.nsIn K mainGlobals "is_state" = some (some (.ref f10)))
    (l10 : K.lookup f10 = some ⟨oc10, od10, .func (PySem.W.fnOf "is_state" "is_state" (defArgs s_is_state) (defBody s_is_state) (defScope s_is_state) .none kV10 dc10 pm10 an10 cd10 ct10), sl10⟩) (d10 : PySem.W.codeIn K cd10 "is_state" = true) (k10 : PySem.W.keepIn K (.ref f10) = true)
    (a11 : PySem.W.nsIn K mainGlobals "is_row" = some (some (.ref f11)))
    (l11 : K.lookup f11 = some ⟨oc11, od11, .func (PySem.W.fnOf "is_row" "is_row" (defArgs s_is_row) (defBody s_is_row) (defScope s_is_row) .none kV11 dc11 pm11 an11 cd11 ct11), sl11⟩) (d11 : PySem.W.codeIn K cd11 "is_row" = true) (k11 : PySem.W.keepIn K (.ref f11) = true)
    (a12 : PySem.W.nsIn K mainGlobals "is_name" = some (some (.ref f12)))
    (l12 : K.lookup f12 = some ⟨oc12, od12, .func (PySem.W.fnOf "is_name" "is_name" (defArgs s_is_name) (defBody s_is_name) (defScope s_is_name) .none kV12 dc12 pm12 an12 cd12 ct12), sl12⟩) (d12 : PySem.W.codeIn K cd12 "is_name" = true) (k12 : PySem.W.keepIn K (.ref f12) = true)
    (a13 : PySem.W.nsIn K mainGlobals "is_step" = some (some (.ref f13)))
    (l13 : K.lookup f13 = some ⟨oc13, od13, .func (PySem.W.fnOf "is_step" "is_step" (defArgs s_is_step) (defBody s_is_step) (defScope s_is_step) .none kV13 dc13 pm13 an13 cd13 ct13), sl13⟩) (d13 : PySem.W.codeIn K cd13 "is_step" = true) (k13 : PySem.W.keepIn K (.ref f13) = true)
    (a14 : PySem.W.nsIn K mainGlobals "check_steps" = some (some (.ref f14)))
    (l14 : K.lookup f14 = some ⟨oc14, od14, .func (PySem.W.fnOf "check_steps" "check_steps" (defArgs s_check_steps) (defBody s_check_steps) (defScope s_check_steps) .none kV14 dc14 pm14 an14 cd14 ct14), sl14⟩) (d14 : PySem.W.codeIn K cd14 "check_steps" = true) (k14 : PySem.W.keepIn K (.ref f14) = true)
    (a15 : PySem.W.nsIn K mainGlobals "check_faults" = some (some (.ref f15)))
    (l15 : K.lookup f15 = some ⟨oc15, od15, .func (PySem.W.fnOf "check_faults" "check_faults" (defArgs s_check_faults) (defBody s_check_faults) (defScope s_check_faults) .none kV15 dc15 pm15 an15 cd15 ct15), sl15⟩) (d15 : PySem.W.codeIn K cd15 "check_faults" = true) (k15 : PySem.W.keepIn K (.ref f15) = true)
    (a16 : PySem.W.nsIn K mainGlobals "moves_by_state" = some (some (.ref f16)))
    (l16 : K.lookup f16 = some ⟨oc16, od16, .func (PySem.W.fnOf "moves_by_state" "moves_by_state" (defArgs s_moves_by_state) (defBody s_moves_by_state) (defScope s_moves_by_state) .none kV16 dc16 pm16 an16 cd16 ct16), sl16⟩) (d16 : PySem.W.codeIn K cd16 "moves_by_state" = true) (k16 : PySem.W.keepIn K (.ref f16) = true)
    (a17 : PySem.W.nsIn K mainGlobals "reached_states" = some (some (.ref f17)))
    (l17 : K.lookup f17 = some ⟨oc17, od17, .func (PySem.W.fnOf "reached_states" "reached_states" (defArgs s_reached_states) (defBody s_reached_states) (defScope s_reached_states) .none kV17 dc17 pm17 an17 cd17 ct17), sl17⟩) (d17 : PySem.W.codeIn K cd17 "reached_states" = true) (k17 : PySem.W.keepIn K (.ref f17) = true)
    (a18 : PySem.W.findIn K (.ref C) "__init__" = some (some (.ref f18))) (i18 : PySem.W.isFn K (.ref f18) = true)
    (l18 : K.lookup f18 = some ⟨oc18, od18, .func (PySem.W.fnOf "__init__" "Machine.__init__" (defArgs s_Machine_init) (defBody s_Machine_init) (defScope s_Machine_init) (.ref t18) kV18 dc18 pm18 an18 cd18 ct18), sl18⟩) (d18 : PySem.W.codeIn K cd18 "Machine.__init__" = true) (k18 : PySem.W.keepIn K (.ref f18) = true)
    (tl18 : K.lookup t18 = some ⟨tc18, td18, .seq #[.none] tn18, ts18⟩)
    (a19 : PySem.W.nsIn K mainGlobals "_law_reached" = some (some (.ref f19)))
    (l19 : K.lookup f19 = some ⟨oc19, od19, .func (PySem.W.fnOf "_law_reached" "_law_reached" (defArgs s__law_reached) (defBody s__law_reached) (defScope s__law_reached) .none kV19 dc19 pm19 an19 cd19 ct19), sl19⟩) (d19 : PySem.W.codeIn K cd19 "_law_reached" = true) (k19 : PySem.W.keepIn K (.ref f19) = true)
    (a20 : PySem.W.nsIn K mainGlobals "_law_goes_on" = some (some (.ref f20)))
    (l20 : K.lookup f20 = some ⟨oc20, od20, .func (PySem.W.fnOf "_law_goes_on" "_law_goes_on" (defArgs s__law_goes_on) (defBody s__law_goes_on) (defScope s__law_goes_on) .none kV20 dc20 pm20 an20 cd20 ct20), sl20⟩) (d20 : PySem.W.codeIn K cd20 "_law_goes_on" = true) (k20 : PySem.W.keepIn K (.ref f20) = true)
    (a21 : PySem.W.nsIn K mainGlobals "_law_avoiding" = some (some (.ref f21)))
    (l21 : K.lookup f21 = some ⟨oc21, od21, .func (PySem.W.fnOf "_law_avoiding" "_law_avoiding" (defArgs s__law_avoiding) (defBody s__law_avoiding) (defScope s__law_avoiding) .none kV21 dc21 pm21 an21 cd21 ct21), sl21⟩) (d21 : PySem.W.codeIn K cd21 "_law_avoiding" = true) (k21 : PySem.W.keepIn K (.ref f21) = true)
    {p22 : Addr} {rs22 : List Value} (a22 : PySem.W.findIn K (.ref C) "fault_names" = some (some (.ref p22))) (g22 : PySem.W.specialIn K (.ref p22) "__get__" = some (some (.builtin "property.__get__"))) (w22 : PySem.W.takesIn K (.ref p22) = some true) (r22 : PySem.W.recIn K p22 "property" = some (.ref f22 :: rs22))
    (l22 : K.lookup f22 = some ⟨oc22, od22, .func (PySem.W.fnOf "fault_names" "Machine.fault_names" (defArgs s_Machine_fault_names) (defBody s_Machine_fault_names) (defScope s_Machine_fault_names) .none kV22 dc22 pm22 an22 cd22 ct22), sl22⟩) (d22 : PySem.W.codeIn K cd22 "Machine.fault_names" = true) (k22 : PySem.W.keepIn K (.ref f22) = true)
    (a23 : PySem.W.nsIn K mainGlobals "check_fault" = some (some (.ref f23)))
    (l23 : K.lookup f23 = some ⟨oc23, od23, .func (PySem.W.fnOf "check_fault" "check_fault" (defArgs s_check_fault) (defBody s_check_fault) (defScope s_check_fault) .none kV23 dc23 pm23 an23 cd23 ct23), sl23⟩) (d23 : PySem.W.codeIn K cd23 "check_fault" = true) (k23 : PySem.W.keepIn K (.ref f23) = true)
    {p24 : Addr} {rs24 : List Value} (a24 : PySem.W.findIn K (.ref C) "states" = some (some (.ref p24))) (g24 : PySem.W.specialIn K (.ref p24) "__get__" = some (some (.builtin "property.__get__"))) (w24 : PySem.W.takesIn K (.ref p24) = some true) (r24 : PySem.W.recIn K p24 "property" = some (.ref f24 :: rs24))
    (l24 : K.lookup f24 = some ⟨oc24, od24, .func (PySem.W.fnOf "states" "Machine.states" (defArgs s_Machine_states) (defBody s_Machine_states) (defScope s_Machine_states) .none kV24 dc24 pm24 an24 cd24 ct24), sl24⟩) (d24 : PySem.W.codeIn K cd24 "Machine.states" = true) (k24 : PySem.W.keepIn K (.ref f24) = true)
    {p25 : Addr} {rs25 : List Value} (a25 : PySem.W.findIn K (.ref C) "faults" = some (some (.ref p25))) (g25 : PySem.W.specialIn K (.ref p25) "__get__" = some (some (.builtin "property.__get__"))) (w25 : PySem.W.takesIn K (.ref p25) = some true) (r25 : PySem.W.recIn K p25 "property" = some (.ref f25 :: rs25))
    (l25 : K.lookup f25 = some ⟨oc25, od25, .func (PySem.W.fnOf "faults" "Machine.faults" (defArgs s_Machine_faults) (defBody s_Machine_faults) (defScope s_Machine_faults) .none kV25 dc25 pm25 an25 cd25 ct25), sl25⟩) (d25 : PySem.W.codeIn K cd25 "Machine.faults" = true) (k25 : PySem.W.keepIn K (.ref f25) = true)
    {p26 : Addr} {rs26 : List Value} (a26 : PySem.W.findIn K (.ref C) "steps" = some (some (.ref p26))) (g26 : PySem.W.specialIn K (.ref p26) "__get__" = some (some (.builtin "property.__get__"))) (w26 : PySem.W.takesIn K (.ref p26) = some true) (r26 : PySem.W.recIn K p26 "property" = some (.ref f26 :: rs26))
    (l26 : K.lookup f26 = some ⟨oc26, od26, .func (PySem.W.fnOf "steps" "Machine.steps" (defArgs s_Machine_steps) (defBody s_Machine_steps) (defScope s_Machine_steps) .none kV26 dc26 pm26 an26 cd26 ct26), sl26⟩) (d26 : PySem.W.codeIn K cd26 "Machine.steps" = true) (k26 : PySem.W.keepIn K (.ref f26) = true)
    (a27 : PySem.W.nsIn K mainGlobals "steps_of_fault" = some (some (.ref f27)))
    (l27 : K.lookup f27 = some ⟨oc27, od27, .func (PySem.W.fnOf "steps_of_fault" "steps_of_fault" (defArgs s_steps_of_fault) (defBody s_steps_of_fault) (defScope s_steps_of_fault) .none kV27 dc27 pm27 an27 cd27 ct27), sl27⟩) (d27 : PySem.W.codeIn K cd27 "steps_of_fault" = true) (k27 : PySem.W.keepIn K (.ref f27) = true)
    (a28 : PySem.W.nsIn K mainGlobals "steps_by_state" = some (some (.ref f28)))
    (l28 : K.lookup f28 = some ⟨oc28, od28, .func (PySem.W.fnOf "steps_by_state" "steps_by_state" (defArgs s_steps_by_state) (defBody s_steps_by_state) (defScope s_steps_by_state) .none kV28 dc28 pm28 an28 cd28 ct28), sl28⟩) (d28 : PySem.W.codeIn K cd28 "steps_by_state" = true) (k28 : PySem.W.keepIn K (.ref f28) = true)
    (a29 : PySem.W.nsIn K mainGlobals "safe_steps" = some (some (.ref f29)))
    (l29 : K.lookup f29 = some ⟨oc29, od29, .func (PySem.W.fnOf "safe_steps" "safe_steps" (defArgs s_safe_steps) (defBody s_safe_steps) (defScope s_safe_steps) .none kV29 dc29 pm29 an29 cd29 ct29), sl29⟩) (d29 : PySem.W.codeIn K cd29 "safe_steps" = true) (k29 : PySem.W.keepIn K (.ref f29) = true)
    (a30 : PySem.W.nsIn K mainGlobals "avoiding" = some (some (.ref f30)))
    (l30 : K.lookup f30 = some ⟨oc30, od30, .func (PySem.W.fnOf "avoiding" "avoiding" (defArgs s_avoiding) (defBody s_avoiding) (defScope s_avoiding) .none kV30 dc30 pm30 an30 cd30 ct30), sl30⟩) (d30 : PySem.W.codeIn K cd30 "avoiding" = true) (k30 : PySem.W.keepIn K (.ref f30) = true)
    (a31 : PySem.W.nsIn K mainGlobals "_law_is_integer" = some (some (.ref f31)))
    (l31 : K.lookup f31 = some ⟨oc31, od31, .func (PySem.W.fnOf "_law_is_integer" "_law_is_integer" (defArgs s__law_is_integer) (defBody s__law_is_integer) (defScope s__law_is_integer) .none kV31 dc31 pm31 an31 cd31 ct31), sl31⟩) (d31 : PySem.W.codeIn K cd31 "_law_is_integer" = true) (k31 : PySem.W.keepIn K (.ref f31) = true)
    (a32 : PySem.W.nsIn K mainGlobals "_law_same_list" = some (some (.ref f32)))
    (l32 : K.lookup f32 = some ⟨oc32, od32, .func (PySem.W.fnOf "_law_same_list" "_law_same_list" (defArgs s__law_same_list) (defBody s__law_same_list) (defScope s__law_same_list) .none kV32 dc32 pm32 an32 cd32 ct32), sl32⟩) (d32 : PySem.W.codeIn K cd32 "_law_same_list" = true) (k32 : PySem.W.keepIn K (.ref f32) = true)
    (a33 : PySem.W.nsIn K mainGlobals "law" = some (some (.ref f33)))
    (l33 : K.lookup f33 = some ⟨oc33, od33, .func (PySem.W.fnOf "law" "law" (defArgs s_law) (defBody s_law) (defScope s_law) .none kV33 dc33 pm33 an33 cd33 ct33), sl33⟩) (d33 : PySem.W.codeIn K cd33 "law" = true) (k33 : PySem.W.keepIn K (.ref f33) = true)
    (pgC : PySem.W.plainGet K C Str.empty = true) (hdC : PySem.W.hasDictIn K C = true) (poC : PySem.W.plainOver K C = true) (saC : PySem.W.findIn K (.ref C) "__setattr__" = some (some (.builtin "object.__setattr__"))) (mkC : PySem.W.makesIn K C = true) (kcC : PySem.W.keepIn K (.ref C) = true)
    (ihaC : PySem.W.findIn K (.ref C) "__class__" = some (some (.builtin "object.__class__"))) (ihmC : PySem.W.mroIn K C (.type "object") = some true)
    (n__start : PySem.W.findIn K (.ref C) "_start" = some none)
    (n__steps : PySem.W.findIn K (.ref C) "_steps" = some none)
    (n__words : PySem.W.findIn K (.ref C) "_words" = some none)
    (n__faults : PySem.W.findIn K (.ref C) "_faults" = some none)
    (n__states : PySem.W.findIn K (.ref C) "_states" = some none)
    (z_all : PySem.W.nsIn K mainGlobals "all" = some none)
    (z_bool : PySem.W.nsIn K mainGlobals "bool" = some none)
    (z_dict : PySem.W.nsIn K mainGlobals "dict" = some none)
    (z_enumerate : PySem.W.nsIn K mainGlobals "enumerate" = some none)
    (z_int : PySem.W.nsIn K mainGlobals "int" = some none)
    (z_isinstance : PySem.W.nsIn K mainGlobals "isinstance" = some none)
    (z_len : PySem.W.nsIn K mainGlobals "len" = some none)
    (z_list : PySem.W.nsIn K mainGlobals "list" = some none)
    (z_range : PySem.W.nsIn K mainGlobals "range" = some none)
    (z_set : PySem.W.nsIn K mainGlobals "set" = some none)
    (z_sorted : PySem.W.nsIn K mainGlobals "sorted" = some none)
    (z_str : PySem.W.nsIn K mainGlobals "str" = some none)
    (z_tuple : PySem.W.nsIn K mainGlobals "tuple" = some none)
    {u_GREATEST_STATE : Value} (g_GREATEST_STATE : PySem.W.nsIn K mainGlobals "GREATEST_STATE" = some (some u_GREATEST_STATE)) (r_GREATEST_STATE : RelV (.int 99) u_GREATEST_STATE)
    {u_LONGEST_NAME : Value} (g_LONGEST_NAME : PySem.W.nsIn K mainGlobals "LONGEST_NAME" = some (some u_LONGEST_NAME)) (r_LONGEST_NAME : RelV (.int 12) u_LONGEST_NAME)
    {u_LETTERS : Value} (g_LETTERS : PySem.W.nsIn K mainGlobals "LETTERS" = some (some u_LETTERS)) (r_LETTERS : RelV (.str "abcdefghijklmnopqrstuvwxyz") u_LETTERS)
    {u_MOST_STEPS : Value} (g_MOST_STEPS : PySem.W.nsIn K mainGlobals "MOST_STEPS" = some (some u_MOST_STEPS)) (r_MOST_STEPS : RelV (.int 80) u_MOST_STEPS)
    {u_MOST_LEAVING : Value} (g_MOST_LEAVING : PySem.W.nsIn K mainGlobals "MOST_LEAVING" = some (some u_MOST_LEAVING)) (r_MOST_LEAVING : RelV (.int 8) u_MOST_LEAVING)
    {u_MOST_FAULTS : Value} (g_MOST_FAULTS : PySem.W.nsIn K mainGlobals "MOST_FAULTS" = some (some u_MOST_FAULTS)) (r_MOST_FAULTS : RelV (.int 3) u_MOST_FAULTS)
    {u_MOST_WORDS : Value} (g_MOST_WORDS : PySem.W.nsIn K mainGlobals "MOST_WORDS" = some (some u_MOST_WORDS)) (r_MOST_WORDS : RelV (.int 14) u_MOST_WORDS) :
    ∃ fd : FuncData, (∀ (s : Shared) (v : Value), BindsTo s fd ⟨[v], []⟩ [("_law_script", v)]) ∧ ∀ base : Heap, K.In base → base.Ns mainGlobals mg → FnOk l.prog w K mg base CX0 7 fa fd ["_law_script"] (sp_law K) := by
  have e := hfa.symm.trans (PySem.W.mg_of X G a33)
  cases e
  have T : Txt K mg C := ⟨PySem.W.mg_none_of X G z_all, PySem.W.mg_none_of X G z_bool, PySem.W.mg_none_of X G z_dict, PySem.W.mg_none_of X G z_enumerate, PySem.W.mg_none_of X G z_int, PySem.W.mg_none_of X G z_isinstance, PySem.W.mg_none_of X G z_len, PySem.W.mg_none_of X G z_list, PySem.W.mg_none_of X G z_range, PySem.W.mg_none_of X G z_set, PySem.W.mg_none_of X G z_sorted, PySem.W.mg_none_of X G z_str, PySem.W.mg_none_of X G z_tuple, ⟨_, PySem.W.mg_of X G g_GREATEST_STATE, r_GREATEST_STATE⟩, ⟨_, PySem.W.mg_of X G g_LONGEST_NAME, r_LONGEST_NAME⟩, ⟨_, PySem.W.mg_of X G g_LETTERS, r_LETTERS⟩, ⟨_, PySem.W.mg_of X G g_MOST_STEPS, r_MOST_STEPS⟩, ⟨_, PySem.W.mg_of X G g_MOST_LEAVING, r_MOST_LEAVING⟩, ⟨_, PySem.W.mg_of X G g_MOST_FAULTS, r_MOST_FAULTS⟩, ⟨_, PySem.W.mg_of X G g_MOST_WORDS, r_MOST_WORDS⟩, ⟨pgC, hdC, poC, saC⟩, PySem.W.mg_of X G aC, ⟨⟨pgC, hdC, poC, saC⟩, ihaC, ihn, ihtk, ihmC, by unfold PySem.W.kitOne; rw [if_pos (by simp)]⟩, n__start, n__steps, n__words, n__faults, n__states⟩
  have F0 := fun_mk (st := s__law_source) l0 d0 k0
  have b0 := L2.Fun.binds F0 (ps := ["_law_script"]) fun _ _ _ _ _ _ us hl => match us, hl with | [_], _ => rfl
  have F1 := fun_mk (st := s__law_draw) l1 d1 k1
  have b1 := L2.Fun.binds F1 (ps := ["_law_source_here", "_law_many"]) fun _ _ _ _ _ _ us hl => match us, hl with | [_, _], _ => rfl
  have F2 := fun_mk (st := s__law_states) l2 d2 k2
  have b2 := L2.Fun.binds F2 (ps := ["_law_source_here", "_law_most"]) fun _ _ _ _ _ _ us hl => match us, hl with | [_, _], _ => rfl
  have F3 := fun_mk (st := s__law_step) l3 d3 k3
  have b3 := L2.Fun.binds F3 (ps := ["_law_source_here", "_law_state", "_law_states_here", "_law_words"]) fun _ _ _ _ _ _ us hl => match us, hl with | [_, _, _, _], _ => rfl
  have F4 := fun_mk (st := s__law_steps) l4 d4 k4
  have b4 := L2.Fun.binds F4 (ps := ["_law_source_here", "_law_states_here", "_law_words", "_law_extra", "_law_most"]) fun _ _ _ _ _ _ us hl => match us, hl with | [_, _, _, _, _], _ => rfl
  have F5 := fun_mk (st := s__law_name) l5 d5 k5
  have b5 := L2.Fun.binds F5 (ps := ["_law_source_here"]) fun _ _ _ _ _ _ us hl => match us, hl with | [_], _ => rfl
  have F6 := fun_mk (st := s__law_names) l6 d6 k6
  have b6 := L2.Fun.binds F6 (ps := ["_law_source_here", "_law_many"]) fun _ _ _ _ _ _ us hl => match us, hl with | [_, _], _ => rfl
  have F7 := fun_mk (st := s__law_faults) l7 d7 k7
  have b7 := L2.Fun.binds F7 (ps := ["_law_source_here", "_law_steps_here", "_law_most"]) fun _ _ _ _ _ _ us hl => match us, hl with | [_, _, _], _ => rfl
  have F8 := fun_mk (st := s__law_machine) l8 d8 k8
  have b8 := L2.Fun.binds F8 (ps := ["_law_source_here", "_law_size", "_law_extra", "_law_words", "_law_most"]) fun _ _ _ _ _ _ us hl => match us, hl with | [_, _, _, _, _], _ => rfl
  have F9 := fun_mk (st := s_is_whole) l9 d9 k9
  have b9 := L2.Fun.binds F9 (ps := ["value"]) fun _ _ _ _ _ _ us hl => match us, hl with | [_], _ => rfl
  have F10 := fun_mk (st := s_is_state) l10 d10 k10
  have b10 := L2.Fun.binds F10 (ps := ["value"]) fun _ _ _ _ _ _ us hl => match us, hl with | [_], _ => rfl
  have F11 := fun_mk (st := s_is_row) l11 d11 k11
  have b11 := L2.Fun.binds F11 (ps := ["value"]) fun _ _ _ _ _ _ us hl => match us, hl with | [_], _ => rfl
  have F12 := fun_mk (st := s_is_name) l12 d12 k12
  have b12 := L2.Fun.binds F12 (ps := ["value"]) fun _ _ _ _ _ _ us hl => match us, hl with | [_], _ => rfl
  have F13 := fun_mk (st := s_is_step) l13 d13 k13
  have b13 := L2.Fun.binds F13 (ps := ["value"]) fun _ _ _ _ _ _ us hl => match us, hl with | [_], _ => rfl
  have F14 := fun_mk (st := s_check_steps) l14 d14 k14
  have b14 := L2.Fun.binds F14 (ps := ["steps"]) fun _ _ _ _ _ _ us hl => match us, hl with | [_], _ => rfl
  have F15 := fun_mk (st := s_check_faults) l15 d15 k15
  have b15 := L2.Fun.binds F15 (ps := ["faults", "words"]) fun _ _ _ _ _ _ us hl => match us, hl with | [_, _], _ => rfl
  have F16 := fun_mk (st := s_moves_by_state) l16 d16 k16
  have b16 := L2.Fun.binds F16 (ps := ["steps"]) fun _ _ _ _ _ _ us hl => match us, hl with | [_], _ => rfl
  have F17 := fun_mk (st := s_reached_states) l17 d17 k17
  have b17 := L2.Fun.binds F17 (ps := ["start", "leaving"]) fun _ _ _ _ _ _ us hl => match us, hl with | [_, _], _ => rfl
  have F18 : KnD.FunX K "__init__" "Machine.__init__" s_Machine_init f18 _ := ⟨⟨_, _, _, _, _, _, _, _, _, _, rfl, l18, d18⟩⟩
  have b18 := KnD.binds_full (st := s_Machine_init) (ps := ["self", "start", "steps", "faults"]) (dvs := [.non]) (its := [.none]) l18 d18 k18 tl18 rfl (.cons rfl .nil) (by simp) fun _ _ _ _ _ _ _ us its h1 h2 => match us, its, h1, h2 with | [_, _, _, _], [_], _, _ => ⟨_, rfl, rfl⟩
  have F19 := fun_mk (st := s__law_reached) l19 d19 k19
  have b19 := L2.Fun.binds F19 (ps := ["_law_data"]) fun _ _ _ _ _ _ us hl => match us, hl with | [_], _ => rfl
  have F20 := fun_mk (st := s__law_goes_on) l20 d20 k20
  have b20 := L2.Fun.binds F20 (ps := ["_law_data", "_law_state", "_law_kept"]) fun _ _ _ _ _ _ us hl => match us, hl with | [_, _, _], _ => rfl
  have F21 := fun_mk (st := s__law_avoiding) l21 d21 k21
  have b21 := L2.Fun.binds F21 (ps := ["_law_data"]) fun _ _ _ _ _ _ us hl => match us, hl with | [_], _ => rfl
  have F22 := fun_mk (st := s_Machine_fault_names) l22 d22 k22
  have b22 := L2.Fun.binds F22 (ps := ["self"]) fun _ _ _ _ _ _ us hl => match us, hl with | [_], _ => rfl
  have F23 := fun_mk (st := s_check_fault) l23 d23 k23
  have b23 := L2.Fun.binds F23 (ps := ["machine", "fault"]) fun _ _ _ _ _ _ us hl => match us, hl with | [_, _], _ => rfl
  have F24 := fun_mk (st := s_Machine_states) l24 d24 k24
  have b24 := L2.Fun.binds F24 (ps := ["self"]) fun _ _ _ _ _ _ us hl => match us, hl with | [_], _ => rfl
  have F25 := fun_mk (st := s_Machine_faults) l25 d25 k25
  have b25 := L2.Fun.binds F25 (ps := ["self"]) fun _ _ _ _ _ _ us hl => match us, hl with | [_], _ => rfl
  have F26 := fun_mk (st := s_Machine_steps) l26 d26 k26
  have b26 := L2.Fun.binds F26 (ps := ["self"]) fun _ _ _ _ _ _ us hl => match us, hl with | [_], _ => rfl
  have F27 := fun_mk (st := s_steps_of_fault) l27 d27 k27
  have b27 := L2.Fun.binds F27 (ps := ["machine", "fault"]) fun _ _ _ _ _ _ us hl => match us, hl with | [_, _], _ => rfl
  have F28 := fun_mk (st := s_steps_by_state) l28 d28 k28
  have b28 := L2.Fun.binds F28 (ps := ["machine", "fault"]) fun _ _ _ _ _ _ us hl => match us, hl with | [_, _], _ => rfl
  have F29 := fun_mk (st := s_safe_steps) l29 d29 k29
  have b29 := L2.Fun.binds F29 (ps := ["states", "free"]) fun _ _ _ _ _ _ us hl => match us, hl with | [_, _], _ => rfl
  have F30 := fun_mk (st := s_avoiding) l30 d30 k30
  have b30 := L2.Fun.binds F30 (ps := ["machine", "fault"]) fun _ _ _ _ _ _ us hl => match us, hl with | [_, _], _ => rfl
  have F31 := fun_mk (st := s__law_is_integer) l31 d31 k31
  have b31 := L2.Fun.binds F31 (ps := ["_law_actual"]) fun _ _ _ _ _ _ us hl => match us, hl with | [_], _ => rfl
  have F32 := fun_mk (st := s__law_same_list) l32 d32 k32
  have b32 := L2.Fun.binds F32 (ps := ["_law_actual", "_law_due"]) fun _ _ _ _ _ _ us hl => match us, hl with | [_, _], _ => rfl
  have F33 := fun_mk (st := s_law) l33 d33 k33
  refine ⟨PySem.W.fnOf "law" "law" (defArgs s_law) (defBody s_law) (defScope s_law) .none kV33 dc33 pm33 an33 cd33 ct33, fun s v => .of_eq rfl, fun base _ _ => ?_⟩
  have c__law_source : Cal l.prog w K mg base 1 "_law_source" (sp__law_source K) [] := ⟨_, _, _, _, ok__law_source T F0 , PySem.W.mg_of X G a0, F0.kp, b0, .nil⟩
  have c__law_draw : Cal l.prog w K mg base 1 "_law_draw" (sp__law_draw K) [] := ⟨_, _, _, _, ok__law_draw T F1 , PySem.W.mg_of X G a1, F1.kp, b1, .nil⟩
  have c__law_states : Cal l.prog w K mg base 2 "_law_states" (sp__law_states K) [] := ⟨_, _, _, _, ok__law_states T F2 c__law_draw, PySem.W.mg_of X G a2, F2.kp, b2, .nil⟩
  have c__law_step : Cal l.prog w K mg base 2 "_law_step" (sp__law_step K) [] := ⟨_, _, _, _, ok__law_step T F3 c__law_draw, PySem.W.mg_of X G a3, F3.kp, b3, .nil⟩
  have c__law_steps : Cal l.prog w K mg base 3 "_law_steps" (sp__law_steps K) [] := ⟨_, _, _, _, ok__law_steps T F4 c__law_step c__law_draw, PySem.W.mg_of X G a4, F4.kp, b4, .nil⟩
  have c__law_name : Cal l.prog w K mg base 2 "_law_name" (sp__law_name K) [] := ⟨_, _, _, _, ok__law_name T F5 c__law_draw, PySem.W.mg_of X G a5, F5.kp, b5, .nil⟩
  have c__law_names : Cal l.prog w K mg base 3 "_law_names" (sp__law_names K) [] := ⟨_, _, _, _, ok__law_names T F6 c__law_name, PySem.W.mg_of X G a6, F6.kp, b6, .nil⟩
  have c__law_faults : Cal l.prog w K mg base 4 "_law_faults" (sp__law_faults K) [] := ⟨_, _, _, _, ok__law_faults T F7 c__law_names c__law_draw, PySem.W.mg_of X G a7, F7.kp, b7, .nil⟩
  have c__law_machine : Cal l.prog w K mg base 5 "_law_machine" (sp__law_machine K) [] := ⟨_, _, _, _, ok__law_machine T F8 c__law_states c__law_steps c__law_names c__law_draw c__law_faults, PySem.W.mg_of X G a8, F8.kp, b8, .nil⟩
  have c_is_whole : Cal l.prog w K mg base 1 "is_whole" (sp_is_whole K) [] := ⟨_, _, _, _, ok_is_whole T F9 , PySem.W.mg_of X G a9, F9.kp, b9, .nil⟩
  have c_is_state : Cal l.prog w K mg base 2 "is_state" (sp_is_state K) [] := ⟨_, _, _, _, ok_is_state T F10 c_is_whole, PySem.W.mg_of X G a10, F10.kp, b10, .nil⟩
  have c_is_row : Cal l.prog w K mg base 1 "is_row" (sp_is_row K) [] := ⟨_, _, _, _, ok_is_row T F11 , PySem.W.mg_of X G a11, F11.kp, b11, .nil⟩
  have c_is_name : Cal l.prog w K mg base 1 "is_name" (sp_is_name K) [] := ⟨_, _, _, _, ok_is_name T F12 , PySem.W.mg_of X G a12, F12.kp, b12, .nil⟩
  have c_is_step : Cal l.prog w K mg base 3 "is_step" (sp_is_step K) [] := ⟨_, _, _, _, ok_is_step T F13 c_is_state c_is_name, PySem.W.mg_of X G a13, F13.kp, b13, .nil⟩
  have c_check_steps : Cal l.prog w K mg base 4 "check_steps" (sp_check_steps K) [] := ⟨_, _, _, _, ok_check_steps T F14 c_is_row c_is_step, PySem.W.mg_of X G a14, F14.kp, b14, .nil⟩
  have c_check_faults : Cal l.prog w K mg base 2 "check_faults" (sp_check_faults K) [] := ⟨_, _, _, _, ok_check_faults T F15 c_is_name, PySem.W.mg_of X G a15, F15.kp, b15, .nil⟩
  have c_moves_by_state : Cal l.prog w K mg base 1 "moves_by_state" (sp_moves_by_state K) [] := ⟨_, _, _, _, ok_moves_by_state T F16 , PySem.W.mg_of X G a16, F16.kp, b16, .nil⟩
  have c_reached_states : Cal l.prog w K mg base 1 "reached_states" (sp_reached_states K) [] := ⟨_, _, _, _, ok_reached_states T F17 , PySem.W.mg_of X G a17, F17.kp, b17, .nil⟩
  have c_Machine_init : Mak l.prog w K mg base 5 "Machine" C (sp_Machine_init K C) [] := ⟨_, _, _, _, ⟨mkC, a18, i18, kcC⟩, ok_Machine_init T F18 c_is_state c_check_steps c_check_faults c_moves_by_state c_reached_states, PySem.W.mg_of X G aC, b18, .nil⟩
  have c__law_reached : Cal l.prog w K mg base 1 "_law_reached" (sp__law_reached K) [] := ⟨_, _, _, _, ok__law_reached T F19 , PySem.W.mg_of X G a19, F19.kp, b19, .nil⟩
  have c__law_goes_on : Cal l.prog w K mg base 1 "_law_goes_on" (sp__law_goes_on K) [] := ⟨_, _, _, _, ok__law_goes_on T F20 , PySem.W.mg_of X G a20, F20.kp, b20, .nil⟩
  have c__law_avoiding : Cal l.prog w K mg base 2 "_law_avoiding" (sp__law_avoiding K) [] := ⟨_, _, _, _, ok__law_avoiding T F21 c__law_reached c__law_goes_on, PySem.W.mg_of X G a21, F21.kp, b21, .nil⟩
  have c_Machine_fault_names : KnP.Prp l.prog w K mg base 1 C "fault_names" (sp_Machine_fault_names K C) := ⟨_, _, _, _, ⟨a22, g22, w22, ⟨_, r22⟩⟩, ok_Machine_fault_names T F22 , b22⟩
  have c_check_fault : Cal l.prog w K mg base 3 "check_fault" (sp_check_fault K C) [] := ⟨_, _, _, _, ok_check_fault T F23 c_is_name c_Machine_fault_names, PySem.W.mg_of X G a23, F23.kp, b23, .nil⟩
  have c_Machine_states : KnP.Prp l.prog w K mg base 1 C "states" (sp_Machine_states K C) := ⟨_, _, _, _, ⟨a24, g24, w24, ⟨_, r24⟩⟩, ok_Machine_states T F24 , b24⟩
  have c_Machine_faults : KnP.Prp l.prog w K mg base 1 C "faults" (sp_Machine_faults K C) := ⟨_, _, _, _, ⟨a25, g25, w25, ⟨_, r25⟩⟩, ok_Machine_faults T F25 , b25⟩
  have c_Machine_steps : KnP.Prp l.prog w K mg base 1 C "steps" (sp_Machine_steps K C) := ⟨_, _, _, _, ⟨a26, g26, w26, ⟨_, r26⟩⟩, ok_Machine_steps T F26 , b26⟩
  have c_steps_of_fault : Cal l.prog w K mg base 3 "steps_of_fault" (sp_steps_of_fault K C) [] := ⟨_, _, _, _, ok_steps_of_fault T F27 c_Machine_faults c_Machine_steps, PySem.W.mg_of X G a27, F27.kp, b27, .nil⟩
  have c_steps_by_state : Cal l.prog w K mg base 4 "steps_by_state" (sp_steps_by_state K C) [] := ⟨_, _, _, _, ok_steps_by_state T F28 c_Machine_states c_steps_of_fault c_Machine_steps, PySem.W.mg_of X G a28, F28.kp, b28, .nil⟩
  have c_safe_steps : Cal l.prog w K mg base 1 "safe_steps" (sp_safe_steps K) [] := ⟨_, _, _, _, ok_safe_steps T F29 , PySem.W.mg_of X G a29, F29.kp, b29, .nil⟩
  have c_avoiding : Cal l.prog w K mg base 5 "avoiding" (sp_avoiding K C) [] := ⟨_, _, _, _, ok_avoiding T F30 c_check_fault c_steps_by_state c_safe_steps c_Machine_states, PySem.W.mg_of X G a30, F30.kp, b30, .nil⟩
  have c__law_is_integer : Cal l.prog w K mg base 1 "_law_is_integer" (sp__law_is_integer K) [] := ⟨_, _, _, _, ok__law_is_integer T F31 , PySem.W.mg_of X G a31, F31.kp, b31, .nil⟩
  have c__law_same_list : Cal l.prog w K mg base 2 "_law_same_list" (sp__law_same_list K) [] := ⟨_, _, _, _, ok__law_same_list T F32 c__law_is_integer, PySem.W.mg_of X G a32, F32.kp, b32, .nil⟩
  exact ok_law T F33 c__law_source c__law_machine c_Machine_init c__law_avoiding c_avoiding c__law_same_list
end Kn
open PySem PySem.W PyProof.Rows
set_option maxHeartbeats 0 in
theorem PySem.Challenge.cw_knownlate_k46_avoiding_holds : PySem.Challenge.rw_knownlate_k46_avoiding.Holds := by
  w_on; o_law; k_head; (case hw => w_witness2)
  k_fill
  refine L2.walk_of (l := PySem.Challenge.rw_knownlate_k46_avoiding) (n := 63) (k := 7) (x := "_law_script") (CX := fun _ => L2.CX0) (sp := fun w => Kn.sp_law _) rfl (by decide) rfl ⟨rfl, by decide, by decide⟩ (fun w h Y => PySem.W.kIn_of Y) ?F (fun _ _ a ns hl _ hS => ⟨a, ns, rfl, hS, hl, fun _ => rfl⟩) (fun _ _ _ _ _ h => h)
  case F =>
    intro w mg fa h KX G hmg
    refine' Kn.all_mk KX G hmg ?aC ?ihn ?ihtk ?a0 ?l0 ?d0 ?k0 ?a1 ?l1 ?d1 ?k1 ?a2 ?l2 ?d2 ?k2 ?a3 ?l3 ?d3 ?k3 ?a4 ?l4 ?d4 ?k4 ?a5 ?l5 ?d5 ?k5 ?a6 ?l6 ?d6 ?k6 ?a7 ?l7 ?d7 ?k7 ?a8 ?l8 ?d8 ?k8 ?a9 ?l9 ?d9 ?k9 ?a10 ?l10 ?d10 ?k10 ?a11 ?l11 ?d11 ?k11 ?a12 ?l12 ?d12 ?k12 ?a13 ?l13 ?d13 ?k13 ?a14 ?l14 ?d14 ?k14 ?a15 ?l15 ?d15 ?k15 ?a16 ?l16 ?d16 ?k16 ?a17 ?l17 ?d17 ?k17 ?a18 ?i18 ?l18 ?d18 ?k18 ?tl18 ?a19 ?l19 ?d19 ?k19 ?a20 ?l20 ?d20 ?k20 ?a21 ?l21 ?d21 ?k21 ?a22 ?g22 ?w22 ?r22 ?l22 ?d22 ?k22 ?a23 ?l23 ?d23 ?k23 ?a24 ?g24 ?w24 ?r24 ?l24 ?d24 ?k24 ?a25 ?g25 ?w25 ?r25 ?l25 ?d25 ?k25 ?a26 ?g26 ?w26 ?r26 ?l26 ?d26 ?k26 ?a27 ?l27 ?d27 ?k27 ?a28 ?l28 ?d28 ?k28 ?a29 ?l29 ?d29 ?k29 ?a30 ?l30 ?d30 ?k30 ?a31 ?l31 ?d31 ?k31 ?a32 ?l32 ?d32 ?k32 ?a33 ?l33 ?d33 ?k33 ?pgC ?hdC ?poC ?saC ?mkC ?kcC ?ihaC ?ihmC ?n__start ?n__steps ?n__words ?n__faults ?n__states ?z_all ?z_bool ?z_dict ?z_enumerate ?z_int ?z_isinstance ?z_len ?z_list ?z_range ?z_set ?z_sorted ?z_str ?z_tuple ?g_GREATEST_STATE ?r_GREATEST_STATE ?g_LONGEST_NAME ?r_LONGEST_NAME ?g_LETTERS ?r_LETTERS ?g_MOST_STEPS ?r_MOST_STEPS ?g_MOST_LEAVING ?r_MOST_LEAVING ?g_MOST_FAULTS ?r_MOST_FAULTS ?g_MOST_WORDS ?r_MOST_WORDS
    (case aC => k_is); (case ihn => k_is); (case ihtk => k_is); (case a0 => k_is); (case l0 => k_is); (case d0 => k_is); (case k0 => k_is); (case a1 => k_is); (case l1 => k_is); (case d1 => k_is); (case k1 => k_is); (case a2 => k_is); (case l2 => k_is); (case d2 => k_is); (case k2 => k_is); (case a3 => k_is); (case l3 => k_is); (case d3 => k_is); (case k3 => k_is); (case a4 => k_is); (case l4 => k_is); (case d4 => k_is); (case k4 => k_is); (case a5 => k_is); (case l5 => k_is); (case d5 => k_is); (case k5 => k_is); (case a6 => k_is); (case l6 => k_is); (case d6 => k_is); (case k6 => k_is); (case a7 => k_is); (case l7 => k_is); (case d7 => k_is); (case k7 => k_is); (case a8 => k_is); (case l8 => k_is); (case d8 => k_is); (case k8 => k_is); (case a9 => k_is); (case l9 => k_is); (case d9 => k_is); (case k9 => k_is); (case a10 => k_is); (case l10 => k_is); (case d10 => k_is); (case k10 => k_is); (case a11 => k_is); (case l11 => k_is); (case d11 => k_is); (case k11 => k_is); (case a12 => k_is); (case l12 => k_is); (case d12 => k_is); (case k12 => k_is); (case a13 => k_is); (case l13 => k_is); (case d13 => k_is); (case k13 => k_is); (case a14 => k_is); (case l14 => k_is); (case d14 => k_is); (case k14 => k_is); (case a15 => k_is); (case l15 => k_is); (case d15 => k_is); (case k15 => k_is); (case a16 => k_is); (case l16 => k_is); (case d16 => k_is); (case k16 => k_is); (case a17 => k_is); (case l17 => k_is); (case d17 => k_is); (case k17 => k_is); (case a18 => k_is); (case i18 => k_is); (case l18 => k_is); (case d18 => k_is); (case k18 => k_is); (case tl18 => k_is); (case a19 => k_is); (case l19 => k_is); (case d19 => k_is); (case k19 => k_is); (case a20 => k_is); (case l20 => k_is); (case d20 => k_is); (case k20 => k_is); (case a21 => k_is); (case l21 => k_is); (case d21 => k_is); (case k21 => k_is); (case a22 => k_is); (case g22 => k_is); (case w22 => k_is); (case r22 => k_is); (case l22 => k_is); (case d22 => k_is); (case k22 => k_is); (case a23 => k_is); (case l23 => k_is); (case d23 => k_is); (case k23 => k_is); (case a24 => k_is); (case g24 => k_is); (case w24 => k_is); (case r24 => k_is); (case l24 => k_is); (case d24 => k_is); (case k24 => k_is); (case a25 => k_is); (case g25 => k_is); (case w25 => k_is); (case r25 => k_is); (case l25 => k_is); (case d25 => k_is); (case k25 => k_is); (case a26 => k_is); (case g26 => k_is); (case w26 => k_is); (case r26 => k_is); (case l26 => k_is); (case d26 => k_is); (case k26 => k_is); (case a27 => k_is); (case l27 => k_is); (case d27 => k_is); (case k27 => k_is); (case a28 => k_is); (case l28 => k_is); (case d28 => k_is); (case k28 => k_is); (case a29 => k_is); (case l29 => k_is); (case d29 => k_is); (case k29 => k_is); (case a30 => k_is); (case l30 => k_is); (case d30 => k_is); (case k30 => k_is); (case a31 => k_is); (case l31 => k_is); (case d31 => k_is); (case k31 => k_is); (case a32 => k_is); (case l32 => k_is); (case d32 => k_is); (case k32 => k_is); (case a33 => k_is); (case l33 => k_is); (case d33 => k_is); (case k33 => k_is); (case pgC => k_is); (case hdC => k_is); (case poC => k_is); (case saC => k_is); (case mkC => k_is); (case kcC => k_is); (case ihaC => k_is); (case ihmC => k_is); (case n__start => k_is); (case n__steps => k_is); (case n__words => k_is); (case n__faults => k_is); (case n__states => k_is); (case z_all => k_is); (case z_bool => k_is); (case z_dict => k_is); (case z_enumerate => k_is); (case z_int => k_is); (case z_isinstance => k_is); (case z_len => k_is); (case z_list => k_is); (case z_range => k_is); (case z_set => k_is); (case z_sorted => k_is); (case z_str => k_is); (case z_tuple => k_is); (case g_GREATEST_STATE => k_is); (case r_GREATEST_STATE => exact ⟨_, rfl⟩); (case g_LONGEST_NAME => k_is); (case r_LONGEST_NAME => exact ⟨_, rfl⟩); (case g_LETTERS => k_is); (case r_LETTERS => exact ⟨_, rfl⟩); (case g_MOST_STEPS => k_is); (case r_MOST_STEPS => exact ⟨_, rfl⟩); (case g_MOST_LEAVING => k_is); (case r_MOST_LEAVING => exact ⟨_, rfl⟩); (case g_MOST_FAULTS => k_is); (case r_MOST_FAULTS => exact ⟨_, rfl⟩); (case g_MOST_WORDS => k_is); (case r_MOST_WORDS => exact ⟨_, rfl⟩)

