import PyProof.Rows.All
import Wide.All
import OpenK.AllK
import Wide.FinOn
import HandS.ForMost
import HandS.IsInst
import HandS.Codes
import HandS.Set
import HandS.SetBool
import HandS.SetKeys
import PyProof.Rows.SortShellAny
import HandS.More
import HandS.Comp
import PyProof.Rows.SetFrom
import KE.GoesMore
import KE.GoesEnum
import HandS.DictComp
import KE.KDictList
import HandS.Property
import HandS.List
import HandS.Words
import HandS.ForExc
import HandS.Defaults
import HandS.ExcInit
import HandS.ClsMeth
import HandS.Iter
import HandS.TryMany
import PyProof.EqAt
import PyProof.EqKinds
import PyProof.NeKinds
import HandS.SortInts
import HandS.Deep
import HandS.TryOnly
import HandS.Finally
import HandS.ExcField
import PySem.Challenge.RW_knownlate_k03_refused_steps
set_option Elab.async false
set_option linter.all false
set_option maxRecDepth 100000
set_option maxHeartbeats 4000000
namespace Kn
open PySem PySem.Spec PyProof.Rows L2
/-! ### heaps -/
theorem same_upd {H : Hp} {p : Addr} {o : HO} (h : H p = none) : Same H (upd H p o) := fun b x e => by
  rw [upd_ne (ne_of_none e h)]
  exact e
theorem same_set {H0 H : Hp} {p : Addr} {o : HO} (h : H0 p = none) (s : Same H0 H) : Same H0 (upd H p o) := fun b x e => by
  rw [upd_ne (ne_of_none e h)]
  exact s b x e
theorem Same.none {H H' : Hp} {p : Addr} (s : Same H H') (h : H' p = none) : H p = none := s.free h
theorem seqLt {K : PySem.W.Frag} {H H' : Hp} {a : Addr} {xs : List V} (e : Same H H') (h : SqT K H a xs) : SqT K H' a xs := by
  rcases h with (h | ⟨o, h⟩) | h
  · exact .inl (.inl (e _ _ h))
  · exact .inl (.inr ⟨o, e _ _ h⟩)
  · exact .inr h
theorem take_more {α : Type} {l : List α} {i : Nat} {x : α} (h : l[i]? = some x) : l.take (i + 1) = l.take i ++ [x] := by
  rw [List.take_add_one, h]; rfl
theorem small {n : Nat} (h : n ≤ 100000) : n < sizeLine := Nat.lt_of_le_of_lt h (by decide)
theorem smallE {n : Nat} (h : n ≤ 100000) : n ≤ sizeLine := Nat.le_of_lt (small h)
/-- a comprehension over a text's signs -/
theorem lc_text {x : Str} {g : TG} {tt : TT} {te : TE} {vs : List Nat} {σ : L2.St} {H1 : Hp} {D : Addr} {Qd : Hp → Prop} (Pv : Nat → Hp → Prop) (h0 : Pv 0 (upd H1 D (.lst [])))
    (hs : ∀ i c H, x.cps.toList[i]? = some c → Pv i H → g (.str ⟨#[c]⟩) (wipe σ vs) H fun σ2 H2 => wipe σ2 vs = wipe σ vs ∧ tt σ2 H2 fun b H3 =>
      if b = true then te σ2 H3 fun y H4 => ∃ acc, H4 D = some (.lst acc) ∧ acc.length < sizeLine ∧ Pv (i + 1) (upd H4 D (.lst (acc ++ [y]))) else Pv (i + 1) H3) (hd : ∀ H, Pv x.cps.toList.length H → Qd H) :
    ∃ W : Nat → Nat → Hp → Prop, (∃ m, W 0 m (upd H1 D (.lst []))) ∧ ∀ i m H, W i m H →
      ((Its x).stop i H ∧ Qd H) ∨ ((Its x).go i H ∧ ∃ Nx : Hp → Prop, (∀ H', Nx H' → ∃ m', m' < m ∧ W (i + 1) m' H') ∧ ∀ v H', (Its x).yld i H v H' → g v (wipe σ vs) H' fun σ2 H2 => wipe σ2 vs = wipe σ vs ∧ tt σ2 H2 fun b H3 =>
        if b = true then te σ2 H3 fun y H4 => ∃ acc, H4 D = some (.lst acc) ∧ acc.length < sizeLine ∧ Nx (upd H4 D (.lst (acc ++ [y]))) else Nx H3) := by
  refine ⟨fun i m H => m = x.cps.size - i ∧ i ≤ x.cps.size ∧ Pv i H, ⟨x.cps.size, by simp, Nat.zero_le _, h0⟩, ?_⟩
  rintro i m H ⟨rfl, hi, p⟩
  by_cases hlt : i < x.cps.size
  · refine .inr ⟨hlt, Pv (i + 1), fun H' p' => ⟨x.cps.size - (i + 1), by omega, rfl, hlt, p'⟩, fun v H' y => ?_⟩
    obtain ⟨rfl, c, hc, rfl⟩ := y
    exact hs i c _ (by simpa using hc) p
  · have e : i = x.cps.size := by omega
    subst e
    exact .inl ⟨Nat.le_refl _, hd H (by simpa using p)⟩
end Kn

set_option Elab.async false
set_option linter.all false
set_option maxRecDepth 100000
set_option maxHeartbeats 4000000
/-! Sets whose members are told in a list: made, filled, told as a sorted list; set comprehensions of ints and texts. -/
namespace KnS
open PySem PySem.Spec PyProof.Rows L2
section
variable {κ : Type} [DecidableEq κ] {P : Program} {w : World} {knd : PySem.KeyKind P w κ}
/-- one entry of a table, of the key k -/
def Ent (knd : PySem.KeyKind P w κ) (k : κ) (e : Int × Value) : Prop := knd.is k e.2 = true ∧ e.1 = knd.hash k ∧ e.2.scannable = true
theorem paired_perm {α β : Type} {F : α → β → Prop} {l m : List β} (p : l.Perm m) : ∀ {ks : List α}, Paired F ks l → ∃ ks', ks'.Perm ks ∧ Paired F ks' m := by
  induction p with
  | nil => intro ks h; exact ⟨ks, .refl _, h⟩
  | cons x _ ih =>
    intro ks h
    cases h with
    | cons r t =>
      obtain ⟨ks', q, t'⟩ := ih t
      exact ⟨_, .cons _ q, .cons r t'⟩
  | swap x y l =>
    intro ks h
    cases h with
    | cons r t =>
      cases t with
      | cons r' t' => exact ⟨_, .swap _ _ _, .cons r' (.cons r t')⟩
  | trans _ _ ih1 ih2 =>
    intro ks h
    obtain ⟨k1, q1, h1⟩ := ih1 h
    obtain ⟨k2, q2, h2⟩ := ih2 h1
    exact ⟨k2, q2.trans q1, h2⟩
theorem ents_elems {ks : List κ} {l : List (Int × Value)} (h : Paired (Ent knd) ks l) : ElemsOf knd l := by
  induction h with
  | nil => exact fun e he => nomatch he
  | cons r _ ih =>
    intro e he
    rcases List.mem_cons.mp he with z | z
    · rw [z]; exact ⟨⟨_, r.1, r.2.1⟩, r.2.2⟩
    · exact ih e z
theorem ents_find {ks : List κ} {l : List (Int × Value)} (h : Paired (Ent knd) ks l) {k : κ} : (∃ e ∈ l, knd.is k e.2 = true) ↔ k ∈ ks := by
  induction h with
  | nil => exact ⟨fun ⟨e, he, _⟩ => (nomatch he), fun z => nomatch z⟩
  | @cons k' e ks l r _ ih =>
    constructor
    · rintro ⟨e', he, q⟩
      rcases List.mem_cons.mp he with z | z
      · rw [z] at q
        rw [knd.inj e.2 k k' q r.1]
        exact List.mem_cons_self
      · exact List.mem_cons_of_mem _ (ih.mp ⟨e', z, q⟩)
    · intro z
      rcases List.mem_cons.mp z with z | z
      · exact ⟨e, List.mem_cons_self, z ▸ r.1⟩
      · obtain ⟨e', he, q⟩ := ih.mpr z
        exact ⟨e', List.mem_cons_of_mem _ he, q⟩
end
/-- the set at a holds just the keys ks, each once; its table can be walked -/
def Holds (P : Program) (w : World) (h : Heap) (a : Addr) (ks : List Key) : Prop :=
  ∃ o es ep t ls, (h.get? a = some o ∧ o.ExactSet ∧ o.data = .set es ep t) ∧ (Paired (Ent (mixKind P w)) ls es.toList ∧ ls.Perm ks ∧ ks.Nodup) ∧
    (es.size < scanBound ∧ t.fits es.size = true) ∧ Ris t.place.toList ∧ (w.params.followText "set-order" = true ∨ t.led = true)
/-- .. as a tracked thing -/
def SetL (P : Program) (w : World) (a : Addr) (ks : List Key) : HO := .ext fun h => Holds P w h a ks
def hasL (ks : List Key) (k : Key) : Bool := ks.any fun j => decide (j = k)
theorem hasL_iff {ks : List Key} {k : Key} : hasL ks k = true ↔ k ∈ ks := by
  unfold hasL
  rw [List.any_eq_true]
  exact ⟨fun ⟨j, hj, e⟩ => of_decide_eq_true e ▸ hj, fun h => ⟨k, h, decide_eq_true rfl⟩⟩
def addL (ks : List Key) (k : Key) : List Key := if hasL ks k = true then ks else ks ++ [k]
section
variable {P : Program} {w : World} {A : Around} {E : Value → Shared → Prop} {s : Shared} {a : Addr} {ks : List Key}
theorem Holds.keep {h h' : Heap} (R : Holds P w h a ks) (k : ∀ o, h.get? a = some o → h'.get? a = some o) : Holds P w h' a ks :=
  let ⟨o, es, ep, t, ls, ⟨ho, r⟩, q⟩ := R; ⟨o, es, ep, t, ls, ⟨k o ho, r⟩, q⟩
theorem Holds.there {h : Heap} (R : Holds P w h a ks) : ∃ o, h.get? a = some o ∧ o.cls = .type "set" := let ⟨o, _, _, _, _, ⟨ho, hx, _⟩, _⟩ := R; ⟨o, ho, hx.1⟩
theorem Holds.new {H : Hp} {h : Heap} (R : Holds P w h a ks) : ObjOk P w H h a (SetL P w a ks) :=
  ⟨R, let ⟨o, ho, _⟩ := R.there; ⟨o, ho⟩, fun _ _ p k => p.keep k⟩
theorem mem_addL {k x : Key} : x ∈ addL ks k ↔ x ∈ ks ∨ x = k := by
  unfold addL
  by_cases z : k ∈ ks
  · rw [if_pos (hasL_iff.mpr z)]
    exact ⟨.inl, fun y => y.elim id fun e => e ▸ z⟩
  · rw [if_neg fun q => z (hasL_iff.mp q), List.mem_append, List.mem_singleton]
theorem stored {h : Heap} {o : Obj} {es es' : Array (Int × Value)} {ep : Nat} {t t' : SetTable} (ho : h.get? a = some o) (hd : o.data = .set es ep t) :
    (h.update a (Obj.putSet es' t')).get? a = some { o with data := .set es' (ep + 1) t' } :=
  (Heap.get?_update_self (Obj.putSet es' t') ho (by rw [putSet_of es' t' hd] <;> rfl)).trans (by rw [putSet_of es' t' hd])
/-- what an add does behind its search, where the key is new -/
theorem laid {k : Key} {x : Value} (hk : (mixKind P w).is k x = true) (hsc : x.scannable = true) {o : Obj} {es : Array (Int × Value)} {ep : Nat} {t : SetTable} {ls : List Key}
    (ho : s.heap.get? a = some o) (hx : o.ExactSet) (hd : o.data = .set es ep t) (pe : Paired (Ent (mixKind P w)) ls es.toList) (pm : ls.Perm ks) (nd : ks.Nodup) (room : es.size + 1 < scanBound)
    {es1 : Array (Int × Value)} {t1 : SetTable} (p1 : es1.toList.Perm (es.push ((mixKind P w).hash k, x)).toList) (f1 : t1.fits es1.size = true) (r1 : Ris t1.place.toList) (l1 : w.params.followText "set-order" = true ∨ t1.led = true) (hnk : k ∉ ks) :
    es1.size < scanBound ∧ Holds P w (s.heap.update a (Obj.putSet es1 t1)) a (ks ++ [k]) := by
  have z1 : es1.size = es.size + 1 := by
    have q := p1.length_eq
    rw [Array.length_toList, Array.length_toList, Array.size_push] at q
    exact q
  have pe' : Paired (Ent (mixKind P w)) (ls ++ [k]) (es.push ((mixKind P w).hash k, x)).toList := by
    rw [Array.toList_push]
    exact pe.snoc ⟨hk, rfl, hsc⟩
  obtain ⟨ls1, q1, pe1⟩ := paired_perm p1.symm pe'
  have nd1 : (ks ++ [k]).Nodup := List.nodup_append.mpr ⟨nd, List.nodup_cons.mpr ⟨(fun z => nomatch z), List.nodup_nil⟩, fun u hu v hv e => hnk (by rw [← List.mem_singleton.mp hv, ← e]; exact hu)⟩
  exact ⟨by omega, _, es1, _, t1, ls1, ⟨stored ho hd, hx, rfl⟩, ⟨pe1, q1.trans (pm.append_right [k]), nd1⟩, ⟨by omega, f1⟩, r1, l1⟩
/-- .. and a table that is laid anew -/
theorem relaid {o : Obj} {es1 es2 : Array (Int × Value)} {ep : Nat} {t1 t2 : SetTable} {h : Heap} (R : Holds P w h a ks) (ho : h.get? a = some o) (hd : o.data = .set es1 ep t1)
    (p2 : es2.toList.Perm es1.toList) (f2 : t2.fits es2.size = true) (r2 : Ris t2.place.toList) (l2 : t1.led = true → t2.led = true) : Holds P w (h.update a (Obj.putSet es2 t2)) a ks := by
  obtain ⟨o', es, ep', t, ls, ⟨ho', hx, hd'⟩, ⟨pe, pm, nd⟩, ⟨hb, _⟩, _, hl⟩ := R
  obtain rfl : o = o' := Option.some.inj (ho.symm.trans ho')
  rw [hd] at hd'
  cases hd'
  obtain ⟨ls2, q2, pe2⟩ := paired_perm p2.symm pe
  have z : es2.size = es1.size := by
    have q := p2.length_eq
    rw [Array.length_toList, Array.length_toList] at q
    exact q
  exact ⟨_, es2, _, t2, ls2, ⟨stored ho hd, hx, rfl⟩, ⟨pe2, q2.trans pm, nd⟩, ⟨z ▸ hb, f2⟩, r2, hl.imp id l2⟩
theorem Holds.size {h : Heap} (R : Holds P w h a ks) {o : Obj} {es : Array (Int × Value)} {ep : Nat} {t : SetTable} (ho : h.get? a = some o) (hd : o.data = .set es ep t) : es.size = ks.length := by
  obtain ⟨o', es', ep', t', ls, ⟨ho', _, hd'⟩, ⟨pe, pm, _⟩, _⟩ := R
  obtain rfl : o = o' := Option.some.inj (ho.symm.trans ho')
  rw [hd] at hd'
  cases hd'
  rw [← Array.length_toList, ← pe.length, pm.length_eq]
theorem add_scan {k : Key} {x : Value} (hk : (mixKind P w).is k x = true) (hsc : x.scannable = true) (R : Holds P w s.heap a ks) (room : ks.length + 1 < scanBound) {Q : Bool → Shared → Prop}
    (hQ : ∀ b h', Heap.SameBut a s.heap h' → Holds P w h' a (addL ks k) → Q b { s with heap := h' }) : wpAny (model P w) A (setAddHashed a x ((mixKind P w).hash k)) Q E s := by
  have R0 := R
  obtain ⟨o, es, ep, t, ls, ⟨ho, hx, hd⟩, ⟨pe, pm, nd⟩, ⟨hb, hf⟩, hr, hl⟩ := R
  have el := ents_elems pe
  have sz := R0.size ho hd
  have fd : (∃ e ∈ es.toList, (mixKind P w).is k e.2 = true) ↔ k ∈ ks := (ents_find pe).trans pm.mem_iff
  unfold setAddHashed setAddHashedIn
  refine wpAny_holding (wpAny_bind (wpAny_setState_of ho hd hf ?_))
  show wpAny _ _ (if byScan x es = true then _ else _) _ _ _
  rw [byScan_of hsc hb el]
  refine wpAny_bind (wpAny_bind (wpAny_rule (wpAny_bind (wpAny_setScan_of hk ho hd hf el ?_))))
  cases ix : es.toList.findIdx? (fun e => (mixKind P w).is k e.2) with
  | some j =>
    obtain ⟨hj, pj, _⟩ := List.findIdx?_eq_some_iff_getElem.mp ix
    have hin : k ∈ ks := fd.mp ⟨_, List.getElem_mem hj, pj⟩
    refine wpAny_pure (wpAny_pure (hQ _ s.heap (Heap.SameBut.refl a s.heap) ?_))
    rw [addL, if_pos (hasL_iff.mpr hin)]
    exact R0
  | none =>
    have hnk : k ∉ ks := fun z => by
      obtain ⟨e, he, q⟩ := fd.mpr z
      have := List.findIdx?_eq_none_iff.mp ix e he
      rw [q] at this
      cases this
    have p1 := layNew_perm t es ((mixKind P w).hash k) x
    have f1 := layNew_fits t es ((mixKind P w).hash k) x
    have r1 := layNew_ris t es ((mixKind P w).hash k) x hr
    have l1 := layNew_led t es ((mixKind P w).hash k) x
    dsimp only
    generalize layNew t es ((mixKind P w).hash k) x = Z at p1 f1 r1 l1 ⊢
    obtain ⟨es1, t1, was, gave⟩ := Z
    dsimp only at p1 f1 r1 l1 ⊢
    have gate : ∀ (b : Bool) {s' : Shared} {Q' : Unit → Shared → Prop}, Q' () s' → wpAny (model P w) A (match b with | true => rule "set.scan.the-table-gave-way" | false => pure ()) Q' E s' := fun b => by
      cases b
      · exact fun q => wpAny_pure q
      · exact fun q => wpAny_rule q
    have e1 : addL ks k = ks ++ [k] := if_neg fun q => hnk (hasL_iff.mp q)
    have more : ∀ {g : Bool → Sem Unit} (_ : ∀ (b : Bool) (s' : Shared) (Q' : Unit → Shared → Prop), Q' () s' → wpAny (model P w) A (g b) Q' E s') (t2 : SetTable), t2.fits es1.size = true → Ris t2.place.toList → t2.led = t1.led →
        wpAny (model P w) A (do
          storeSet a es1 t2
          if (!was && t2.tooFull) = true then do
            g (relayAll t2 es1 (SetTable.grown es1.size)).2.2
            storeSet a (relayAll t2 es1 (SetTable.grown es1.size)).1 (relayAll t2 es1 (SetTable.grown es1.size)).2.1
            pure (some true)
          else pure (some true)) (fun r s' => ∃ h', s' = { s with heap := h' } ∧ r = some true ∧ Heap.SameBut a s.heap h' ∧ Holds P w h' a (addL ks k)) E s := by
      intro g hg t2 f2 r2 l2
      obtain ⟨b1, H1⟩ := laid hk hsc ho hx hd pe pm nd (by omega) p1 f2 r2 (hl.imp id fun q => by rw [l2, l1]; exact q) hnk
      rw [e1]
      refine wpAny_bind (wpAny_storeSet_of ho hd ?_ (fits_of_scanBound b1))
      have sb := Heap.SameBut.update s.heap a (Obj.putSet es1 t2)
      by_cases full : (!was && t2.tooFull) = true
      · rw [if_pos full]
        refine wpAny_bind (hg _ _ _ (wpAny_bind (wpAny_storeSet_of (stored ho hd) rfl ?_ ?_)))
        · refine wpAny_pure ⟨_, rfl, rfl, sb.trans (Heap.SameBut.update _ a _), relaid H1 (stored ho hd) rfl (relayAll_perm _ _ _) (relayAll_fits _ _ _) (relayAll_ris _ _ _) fun q => ?_⟩
          rw [relayAll_led]
          exact q
        · have q := (relayAll_perm t2 es1 (SetTable.grown es1.size)).length_eq
          rw [Array.length_toList, Array.length_toList] at q
          rw [q]
          exact fits_of_scanBound b1
      · rw [if_neg full]
        exact wpAny_pure ⟨_, rfl, rfl, sb, H1⟩
    refine wpAny_bind (gate gave ?_)
    have go : ∀ v : Bool, wpAny (model P w) A (do
          storeSet a es1 (if v = true then t1 else { t1 with plain := false })
          if (!was && (if v = true then t1 else { t1 with plain := false }).tooFull) = true then do
            (match (relayAll (if v = true then t1 else { t1 with plain := false }) es1 (SetTable.grown es1.size)).2.2 with | true => rule "set.scan.the-table-gave-way" | false => pure ())
            storeSet a (relayAll (if v = true then t1 else { t1 with plain := false }) es1 (SetTable.grown es1.size)).1 (relayAll (if v = true then t1 else { t1 with plain := false }) es1 (SetTable.grown es1.size)).2.1
            pure (some true)
          else pure (some true)) (fun r s' => ∃ h', s' = { s with heap := h' } ∧ r = some true ∧ Heap.SameBut a s.heap h' ∧ Holds P w h' a (addL ks k)) E s := fun v => by
      cases v
      · exact more (g := fun b => match b with | true => rule "set.scan.the-table-gave-way" | false => pure ()) (fun b s' Q' q => gate b q) { t1 with plain := false } (SetTable.fits_plain_off f1) r1 rfl
      · exact more (g := fun b => match b with | true => rule "set.scan.the-table-gave-way" | false => pure ()) (fun b s' Q' q => gate b q) t1 f1 r1 rfl
    have fin : ∀ (r : Option Bool) (s' : Shared), (∃ h', s' = { s with heap := h' } ∧ r = some true ∧ Heap.SameBut a s.heap h' ∧ Holds P w h' a (addL ks k)) → ∃ h', r = some true ∧ s' = { s with heap := h' } ∧ Q true s' := by
      rintro r s' ⟨h', rfl, rfl, sb, H'⟩
      exact ⟨h', rfl, rfl, hQ true h' sb H'⟩
    by_cases pl : t1.plain = true
    · rw [if_pos pl]
      refine wpAny_bind ?_
      rw [hashByValue_scannable 8 hsc]
      refine wpAny_pure (wpAny_mono (go _) (fun r s' q => ?_) fun _ _ z => z)
      obtain ⟨h', rfl, rfl, q⟩ := fin r s' q
      exact wpAny_pure q
    · rw [if_neg pl]
      refine wpAny_bind (wpAny_pure (wpAny_mono (go true) (fun r s' q => ?_) fun _ _ z => z))
      obtain ⟨h', rfl, rfl, q⟩ := fin r s' q
      exact wpAny_pure q

/-- set.add, called -/
theorem add_call {k : Key} {x : Value} (hk : (mixKind P w).is k x = true) (hsc : x.scannable = true) (R : Holds P w s.heap a ks) (room : ks.length + 1 < scanBound) {Q : Value → Shared → Prop}
    (hQ : ∀ h', Heap.SameBut a s.heap h' → Holds P w h' a (addL ks k) → Q .none { s with heap := h', toks := s.toks + 1 }) : wpAny (model P w) A (call (.builtin "set.add") [.ref a, x]) Q E s := by
  refine wpAny_call_entry F.slot_set_add (show s.TypeIs (.ref a) "set" from R.there) F.entry_set_add ?_ (F.args_set_add_2 _ _)
  unfold Builtin.«set.add» Builtin.Frozenset.oneOther
  simp only [List.isEmpty_nil, bind_assoc]
  unfold Builtin.Frozenset.addrOf setAdd
  refine wpAny_bind (wpAny_pure (wpAny_bind (wpAny_pure (wpAny_bind (wpAny_holding (wpAny_bind ((mixKind P w).pyHash hk ?_)))))))
  refine add_scan (s := { s with toks := s.toks + 1 }) hk hsc R room fun b h' sb r => ?_
  exact (show wpAny _ _ (ret Value.none) _ _ _ from wpAny_pure ⟨_, rfl, hQ h' sb r⟩)
theorem fresh_set (h : Heap) : Holds P w (h.push { cls := .type "set", dict := none, data := .set #[] 0 (.fresh 0 0 (!w.params.followText "set-order")) }) h.objs.size [] := by
  refine ⟨_, #[], 0, _, [], ⟨Heap.get?_push_size _ rfl, ⟨rfl, rfl, rfl⟩, rfl⟩, ⟨.nil, .refl _, List.nodup_nil⟩, ⟨by decide, by rfl⟩, List.Pairwise.nil, ?_⟩
  cases q : w.params.followText "set-order" with
  | true => exact .inl rfl
  | false => exact .inr rfl
end
/-! ### sorted(a set of texts) -/
theorem strs_of_paired {P : Program} {w : World} : ∀ {ks : List Key} {vs : List Value}, Paired (fun k v => (mixKind P w).is k v = true) ks vs → ∀ {xs : List Str}, ks.Perm (xs.map Sum.inr) → ∃ zs, zs.Perm xs ∧ StrsAre vs zs := by
  intro ks vs h xs p
  have all : ∀ k ∈ ks, ∃ x, k = Sum.inr x := fun k hk => by
    obtain ⟨x, _, e⟩ := List.mem_map.mp (p.mem_iff.mp hk)
    exact ⟨x, e.symm⟩
  have q := p.filterMap (fun k : Key => match k with | .inr x => some x | .inl _ => none)
  have e : (xs.map Sum.inr : List Key).filterMap (fun k : Key => match k with | .inr x => some x | .inl _ => none) = xs := by
    rw [List.filterMap_map]
    exact List.filterMap_some
  rw [e] at q
  refine ⟨_, q, ?_⟩
  clear p q e
  induction h with
  | nil => exact .nil
  | @cons k v ks vs r _ ih =>
    obtain ⟨x, rfl⟩ := all k List.mem_cons_self
    rcases keyIs_shape (show keyIs (.inr x) v = true from r) with ⟨_, _, z, _⟩ | ⟨y, t, z, rfl⟩
    · cases z
    · cases z
      exact .cons _ _ (ih fun k hk => all k (List.mem_cons_of_mem _ hk))
theorem paired_snd {P : Program} {w : World} {ks : List Key} {es : List (Int × Value)} (h : Paired (Ent (mixKind P w)) ks es) : Paired (fun k v => (mixKind P w).is k v = true) ks (es.map (·.2)) := by
  induction h with
  | nil => exact .nil
  | cons r _ ih => exact .cons r.1 ih
section
variable {P : Program} {w : World} {A : Around} {E : Value → Shared → Prop} {s : Shared} {a : Addr}
theorem sorted_call {xs : List Str} {Q : Value → Shared → Prop} (R : Holds P w s.heap a (xs.map Sum.inr)) (hh : A.handled = none)
    (hQ : ∀ s' p (out : Array Value) (c : Nat) (ys : List Str), (∀ b o, s.heap.get? b = some o → s'.heap.get? b = some o) → s'.gens = s.gens ∧ s'.os = s.os → s.heap.objs.size ≤ p →
      s'.heap.get? p = some (seqObj "list" out c) → StrsAre out.toList ys → ys.Perm xs → sortedS ys = true → Q (.ref p) s') : wpAny (model P w) A (call (.builtin "sorted") [.ref a]) Q E s := by
  obtain ⟨o, es, ep, t, ls, ⟨ho, hx, hd⟩, ⟨pe, pm, nd⟩, ⟨hb, hf⟩, hr, hl⟩ := R
  refine Calls.call_function_entry kind_sorted plain_sorted entry_sorted (args_sorted1 _) ?_
  unfold Builtin.«sorted»
  refine wpAny_bind (m := checkCount "sorted" 1 1 _) (wpAny_pure (wpAny_bind (collect_set (A := A.in1) hh ⟨o, ho, hx.1, hd⟩ hf hb hr hl fun s1 vs k1 hz g1 o1 pv => ?_)))
  obtain ⟨ls', q', pe'⟩ := paired_perm pv.symm (paired_snd pe)
  obtain ⟨zs, pz, hS⟩ := strs_of_paired pe' (q'.trans pm)
  have hsz : vs.length ≤ sizeLine := by
    rw [pv.length_eq, List.length_map, Array.length_toList]
    exact fits_of_scanBound hb
  refine wpAny_bind (wpAny_newList ?_ hsz)
  have hoL : (s1.heap.push (seqObj "list" vs.toArray 0)).get? s1.heap.objs.size = some (seqObj "list" vs.toArray 0) := Heap.get?_push_size _ rfl
  refine wpAny_bind (wpAny_holding (wpAny_call_entry slot_list_sort ⟨_, hoL, rfl⟩ entry_list_sort (list_sort_treeKAny strKind_oneLt hoL hS.keysOf (fun v₁ v₂ rest e => keyKind_strs (by rw [← e]; exact hS)) hsz fun st' hp hs => ?_) (args_list_sort _)))
  obtain ⟨ys, y1, y2, y3⟩ := sorted_out_str hS hp hs
  obtain ⟨c, hc⟩ := sortedHeap_at (vs := vs) (out := (arrOf st').map (·.2)) hoL
  refine ⟨_, rfl, wpAny_pure ⟨_, rfl, hQ _ _ _ c ys (fun b u e => ?_) ⟨g1, o1⟩ hz hc y1 (y2.trans pz) y3⟩⟩
  have q := k1 b u e
  have hlt := Heap.lt_size q
  refine (sortedHeap_old (Nat.ne_of_lt hlt) ?_).trans (Heap.get?_push_of_some _ q)
  rw [size_push']
  exact Nat.lt_succ_of_lt hlt
end
section
variable {X : Cx} {pins : List (Addr × Obj)} {σ : L2.St} {H : Hp} {s : Shared}
theorem held {a : Addr} {ks : List Key} (I : Inv X pins σ H s) (h : H a = some (SetL X.prog X.w a ks)) : Holds X.prog X.w s.heap a ks := (I.hok a _ h).1
theorem key_rel {k : Key} {u : Value} (r : RelV (kV k) u) (P : Program) (w : World) : (mixKind P w).is k u = true ∧ u.scannable = true := by
  cases k with
  | inl i => obtain ⟨t, rfl⟩ := r; exact ⟨mixKind_int P w i t, rfl⟩
  | inr x => obtain ⟨t, rfl⟩ := r; exact ⟨mixKind_str P w x t, rfl⟩
theorem add_inv {a : Addr} {ks : List Key} {k : Key} {u : Value} {A : Around} {E : Value → Shared → Prop} {Q : Value → Shared → Prop} (I : Inv X pins σ H s) (h : H a = some (SetL X.prog X.w a ks)) (r : RelV (kV k) u) (room : ks.length + 1 < scanBound)
    (hQ : ∀ s', Inv X pins σ (upd H a (SetL X.prog X.w a (addL ks k))) s' → Q .none s') : wpAny (model X.prog X.w) A (call (.builtin "set.add") [.ref a, u]) Q E s := by
  obtain ⟨r1, r2⟩ := key_rel r X.prog X.w
  refine add_call r1 r2 (held I h) room fun h' sb R => hQ _ ?_
  exact I.write (e := a) (t' := s.toks + 1) (by rw [h]; trivial) (.inl rfl) (fun b o hb ho => (sb.2 b hb).trans ho) (let ⟨o, ho, _⟩ := R.there; ⟨o, ho⟩) R.new
/-- sorted(found), found a set of texts -/
def rSortedL (P : Program) (w : World) : List V → Hp → VK → Prop := fun vs H Q => ∃ (a : Addr) (xs : List Str), vs = [.ref a] ∧ H a = some (SetL P w a (xs.map Sum.inr)) ∧
  ∀ (ys : List Str) (p : Addr), ys.Perm xs → sortedS ys = true → H p = none → Q (.ref p) (upd H p (.lst (ys.map V.str)))
theorem cr_sortedL (hc : X.calm = true) : CallR X (.builtin "sorted") (rSortedL X.prog X.w) := by
  intro pins s σ H vs us Q I r h
  obtain ⟨a, xs, rfl, ha, q⟩ := h
  rw [Vals.ref1 r]
  have R := held I ha
  have bound : xs.length ≤ sizeLine := by
    obtain ⟨o, es, ep, t, ls, ⟨ho, hx, hd⟩, ⟨pe, pm, nd⟩, ⟨hb, hf⟩, _⟩ := R
    have := pm.length_eq
    rw [pe.length, Array.length_toList, List.length_map] at this
    rw [← this]
    exact fits_of_scanBound hb
  refine sorted_call R (I.ok.hd hc) fun s' p out c ys k go hp hg hi hperm hs => ?_
  have hn : H p = none := I.hok.fresh hp
  have hlen : (ys.map V.str).length ≤ sizeLine := by rw [List.length_map, hperm.length_eq]; exact bound
  have J : Inv X pins σ (upd H p (.lst (ys.map V.str))) s' := I.call' (ch := []) go.2 (Un.laid k hp hn) (I.hok.laid k hp ⟨hlen, out.toList, c, vals_of_strs hi, hg⟩) (by rw [go.1]; exact I.bare) (fun _ z => nomatch z)
  exact ⟨.ref p, _, J, rfl, q ys p hperm hs hn⟩
end
end KnS

set_option Elab.async false
set_option linter.all false
set_option maxRecDepth 100000
set_option maxHeartbeats 4000000
/-! {elt for target in iter if ..}, elt an int or a text. -/
namespace KnS
open PySem PySem.Spec PyProof.Rows L2
section
variable {X : Cx}
abbrev set0 (w : World) : Obj := { cls := .type "set", dict := none, data := .set #[] 0 (.fresh 0 0 (!w.params.followText "set-order")) }
/-- what a turn may reach, and how a comprehension into a set reads -/
def tScL (P : Program) (w : World) (wi : TI) (g : TG) (tt : TT) (te : TE) (vs : List Nat) : TE := fun σ H Q => wi σ H fun J H1 => ∀ D, H1 D = none →
  ∃ W : Nat → Nat → Hp → Prop, (∃ m, W 0 m (upd H1 D (SetL P w D []))) ∧ ∀ i m H, W i m H → (J.stop i H ∧ Q (.ref D) H) ∨
    (J.go i H ∧ ∃ Nx : Hp → Prop, (∀ H', Nx H' → ∃ m', m' < m ∧ W (i + 1) m' H') ∧
      ∀ x H', J.yld i H x H' → g x (wipe σ vs) H' fun σ2 H2 => wipe σ2 vs = wipe σ vs ∧ tt σ2 H2 fun b H3 =>
        if b = true then te σ2 H3 fun y H4 => ∃ (k : Key) (ks : List Key), y = kV k ∧ H4 D = some (SetL P w D ks) ∧ ks.length + 1 < scanBound ∧ Nx (upd H4 D (SetL P w D (addL ks k))) else Nx H3)
theorem scL {elt tg iter : Expr} {ifs : List Expr} {scope : Scope} {own : List (Str × Nat)} {pos : Pos} {wi : TI} {g : TG} {tt : TT} {te : TE}
    (hc : X.calm = true) (hN : X.N.Nodup) (hi : PI X tg iter wi) (ok : BlkOk X.N X.env.scope scope own)
    (hg : ∀ (s : Shared) (H : Hp) (C : Addr) (cl : List (Str × Addr)) (fp : List Addr), PG (X.blk s H scope (compEnvC scope cl C X.env) fp) tg g)
    (ht : ∀ (s : Shared) (H : Hp) (C : Addr) (cl : List (Str × Addr)) (fp : List Addr), PTs (X.blk s H scope (compEnvC scope cl C X.env) fp) ifs tt)
    (he : ∀ (s : Shared) (H : Hp) (C : Addr) (cl : List (Str × Addr)) (fp : List Addr), PE (X.blk s H scope (compEnvC scope cl C X.env) fp) elt te)
    (hs : ∀ x, foldedSetIterable iter X.env x = pure x := by intro _; rfl) :
    PE X (.SetComp elt [⟨tg, iter, ifs, 0⟩] scope pos) (tScL X.prog X.w wi g tt te (own.map (·.2))) := by
  refine ⟨fun pins s σ H Q I h => ?_⟩
  rw [PpSet.eval_SetComp]
  have captured : ∀ y ∈ scope.names, y.2 = .free → ∃ c, X.env.cells.lookup y.1 = some c := fun y hy e =>
    (ok.free y hy e).elim (fun k => I.ok.has _ (.inl k)) fun k => I.ok.has _ (.inr k)
  refine wpAny_comprehension_free (use := none) rfl hs (closure_ok captured) ok.kind (fun y hy e => by rw [ok.uniq y hy, e]) ?_
  refine thn (hi.run pins s σ H _ I h) fun xv s1 hx => thn hx fun itv s2 ⟨it, fp, tn, J, H2, eit, I2, T, st2, f2, q⟩ => ?_
  subst eit
  refine PpSet.newSet_ok (newEnv_comp ?_)
  generalize hD : s2.heap.objs.size = D
  have freeD : H2 D = none := I2.hok.fresh (Nat.le_of_eq hD)
  obtain ⟨W, ⟨m0, w0⟩, turn⟩ := q D freeD
  -- the new set stands
  generalize h3 : s2.heap.push (set0 X.w) = hp3
  have keep3 : ∀ b o, s2.heap.get? b = some o → hp3.get? b = some o := fun b o e => h3 ▸ Heap.get?_push_of_some _ e
  have size3 : hp3.objs.size = s2.heap.objs.size + 1 := by rw [← h3, Heap.size_push]
  have I3 : Inv X pins σ (upd H2 D (SetL X.prog X.w D [])) { s2 with heap := hp3 } := by
    refine I2.laid (t' := s2.toks) keep3 (Nat.le_of_eq hD) (Holds.new ?_)
    rw [← h3, ← hD]
    exact fresh_set _
  have inFp : ∀ b ∈ fp, b < s2.heap.objs.size := fun b hb => let ⟨_, e, _⟩ := T.obj _ _ st2 b hb; Heap.lt_size e
  have f3 : ∀ b ∈ fp, FpOk X pins (upd H2 D (SetL X.prog X.w D [])) b ∧ b < hp3.objs.size := fun b hb =>
    ⟨⟨(upd_ne (by rw [← hD]; exact Nat.ne_of_lt (inFp b hb))).trans (f2 b hb).1, (f2 b hb).2⟩, by rw [size3]; exact Nat.lt_succ_of_lt (inFp b hb)⟩
  have st3 : tn 0 hp3 := T.keep _ _ _ st2 fun b _ => keep3 b
  generalize hH3 : upd H2 D (SetL X.prog X.w D []) = H3 at I3 f3 w0
  generalize hs3 : ({ s2 with heap := hp3 } : Shared) = s3 at I3
  have e3 : s3.heap = hp3 := by rw [← hs3]
  have I4 := block_start I3 ok hN (fun b hb => ⟨(f3 b hb).1, by rw [e3]; exact (f3 b hb).2⟩)
  have clear0 : ∀ b ∈ fp, H3 b = none := fun b hb => (f3 b hb).1.1
  show codeAny _ _ (.compStart (.SetComp elt [⟨tg, iter, ifs, 0⟩] scope pos) 0 (.ref it) (.ref D) (compEnvC scope (cellsFrom (s3.heap.objs.size + 1) scope.names (cloFrom X.env.cells scope.names [])) s3.heap.objs.size X.env))
    (compPost (model X.prog X.w) X.A X.xe none (EP X pins σ Q) (.ref D) s3.heap.objs.size) { s3 with heap := pushCells (s3.heap.push { cls := .type "dict", data := .dict #[] }) scope.names }
  have pg := hg s3 H3 s3.heap.objs.size (cellsFrom (s3.heap.objs.size + 1) scope.names (cloFrom X.env.cells scope.names [])) fp
  have pt := ht s3 H3 s3.heap.objs.size (cellsFrom (s3.heap.objs.size + 1) scope.names (cloFrom X.env.cells scope.names [])) fp
  have pe := he s3 H3 s3.heap.objs.size (cellsFrom (s3.heap.objs.size + 1) scope.names (cloFrom X.env.cells scope.names [])) fp
  have home : (compEnvC scope (cellsFrom (s3.heap.objs.size + 1) scope.names (cloFrom X.env.cells scope.names [])) s3.heap.objs.size X.env).locals = s3.heap.objs.size := rfl
  generalize compEnvC scope (cellsFrom (s3.heap.objs.size + 1) scope.names (cloFrom X.env.cells scope.names [])) s3.heap.objs.size X.env = ce at I4 pg pt pe home ⊢
  have st4 : tn 0 ({ s3 with heap := pushCells (s3.heap.push { cls := .type "dict", data := .dict #[] }) scope.names } : Shared).heap := by
    refine T.keep _ _ _ st3 fun b _ o e => pushCells_keeps _ _ _ _ (Heap.get?_push_of_some _ ?_)
    rw [e3]
    exact e
  generalize ({ s3 with heap := pushCells (s3.heap.push { cls := .type "dict", data := .dict #[] }) scope.names } : Shared) = s4 at I4 ⊢ st4
  have own0 : ∀ {σ' : L2.St} {H' : Hp} {s' : Shared}, Inv (X.blk s3 H3 scope ce fp) [] σ' H' s' → (∀ b ∈ fp, H' b = none) → ∀ b ∈ fp, FpOk (X.blk s3 H3 scope ce fp) [] H' b := fun I' cl b hb =>
    ⟨cl b hb, (I'.ok.exf b hb).1, I'.ok.exfs b hb, .inl hb, (fun x c e => (I'.ok.exf b hb).2 x c e), fun p hp => by cases List.mem_append.mp hp <;> rename_i z <;> exact absurd z List.not_mem_nil⟩
  have loop : codeAny (model X.prog X.w) X.A (.compLoop (.SetComp elt [⟨tg, iter, ifs, 0⟩] scope pos) 0 (.ref it) (.ref D) ce) (compPost (model X.prog X.w) X.A X.xe none (EP X pins σ Q) (.ref D) s3.heap.objs.size) s4 := by
    refine PpSet.compLoopS_any (fun n s' => ∃ i H', (Inv (X.blk s3 H3 scope ce fp) [] (wipe σ (own.map (·.2))) H' s' ∧ tn i s'.heap) ∧ (∀ b ∈ fp, H' b = none) ∧ W i n H') ?_ m0 ⟨0, H3, ⟨I4, st4⟩, clear0, w0⟩
    rintro n s5 ⟨i, H5, ⟨I5, st5⟩, cl5, w5⟩
    rcases turn i n H5 w5 with ⟨stop, fine⟩ | ⟨go, Nx, hNx, step⟩
    · refine thnF (T.done (X.blk s3 H3 scope ce fp) rfl rfl rfl hc i [] s5 _ H5 (fun _ _ => False) I5 (own0 I5 cl5) st5 stop) fun r s6 ⟨er, I6⟩ => ?_
      subst er
      have I7 : Inv X pins σ H5 s6 := I3.call' (ch := fp) I6.os I6.base I6.hok I6.bare fun b hb =>
        let f := (f3 b hb).1.2; ⟨f.2.2.1, f.1, f.2.2.2.1, f.2.2.2.2⟩
      have free5 : H5 s3.heap.objs.size = none := home ▸ I6.free
      obtain ⟨m, hn, _⟩ := I6.loc
      obtain ⟨_, k1, k2, k3, k4, k5⟩ := I3.fpOk (Nat.le_refl _) free5
      exact ⟨m, home ▸ hn, fun h'' sb => ⟨.ref D, H5, I7.turned (t' := s6.toks) (fun b o hb e => (sb.2 b hb).trans e) free5 k1 k3 k4 k5, rfl, fine⟩⟩
    · refine thnF (T.item (X.blk s3 H3 scope ce fp) rfl rfl rfl hc i [] s5 _ H5 (fun _ _ => False) I5 (own0 I5 cl5) st5 go) fun r s6 ⟨u, er, h6⟩ => ?_
      subst er
      refine thnF h6 fun _ s7 ⟨x, H7, I7, r7, y7, st7, cl7⟩ => ?_
      refine thnF (pg.run _ s7 _ H7 x u _ (I7.pinned (own0 I7 cl7) (T.obj _ _ st7)) r7 (step x H7 y7)) fun _ s8 ⟨σ8, H8, I8, same8, q8⟩ => thnF (pt.run _ s8 σ8 H8 _ I8 q8) fun b s9 ⟨H9, I9, q9⟩ => ?_
      have closed : ∀ {s' : Shared} {H' : Hp}, Inv (X.blk s3 H3 scope ce fp) ([] ++ pinsAt fp s7.heap) σ8 H' s' → Nx H' → ∃ m, m < n ∧ ∃ i H', (Inv (X.blk s3 H3 scope ce fp) [] (wipe σ (own.map (·.2))) H' s' ∧ tn i s'.heap) ∧ (∀ b ∈ fp, H' b = none) ∧ W i m H' := fun {s' H'} I' nx => by
        obtain ⟨m', less, w'⟩ := hNx H' nx
        have pinned : ∀ b ∈ fp, ∀ o, s7.heap.get? b = some o → s'.heap.get? b = some o ∧ H' b = none := fun b hb o e =>
          have z := I'.pin (b, o) (List.mem_append_right _ (List.mem_append_right _ (mem_pinsAt hb e)))
          ⟨z.1, z.2.1⟩
        have len8 : (wipe σ (own.map (·.2))).length = σ8.length := (congrArg List.length same8).symm.trans (wipe_length _ _)
        refine ⟨m', less, i + 1, H', ⟨(I'.unpinned (pins := [])).weak len8 fun j v e => ?_, T.keep _ _ _ st7 fun b hb o e => (pinned b hb o e).1⟩, fun b hb => ?_, w'⟩
        · exact (wipe_some (same8 ▸ e)).1
        · obtain ⟨o, e, _⟩ := T.obj _ _ st7 b hb
          exact (pinned b hb o e).2
      cases b with
      | false => exact closed I9 q9
      | true =>
        refine thnF (pe.run _ s9 σ8 H9 _ I9 q9) fun z s10 ⟨yv, H10, I10, r10, k, ks, ey, eD, room, nx⟩ => ?_
        subst ey
        exact add_inv (X := X.blk s3 H3 scope ce fp) I10 eD r10 room fun s11 I11 => closed I11 nx
  exact PpSet.codeAny_compStart_set loop (T.self X.A 0 _ _ _ st4 loop)
end
end KnS

set_option Elab.async false
set_option linter.all false
set_option maxRecDepth 100000
set_option maxHeartbeats 4000000
/-! set(a list of ints and texts). -/
namespace KnS
open PySem PySem.Spec PyProof.Rows L2
def allL (ks : List Key) : List Key := ks.foldl addL []
theorem mem_foldL {x : Key} : ∀ {l acc : List Key}, x ∈ l.foldl addL acc ↔ x ∈ acc ∨ x ∈ l := by
  intro l
  induction l with
  | nil => intro acc; exact ⟨.inl, fun h => h.elim id (fun z => nomatch z)⟩
  | cons y l ih =>
    intro acc
    rw [List.foldl_cons, ih, mem_addL, List.mem_cons]
    constructor
    · rintro ((h | h) | h)
      · exact .inl h
      · exact .inr (.inl h)
      · exact .inr (.inr h)
    · rintro (h | h | h)
      · exact .inl (.inl h)
      · exact .inl (.inr h)
      · exact .inr h
theorem mem_allL {x : Key} {l : List Key} : x ∈ allL l ↔ x ∈ l := mem_foldL.trans ⟨fun h => h.elim (fun z => nomatch z) id, .inr⟩
theorem addL_nodup {ks : List Key} {k : Key} (h : ks.Nodup) : (addL ks k).Nodup := by
  unfold addL
  by_cases z : hasL ks k = true
  · rw [if_pos z]; exact h
  · rw [if_neg z]
    exact List.nodup_append.mpr ⟨h, List.nodup_cons.mpr ⟨(fun z => nomatch z), List.nodup_nil⟩, fun u hu v hv e => z (hasL_iff.mpr (by rw [← List.mem_singleton.mp hv, ← e]; exact hu))⟩
theorem foldL_nodup : ∀ {l acc : List Key}, acc.Nodup → (l.foldl addL acc).Nodup
  | [], _, h => h
  | k :: l, _, h => foldL_nodup (l := l) (addL_nodup h)
theorem addL_length (ks : List Key) (k : Key) : (addL ks k).length ≤ ks.length + 1 := by
  unfold addL
  by_cases z : hasL ks k = true
  · rw [if_pos z]; omega
  · rw [if_neg z, List.length_append]; exact Nat.le_refl _
theorem foldL_length : ∀ (l acc : List Key), (l.foldl addL acc).length ≤ acc.length + l.length
  | [], _ => Nat.le_refl _
  | k :: l, acc => by
    have h1 := foldL_length l (addL acc k)
    have h2 := addL_length acc k
    rw [List.foldl_cons, List.length_cons]
    omega
section
variable {P : Program} {w : World} {A : Around} {E : Value → Shared → Prop} {s : Shared}
/-- set.__new__(set, a): a new empty set, led where the order is not by the text -/
theorem new_set (a : Value) {Q₁ : Value → Shared → Prop} (h : Q₁ (.ref s.heap.objs.size) { s with heap := s.heap.push { cls := .type "set", dict := none, data := .set #[] 0 (.fresh 0 0 (!w.params.followText "set-order")) } }) :
    codeAny (model P w) A (.call (.builtin "set.__new__") ⟨[.type "set", a], []⟩) (wants Q₁ E) s := by
  refine codeAny_of_tree (show wpAny _ A.in1 (do checkBuiltinCall "set.__new__" ⟨[.type "set", a], []⟩; again (.builtin "set.__new__" ⟨[.type "set", a], []⟩)) _ _ s from ?_)
  refine wpAny_bind (wpAny_of_eq (F.newCall_set_1 a) (wpAny_pure ⟨plainId_quiet F.plain_set_new _, codeAny_builtin F.entry_set_new ?_⟩))
  rw [Around.under_plainId F.plain_set_new _]
  unfold Builtin.«set.__new__» Builtin.Frozenset.newClass
  have hsub := sub_set_self
  obtain ⟨hp, g, d, tk, os⟩ := s
  dsimp only
  wp_walk
  refine wpAny_askSetting (wpAny_pure ?_)
  dsimp only
  simp only [newObj]
  exact wpAny_bind (wpAny_alloc (wpAny_pure (wpAny_pure h)))
/-- the loop of set(v) -/
theorem update_loop {I S : Addr} {fp wr : List Addr} {G : Array GenState → Array GenState → Prop} {ks : List Key} {Pv : Nat → Value → Prop} {St : Nat → Shared → Prop} {R : Result → Shared → Prop}
    (W : WalksS P w A.in1 I fp wr G ks.length Pv St) (hSf : S ∉ fp) (hval : ∀ i v k, Pv i v → ks[i]? = some k → (mixKind P w).is k v = true ∧ v.scannable = true) (room : ks.length + 1 < scanBound) :
    ∀ (k i : Nat) (s : Shared), ks.length - i = k → i ≤ ks.length → St i s → Holds P w s.heap S (allL (ks.take i)) →
      (∀ s', Moved (S :: wr) G s s' → Holds P w s'.heap S (allL ks) → R (.ok (.ret .none)) s') → codeAny (model P w) A (.builtin "set.update.loop" ⟨[.ref S, .ref I], []⟩) R s := by
  have hSw : S ∉ wr := fun h => hSf (W.sub _ h)
  have more : ∀ b ∈ wr, b ∈ S :: wr := fun b hb => List.mem_cons_of_mem _ hb
  intro k
  induction k with
  | zero =>
    intro i s hk hi hst hS hR
    obtain rfl : i = ks.length := by omega
    refine codeAny_builtin PyProof.Rows.F.entry_set_update_loop ?_
    rw [Around.under_plainId PyProof.Rows.F.plain_set_update_loop _]
    show wpAny _ A.in1 (pyNext (.ref I) >>= _) _ _ s
    refine wpAny_bind (W.done s _ _ hst fun s' hm => (show wpAny _ A.in1 (ret Value.none) _ _ s' from wpAny_pure (hR s' (hm.mono more) ?_)))
    rw [List.take_length] at hS
    exact hS.keep fun o ho => hm.heap S o hSw ho
  | succ k ih =>
    intro i s hk hi hst hS hR
    have lt : i < ks.length := by omega
    have at_ : ks[i]? = some ks[i] := List.getElem?_eq_getElem lt
    refine codeAny_builtin PyProof.Rows.F.entry_set_update_loop ?_
    rw [Around.under_plainId PyProof.Rows.F.plain_set_update_loop _]
    show wpAny _ A.in1 (pyNext (.ref I) >>= _) _ _ s
    refine wpAny_bind (W.item i s _ _ lt hst fun v s' hP hst' hm => ?_)
    obtain ⟨v1, v2⟩ := hval i v _ hP at_
    have hS' : Holds P w s'.heap S (allL (ks.take i)) := hS.keep fun o ho => hm.heap S o hSw ho
    have len : (allL (ks.take i)).length + 1 < scanBound := by
      have h1 := foldL_length (ks.take i) []
      rw [List.length_take] at h1
      have h2 : ([] : List Key).length = 0 := rfl
      unfold allL
      omega
    show wpAny _ A.in1 (holding [v] (setAdd S v) >>= _) _ _ s'
    refine wpAny_bind (wpAny_holding ?_)
    unfold setAdd
    refine wpAny_holding (wpAny_bind ((mixKind P w).pyHash v1 ?_))
    refine add_scan (s := { s' with toks := s'.toks + 1 }) v1 v2 hS' len fun b h' hsb hS2 => ?_
    have e2 : allL (ks.take (i + 1)) = addL (allL (ks.take i)) ks[i] := by
      unfold allL
      rw [List.take_add_one, at_, List.foldl_append]
      rfl
    refine wpAny_pure ⟨plainId_quiet PyProof.Rows.F.plain_set_update_loop _, ih (i + 1) _ (by omega) lt (W.frame _ s' _ _ hst' (Nat.le_succ _) fun b hb o e => ?_) (by rw [e2]; exact hS2) fun s'' hm'' hS'' => ?_⟩
    · exact (hsb.2 b fun h => hSf (h ▸ hb)).trans e
    · refine hR s'' (Moved.trans W.gtrans ((hm.mono more).then_heap (Nat.le_succ _) fun b o hb e => ?_) hm'') hS''
      exact (hsb.2 b fun h => hb (h ▸ List.mem_cons_self)).trans e

set_option maxHeartbeats 3200000 in
theorem set_call {l : Addr} {items : List Value} {ks : List Key} {Q : Value → Shared → Prop} (hh : A.handled = none) (hl : s.heap.IsList l items.toArray) (hk : Paired (fun k v => (mixKind P w).is k v = true ∧ v.scannable = true) ks items) (room : ks.length + 1 < scanBound)
    (h : ∀ (h' : Heap) (tk : Nat), Holds P w h' s.heap.objs.size (allL ks) → (∀ b o, b < s.heap.objs.size → s.heap.get? b = some o → h'.get? b = some o) → Q (.ref s.heap.objs.size) { s with heap := h', toks := tk }) :
    wpAny (model P w) A (call (.type "set") [.ref l]) Q E s := by
  have ⟨c, tl, hmro⟩ := PySem.F.called_set.mro
  have made := PySem.F.called_set.made
  have sub := PySem.F.called_set.sub
  refine wpAny_call (codeAny_of_tree (show wpAny _ _ (callAny (.type "set") _) _ _ _ from wpAny_pure ⟨Code.quiet_builtin _ (by decide +kernel), codeAny_builtin PySem.F.entry_type_call ?_⟩))
  rw [Around.under_plain (weight_type_call_type "set" [.ref l] []) rfl]
  have u1 := PySem.F.called_set.notType
  have u2 := PySem.F.called_set.canCreate
  have u3 := PySem.F.typeCall_set_1 (.ref l)
  repeat (any_goals (first | assumption | wp_step))
  have R0 := fresh_set (P := P) (w := w) s.heap
  have made0 := new_set (P := P) (w := w) (A := A.in1) (s := s) (.ref l) (E := E) (Q₁ := fun obj s₁ => obj = .ref s.heap.objs.size ∧ s₁ = { s with heap := s.heap.push { cls := .type "set", dict := none, data := .set #[] 0 (.fresh 0 0 (!w.params.followText "set-order")) } }) ⟨rfl, rfl⟩
  generalize (!w.params.followText "set-order") = led at made0 R0
  refine codeAny_mono made0 fun r s₁ hr => ?_
  match r, hr with
  | .error e, hr => exact hr
  | .ok .next, hr => exact hr.elim
  | .ok .brk, hr => exact hr.elim
  | .ok .cont, hr => exact hr.elim
  | .ok (.ret obj), hr =>
    obtain ⟨rfl, rfl⟩ := hr
    have hS : (s.heap.push { cls := .type "set", dict := none, data := .set #[] 0 (.fresh 0 0 led) }).get? s.heap.objs.size = some { cls := .type "set", dict := none, data := .set #[] 0 (.fresh 0 0 led) } := Heap.get?_push_size _ rfl
    have hT : Shared.TypeIs { s with heap := s.heap.push { cls := .type "set", dict := none, data := .set #[] 0 (.fresh 0 0 led) } } (.ref s.heap.objs.size) "set" := ⟨_, hS, rfl⟩
    have i1 := PySem.F.called_set.init.lookup
    have i2 := PySem.F.called_set.init.bind (.ref s.heap.objs.size)
    repeat (any_goals (first | assumption | wp_step))
    refine codeAny_mono (codeAny_call_builtin (R := wants (fun r s₂ => r = .none ∧ ∃ h' tk, s₂ = { s with heap := h', toks := tk } ∧ Holds P w h' s.heap.objs.size (allL ks) ∧ ∀ b o, b < s.heap.objs.size → s.heap.get? b = some o → h'.get? b = some o) E)
      PySem.F.called_set.init.plain PySem.F.entry_set_init (check_set_init_1 hT ?_)) fun r₂ s₂ hr₂ => ?_
    · have hlS : l < s.heap.objs.size := let ⟨o, e, _⟩ := hl; Heap.lt_size e
      have hl1 : (s.heap.push { cls := .type "set", dict := none, data := .set #[] 0 (.fresh 0 0 led) }).IsList l items.toArray := hl.at fun o e => Heap.get?_push_of_some _ e
      obtain ⟨⟨ocls, odict, odata, oslots⟩, hol, hcl, nl, hdl⟩ := hl1
      simp only at hcl hdl
      subst hcl hdl
      have n1 := PySem.F.sub_list_set
      have n2 := PySem.F.sub_list_frozenset
      have n3 : (Value.type "list" == Value.type "dict") = false := by decide
      unfold Builtin.«set.__init__» noKeywords Builtin.Frozenset.updateFrom
      generalize hPI : pyIter = PI
      wp_walk
      subst hPI
      have hl2 : (s.heap.push { cls := .type "set", dict := none, data := .set #[] 0 (.fresh 0 0 led) }).IsList l items.toArray := ⟨_, hol, rfl, nl, rfl⟩
      refine wpAny_pyIter_list hl2 ?_
      refine wpAny_bind (wpAny_runValue ?_)
      have zz : (s.heap.push { cls := .type "set", dict := none, data := .set #[] 0 (.fresh 0 0 led) }).objs.size = s.heap.objs.size + 1 := Heap.size_push ..
      have hneI : l ≠ (s.heap.push { cls := .type "set", dict := none, data := .set #[] 0 (.fresh 0 0 led) }).objs.size := by rw [zz]; exact Nat.ne_of_lt (Nat.lt_succ_of_lt hlS)
      have len : ks.length = items.toArray.size := hk.length.trans List.size_toArray.symm
      have W := (Walks.list (prog := P) (w := w) (A := A.in1.in1.in1) (by simpa using hh) (s.heap.push { cls := .type "set", dict := none, data := .set #[] 0 (.fresh 0 0 led) }).objs.size l hneI items.toArray).toS
      rw [← len] at W
      refine update_loop W (fun z => ?_) (fun i v k hv hki => ?_) room (ks.length - 0) 0 _ rfl (Nat.zero_le _) ⟨⟨_, Heap.get?_push_size _ rfl, rfl, rfl⟩, hl2.at fun o e => Heap.get?_push_of_some _ e⟩ ?_ fun s' hm hS' => ?_
      · rcases List.mem_cons.mp z with z | z
        · rw [zz] at z
          exact Nat.ne_of_lt (Nat.lt_succ_self _) z
        · exact Nat.ne_of_lt hlS (List.mem_singleton.mp z).symm
      · rw [List.getElem?_toArray] at hv
        have : ∀ {ks : List Key} {its : List Value} {i : Nat}, Paired (fun k v => (mixKind P w).is k v = true ∧ v.scannable = true) ks its → ks[i]? = some k → its[i]? = some v → (mixKind P w).is k v = true ∧ v.scannable = true := by
          intro ks its i hp
          induction hp generalizing i with
          | nil => intro z; cases z
          | cons r _ ih =>
            cases i with
            | zero => intro a b; cases a; cases b; exact r
            | succ i => exact fun a b => ih (i := i) a b
        exact this hk hki hv
      · exact R0.keep fun o e => Heap.get?_push_of_some _ e
      · obtain ⟨h', g', d', tk', os'⟩ := s'
        obtain rfl : g' = s.gens := hm.gens
        obtain rfl : d' = s.drawn := hm.drawn
        obtain rfl : os' = s.os := hm.os
        refine wpAny_pure (show wpAny _ _ (ret Value.none) _ _ _ from wpAny_pure ⟨rfl, h', tk', rfl, hS', fun b o hb e => ?_⟩)
        refine hm.heap b o (fun z => ?_) (Heap.get?_push_of_some _ (Heap.get?_push_of_some _ e))
        rcases List.mem_cons.mp z with z | z
        · exact Nat.ne_of_lt hb z
        · have e1 := List.mem_singleton.mp z
          rw [zz] at e1
          exact Nat.ne_of_lt (Nat.lt_succ_of_lt hb) e1
    · match r₂, hr₂ with
      | .error e, hr₂ => exact hr₂
      | .ok .next, hr₂ => exact hr₂.elim
      | .ok .brk, hr₂ => exact hr₂.elim
      | .ok .cont, hr₂ => exact hr₂.elim
      | .ok (.ret r), hr₂ =>
        obtain ⟨rfl, h', tk, rfl, hS', hk'⟩ := hr₂
        repeat (any_goals (first | assumption | wp_step))
        exact h _ _ hS' hk'
end
section
variable {X : Cx}
/-- set(xs), xs a list of ints and texts -/
def rSetOf (K : PySem.W.Frag) (P : Program) (w : World) : List V → Hp → VK → Prop := fun vs H Q => ∃ (a : Addr) (ks : List Key), vs = [.ref a] ∧ SqL K H a (ks.map kV) ∧ ks.length + 1 < scanBound ∧ ∀ p, H p = none → Q (.ref p) (upd H p (SetL P w p (allL ks)))
theorem cr_setOf (hc : X.calm = true) : CallR X (.type "set") (rSetOf X.K X.prog X.w) := by
  intro pins s σ H vs us Q I r h
  obtain ⟨a, ks, rfl, hs, room, q⟩ := h
  rw [Vals.ref1 r]
  obtain ⟨its, rv, pl, hz⟩ := I.list hs
  have hk : ∀ {ks : List Key} {its : List Value}, Vals (ks.map kV) its → Paired (fun k v => (mixKind X.prog X.w).is k v = true ∧ v.scannable = true) ks its := by
    intro ks
    induction ks with
    | nil => intro its hp; cases hp; exact .nil
    | cons k ks ih =>
      intro its hp
      cases hp with
      | cons r t => exact .cons (key_rel r X.prog X.w) (ih t)
  refine set_call (I.ok.hd hc) pl.isList (hk rv) room fun h' tk R k => ?_
  have J : Inv X pins σ (upd H s.heap.objs.size (SetL X.prog X.w s.heap.objs.size (allL ks))) { s with heap := h', toks := tk } :=
    I.laid (t' := tk) (fun b o e => k b o (Heap.lt_size e) e) (Nat.le_refl _) R.new
  exact ⟨.ref _, _, J, rfl, q _ (I.hok.fresh (Nat.le_refl _))⟩
end
end KnS

set_option Elab.async false
set_option linter.all false
set_option maxRecDepth 100000
set_option maxHeartbeats 4000000
/-! What is walked may be a list or a tuple: the for loop over it, and over enumerate of it. -/
namespace KnE
open PySem PySem.Spec PyProof.Rows L2
/-- a list (true) or a tuple (false) -/
def Sq (K : PySem.W.Frag) (b : Bool) (H : Hp) (a : Addr) (xs : List V) : Prop := match b with | true => SqL K H a xs | false => SqT K H a xs
def ItS (K : PySem.W.Frag) (b : Bool) (a : Addr) : It := match b with | true => Itl K a | false => Itt K a
def iSeq (K : PySem.W.Frag) (te : TE) : TI := fun σ H R => te σ H fun x H1 => ∃ a b, x = .ref a ∧ (∃ xs, Sq K b H1 a xs) ∧ R (ItS K b a) H1
section
variable {X : Cx} {tg : Expr}
theorem pi_seq {e : Expr} {te : TE} (he : PE X e te) : PI X tg e (iSeq X.K te) := by
  refine ⟨fun pins s σ H R I h => thn (he.run pins s σ H _ I h) fun v s1 ⟨x, H1, I1, r1, a, b, ex, ⟨xs, hq⟩, q⟩ => ?_⟩
  subst ex
  cases r1
  cases b with
  | true =>
    obtain ⟨its, rv, p, hz⟩ := I1.list hq
    exact wpAny_pyIter_list p.isList (pi_one (tk := s1.toks) I1 _ (turn_list a _) ⟨_, Heap.get?_push_size _ rfl, rfl, rfl⟩ q)
  | false =>
    obtain ⟨its, rv, p, hz⟩ := I1.tuple hq
    exact wpAny_pyIter_tuple (show s1.heap.IsTuple a its.toArray from p) (pi_one (tk := s1.toks) I1 _ (turn_tuple a _) ⟨_, Heap.get?_push_size _ rfl, rfl, rfl⟩ q)
end
theorem Sq.inj {X : Cx} {pins : List (Addr × Obj)} {σ : L2.St} {H : Hp} {s : Shared} {b : Bool} {a : Addr} {xs ys : List V} (I : Inv X pins σ H s) (h : Sq X.K b H a xs) (h' : Sq X.K b H a ys) : xs = ys := by
  cases b with
  | true => exact I.list_inj h h'
  | false => exact I.tuple_inj h h'
/-- the for loop over a list or tuple that the body leaves as it is -/
theorem for_seq {K : PySem.W.Frag} {b : Bool} {a : Addr} {xs : List V} {g : TG} {tb : TS} {D : Ends} {σ : L2.St} {H : Hp} (Pv : Nat → L2.St → Hp → Prop) (h0 : Pv 0 σ H) (hl : ∀ i σ H, i ≤ xs.length → Pv i σ H → Sq K b H a xs)
    (hs : ∀ i x σ H, xs[i]? = some x → Pv i σ H → g x σ H fun σ2 H2 => tb { D with nx := Pv (i + 1), ct := Pv (i + 1), bk := D.nx } σ2 H2) (hd : ∀ σ H, Pv xs.length σ H → D.nx σ H) :
    ∃ W : Nat → Nat → L2.St → Hp → Prop, (∃ m, W 0 m σ H) ∧ ∀ i m σ H, W i m σ H →
      ((ItS K b a).stop i H ∧ D.nx σ H) ∨ ((ItS K b a).go i H ∧ ∃ N : L2.St → Hp → Prop, (∀ σ' H', N σ' H' → ∃ m', m' < m ∧ W (i + 1) m' σ' H') ∧
        ∀ x H', (ItS K b a).yld i H x H' → g x σ H' fun σ2 H2 => tb { D with nx := N, ct := N, bk := D.nx } σ2 H2) := by
  cases b with
  | true => exact for_list (K := K) (a := a) (xs := xs) Pv h0 hl hs hd
  | false => exact for_tup (K := K) (a := a) (xs := xs) Pv h0 hl hs hd
/-! ### enumerate -/
def Liv (b : Bool) (h : Heap) (a : Addr) (its : List Value) : Prop := match b with | true => h.IsList a its.toArray | false => h.IsTuple a its.toArray
def iterAt (b : Bool) (h : Heap) (it a : Addr) (i : Nat) : Prop := match b with | true => h.IsListIter it a i | false => h.IsTupleIter it a i
/-- (0, x0), (1, x1), .., each a new tuple -/
def ItN (K : PySem.W.Frag) (b : Bool) (a : Addr) : It where
  go := fun i H => ∃ (xs : List V) (x : V), Sq K b H a xs ∧ xs[i]? = some x
  yld := fun i H v H' => ∃ T x, v = .ref T ∧ H T = none ∧ H' = upd H T (.tup [.int (i : Nat), x]) ∧ ∀ xs, Sq K b H a xs → xs[i]? = some x
  stop := fun i H => ∃ xs : List V, Sq K b H a xs ∧ xs.length = i
theorem iterAt.mono {b : Bool} {h h' : Heap} {it a : Addr} {i : Nat} (x : iterAt b h it a i) (k : ∀ o, h.get? it = some o → h'.get? it = some o) : iterAt b h' it a i := by
  cases b with
  | true => exact Heap.IsListIter.at x k
  | false => exact Heap.IsTupleIter.at x k
theorem iterAt.plain {b : Bool} {h : Heap} {it a : Addr} {i : Nat} (x : iterAt b h it a i) : ∃ o, h.get? it = some o ∧ ∀ v, o.data ≠ .cell v := by
  cases b with
  | true => obtain ⟨o, e, _, d⟩ := x; exact ⟨o, e, fun v z => by rw [d] at z; cases z⟩
  | false => obtain ⟨o, e, _, d⟩ := x; exact ⟨o, e, fun v z => by rw [d] at z; cases z⟩
section
variable {P : Program} {w : World} {A : Around} {E : Value → Shared → Prop} {s : Shared}
/-- one more of an enumeration, of either kind -/
theorem enum_item {b : Bool} {e it a : Addr} {i : Nat} {its : List Value} {u old : Value} {Q : Option Value → Shared → Prop} (hh : A.handled = none) (he : IsEnum s.heap e it i old) (hit : iterAt b s.heap it a i)
    (hp : Liv b s.heap a its) (hu : its[i]? = some u) (hne : e ≠ it) (hae : a ≠ e) (hai : a ≠ it)
    (hQ : ∀ h' tk, IsEnumOut h' e it ((i : Int) + 1) u s.heap.objs.size → iterAt b h' it a (i + 1) → h'.get? s.heap.objs.size = some { cls := .type "tuple", data := .seq #[.int i tk, u] } →
      (∀ b o, b ≠ e → b ≠ it → s.heap.get? b = some o → h'.get? b = some o) → Q (some (.ref s.heap.objs.size)) { s with heap := h', toks := tk + 1 }) : wpAny (model P w) A (pyNext (.ref e)) Q E s := by
  have hlt : i < its.toArray.size := by
    rw [List.size_toArray]
    exact (List.getElem?_eq_some_iff.mp hu).1
  have hef : e ∉ [it, a] := fun z => by
    rcases List.mem_cons.mp z with z | z
    · exact hne z
    · exact hae (List.mem_singleton.mp z).symm
  have same : ∀ {x : Value}, its.toArray[i]? = some x → x = u := fun {x} z => by
    rw [List.getElem?_toArray, hu] at z
    exact (Option.some.inj z).symm
  cases b with
  | true =>
    refine wpAny_pyNext_enum_itemD (Draws.list (A := A.in1) hh it a hai its.toArray) he ⟨hit, hp⟩ hlt hne hef fun x h' tk hP ho hs' hT hsz hk => ?_
    rw [same hP] at ho hT
    exact hQ h' tk ho hs'.1 hT hk
  | false =>
    refine wpAny_pyNext_enum_itemD (Draws.tuple (A := A.in1) hh it a hai its.toArray) he ⟨hit, hp⟩ hlt hne hef fun x h' tk hP ho hs' hT hsz hk => ?_
    rw [same hP] at ho hT
    exact hQ h' tk ho hs'.1 hT hk
theorem enum_end {b : Bool} {e it a : Addr} {i : Nat} {its : List Value} {old : Value} {Q : Option Value → Shared → Prop} (hh : A.handled = none) (he : IsEnum s.heap e it i old) (hit : iterAt b s.heap it a i)
    (hp : Liv b s.heap a its) (hi : i = its.length) (hai : a ≠ it)
    (hQ : ∀ h', Heap.ExtBut it s.heap h' → Q none { s with heap := h' }) : wpAny (model P w) A (pyNext (.ref e)) Q E s := by
  subst hi
  have z : its.toArray.size = its.length := List.size_toArray
  cases b with
  | true => exact wpAny_pyNext_enum_endD (Draws.list (A := A.in1) hh it a hai its.toArray) he ⟨z ▸ hit, hp⟩ hQ
  | false => exact wpAny_pyNext_enum_endD (Draws.tuple (A := A.in1) hh it a hai its.toArray) he ⟨z ▸ hit, hp⟩ hQ
end
theorem sq_lives {X : Cx} {pins : List (Addr × Obj)} {σ : L2.St} {H : Hp} {s : Shared} {b : Bool} {a : Addr} {xs : List V} (I : Inv X pins σ H s) (h : Sq X.K b H a xs) :
    ∃ its : List Value, Vals xs its ∧ Liv b s.heap a its := by
  cases b with
  | true => obtain ⟨its, rv, p, _⟩ := I.list h; exact ⟨its, rv, p.isList⟩
  | false => obtain ⟨its, rv, p, _⟩ := I.tuple h; exact ⟨its, rv, p⟩
theorem lives_ne {b : Bool} {h : Heap} {a : Addr} {its : List Value} {e : Addr} {o : Obj} {n : String} (p : Liv b h a its) (he : h.get? e = some o) (hc : o.cls = .type n) (n1 : n ≠ "list") (n2 : n ≠ "tuple") : a ≠ e := by
  rintro rfl
  cases b with
  | true => obtain ⟨o', e', c', _⟩ := p; rw [he] at e'; cases e'; rw [hc] at c'; cases c'; exact n1 rfl
  | false => obtain ⟨o', e', c', _⟩ := p; rw [he] at e'; cases e'; rw [hc] at c'; cases c'; exact n2 rfl
theorem iterAt.cls {b : Bool} {h : Heap} {it a : Addr} {i : Nat} (x : iterAt b h it a i) : ∃ o n, h.get? it = some o ∧ o.cls = .type n ∧ n ≠ "list" ∧ n ≠ "tuple" := by
  cases b with
  | true => obtain ⟨o, e, c, _⟩ := x; exact ⟨o, _, e, c, by decide, by decide⟩
  | false => obtain ⟨o, e, c, _⟩ := x; exact ⟨o, _, e, c, by decide, by decide⟩
theorem turn_en {P : Program} {w : World} {K : PySem.W.Frag} {elts : List Expr} {kk : Nat} {tpos : Pos} (b : Bool) (a e it : Addr) :
    Turn P w K (.Tuple elts kk tpos) (ItN K b a) [e, it] e (fun i h => (∃ old, IsEnum h e it ((i : Nat) : Int) old) ∧ iterAt b h it a i ∧ e ≠ it) where
  mem := List.mem_cons_self
  obj := fun i h ⟨⟨old, he⟩, hi, _⟩ c hc => by
    rcases List.mem_cons.mp hc with z | z
    · rw [z]; exact ⟨_, he, fun v q => nomatch q⟩
    · rw [List.mem_singleton.mp z]; exact hi.plain
  keep := fun i h h' ⟨⟨old, he⟩, hi, hne⟩ k => ⟨⟨old, k e List.mem_cons_self _ he⟩, hi.mono fun o q => k it (List.mem_cons_of_mem _ List.mem_cons_self) o q, hne⟩
  self := fun A i s Q E ⟨⟨_, he⟩, _⟩ h => wpAny_pyIter_enum he h
  done := by
    intro X hP hw hK hc i pins s σ H E I hf ⟨⟨old, he⟩, hit, hne⟩ ⟨xs, hq, hx⟩
    subst hP hw hK
    obtain ⟨its, rv, p⟩ := sq_lives I hq
    obtain ⟨oi, ni, hoi, ci, ni1, ni2⟩ := hit.cls
    obtain ⟨f0, f1, f2, f3, f4, f5⟩ := hf it (List.mem_cons_of_mem _ List.mem_cons_self)
    refine enum_end (I.ok.hd hc) he hit p (hx.symm.trans rv.length) (lives_ne p hoi ci ni1 ni2) fun h' eb => ?_
    exact ⟨rfl, I.turned (t' := s.toks) (fun c o hb q => eb c o hb q) f0 f1 f3 f4 f5⟩
  item := by
    intro X hP hw hK hc i pins s σ H E I hf ⟨⟨old, he⟩, hit, hne⟩ ⟨xs, x, hq, hx⟩
    subst hP hw hK
    obtain ⟨its, rv, p⟩ := sq_lives I hq
    obtain ⟨u, hu, ru⟩ := rv.get hx
    have he0 := he
    have hel : e < s.heap.objs.size := Heap.lt_size he
    obtain ⟨oi, ni, hoi, ci, ni1, ni2⟩ := hit.cls
    have hil : it < s.heap.objs.size := Heap.lt_size hoi
    refine enum_item (I.ok.hd hc) he hit p hu hne (lives_ne p he0 rfl (by decide) (by decide)) (lives_ne p hoi ci ni1 ni2) fun h' tk ho hit' hT hk => ?_
    refine ⟨_, rfl, wpAny_letOwnedTupleGo_enum (s := { s with heap := h', toks := tk + 1 }) ho fun h'' he' sb => ?_⟩
    have hT2 := (sb.2 s.heap.objs.size (Nat.ne_of_gt hel)).trans hT
    have I1 : Inv X pins σ (upd H s.heap.objs.size (.tup [.int (i : Nat), x])) { s with heap := h'', toks := tk + 1 } :=
      I.turnedNew (ch := [e, it]) (fun c ob hb q => (sb.2 c fun z => hb (z ▸ List.mem_cons_self)).trans (hk c ob (fun z => hb (z ▸ List.mem_cons_self)) (fun z => hb (z ▸ List.mem_cons_of_mem _ List.mem_cons_self)) q)) hf (Nat.le_refl _)
        (show ObjOk X.prog X.w _ h'' _ (.tup [.int (i : Nat), x]) from ⟨by show 2 ≤ sizeLine; decide, [.int i tk, u], .cons ⟨_, rfl⟩ (.cons ru .nil), _, hT2, rfl, _, rfl⟩)
    refine ⟨.ref s.heap.objs.size, _, I1, rfl, ⟨_, x, rfl, I.hok.fresh (Nat.le_refl _), rfl, fun ys hy => by rw [hy.inj I hq]; exact hx⟩, ⟨⟨u, ?_⟩, hit'.mono fun o q => (sb.2 it hne.symm).trans q, hne⟩, fun c hcm => ?_⟩
    · have e1 : ((i + 1 : Nat) : Int) = (i : Int) + 1 := by omega
      rw [e1]
      exact he'
    · rcases List.mem_cons.mp hcm with z | z
      · rw [z, upd_ne (Nat.ne_of_lt hel)]
        exact (hf e List.mem_cons_self).1
      · rw [List.mem_singleton.mp z, upd_ne (Nat.ne_of_lt hil)]
        exact (hf it (List.mem_cons_of_mem _ List.mem_cons_self)).1

/-! ### enumerate(v), its making -/
set_option maxHeartbeats 1000000 in
theorem new_enum {v : Value} {o : Obj} {Hv : Heap → Prop} (B : Begins v o Hv) : Meets (Builtin.«enumerate.__new__» ⟨[.type "enumerate", v], []⟩) (fun _ R s => Hv s.heap ∧
      R (.ok (.ret (.ref (s.heap.push o).objs.size))) { s with heap := (s.heap.push o).push { cls := .type "enumerate", data := .fields #[.none, .bool false, .ref s.heap.objs.size, rawInt 0, .none, .none] } }) :=
  .of_wp fun prog w A R s ⟨h1, h⟩ => by
    obtain ⟨hp, g, d, tk, os⟩ := s
    have hsub := sub_enumerate
    have q1 : ∀ {A' : Around} {E : Value → Shared → Prop} {Q : Value → Shared → Prop}, Q (.ref hp.objs.size) ⟨hp.push o, g, d, tk, os⟩ → wpAny (model prog w) A' (pyIter v) Q E ⟨hp, g, d, tk, os⟩ := B.iter prog w _ _ ⟨hp, g, d, tk, os⟩ _ h1
    wp_walk using q1
    refine wpAny_stack_any fun st => wpAny_pure ?_
    split
    · rename_i c _ _ _ _ _
      cases (c == Value.type "enumerate") <;> (wp_walk using q1; exact ⟨_, rfl, h⟩)
    · wp_walk using q1
      exact ⟨_, rfl, h⟩
section
variable {P : Program} {w : World} {A : Around} {E : Value → Shared → Prop} {s : Shared}
theorem enum_made {v : Value} {o : Obj} {Hv : Heap → Prop} {Q : Value → Shared → Prop} (B : Begins v o Hv) (h1 : Hv s.heap)
    (h : ∀ h', IsEnum h' (s.heap.objs.size + 1) s.heap.objs.size 0 .none → h'.get? s.heap.objs.size = some o → (∀ b o, s.heap.get? b = some o → h'.get? b = some o) → Q (.ref (s.heap.objs.size + 1)) { s with heap := h' }) :
    wpAny (model P w) A (call (.type "enumerate") [v]) Q E s := by
  refine callType_new F.called_enumerate (by decide) (F.typeCall_enumerate_1 _) (F.newCall_enumerate_1 _) (fun obj => F.args_object_init_2 obj _) F.entry_enumerate_new (new_enum B) ⟨h1, ?_⟩
  have hz : (s.heap.push o).objs.size = s.heap.objs.size + 1 := Heap.size_push ..
  have he := Heap.get?_push_size (s.heap.push o) (o := { cls := .type "enumerate", data := .fields #[.none, .bool false, .ref s.heap.objs.size, rawInt 0, .none, .none] }) rfl
  show _ ∧ _
  rw [hz] at he ⊢
  exact ⟨⟨_, he, rfl⟩, h _ he (Heap.get?_push_of_some _ (Heap.get?_push_size _ B.free)) fun b o x => Heap.get?_push_of_some _ (Heap.get?_push_of_some _ x)⟩
end
def iEnS (K : PySem.W.Frag) (ta : TA) : TI := fun σ H R => ta σ H fun vs H1 => ∃ a b xs, vs = [.ref a] ∧ Sq K b H1 a xs ∧ R (ItN K b a) H1
theorem pi_en {X : Cx} {e : Expr} {ta : TA} {p pos tpos : Pos} {elts : List Expr} {kk : Nat} (hg : Gl X "enumerate") (hm : X.mg "enumerate" = none) (ha : PA X [e] ta) (hs : starEach [e] X.env = [(false, eval e X.env)] := by rfl) :
    PI X (.Tuple elts kk tpos) (.Call (.Name "enumerate" p) [e] [] pos) (iEnS X.K ta) := by
  refine ⟨fun pins s σ H R I h => Call_ (ld_blt I hg hm boot_enumerate (PyProof.Rows.callWith_type1 (thn (ha.run pos pins s σ H _ I h) fun us s1 ⟨vs, H1, I1, r1, a, b, xs, ex, hq, q⟩ => ?_) hs rfl))⟩
  subst ex
  cases r1 with
  | cons r rr =>
    cases rr
    cases r
    obtain ⟨its, rv, p'⟩ := sq_lives I1 hq
    have fin : ∀ (h' : Heap), IsEnum h' (s1.heap.objs.size + 1) s1.heap.objs.size 0 .none → iterAt b h' s1.heap.objs.size a 0 → (∀ c o, s1.heap.get? c = some o → h'.get? c = some o) →
        wpAny (model X.prog X.w) X.A (pyIter (.ref (s1.heap.objs.size + 1))) (PIE X pins σ (.Tuple elts kk tpos) R) X.xe { s1 with heap := h' } := fun h' he hit hk => by
      refine wpAny_pyIter_enum (s := { s1 with heap := h' }) he ⟨s1.heap.objs.size + 1, [s1.heap.objs.size + 1, s1.heap.objs.size], _, _, H1, rfl, I1.kept (t' := s1.toks) hk, turn_en b a (s1.heap.objs.size + 1) s1.heap.objs.size, ⟨⟨.none, he⟩, hit, Nat.succ_ne_self _⟩, fun c hc => ?_, q⟩
      have hle : s1.heap.objs.size ≤ c := by
        rcases List.mem_cons.mp hc with z | z
        · rw [z]; exact Nat.le_add_right _ _
        · rw [List.mem_singleton.mp z]; exact Nat.le_refl _
      exact I1.fpOk hle (I1.hok.fresh hle)
    cases b with
    | true => exact enum_made (begins_list a its.toArray) p' fun h' he ho hk => fin h' he ⟨_, ho, rfl, rfl⟩ hk
    | false => exact enum_made (begins_tuple a its.toArray) p' fun h' he ho hk => fin h' he ⟨_, ho, rfl, rfl⟩ hk
theorem for_en {K : PySem.W.Frag} {b : Bool} {a : Addr} {xs : List V} {g : TG} {tb : TS} {D : Ends} {σ : L2.St} {H : Hp} (Pv : Nat → L2.St → Hp → Prop) (h0 : Pv 0 σ H) (hl : ∀ i σ H, i ≤ xs.length → Pv i σ H → Sq K b H a xs)
    (hs : ∀ (i : Nat) (x : V) (T : Addr) (σ : L2.St) (H : Hp), xs[i]? = some x → H T = none → Pv i σ H → g (.ref T) σ (upd H T (.tup [.int (i : Nat), x])) fun σ2 H2 => tb { D with nx := Pv (i + 1), ct := Pv (i + 1), bk := D.nx } σ2 H2) (hd : ∀ σ H, Pv xs.length σ H → D.nx σ H) :
    ∃ W : Nat → Nat → L2.St → Hp → Prop, (∃ m, W 0 m σ H) ∧ ∀ i m σ H, W i m σ H →
      ((ItN K b a).stop i H ∧ D.nx σ H) ∨ ((ItN K b a).go i H ∧ ∃ N : L2.St → Hp → Prop, (∀ σ' H', N σ' H' → ∃ m', m' < m ∧ W (i + 1) m' σ' H') ∧
        ∀ x H', (ItN K b a).yld i H x H' → g x σ H' fun σ2 H2 => tb { D with nx := N, ct := N, bk := D.nx } σ2 H2) := by
  refine ⟨fun i m σ H => m = xs.length - i ∧ i ≤ xs.length ∧ Pv i σ H, ⟨xs.length, rfl, Nat.zero_le _, h0⟩, fun i m σ H ⟨em, hi, p⟩ => ?_⟩
  have q := hl i σ H hi p
  rcases Nat.lt_or_eq_of_le hi with lt | e
  · refine .inr ⟨⟨xs, xs[i], q, List.getElem?_eq_getElem lt⟩, Pv (i + 1), fun σ' H' p' => ⟨xs.length - (i + 1), by omega, rfl, lt, p'⟩, fun v H' ⟨T, x, ev, nT, eH, at_⟩ => ?_⟩
    subst ev eH
    exact hs i x T σ H (at_ xs q) nT p
  · subst e
    exact .inl ⟨⟨xs, q, rfl⟩, hd σ H p⟩
end KnE

set_option Elab.async false
set_option linter.all false
set_option maxRecDepth 100000
set_option maxHeartbeats 4000000
/-! What a walk of a comprehension asks: into a set over a list or a tuple, into a dict over a list. -/
namespace KnC
open PySem PySem.Spec PyProof.Rows L2
theorem sc_seq {P : Program} {w : World} {K : PySem.W.Frag} {b : Bool} {a : Addr} {xs : List V} {g : TG} {tt : TT} {te : TE} {vs : List Nat} {σ : L2.St} {H1 : Hp} {D : Addr} {Qd : Hp → Prop} (Pv : Nat → Hp → Prop) (h0 : Pv 0 (upd H1 D (KnS.SetL P w D []))) (hl : ∀ i H, i ≤ xs.length → Pv i H → KnE.Sq K b H a xs)
    (hs : ∀ i x H, xs[i]? = some x → Pv i H → g x (wipe σ vs) H fun σ2 H2 => wipe σ2 vs = wipe σ vs ∧ tt σ2 H2 fun c H3 =>
      if c = true then te σ2 H3 fun y H4 => ∃ (k : Key) (ks : List Key), y = kV k ∧ H4 D = some (KnS.SetL P w D ks) ∧ ks.length + 1 < scanBound ∧ Pv (i + 1) (upd H4 D (KnS.SetL P w D (KnS.addL ks k))) else Pv (i + 1) H3) (hd : ∀ H, Pv xs.length H → Qd H) :
    ∃ W : Nat → Nat → Hp → Prop, (∃ m, W 0 m (upd H1 D (KnS.SetL P w D []))) ∧ ∀ i m H, W i m H → ((KnE.ItS K b a).stop i H ∧ Qd H) ∨
      ((KnE.ItS K b a).go i H ∧ ∃ Nx : Hp → Prop, (∀ H', Nx H' → ∃ m', m' < m ∧ W (i + 1) m' H') ∧ ∀ x H', (KnE.ItS K b a).yld i H x H' → g x (wipe σ vs) H' fun σ2 H2 => wipe σ2 vs = wipe σ vs ∧ tt σ2 H2 fun c H3 =>
        if c = true then te σ2 H3 fun y H4 => ∃ (k : Key) (ks : List Key), y = kV k ∧ H4 D = some (KnS.SetL P w D ks) ∧ ks.length + 1 < scanBound ∧ Nx (upd H4 D (KnS.SetL P w D (KnS.addL ks k))) else Nx H3) := by
  refine ⟨fun i m H => m = xs.length - i ∧ i ≤ xs.length ∧ Pv i H, ⟨xs.length, by simp, Nat.zero_le _, h0⟩, ?_⟩
  rintro i m H ⟨rfl, hi, p⟩
  have q := hl i H hi p
  cases b with
  | true =>
    by_cases hlt : i < xs.length
    · refine .inr ⟨⟨xs, xs[i], q, by simp [hlt]⟩, Pv (i + 1), fun H' p' => ⟨xs.length - (i + 1), by omega, rfl, hlt, p'⟩, fun x H' y => ?_⟩
      obtain ⟨e, y⟩ := y
      subst e
      exact hs i x _ (y xs q) p
    · have e : i = xs.length := by omega
      subst e
      exact .inl ⟨⟨xs, q, Nat.le_refl _⟩, hd H p⟩
  | false =>
    by_cases hlt : i < xs.length
    · refine .inr ⟨⟨xs, xs[i], q, by simp [hlt]⟩, Pv (i + 1), fun H' p' => ⟨xs.length - (i + 1), by omega, rfl, hlt, p'⟩, fun x H' y => ?_⟩
      obtain ⟨e, y⟩ := y
      subst e
      exact hs i x _ (y xs q) p
    · have e : i = xs.length := by omega
      subst e
      exact .inl ⟨⟨xs, q, Nat.le_refl _⟩, hd H p⟩
theorem dc_list {K : PySem.W.Frag} {a : Addr} {xs : List V} {g : TG} {tt : TT} {tk tv : TE} {vs : List Nat} {σ : L2.St} {H1 : Hp} {D : Addr} {Qd : Hp → Prop} (Pv : Nat → Hp → Prop) (h0 : Pv 0 (upd H1 D (.dK []))) (hl : ∀ i H, i ≤ xs.length → Pv i H → SqL K H a xs)
    (hs : ∀ i x H, xs[i]? = some x → Pv i H → g x (wipe σ vs) H fun σ2 H2 => wipe σ2 vs = wipe σ vs ∧ tt σ2 H2 fun b H3 =>
      if b = true then tk σ2 H3 fun y H4 => tv σ2 H4 fun z H5 => ∃ kvs k, y = kV k ∧ H5 D = some (.dK kvs) ∧ kvs.length < sizeLine ∧ Pv (i + 1) (upd H5 D (.dK (putK kvs k z))) else Pv (i + 1) H3) (hd : ∀ H, Pv xs.length H → Qd H) :
    ∃ W : Nat → Nat → Hp → Prop, (∃ m, W 0 m (upd H1 D (.dK []))) ∧ ∀ i m H, W i m H →
      ((Itl K a).stop i H ∧ Qd H) ∨ ((Itl K a).go i H ∧ ∃ Nx : Hp → Prop, (∀ H', Nx H' → ∃ m', m' < m ∧ W (i + 1) m' H') ∧ ∀ x H', (Itl K a).yld i H x H' → g x (wipe σ vs) H' fun σ2 H2 => wipe σ2 vs = wipe σ vs ∧ tt σ2 H2 fun b H3 =>
        if b = true then tk σ2 H3 fun y H4 => tv σ2 H4 fun z H5 => ∃ kvs k, y = kV k ∧ H5 D = some (.dK kvs) ∧ kvs.length < sizeLine ∧ Nx (upd H5 D (.dK (putK kvs k z))) else Nx H3) := by
  refine ⟨fun i m H => m = xs.length - i ∧ i ≤ xs.length ∧ Pv i H, ⟨xs.length, by simp, Nat.zero_le _, h0⟩, ?_⟩
  rintro i m H ⟨rfl, hi, p⟩
  have q := hl i H hi p
  by_cases hlt : i < xs.length
  · refine .inr ⟨⟨xs, xs[i], q, by simp [hlt]⟩, Pv (i + 1), fun H' p' => ⟨xs.length - (i + 1), by omega, rfl, hlt, p'⟩, fun x H' y => ?_⟩
    obtain ⟨e, y⟩ := y
    subst e
    exact hs i x _ (y xs q) p
  · have e : i = xs.length := by omega
    subst e
    exact .inl ⟨⟨xs, q, Nat.le_refl _⟩, hd H p⟩
/-- a list comprehension over a dict's keys -/
theorem lc_keys {d : Addr} {o : Obj} {kvs : List (Key × V)} {g : TG} {tt : TT} {te : TE} {vs : List Nat} {σ : L2.St} {H1 : Hp} {D : Addr} {Qd : Hp → Prop} (Pv : Nat → Hp → Prop) (h0 : Pv 0 (upd H1 D (.lst []))) (hl : ∀ i H, i ≤ kvs.length → Pv i H → H d = some (.frz o (.dK kvs)))
    (hs : ∀ i k v H, kvs[i]? = some (k, v) → Pv i H → g (kV k) (wipe σ vs) H fun σ2 H2 => wipe σ2 vs = wipe σ vs ∧ tt σ2 H2 fun b H3 =>
      if b = true then te σ2 H3 fun y H4 => ∃ acc, H4 D = some (.lst acc) ∧ acc.length < sizeLine ∧ Pv (i + 1) (upd H4 D (.lst (acc ++ [y]))) else Pv (i + 1) H3) (hd : ∀ H, Pv kvs.length H → Qd H) :
    ∃ W : Nat → Nat → Hp → Prop, (∃ m, W 0 m (upd H1 D (.lst []))) ∧ ∀ i m H, W i m H →
      ((Itk d o kvs).stop i H ∧ Qd H) ∨ ((Itk d o kvs).go i H ∧ ∃ Nx : Hp → Prop, (∀ H', Nx H' → ∃ m', m' < m ∧ W (i + 1) m' H') ∧ ∀ x H', (Itk d o kvs).yld i H x H' → g x (wipe σ vs) H' fun σ2 H2 => wipe σ2 vs = wipe σ vs ∧ tt σ2 H2 fun b H3 =>
        if b = true then te σ2 H3 fun y H4 => ∃ acc, H4 D = some (.lst acc) ∧ acc.length < sizeLine ∧ Nx (upd H4 D (.lst (acc ++ [y]))) else Nx H3) := by
  refine ⟨fun i m H => m = kvs.length - i ∧ i ≤ kvs.length ∧ Pv i H, ⟨kvs.length, by simp, Nat.zero_le _, h0⟩, ?_⟩
  rintro i m H ⟨rfl, hi, p⟩
  have q := hl i H hi p
  by_cases hlt : i < kvs.length
  · refine .inr ⟨⟨q, hlt⟩, Pv (i + 1), fun H' p' => ⟨kvs.length - (i + 1), by omega, rfl, hlt, p'⟩, fun x H' y => ?_⟩
    obtain ⟨e, k, v, ek, ex⟩ := y
    subst e ex
    exact hs i k v _ ek p
  · have e : i = kvs.length := by omega
    subst e
    exact .inl ⟨⟨q, Nat.le_refl _⟩, hd H p⟩
/-- texts as keys -/
theorem addL_strs {xs : List Str} {x : Str} : KnS.addL (xs.map Sum.inr) (Sum.inr x) = ((if x ∈ xs then xs else xs ++ [x]).map Sum.inr : List Key) := by
  unfold KnS.addL
  by_cases z : x ∈ xs
  · rw [if_pos z, if_pos (KnS.hasL_iff.mpr (List.mem_map.mpr ⟨x, z, rfl⟩))]
  · rw [if_neg z, if_neg (fun q => z (by obtain ⟨y, hy, e⟩ := List.mem_map.mp (KnS.hasL_iff.mp q); cases e; exact hy)), List.map_append]; rfl
/-- a list or a tuple by a place -/
def rIx (K : PySem.W.Frag) : R2 := fun x y H Q => rIxL K x y H Q ∨ rIxT K x y H Q
theorem ix_seq {X : Cx} {K : PySem.W.Frag} (h1 : IxR X (rIxL K)) (h2 : IxR X (rIxT K)) : IxR X (rIx K) := by
  intro value slice pins s σ H x y v u Q I rx ry h hs
  rcases h with h | h
  · exact h1 value slice pins s σ H x y v u Q I rx ry h hs
  · exact h2 value slice pins s σ H x y v u Q I rx ry h hs
/-- a branch, and what comes behind both its ways -/
theorem if_then {c : TT} {t u b : TS} {D : Ends} {σ : L2.St} {H : Hp} (T : L2.St → Hp → Prop) (h : (∀ σ2 H2, T σ2 H2 → b D σ2 H2) → tSeq (tIfS c t u) b D σ H) (k : ∀ σ2 H2, T σ2 H2 → b D σ2 H2) : tSeq (tIfS c t u) b D σ H := h k
theorem asg_if {i : Nat} {x : V} {c : TT} {t u b : TS} {D : Ends} {ra : VK} {rb rc : L2.St → Hp → Prop} {σ : L2.St} {H : Hp} (T : L2.St → Hp → Prop) (h : (∀ σ2 H2, T σ2 H2 → b D σ2 H2) → tSeq (tIfS c t u) b D (σ.set i (some x)) H) (k : ∀ σ2 H2, T σ2 H2 → b D σ2 H2) : gName i x σ H (Ends.nx { nx := tSeq (tIfS c t u) b D, rt := ra, ct := rb, bk := rc }) := h k
theorem nx_if {c : TT} {t u b : TS} {D : Ends} {ra : VK} {rb rc : L2.St → Hp → Prop} {σ : L2.St} {H : Hp} (T : L2.St → Hp → Prop) (h : (∀ σ2 H2, T σ2 H2 → b D σ2 H2) → tSeq (tIfS c t u) b D σ H) (k : ∀ σ2 H2, T σ2 H2 → b D σ2 H2) : Ends.nx { nx := tSeq (tIfS c t u) b D, rt := ra, ct := rb, bk := rc } σ H := h k
theorem un65 {k : Nat} {A : Around} (r : Room k A) : A.units + 65 < cLine := by have := r.un; omega
end KnC

set_option Elab.async false
set_option linter.all false
set_option maxRecDepth 100000
set_option maxHeartbeats 4000000
/-! list(d.values()). -/
namespace KnM
open PySem PySem.Spec PyProof.Rows L2
def tListVals (td : TE) : TE := fun σ H Q => td σ H fun x H1 => ∃ d kvs, x = .ref d ∧ Rd H1 d (.dK kvs) ∧ ∀ p, H1 p = none → Q (.ref p) (upd H1 p (.lst (kvs.map (·.2))))
theorem vals_kv {kvs : List (Key × V)} {vs : List (Key × Value)} (r : KV kvs vs) : Vals (kvs.map (·.2)) (vs.map (·.2)) := by
  unfold KV at r
  induction r with
  | nil => exact .nil
  | cons h _ ih => exact .cons h.2 ih
section
variable {X : Cx} {e : Expr} {td : TE} {p pos apos cpos : Pos}
theorem pe_listVals (hc : X.calm = true) (hg : Gl X "list") (hm : X.mg "list" = none) (he : PE X e td) (hbase : attributeBase e "values" X.env (eval e X.env) = eval e X.env := by rfl) (hline : (apos.endLine == cpos.line) = true := by rfl)
    (hs : starEach [.Call (.Attribute e "values" apos) [] [] cpos] X.env = (false, eval (.Call (.Attribute e "values" apos) [] [] cpos) X.env) :: starEach [] X.env := by rfl) :
    PE X (.Call (.Name "list" p) [.Call (.Attribute e "values" apos) [] [] cpos] [] pos) (tListVals td) := by
  refine ⟨fun pins s σ H Q I h => Call_ (ld_blt I hg hm boot_list ?_)⟩
  refine PyProof.Rows.callWith_type1 (PyProof.Rows.args_cons ?_ hs) hs rfl
  refine wpAny_Call_method (T := "dict") (id := "dict.values") hbase rfl hline F.plainAttrs_dict F.slot_dict_values F.type_dict_values (thn (he.run pins s σ H _ I h) fun u s1 ⟨x, H1, I1, rx, d, kvs, ex, hd, q⟩ => ?_)
  subst ex
  obtain rfl : u = Value.ref d := rx
  obtain ⟨z, lo, vs, rel, dd⟩ := dk_rd I1.hok hd
  obtain ⟨ep, hat⟩ := dd.dictAt
  refine ⟨dd.typeIs, dd.mapOf.noDict, ?_⟩
  show wpAny _ _ (callWith cpos (.builtin "dict.values") [.ref d] [] []) _ X.xe s1
  refine method_meetsIn F.slot_dict_values F.entry_dict_values rfl (PySem.evalArgs_none ⟨rfl, dd.typeIs, F.args_dict_values_1 _, _, meets_dict_values (mixKind X.prog X.w) d lo, ⟨vs, dd⟩, ?_⟩)
  refine PyProof.Rows.args_nil ?_
  generalize hh : s1.heap.push { cls := .type "dict_values", data := .fields #[.ref d] } = h2
  have k2 : ∀ b o, s1.heap.get? b = some o → h2.get? b = some o := fun b o e => hh ▸ Heap.get?_push_of_some _ e
  have view : h2.IsValuesView s1.heap.objs.size d := by
    rw [← hh]
    exact ⟨_, Heap.get?_push_size _ rfl, rfl, rfl⟩
  have hat2 : h2.DictAt (mixKind X.prog X.w) d vs ep := hh ▸ hat.push _
  have I2 : Inv X pins σ H1 { s1 with heap := h2 } := I1.kept (t' := s1.toks) k2
  refine PySem.W.kdl_call (s := { s1 with heap := h2 }) (PySem.W.kdl_values (knd := mixKind X.prog X.w) (kvs := vs) (ep := ep) (r := s1.heap.objs.size)) (I1.ok.hd hc) ⟨view, hat2⟩ (by rw [← rel.length]; exact z) fun h' tk acc c' hk hD hacc => ?_
  have e1 : acc.toList = vs.map (·.2) := PySem.W.kdl_vals_eq _ (by rw [Array.length_toList]; exact hacc.1) fun j v e => hacc.2 j v (by rw [← Array.getElem?_toList]; exact e)
  refine ⟨.ref h2.objs.size, upd H1 h2.objs.size (.lst (kvs.map (·.2))), I2.laid (t' := tk) hk (Nat.le_refl _) (show ObjOk X.prog X.w _ _ _ (.lst (kvs.map (·.2))) from ⟨by rw [List.length_map]; exact z, acc.toList, c', by rw [e1]; exact vals_kv rel, by rw [Array.toArray_toList]; exact hD⟩), rfl, q _ (I2.hok.fresh (Nat.le_refl _))⟩
end
end KnM

set_option Elab.async false
set_option linter.all false
set_option maxRecDepth 100000
set_option maxHeartbeats 4000000
/-! A property by its promise. -/
namespace KnP
open PySem PySem.Spec PyProof.Rows L2
structure Prp (P : Program) (w : World) (K : PySem.W.Frag) (mg : Str → Option Value) (base : Heap) (k : Nat) (C : Addr) (f : Str) (sp : Sp) : Prop where
  ex : ∃ (p g : Addr) (fd : FuncData) (ps : List Str), PropOf K C f p g ∧ FnOk P w K mg base CX0 k g fd ps sp ∧ Binds K fd ps []
theorem pe_prp {X : Cx} {k j : Nat} {C : Addr} {f : Str} {sp : Sp} {e : Expr} {ta : TE} {pos : Pos} (cl : Cls X.K C) (c : Prp X.prog X.w X.K X.mg X.base k C f sp) (hr : Room j X.A) (hk : k + 1 ≤ j) (he : PE X e ta)
    (hab : attributeBase e f X.env (eval e X.env) = eval e X.env := by rfl) : PE X (.Attribute e f pos) (tProp C sp [] E0 ta) := by
  obtain ⟨p, g, fd, ps, hp, F, b⟩ := c.ex
  exact pe_prop he cl hp F (hr.mono hk) b .nil pass0 hab
end KnP

set_option Elab.async false
set_option linter.all false
set_option maxRecDepth 100000
/-! Order of texts, of ints; the states that steps reach. -/
namespace KnA
open PySem PySem.Spec PyProof.Rows
theorem lt_irr : ∀ a : List Nat, ltCps a a = false
  | [] => rfl
  | x :: r => by
    show (decide (x < x) || (x == x && ltCps r r)) = false
    rw [lt_irr r, decide_eq_false (Nat.lt_irrefl x)]; simp
theorem le_trans_ : ∀ {a b c : List Nat}, ltCps b a = false → ltCps c b = false → ltCps c a = false
  | [], [], [], _, _ => rfl
  | [], [], _ :: _, _, _ => rfl
  | [], _ :: _, [], _, h => by cases h
  | [], _ :: _, _ :: _, _, _ => rfl
  | _ :: _, [], _, h, _ => by cases h
  | _ :: _, _ :: _, [], _, h => by cases h
  | x :: r, y :: t, z :: u, h1, h2 => by
    have h1' : (decide (y < x) || (y == x && ltCps t r)) = false := h1
    have h2' : (decide (z < y) || (z == y && ltCps u t)) = false := h2
    show (decide (z < x) || (z == x && ltCps u r)) = false
    rw [Bool.or_eq_false_iff, decide_eq_false_iff_not, Bool.and_eq_false_iff, beq_eq_false_iff_ne] at h1' h2' ⊢
    refine ⟨by omega, ?_⟩
    by_cases e : z = x
    · right
      have e1 : y = x := by omega
      have e2 : z = y := by omega
      exact le_trans_ (h1'.2.resolve_left fun q => q e1) (h2'.2.resolve_left fun q => q e2)
    · exact .inl e
theorem le_anti : ∀ {a b : List Nat}, ltCps b a = false → ltCps a b = false → a = b
  | [], [], _, _ => rfl
  | [], _ :: _, _, h2 => by cases h2
  | _ :: _, [], h1, _ => by cases h1
  | x :: r, y :: t, h1, h2 => by
    have h1' : (decide (y < x) || (y == x && ltCps t r)) = false := h1
    have h2' : (decide (x < y) || (x == y && ltCps r t)) = false := h2
    rw [Bool.or_eq_false_iff, decide_eq_false_iff_not, Bool.and_eq_false_iff, beq_eq_false_iff_ne] at h1' h2'
    have e : x = y := by omega
    subst e
    rw [le_anti (h1'.2.resolve_left fun q => q rfl) (h2'.2.resolve_left fun q => q rfl)]
def leS (a b : Str) : Prop := ltCps b.cps.toList a.cps.toList = false
theorem leS_trans {a b c : Str} (h1 : leS a b) (h2 : leS b c) : leS a c := le_trans_ h1 h2
theorem str_ext {a b : Str} (h : a.cps.toList = b.cps.toList) : a = b := by
  cases a; cases b
  exact congrArg Str.mk (Array.toList_inj.mp h)
theorem leS_anti {a b : Str} (h1 : leS a b) (h2 : leS b a) : a = b := str_ext (le_anti h1 h2)
theorem rising_pair : ∀ {p : Str} {l : List Str}, risingS p l = true → (p :: l).Pairwise leS
  | p, [], _ => List.pairwise_singleton _ _
  | p, x :: r, h => by
    have h' : (!ltCps x.cps.toList p.cps.toList && risingS x r) = true := h
    rw [Bool.and_eq_true, Bool.not_eq_true'] at h'
    have ih := rising_pair h'.2
    refine List.pairwise_cons.mpr ⟨fun y hy => ?_, ih⟩
    rcases List.mem_cons.mp hy with z | z
    · rw [z]; exact h'.1
    · exact leS_trans h'.1 ((List.pairwise_cons.mp ih).1 y z)
theorem sorted_pair {l : List Str} (h : sortedS l = true) : l.Pairwise leS := by
  cases l with
  | nil => exact List.Pairwise.nil
  | cons x r => exact rising_pair h
theorem perm_sorted {α : Type} {R : α → α → Prop} (anti : ∀ {a b}, R a b → R b a → a = b) : ∀ {l m : List α}, l.Perm m → l.Pairwise R → m.Pairwise R → l = m
  | [], m, p, _, _ => (List.Perm.nil_eq p)
  | x :: l, [], p, _, _ => absurd p.length_eq (by simp)
  | x :: l, y :: m, p, h1, h2 => by
    have e : x = y := by
      have hx : x ∈ y :: m := p.mem_iff.mp List.mem_cons_self
      have hy : y ∈ x :: l := p.mem_iff.mpr List.mem_cons_self
      rcases List.mem_cons.mp hx with z | z
      · exact z
      · rcases List.mem_cons.mp hy with z' | z'
        · exact z'.symm
        · exact anti ((List.pairwise_cons.mp h1).1 y z') ((List.pairwise_cons.mp h2).1 x z)
    subst e
    rw [perm_sorted anti (List.perm_cons x |>.mp p) (List.pairwise_cons.mp h1).2 (List.pairwise_cons.mp h2).2]
theorem nodup_perm {α : Type} [DecidableEq α] {l m : List α} (h1 : l.Nodup) (h2 : m.Nodup) (h : ∀ x, x ∈ l ↔ x ∈ m) : l.Perm m := (List.perm_ext_iff_of_nodup h1 h2).mpr h
/-- the sorted list of these texts, each once -/
structure Words (ys : List Str) (xs : List Str) : Prop where
  up : ys.Pairwise leS
  nd : ys.Nodup
  mem : ∀ x, x ∈ ys ↔ x ∈ xs
theorem Words.uniq {ys zs xs : List Str} (a : Words ys xs) (b : Words zs xs) : ys = zs :=
  perm_sorted leS_anti (nodup_perm a.nd b.nd fun x => (a.mem x).trans (b.mem x).symm) a.up b.up
/-! ### states -/
abbrev Stp := Int × Str × Int
inductive Reach (ss : List Stp) (s0 : Int) : Int → Prop where
  | start : Reach ss s0 s0
  | step {x : Int} {w : Str} {y : Int} (h : Reach ss s0 x) (m : (x, w, y) ∈ ss) : Reach ss s0 y
structure States (ns : List Int) (ss : List Stp) (s0 : Int) : Prop where
  up : ns.Pairwise (· < ·)
  mem : ∀ x, x ∈ ns ↔ Reach ss s0 x
theorem States.uniq {a b : List Int} {ss : List Stp} {s0 : Int} (h : States a ss s0) (k : States b ss s0) : a = b := by
  have nd : ∀ {l : List Int}, l.Pairwise (· < ·) → l.Nodup := fun p => p.imp fun h e => by omega
  exact perm_sorted (R := fun x y : Int => x < y) (fun h1 h2 => by omega) (nodup_perm (nd h.up) (nd k.up) fun x => (h.mem x).trans (k.mem x).symm) h.up k.up
theorem lt_of_le {l : List Int} (h : l.Pairwise (· ≤ ·)) (d : l.Nodup) : l.Pairwise (· < ·) := by
  induction l with
  | nil => exact List.Pairwise.nil
  | cons x r ih =>
    obtain ⟨h1, h2⟩ := List.pairwise_cons.mp h
    obtain ⟨d1, d2⟩ := List.nodup_cons.mp d
    refine List.pairwise_cons.mpr ⟨fun y hy => ?_, ih h2 d2⟩
    have := h1 y hy
    have ne : x ≠ y := fun e => d1 (e ▸ hy)
    omega
/-- closed under the steps, from the start, and nothing else -/
theorem reach_of {ss : List Stp} {s0 : Int} {l : List Int} (h0 : s0 ∈ l) (hc : ∀ x w y, x ∈ l → (x, w, y) ∈ ss → y ∈ l) (hr : ∀ x ∈ l, Reach ss s0 x) (x : Int) : x ∈ l ↔ Reach ss s0 x := by
  refine ⟨hr x, fun h => ?_⟩
  induction h with
  | start => exact h0
  | step _ m ih => exact hc _ _ _ ih m
end KnA

set_option Elab.async false
set_option linter.all false
set_option maxRecDepth 100000
set_option maxHeartbeats 4000000
/-! xs[::-1] of a list. -/
namespace KnR
open PySem PySem.Spec PyProof.Rows L2
theorem pick_rev (its : List Value) : slicePick its.toArray none none (some (-1)) = its.reverse.toArray := by
  unfold slicePick
  have b : sliceBounds none none (some (-1)) its.toArray.size = ((its.length : Int) - 1, -1, -1) := by
    unfold sliceBounds
    simp
  rw [b]
  refine congrArg List.toArray ?_
  show (sliceRange ((its.length : Int) - 1) (-1) (-1)).filterMap (its.toArray[·]?) = its.reverse
  have r : sliceRange ((its.length : Int) - 1) (-1) (-1) = (List.range its.length).map fun k => its.length - 1 - k := by
    unfold sliceRange
    have c : (if (-1 : Int) > 0 then (if (its.length : Int) - 1 < -1 then (-1 - ((its.length : Int) - 1) + -1 - 1) / -1 else 0) else (if (its.length : Int) - 1 > -1 then ((its.length : Int) - 1 - -1 - -1 - 1) / (- -1) else 0)) = (its.length : Int) := by
      rw [if_neg (by decide)]
      by_cases h : (its.length : Int) - 1 > -1
      · rw [if_pos h]
        have : (- -1 : Int) = 1 := rfl
        rw [this, Int.ediv_one]
        omega
      · rw [if_neg h]; omega
    show (List.range (Int.toNat _)).map _ = _
    rw [c, Int.toNat_natCast]
    refine List.map_congr_left fun k hk => ?_
    have := List.mem_range.mp hk
    omega
  rw [r, List.filterMap_map]
  refine List.ext_getElem? fun i => ?_
  have all : ∀ n, n ≤ its.length → ((List.range n).filterMap ((fun x : Nat => its.toArray[x]?) ∘ fun k => its.length - 1 - k)) = its.reverse.take n := by
    intro n
    induction n with
    | zero => intro _; rfl
    | succ n ih =>
      intro h
      have hk : its.length - 1 - n < its.length := by omega
      have e : its.toArray[its.length - 1 - n]? = some its[its.length - 1 - n] := by
        rw [List.getElem?_toArray, List.getElem?_eq_getElem hk]
      rw [List.range_succ, List.filterMap_append, ih (by omega), List.take_add_one]
      refine congrArg (its.reverse.take n ++ ·) ?_
      have g : its.reverse[n]? = some its[its.length - 1 - n] := by
        rw [List.getElem?_reverse (by omega), List.getElem?_eq_getElem hk]
      rw [g, List.filterMap_cons, List.filterMap_nil]
      have e2 : ((fun x : Nat => its.toArray[x]?) ∘ fun k => its.length - 1 - k) n = some its[its.length - 1 - n] := e
      rw [e2]; rfl
  rw [all its.length (Nat.le_refl _), List.take_of_length_le (by rw [List.length_reverse]; exact Nat.le_refl _)]
def tRev (K : PySem.W.Frag) (te : TE) (ts : TO) : TE := fun σ H Q => te σ H fun x H1 => ts σ H1 fun o H2 => ∃ a xs, x = .ref a ∧ o = some (-1) ∧ SqL K H2 a xs ∧ ∀ p, H2 p = none → Q (.ref p) (upd H2 p (.lst xs.reverse))
section
variable {X : Cx} {e st : Expr} {te ts : TE} {p2 pos : Pos}
theorem pe_rev (he : PE X e te) (hs : PE X st ts) : PE X (.Subscript e (.Slice none none (some st) p2) pos) (tRev X.K te (tPart ts)) := by
  refine ⟨fun pins s σ H Q I h => ?_⟩
  refine Subscript_ (thn (he.run pins s σ H _ I h) fun v s1 ⟨x, H1, I1, r1, q1⟩ => ?_)
  have po : PO X (some st) (tPart ts) := po_some hs
  refine wpAny_Slice ?_
  rw [evalPart_none]
  refine wpAny_pure (wpAny_pure ?_)
  refine thn (po.run pins s1 σ H1 _ I1 q1) fun vk s3 ⟨o, H3, I3, pk, a, xs, ex, eo, hx, q3⟩ => ?_
  subst ex eo
  cases r1
  have I4 : Inv X pins σ H3 { s3 with heap := s3.heap.push { cls := .type "slice", data := .fields #[.none, .none, vk] } } := I3.kept (t' := s3.toks) fun b ob q => Heap.get?_push_of_some _ q
  obtain ⟨its, r, ht, hz⟩ := I4.list hx
  have hlen := r.length
  have hg : wpAny (model X.prog X.w) X.A (getItem (.ref a) (.ref s3.heap.objs.size)) (EP X pins σ Q) X.xe { s3 with heap := s3.heap.push { cls := .type "slice", data := .fields #[.none, .none, vk] } } := by
    refine wpAny_getItem_list_slice ht.isList (Heap.IsSliceOf.new ..) .none .none pk (by simp) ?_ (by rw [List.size_toArray]; omega)
    rw [pick_rev]
    refine ⟨.ref _, _, I4.laid (t' := s3.toks) (o := .lst xs.reverse) (fun b ob q => Heap.get?_push_of_some _ q) (Nat.le_refl _) ?_, rfl, q3 _ (I4.hok.fresh (Nat.le_refl _))⟩
    exact ⟨by rw [List.length_reverse]; exact hz, _, 0, r.reverse, Heap.get?_push_size _ rfl⟩
  show wpAny (model X.prog X.w) X.A (subscriptTail e (.Slice none none (some st) p2) (.ref a) (.ref s3.heap.objs.size)) (EP X pins σ Q) X.xe { s3 with heap := s3.heap.push { cls := .type "slice", data := .fields #[.none, .none, vk] } }
  exact tail_any (ops := [.ref a, .ref s3.heap.objs.size]) ht.isList.typeIs slot_list_getitem.lookup hg (by with_unfolding_all rfl)
end
end KnR

set_option Elab.async false
set_option linter.all false
set_option maxRecDepth 100000
set_option maxHeartbeats 4000000
/-! A def that has defaults, all of its arguments given. -/
namespace KnD
open PySem PySem.Spec PyProof.Rows L2
structure FunX (K : PySem.W.Frag) (x qual : Str) (st : Stmt) (f : Addr) (fd : FuncData) : Prop where
  ex : ∃ (oc : Value) (od : Option Addr) (dV kV doc pm : Value) (an : Option Addr) (cdv ct : Value) (osl : Array (Option Value)),
    fd = PySem.W.fnOf x qual (defArgs st) (defBody st) (defScope st) dV kV doc pm an cdv ct ∧ K.lookup f = some ⟨oc, od, .func fd, osl⟩ ∧ PySem.W.codeIn K cdv qual = true
section
variable {P : Program} {w : World} {K : PySem.W.Frag} {mg : Str → Option Value} {base : Heap}
theorem FunX.ok {x qual : Str} {st : Stmt} {f : Addr} {fd : FuncData} {N ps : List Str} {k : Nat} {sp : Sp} (F : FunX K x qual st f fd) (S : FnScope N ps (defScope st)) (len : ∀ vs H Q E, sp vs H Q E → vs.length = ps.length)
    (hbody : ∀ (cdv : Value) (A : Around) (outer : List Env) (s : Shared) (H : Hp) (vs : List V) (Q : VK) (E : XK), Room k (A.deeper (envOfC qual (defScope st) s.heap.objs.size f cdv)) → sp vs H Q E →
      ∃ t, PSs (cxOf CX0 P w K mg base N qual (defScope st) f cdv A outer s H E).nox (defBody st) t ∧ t { nx := fun _ H' => Q .non H', rt := Q } (start N vs) H) : FnOk P w K mg base CX0 (k + 1) f fd ps sp := by
  obtain ⟨oc, od, dV, kV, doc, pm, an, cdv, ct, osl, rfl, lk, hcd⟩ := F.ex
  refine fn_of lk hcd S len fun A outer s H vs Q E hr hsp => ?_
  obtain ⟨t, h, q⟩ := hbody cdv A outer s H vs Q E hr hsp
  exact ⟨t, h.nox, q⟩
/-- .. that may raise -/
theorem FunX.okX {x qual : Str} {st : Stmt} {f : Addr} {fd : FuncData} {N ps : List Str} {k : Nat} {sp : Sp} (F : FunX K x qual st f fd) (S : FnScope N ps (defScope st)) (len : ∀ vs H Q E, sp vs H Q E → vs.length = ps.length)
    (hbody : ∀ (cdv : Value) (A : Around) (outer : List Env) (s : Shared) (H : Hp) (vs : List V) (Q : VK) (E : XK), Room k (A.deeper (envOfC qual (defScope st) s.heap.objs.size f cdv)) → sp vs H Q E →
      ∃ t, PSs (cxOf (L2.CX P w) P w K mg base N qual (defScope st) f cdv A outer s H E) (defBody st) t ∧ t { nx := fun _ H' => Q .non H', rt := Q } (start N vs) H) : FnOk P w K mg base (L2.CX P w) (k + 1) f fd ps sp := by
  obtain ⟨oc, od, dV, kV, doc, pm, an, cdv, ct, osl, rfl, lk, hcd⟩ := F.ex
  exact fn_of lk hcd S len fun A outer s H vs Q E hr hsp => hbody cdv A outer s H vs Q E hr hsp
theorem binds_full {x qual : Str} {st : Stmt} {f T : Addr} {oc : Value} {od an : Option Addr} {osl : Array (Option Value)} {kV doc pm cdv ct : Value} {to : Obj} {tn : Nat} {its : List Value} {dvs : List V} {ps : List Str}
    (l : K.lookup f = some ⟨oc, od, .func (PySem.W.fnOf x qual (defArgs st) (defBody st) (defScope st) (.ref T) kV doc pm an cdv ct), osl⟩) (c : PySem.W.codeIn K cdv qual = true) (k : PySem.W.keepIn K (.ref f) = true)
    (lT : K.lookup T = some to) (oT : to.data = .seq its.toArray tn) (rT : Vals dvs its) (hd : dvs ≠ [])
    (h : ∀ (T : Addr) (kV doc pm : Value) (an : Option Addr) (cdv ct : Value) (us its : List Value), us.length = ps.length → its.length = dvs.length →
      ∃ k, bindArgs (PySem.W.fnOf x qual (defArgs st) (defBody st) (defScope st) (.ref T) kV doc pm an cdv ct) ⟨us, []⟩ = seqItems? (.ref T) >>= k ∧ k (some its.toArray) = pure (ps.zip (us ++ its.drop dvs.length))) : Binds K (PySem.W.fnOf x qual (defArgs st) (defBody st) (defScope st) (.ref T) kV doc pm an cdv ct) ps [] := by
  have F : FunD K x qual (defArgs st) (defBody st) (defScope st) dvs [] f (PySem.W.fnOf x qual (defArgs st) (defBody st) (defScope st) (.ref T) kV doc pm an cdv ct) :=
    ⟨⟨oc, od, .ref T, kV, doc, pm, an, cdv, ct, osl, rfl, l, c, .inr ⟨hd, T, to, its, tn, rfl, lT, oT, rT⟩, .inl rfl⟩, k⟩
  obtain ⟨ds, v, b⟩ := FunD.binds1 F (ps := ps) ps.length dvs.length hd (by omega) h
  rw [List.drop_length] at v
  cases v
  exact b
end
end KnD

set_option Elab.async false
set_option linter.all false
set_option maxRecDepth 100000
set_option maxHeartbeats 4000000
/-! Own errors whose base is an own error: Base.__init__(self, ..). -/
namespace KnX
open PySem PySem.Spec PyProof.Rows L2 ClX
variable {X : Cx} {o e : Expr} {es : List Expr} {to te : TE} {ta : TA} {f x : Str} {p p' p1 p2 pos : Pos} {C0 : Addr} {mc : Value}
/-- what the written part says of the base, as it is read by its name -/
structure BaseC (K : PySem.W.Frag) (C0 : Addr) (mc : Value) : Prop where
  r : CRead K C0 mc
  at_ : PySem.W.findCls K (.ref C0) mc "__init__" = some (.val (.builtin "ValueError.__init__"))
theorem pe_baseinit {pl : Sem Bool} (hg : Gl X x) (hm : X.mg x = some (.ref C0)) (B : BaseC X.K C0 mc) (ha : PA X (e :: es) ta)
    (hdb : (x == ("__debug__" : Str)) = false := by decide)
    (hc : eval (.Call (.Attribute (.Name x p1) "__init__" p2) (e :: es) [] pos) X.env = (do
      let ov ← eval (.Name x p1) X.env
      standAt p2.atName
      let (f, first) ← holding [ov] (getMethod ov "__init__" pl)
      callWith pos f first (backTo pos (starEach (e :: es) X.env)) (backToKw pos (keywordEach [] X.env))) := by rfl)
    (he : starEach (e :: es) X.env = (false, eval e X.env) :: starEach es X.env := by rfl) (hpl : (backTo pos (starEach es X.env)).any (·.1) = false := by rfl) :
    PE X (.Call (.Attribute (.Name x p1) "__init__" p2) (e :: es) [] pos) (tVeI X.K ta) := by
  refine ⟨fun pins s σ H Q I h => ?_⟩
  refine PySem.W.methodCall_KW (ld_glob I hg hm ?_ hdb) hc
  refine PySem.W.method_cls I.kIn B.r.ga (PySem.W.cls_value I.kIn B.r.rd B.at_ (by decide +kernel) ?_)
  show wpAny _ _ (callWith pos (Value.builtin "ValueError.__init__") [] (backTo pos (starEach (e :: es) X.env)) []) _ _ _
  refine PyProof.Rows.callWith_method1 (thn (ha.run pos pins _ σ H _ (I.tok _) h) fun us s1 ⟨vs, H1, I1, r1, a, C, ws, ev, hl, T, ea, q⟩ => ?_) he hpl
  subst ev
  cases r1 with
  | @cons _ u0 _ ur ra rw' =>
    obtain rfl : u0 = Value.ref a := ra
    exact oinit_ok T I1 ea (by rw [← Paired.length rw', sizeLine_eq]; omega) fun s' J => ⟨.non, H1, J, rfl, q⟩
/-- an own error's __init__: the field is stored in a new dict -/
def spErr (C : Addr) (g : Str) (_ : PySem.W.Frag) : Sp := fun vs H Q _ => ∃ (a : Addr) (y : V), vs = [.ref a, y] ∧ H a = some (exo a C none) ∧ ∀ dx, H dx = none → dx ≠ a → Q .non (upd (upd H dx (exd dx [(g, y)])) a (exo a C (some dx)))
/-- what the walk asks of an own error class -/
structure ErrC (K : PySem.W.Frag) (mg : Str → Option Value) (x : Str) (C fI : Addr) (g : Str) : Prop where
  gC : mg x = some (.ref C)
  ox : OexC K C
  iC : PySem.W.findIn K (.ref C) "__init__" = some (some (.ref fI))
  tI : PySem.W.typeIn K (.ref fI) = some (.type "function")
  no : PySem.W.findIn K (.ref C) g = some none
/-- C(v) behind its arguments: the error's dict d is new -/
theorem mk_err {C : Addr} {g : Str} {K : PySem.W.Frag} {v : V} {H1 : Hp} {Q : XK} (h : ∀ d, H1 d = none → Q (.ref C) (some d) (upd H1 d (.xd [(g, v)]))) : ([v] : List V).length ≤ 1000 ∧ ∀ a, H1 a = none → spErr C g K (.ref a :: ([v] ++ [])) (upd H1 a (exo a C none))
    (fun u H2 => u = .non ∧ ∃ (d : Addr) (fs : List (Str × V)), H2 a = some (exo a C (some d)) ∧ H2 d = some (exd d fs) ∧ H1 d = none ∧ Q (.ref C) (some d) (upd (del H2 a) d (.xd fs))) (fun _ _ _ => False) := by
  refine ⟨Nat.le_of_ble_eq_true rfl, fun a na => ⟨a, v, rfl, upd_same, fun dx nd ne => ⟨rfl, dx, [(g, v)], upd_same, (upd_ne ne).trans upd_same, ?_, ?_⟩⟩⟩
  · rwa [upd_ne ne] at nd
  · have nd' : H1 dx = none := by rwa [upd_ne ne] at nd
    have e : upd (del (upd (upd (upd H1 a (exo a C none)) dx (exd dx [(g, v)])) a (exo a C (some dx))) a) dx (.xd [(g, v)]) = upd H1 dx (.xd [(g, v)]) := by
      funext b
      by_cases hb : b = dx
      · rw [hb, upd_same, upd_same]
      · rw [upd_ne hb, upd_ne hb]
        by_cases ha : b = a
        · rw [ha, del_same, na]
        · rw [del_ne ha, upd_ne ha, upd_ne hb, upd_ne ha]
    rw [e]
    exact h dx nd'
theorem pmk_err {C fI : Addr} {k j : Nat} {fd : FuncData} {ps : List Str} {g : Str} (T : ErrC X.K X.mg x C fI g) (F1 : FnOk X.prog X.w X.K X.mg X.base CX0 k fI fd ps (spErr C g X.K)) (hr : Room j X.A) (hk : k + 1 ≤ j) (hb : Binds X.K fd ps []) (hg : Gl X x) (ha : PA X (e :: es) ta)
    (hdb : (x == ("__debug__" : Str)) = false := by decide) (he : starEach (e :: es) X.env = (false, eval e X.env) :: starEach es X.env := by rfl) (hpl : (backTo pos (starEach es X.env)).any (·.1) = false := by rfl) :
    PMk X (.Call (.Name x p) (e :: es) [] pos) (tMkO C (spErr C g X.K) [] ta) :=
  pmk_oex (dvs := []) T.ox T.iC T.tI F1 (hr.mono hk) hb .nil (fun _ _ _ _ _ _ _ h => h.elim) hg T.gC ha hdb he hpl
/-- an own error class by its promise -/
structure Err (P : Program) (w : World) (K : PySem.W.Frag) (mg : Str → Option Value) (base : Heap) (k : Nat) (x : Str) (C : Addr) (g : Str) : Prop where
  ex : ∃ (fI : Addr) (fd : FuncData) (ps : List Str), ErrC K mg x C fI g ∧ FnOk P w K mg base CX0 k fI fd ps (spErr C g K) ∧ Binds K fd ps []
/-- raise C(e) -/
theorem ps_err {C : Addr} {k j : Nat} {g : Str} {W : WX} {pos2 : Pos} (hc : X.calm = true) (tk : Takes X W) (c : Err X.prog X.w X.K X.mg X.base k x C g) (hr : Room j X.A) (hk : k + 1 ≤ j) (hg : Gl X x) (ha : PA X (e :: es) ta)
    (hdb : (x == ("__debug__" : Str)) = false := by decide) (he : starEach (e :: es) X.env = (false, eval e X.env) :: starEach es X.env := by rfl) (hpl : (backTo pos (starEach es X.env)).any (·.1) = false := by rfl) :
    PS X (.Raise (some (.Call (.Name x p) (e :: es) [] pos)) none pos2) (fun _ σ H => tMkO C (spErr C g X.K) [] ta σ H fun cls d H' => W cls d σ H') := by
  obtain ⟨fI, fd, ps, T, F, b⟩ := c.ex
  exact ps_raise hc tk (pmk_err T F hr hk b hg ha hdb he hpl)
/-! ### calls that may raise -/
/-- a def that may raise, by its promise -/
structure CalX (P : Program) (w : World) (K : PySem.W.Frag) (mg : Str → Option Value) (base : Heap) (k : Nat) (x : Str) (sp : Sp) : Prop where
  ex : ∃ (f : Addr) (fd : FuncData) (ps : List Str), FnOk P w K mg base (L2.CX P w) k f fd ps sp ∧ mg x = some (.ref f) ∧ PySem.W.keepIn K (.ref f) = true ∧ Binds K fd ps []
theorem pe_cx {k j : Nat} {sp : Sp} {W : WX} {t : TA} (c : CalX X.prog X.w X.K X.mg X.base k x sp) (hr : Room j X.A) (hk : k ≤ j) (hg : Gl X x) (tk : Takes X W) (ha : PA X (e :: es) t)
    (hdb : (x == ("__debug__" : Str)) = false := by decide) (he : starEach (e :: es) X.env = (false, eval e X.env) :: starEach es X.env := by rfl) (hpl : (backTo pos (starEach es X.env)).any (·.1) = false := by rfl) :
    PE X (.Call (.Name x p) (e :: es) [] pos) (tCallS sp (WE W) t) := by
  obtain ⟨f, fd, ps, F, hm, kp, b⟩ := c.ex
  exact pe_callS F (hr.mono hk) hg hm kp b (fun σ => passAt tk σ) ha hdb he hpl
/-- C(e, ..), C's own __init__ may raise -/
def tMakeS (C : Addr) (sp : Sp) (E : L2.St → XK) (t : TA) : TE := fun σ H Q => t σ H fun vs H1 => ∀ x dx, H1 x = none → H1 dx = none → dx ≠ x → sp (.ref x :: vs) (upd (upd H1 dx (.own x)) x (.ins C dx [])) (fun v H2 => v = .non ∧ Q (.ref x) H2) (E σ)
structure MakX (P : Program) (w : World) (K : PySem.W.Frag) (mg : Str → Option Value) (base : Heap) (k : Nat) (x : Str) (C : Addr) (sp : Sp) : Prop where
  ex : ∃ (f : Addr) (fd : FuncData) (ps : List Str), Mk K C f ∧ FnOk P w K mg base (L2.CX P w) k f fd ps sp ∧ mg x = some (.ref C) ∧ Binds K fd ps []
theorem pe_mkx {k j : Nat} {C : Addr} {sp : Sp} {W : WX} {t : TA} (c : MakX X.prog X.w X.K X.mg X.base k x C sp) (hr : Room j X.A) (hk : k + 1 ≤ j) (hg : Gl X x) (tk : Takes X W) (ha : PA X (e :: es) t)
    (hdb : (x == ("__debug__" : Str)) = false := by decide) (he : starEach (e :: es) X.env = (false, eval e X.env) :: starEach es X.env := by rfl) (hpl : (backTo pos (starEach es X.env)).any (·.1) = false := by rfl) :
    PE X (.Call (.Name x p) (e :: es) [] pos) (tMakeS C sp (WE W) t) := by
  obtain ⟨f, fd, ps, M, F, hm, b⟩ := c.ex
  refine ⟨fun pins s σ H Q I h => wpAny_Call_Name_kw (ld_glob I hg hm (PySem.W.callWith_K (h₀ := X.base) I.ok.mod.kin M.kp (thn (ha.run pos pins s σ H _ I h) fun us s1 ⟨vs, H1, I1, r, q⟩ => ⟨I1.kIn, ?_⟩) he hpl) hdb)⟩
  have new : ∀ a, s1.heap.objs.size ≤ a → H1 a = none := fun a => I1.hok.fresh
  have q1 := q (s1.heap.objs.size + 1) s1.heap.objs.size (new _ (Nat.le_succ _)) (new _ (Nat.le_refl _)) (Nat.ne_of_lt (Nat.lt_succ_self _))
  have J := Inv.made (C := C) I1
  have rr : Vals (V.ref (s1.heap.objs.size + 1) :: vs) (Value.ref (s1.heap.objs.size + 1) :: us) := .cons rfl r
  have len : (Value.ref (s1.heap.objs.size + 1) :: us).length = ps.length := by rw [← rr.length]; exact F.len _ _ _ _ q1
  have bb := b _ (Value.ref (s1.heap.objs.size + 1) :: us) J.kIn (by rw [List.append_nil]; exact len)
  rw [List.append_nil] at bb
  refine wpAny_call (make_map (f := f) I1.kIn M.makes M.init (beq_iff_eq.mp M.fn) (codeAny_mono (F.run _ X.stack _ _ ⟨_, []⟩ _ _ _ (WE W σ) ((hr.mono hk).make C us []) (J.env0.make C us []) bb rr q1) fun res s2 hres => ?_))
  cases res with
  | error ex => exact passAt tk σ pins _ _ ex s2 J hres
  | ok fl =>
    cases fl with
    | ret u =>
      obtain ⟨v, H', J2, rv, ev, q3⟩ := J.after hres
      subst ev
      exact ⟨rv, ⟨.ref _, H', J2, rfl, q3⟩⟩
    | next => exact hres.elim
    | brk => exact hres.elim
    | cont => exact hres.elim
/-! ### out of a statement that runs while a thing is locked -/
/-- the thing is as it was -/
def wUn (G0 : Hp) (W : WX) : WX := fun cls dd τ G => ∃ (d : Addr) (u : HO) (od : Obj), (∀ o' u', G0 d ≠ some (.frz o' u')) ∧ G d = some (.frz od u) ∧ W cls dd τ (upd G d u)
theorem takes_un {W : WX} (tk : Takes X W) : Takes X (wUn X.H_0 W) := fun v s' h => by
  obtain ⟨a, B, sI, pins, τ, G, cls, dd, ev, I, nb, up, sky, na, eos, bare, d, u, od, h0, hd, hw⟩ := h
  have ne : a ≠ d := fun z => by rw [z, hd] at na; cases na
  exact tk v s' ⟨a, B, sI, pins, τ, upd G d u, cls, dd, ev, I.unlock hd h0, nb, up, sky, (upd_ne ne).trans na, eos, bare, hw⟩
theorem upd_swap {G : Hp} {a b : Addr} {x y : HO} (h : a ≠ b) : upd (upd G a x) b y = upd (upd G b y) a x := by
  funext c
  by_cases ca : c = a
  · subst ca; rw [upd_ne h, upd_same, upd_same]
  · by_cases cb : c = b
    · subst cb; rw [upd_same, upd_ne (Ne.symm h), upd_same]
    · rw [upd_ne cb, upd_ne ca, upd_ne ca, upd_ne cb]
end KnX

set_option Elab.async false
set_option linter.all false
set_option maxRecDepth 100000
set_option maxHeartbeats 4000000
/-! try: .. except A as e: .. except B as e: .. -/
namespace KnX
open PySem PySem.Spec PyProof.Rows L2
/-- behind a suite the name is gone -/
def endsAs (i : Nat) (D : Ends) : Ends := { nx := fun τ G => D.nx (τ.set i none) G, rt := D.rt, bk := fun τ G => D.bk (τ.set i none) G, ct := fun τ G => D.ct (τ.set i none) G }
abbrev Clause := Value × Nat × (Addr → Value → Option Addr → TS)
def wAll (K : PySem.W.Frag) (Wout : WX) (D : Ends) : List Clause → WX
  | [] => Wout
  | q :: r => fun cls d τ G => ∃ yes, PySem.W.exmOne K cls q.1 = some yes ∧ (yes = true → ∀ a, G a = none → q.2.2 a cls d (endsAs q.2.1 D) (τ.set q.2.1 (some (.ref a))) G) ∧ (yes = false → wAll K Wout D r cls d τ G)
inductive HdsAs (X : Cx) : List ExceptHandler → List Clause → Prop
  | nil : HdsAs X [] []
  | cons {x n : Str} {c : Value} {i : Nat} {ts : Addr → Value → Option Addr → TS} {b₀ : Stmt} {suite : List Stmt} {np pe : Pos} {hds : List ExceptHandler} {l : List Clause} (hc : Names X x c) (hi : X.N[i]? = some n) (hln : X.env.kindOf n = some .local)
      (hsu : ∀ (a : Addr) (oe : Obj) (cls : Value) (d : Option Addr) (pn : List (Addr × Obj)), Zc cls d oe → (∃ vs, oe.data = .fields vs) → PSs (X.suite a ((a, oe) :: pn)) (b₀ :: suite) (ts a cls d)) (r : HdsAs X hds l) :
      HdsAs X (.ExceptHandler (some (.Name x np)) (some n) (b₀ :: suite) pe :: hds) ((c, i, ts) :: l)
section
variable {X : Cx} {body : List Stmt} {h₀ : ExceptHandler} {hds : List ExceptHandler} {l : List Clause} {pos : Pos} {tb : WX → TS} {Wout : WX}
theorem ps_try_all (hs : X.stack = X.env :: X.outer) (hf : X.env.frame = some X.env.locals) (hN : X.N.Nodup) (tk : Takes X Wout)
    (hb : ∀ (W : WX) (pn : List (Addr × Obj)) (xe : Value → Shared → Prop), Takes (X.tr pn xe) W → PassesOwn (model X.prog X.w) X.A X.env xe → PSs (X.tr pn xe) body (tb W))
    (hh : HdsAs X (h₀ :: hds) l) : PS X (.Try body (h₀ :: hds) [] [] pos) (fun D σ H => tb (wAll X.K Wout D l) D σ H) := by
  refine ⟨fun pins s0 σ0 H0 D I0 h => ?_⟩
  have okX := I0.ok
  have frX : X.A.frames = some (X.env :: X.outer) := by rw [okX.frames, hs]
  refine wpAny_Try_except (wpAny_mono ((hb (wAll X.K Wout D l) (X.pn ++ pins) (fun ex s₁ => wpAny (model X.prog X.w) X.A (noteFrame ex X.env) (fun _ s₂ => wpAny (model X.prog X.w) X.A (setFlight ex none) (fun _ s₃ =>
    wpAny (model X.prog X.w) X.A (handleBy ex X.env (h₀ :: hds)) (SP X pins D) X.xe s₃) X.xe s₂) X.xe s₁) (fun u st air => ?_) PassesOwn.looking).run [] s0 σ0 H0 D (I0.toTry _) h) (fun fl s1 fin => ?_) (fun ex s1 hx => hx))
  · obtain ⟨a, B, sB, pins2, τ, G, cls, d, rfl, JT, keepB, upB, sky, na, eos, bare, wq⟩ := air
    have J : Inv X pins τ G sB := JT.ofTry okX
    have skyX : Sky B (X.env :: X.outer) a (Zc cls d) X.env.locals st.heap := by rw [← hs]; exact sky
    show wpAny (model X.prog X.w) X.A (noteFrame (.ref a) X.env) _ _ _
    refine Sky.land Zc.steady frX hf skyX fun g1 land1 up1 => ?_
    have J1 : Inv X pins τ G { st with heap := g1 } := J.landed keepB land1.1 (upB.trans up1) eos bare
    obtain ⟨oe1, vs1, ge1, hz1, hd1⟩ := land1.there
    have notIn : a ∉ frs (X.env :: X.outer) := fun hm => by
      obtain ⟨_, o', e', bad⟩ := land1.2.2.1.mem hm
      rw [ge1] at e'
      cases e'
      exact bad _ hd1
    have n1 : a ≠ X.env.locals := fun z => notIn (List.mem_filterMap.mpr ⟨X.env, List.mem_cons_self, by rw [hf, z]⟩)
    have n2 : a ∉ X.fs := fun hm => by
      obtain ⟨fr, hfr, q⟩ := List.mem_filterMap.mp hm
      exact notIn (List.mem_filterMap.mpr ⟨fr, List.mem_cons_of_mem _ hfr, q⟩)
    have S1 := J1.suite ge1 hd1 na n1 n2
    have each : ∀ {hs' : List ExceptHandler} {l' : List Clause}, HdsAs X hs' l' → wAll X.K Wout D l' cls d τ G → wpAny (model X.prog X.w) X.A (handleBy (.ref a) X.env hs') (SP X pins D) X.xe { st with heap := g1 } := by
      intro hs' l' hk
      induction hk with
      | nil =>
        intro wq
        refine wpAny_handleBy_nil ?_
        obtain ⟨_, _, _, oe, vs, T, oT, ts', ge, _, hd, hT, _⟩ := id land1
        unfold PySem.passOn
        refine wpAny_bind (wpAny_field ge hd hT ?_)
        rw [if_neg (show ¬ ((Value.ref T == Value.none) = true) by simp)]
        have out : wpAny (model X.prog X.w) X.A (setFlight (.ref a) X.env.frame) (fun _ s4 => wpAny (model X.prog X.w) X.A (throw (.ref a) : Sem Flow) (SP X pins D) X.xe s4) X.xe { st with heap := g1 } := by
          rw [hf]
          exact HandSPX.setFlight_upZ land1 fun g2 held2 up2 => wpAny_throw (tk _ _ ⟨a, B, sB, pins, τ, G, cls, d, rfl, J, keepB, (upB.trans up1).trans up2, .inr (.inr (by rw [hs]; exact held2)), na, eos, bare, wq⟩)
        first
          | exact wpAny_bind (wpAny_pure (wpAny_bind out))
          | exact wpAny_bind out
      | @cons x n c i ts b₀ suite np pe hds2 l2 hc hi hln hsu r ih =>
        intro wq
        obtain ⟨yes, hyes, wy, wn⟩ := wq
        refine wpAny_handleBy_cons (codeAny_handlers_test ?_) (by intro q; cases q)
        have kind : PySem.W.Looks (model X.prog X.w) g1 (typeOf (.ref a)) cls := fun A Q E s k q => wpAny_typeOf_ref (k _ _ ge1) (by rw [hz1.1]; exact q)
        have asked : ∀ {Q : Value → Shared → Prop} {E : Value → Shared → Prop}, Q c { st with heap := g1 } → wpAny (model X.prog X.w) (X.A.mark (some (.ref a))) (eval (.Name x np) X.env) Q E { st with heap := g1 } := fun {Q E} q => by
          obtain ⟨hg, hdbg, hm | ⟨hm, hv, hnn⟩⟩ := hc
          · exact ld_glob (X := X.suite a ((a, oe1) :: (X.pn ++ pins))) S1 hg hm q hdbg
          · exact ld_blt (X := X.suite a ((a, oe1) :: (X.pn ++ pins))) S1 hg hm hv q hnn hdbg
        refine asked ((PySem.W.exm_one (M := model X.prog X.w) J1.kIn kind hyes).here ?_)
        cases yes with
        | false => exact ih (wn rfl)
        | true =>
          refine codeAny_handlers_suite_as (HandSPX.lands_againZ land1 fun g2 land2 up2 => ?_)
          have J2 : Inv X pins τ G { st with heap := g2 } := J.landed keepB land2.1 ((upB.trans up1).trans up2) eos bare
          obtain ⟨oe2, vs2, ge2, hz2, hd2⟩ := land2.there
          refine store_ok (X := X.suite a ((a, oe2) :: (X.pn ++ pins))) (v := .ref a) (J2.suite ge2 hd2 na n1 n2) hN hi (.inl hln) rfl (fun s5 S5 => ?_) (.inr hln)
          refine wpAny_mono ((hsu a oe2 cls d (X.pn ++ pins) hz2 ⟨_, hd2⟩).run [] s5 _ G _ S5 (wy rfl a na)) (fun fl s6 fin => ?_) (fun _ _ z => False.elim z)
          have gone : ∀ {τ6 : L2.St} {G6 : Hp} {Q : Shared → Prop}, Inv (X.suite a ((a, oe2) :: (X.pn ++ pins))) [] τ6 G6 s6 → (∀ s7, Inv X pins (τ6.set i none) G6 s7 → Q s7) →
              wpAny (model X.prog X.w) X.A (do bindName X.env n .none; unbindBehindTheSuite X.env n pe) (fun _ s7 => Q s7) X.xe s6 := fun {τ6 G6 Q} S6 k => gone_ok (S6.unsuite okX) hN hi hln k
          cases fl with
          | next => obtain ⟨τ6, G6, S6, q6⟩ := fin; exact gone S6 fun s7 J7 => ⟨_, _, J7, q6⟩
          | brk => obtain ⟨τ6, G6, S6, q6⟩ := fin; exact gone S6 fun s7 J7 => ⟨_, _, J7, q6⟩
          | cont => obtain ⟨τ6, G6, S6, q6⟩ := fin; exact gone S6 fun s7 J7 => ⟨_, _, J7, q6⟩
          | ret u => obtain ⟨v6, τ6, G6, S6, r6, q6⟩ := fin; exact gone S6 fun s7 J7 => ⟨_, _, _, J7, r6, q6⟩
    exact each hh wq
  · cases fl with
    | next => obtain ⟨τ, G, J, q⟩ := fin; exact wpAny_execs_nil ⟨τ, G, J.ofTry okX, q⟩
    | brk => obtain ⟨τ, G, J, q⟩ := fin; exact ⟨τ, G, J.ofTry okX, q⟩
    | cont => obtain ⟨τ, G, J, q⟩ := fin; exact ⟨τ, G, J.ofTry okX, q⟩
    | ret u => obtain ⟨v, τ, G, J, r, q⟩ := fin; exact ⟨v, τ, G, J.ofTry okX, r, q⟩
end
end KnX

set_option Elab.async false
set_option linter.all false
set_option maxRecDepth 100000
set_option maxHeartbeats 4000000
/-! len(a set of ints and texts). -/
namespace KnS
open PySem PySem.Spec PyProof.Rows L2
variable {X : Cx}
theorem cr_lenL : CallR X (.builtin "len") (fun xs H Q => ∃ (a : Addr) (ks : List Key), xs = [.ref a] ∧ H a = some (SetL X.prog X.w a ks) ∧ Q (.int ks.length) H) := by
  intro pins s σ H vs us Q I r h
  obtain ⟨a, ks, rfl, ha, q⟩ := h
  rw [Vals.ref1 r]
  obtain ⟨o, es, ep, t, ls, ⟨ho, hx, hd⟩, ⟨pe, pm, nd⟩, ⟨hb, hf⟩, _⟩ := held I ha
  have hn : es.size = ks.length := by
    have e1 : ls.length = es.size := pe.length
    rw [← pm.length_eq, e1]
  unfold scanBound at hb
  exact call_len_set ho hx hd hf (by omega) ⟨.int ks.length, H, I.tok _, ⟨_, by rw [hn]⟩, q⟩
end KnS

set_option Elab.async false
set_option linter.all false
set_option maxRecDepth 100000
set_option maxHeartbeats 4000000
/-! Two lists of the very same items, of any depth. -/
namespace KnQ
open PySem PySem.Spec PyProof.Rows L2
/-- an item that equals itself at once -/
def Own : V → Prop
  | .non => True
  | .bl _ => True
  | .int _ => True
  | .str _ => True
  | .ref _ => True
  | _ => False
open PySem.SeqAt in
theorem eq_own {A : Around} {s : Shared} {v : V} {u1 u2 : Value} (o : Own v) (r1 : RelV v u1) (r2 : RelV v u2) : EqAt A s u1 u2 true := by
  cases v with
  | non => cases r1; cases r2; exact EqAt.same _
  | bl b => cases r1; cases r2; exact EqAt.same _
  | ref a => cases r1; cases r2; exact EqAt.same _
  | int i =>
    obtain ⟨t1, rfl⟩ := r1
    obtain ⟨t2, rfl⟩ := r2
    have h := EqAt.int_int (A := A) (s := s) i t1 i t2
    rwa [beq_self_eq_true] at h
  | str z =>
    obtain ⟨t1, rfl⟩ := r1
    obtain ⟨t2, rfl⟩ := r2
    have h := EqAt.str_str (A := A) (s := s) z t1 z t2
    rwa [beq_self_eq_true] at h
  | _ => exact o.elim
section
variable {X : Cx}
theorem op_neOwn (hu : X.A.units < cLine) : OpR X (compareOp .NotEq) (fun x y H Q => ∃ a b xs, x = .ref a ∧ y = .ref b ∧ H a = some (.lst xs) ∧ H b = some (.lst xs) ∧ (∀ v ∈ xs, Own v) ∧ Q (.bl false) H) := by
  intro pins s σ H x y v u Q I rx ry h
  obtain ⟨a, b, xs, rfl, rfl, ea, eb, ho, q⟩ := h
  cases rx
  cases ry
  obtain ⟨i1, r1, p1, _⟩ := I.list (.inl (.inl ea) : SqL X.K H a xs)
  obtain ⟨i2, r2, p2, _⟩ := I.list (.inl (.inl eb) : SqL X.K H b xs)
  have l1 := r1.length
  have l2 := r2.length
  have each : ∀ j (h1 : j < i1.toArray.size) (h2 : j < i2.toArray.size), PySem.SeqAt.EqAt X.A.in1 s i1.toArray[j] i2.toArray[j] ((fun _ => true) j) := fun j h1 h2 => by
    rw [List.size_toArray] at h1 h2
    have hj : j < xs.length := by omega
    have gx : xs[j]? = some xs[j] := List.getElem?_eq_getElem hj
    obtain ⟨u1, g1, k1⟩ := r1.get gx
    obtain ⟨u2, g2, k2⟩ := r2.get gx
    have e1 : i1.toArray[j] = u1 := (List.getElem?_eq_some_iff.mp g1).2
    have e2 : i2.toArray[j] = u2 := (List.getElem?_eq_some_iff.mp g2).2
    rw [e1, e2]
    exact eq_own (ho _ (List.getElem_mem hj)) k1 k2
  have rc := PySem.SeqAt.RcNeAt.lists p1.isList p2.isList (by rw [List.size_toArray, List.size_toArray]; omega) hu each
  have all : (List.range i1.toArray.size).all (fun _ => true) = true := List.all_eq_true.mpr fun _ _ => rfl
  refine rc X.prog X.w X.xe (EP X pins σ Q) ?_
  rw [all]
  exact ⟨.bl false, H, I, rfl, q⟩
end
end KnQ

set_option Elab.async false
set_option linter.all false
set_option maxRecDepth 100000
set_option maxHeartbeats 4000000
namespace Kn
open PySem PySem.Spec PyProof.Rows L2
open C8 (Cal pe_c pe_gc Mak pe_mk)
def topS (i : Nat) : Stmt := PySem.Challenge.pw_knownlate_k03_refused_steps.main.body.getD i (.Pass ⟨0, 0, 0, 0⟩)
abbrev s__law_mix : Stmt := topS 28
theorem sc__law_mix : FnScope ["_law_cell_here", "_law_k", "_law_number"] ["_law_cell_here", "_law_k"] (defScope s__law_mix) := ⟨rfl, rfl, rfl, by decide +kernel, rfl, by decide +kernel, by decide +kernel⟩
abbrev s__law_row : Stmt := topS 30
theorem sc__law_row : FnScope ["_law_cell_here", "_law_sizes", "_law_row_here", "_law_rest", "_law_k"] ["_law_cell_here", "_law_sizes"] (defScope s__law_row) := ⟨rfl, rfl, rfl, by decide +kernel, rfl, by decide +kernel, by decide +kernel⟩
abbrev s__law_names : Stmt := topS 31
theorem sc__law_names : FnScope ["_law_cell_here", "_law_many", "_law_row_here", "_law_names_here", "_law_k", "_law_own", "_law_text", "_law_at", "_law_letter", "_law_digit"] ["_law_cell_here", "_law_many"] (defScope s__law_names) := ⟨rfl, rfl, rfl, by decide +kernel, rfl, by decide +kernel, by decide +kernel⟩
abbrev s__law_cell : Stmt := topS 29
theorem sc__law_cell : FnScope ["_law_script", "_law_k"] ["_law_script", "_law_k"] (defScope s__law_cell) := ⟨rfl, rfl, rfl, by decide +kernel, rfl, by decide +kernel, by decide +kernel⟩
abbrev s__law_machine : Stmt := topS 32
theorem sc__law_machine : FnScope ["_law_cell_here", "_law_names_here", "_law_most", "_law_extra", "_law_sizes", "_law_row_here", "_law_many", "_law_stride", "_law_labels", "_law_steps", "_law_k", "_law_word", "_law_at", "_law_step", "_law_target", "_law_turn"] ["_law_cell_here", "_law_names_here", "_law_most", "_law_extra"] (defScope s__law_machine) := ⟨rfl, rfl, rfl, by decide +kernel, rfl, by decide +kernel, by decide +kernel⟩
abbrev s__law_deep : Stmt := topS 37
theorem sc__law_deep : FnScope ["_law_many", "_law_thing_here", "_law_k"] ["_law_many"] (defScope s__law_deep) := ⟨rfl, rfl, rfl, by decide +kernel, rfl, by decide +kernel, by decide +kernel⟩
abbrev s__law_thing : Stmt := topS 38
theorem sc__law_thing : FnScope ["_law_digit", "_law_things"] ["_law_digit"] (defScope s__law_thing) := ⟨rfl, rfl, rfl, by decide +kernel, rfl, by decide +kernel, by decide +kernel⟩
abbrev s__law_spoiled : Stmt := topS 44
theorem sc__law_spoiled : FnScope ["_law_rows", "_law_kind", "_law_place", "_law_digit", "_law_at", "_law_step", "_law_wrong", "_law_word"] ["_law_rows", "_law_kind", "_law_place", "_law_digit"] (defScope s__law_spoiled) := ⟨rfl, rfl, rfl, by decide +kernel, rfl, by decide +kernel, by decide +kernel⟩
abbrev s_is_whole : Stmt := topS 18
theorem sc_is_whole : FnScope ["value"] ["value"] (defScope s_is_whole) := ⟨rfl, rfl, rfl, by decide +kernel, rfl, by decide +kernel, by decide +kernel⟩
abbrev s_is_state : Stmt := topS 17
theorem sc_is_state : FnScope ["value"] ["value"] (defScope s_is_state) := ⟨rfl, rfl, rfl, by decide +kernel, rfl, by decide +kernel, by decide +kernel⟩
abbrev s_is_row : Stmt := topS 19
theorem sc_is_row : FnScope ["value"] ["value"] (defScope s_is_row) := ⟨rfl, rfl, rfl, by decide +kernel, rfl, by decide +kernel, by decide +kernel⟩
abbrev s_is_name : Stmt := topS 16
theorem sc_is_name : FnScope ["value", "letter"] ["value"] (defScope s_is_name) := ⟨rfl, rfl, rfl, by decide +kernel, rfl, by decide +kernel, by decide +kernel⟩
abbrev s_is_step : Stmt := topS 22
theorem sc_is_step : FnScope ["value"] ["value"] (defScope s_is_step) := ⟨rfl, rfl, rfl, by decide +kernel, rfl, by decide +kernel, by decide +kernel⟩
abbrev s_check_steps : Stmt := topS 23
theorem sc_check_steps : FnScope ["steps", "seen", "counts", "at", "step"] ["steps"] (defScope s_check_steps) := ⟨rfl, rfl, rfl, by decide +kernel, rfl, by decide +kernel, by decide +kernel⟩
abbrev s_check_faults : Stmt := topS 24
theorem sc_check_faults : FnScope ["faults", "words", "names", "word", "name"] ["faults", "words"] (defScope s_check_faults) := ⟨rfl, rfl, rfl, by decide +kernel, rfl, by decide +kernel, by decide +kernel⟩
abbrev s_moves_by_state : Stmt := topS 25
theorem sc_moves_by_state : FnScope ["steps", "moves", "source", "word", "target"] ["steps"] (defScope s_moves_by_state) := ⟨rfl, rfl, rfl, by decide +kernel, rfl, by decide +kernel, by decide +kernel⟩
abbrev s_reached_states : Stmt := topS 26
theorem sc_reached_states : FnScope ["start", "leaving", "reached", "waiting", "moves", "word", "target"] ["start", "leaving"] (defScope s_reached_states) := ⟨rfl, rfl, rfl, by decide +kernel, rfl, by decide +kernel, by decide +kernel⟩
abbrev s_Machine_init : Stmt := inClass (topS 21) 0
theorem sc_Machine_init : FnScope ["self", "start", "steps", "faults", "words", "leaving", "states", "state", "step", "word"] ["self", "start", "steps", "faults"] (defScope s_Machine_init) := ⟨rfl, rfl, rfl, by decide +kernel, rfl, by decide +kernel, by decide +kernel⟩
abbrev s__law_made : Stmt := topS 43
theorem sc__law_made : FnScope ["_law_start", "_law_rows", "_law_faults", "_law_made_here", "e"] ["_law_start", "_law_rows", "_law_faults"] (defScope s__law_made) := ⟨rfl, rfl, rfl, by decide +kernel, rfl, by decide +kernel, by decide +kernel⟩
abbrev s__law_is_integer : Stmt := topS 33
theorem sc__law_is_integer : FnScope ["_law_thing_here"] ["_law_thing_here"] (defScope s__law_is_integer) := ⟨rfl, rfl, rfl, by decide +kernel, rfl, by decide +kernel, by decide +kernel⟩
abbrev s__law_is_state : Stmt := topS 35
theorem sc__law_is_state : FnScope ["_law_thing_here"] ["_law_thing_here"] (defScope s__law_is_state) := ⟨rfl, rfl, rfl, by decide +kernel, rfl, by decide +kernel, by decide +kernel⟩
abbrev s__law_is_name : Stmt := topS 36
theorem sc__law_is_name : FnScope ["_law_thing_here", "_law_sign"] ["_law_thing_here"] (defScope s__law_is_name) := ⟨rfl, rfl, rfl, by decide +kernel, rfl, by decide +kernel, by decide +kernel⟩
abbrev s__law_bad_step : Stmt := topS 40
theorem sc__law_bad_step : FnScope ["_law_rows", "_law_at", "_law_item", "_law_near", "_law_row_here"] ["_law_rows"] (defScope s__law_bad_step) := ⟨rfl, rfl, rfl, by decide +kernel, rfl, by decide +kernel, by decide +kernel⟩
abbrev s__law_bad_fault : Stmt := topS 41
theorem sc__law_bad_fault : FnScope ["_law_rows", "_law_faults", "_law_words", "_law_names_here", "_law_word", "_law_row_here"] ["_law_rows", "_law_faults"] (defScope s__law_bad_fault) := ⟨rfl, rfl, rfl, by decide +kernel, rfl, by decide +kernel, by decide +kernel⟩
abbrev s__law_reached : Stmt := topS 39
theorem sc__law_reached : FnScope ["_law_start", "_law_steps", "_law_found", "_law_state", "_law_step"] ["_law_start", "_law_steps"] (defScope s__law_reached) := ⟨rfl, rfl, rfl, by decide +kernel, rfl, by decide +kernel, by decide +kernel⟩
abbrev s__law_due : Stmt := topS 42
theorem sc__law_due : FnScope ["_law_start", "_law_rows", "_law_faults", "_law_state", "_law_row_here"] ["_law_start", "_law_rows", "_law_faults"] (defScope s__law_due) := ⟨rfl, rfl, rfl, by decide +kernel, rfl, by decide +kernel, by decide +kernel⟩
abbrev s__law_exact : Stmt := topS 34
theorem sc__law_exact : FnScope ["_law_told", "_law_due_here", "_law_k"] ["_law_told", "_law_due_here"] (defScope s__law_exact) := ⟨rfl, rfl, rfl, by decide +kernel, rfl, by decide +kernel, by decide +kernel⟩
abbrev s_law : Stmt := topS 45
theorem sc_law : FnScope ["_law_script", "_law_names_here", "_law_labels", "_law_steps", "_law_k", "_law_row_here", "_law_rows", "_law_start", "_law_faults", "_law_state"] ["_law_script"] (defScope s_law) := ⟨rfl, rfl, rfl, by decide +kernel, rfl, by decide +kernel, by decide +kernel⟩
structure Txt (K : PySem.W.Frag) (mg : Str → Option Value) (C : Addr) : Prop where
  m_all : mg "all" = none
  m_bool : mg "bool" = none
  m_dict : mg "dict" = none
  m_enumerate : mg "enumerate" = none
  m_int : mg "int" = none
  m_isinstance : mg "isinstance" = none
  m_len : mg "len" = none
  m_list : mg "list" = none
  m_range : mg "range" = none
  m_set : mg "set" = none
  m_sorted : mg "sorted" = none
  m_str : mg "str" = none
  m_tuple : mg "tuple" = none
  c_GREATEST_STATE : ∃ u, mg "GREATEST_STATE" = some u ∧ RelV (.int 99) u
  c_LONGEST_NAME : ∃ u, mg "LONGEST_NAME" = some u ∧ RelV (.int 12) u
  c_LETTERS : ∃ u, mg "LETTERS" = some u ∧ RelV (.str "abcdefghijklmnopqrstuvwxyz") u
  c_MOST_STEPS : ∃ u, mg "MOST_STEPS" = some u ∧ RelV (.int 80) u
  c_MOST_LEAVING : ∃ u, mg "MOST_LEAVING" = some u ∧ RelV (.int 8) u
  c_MOST_FAULTS : ∃ u, mg "MOST_FAULTS" = some u ∧ RelV (.int 3) u
  c_MOST_WORDS : ∃ u, mg "MOST_WORDS" = some u ∧ RelV (.int 14) u
  cl : Cls K C
  n__start : NoAttr K C "_start"
  n__steps : NoAttr K C "_steps"
  n__words : NoAttr K C "_words"
  n__faults : NoAttr K C "_faults"
  n__states : NoAttr K C "_states"
/-- the classes of the errors -/
structure Es where
  st : Addr
  sp : Addr
  fa : Addr
  nl : Addr
  tm : Addr
theorem szl {α : Type} {l : List α} (h : Nat.ble l.length 100000 = true) : l.length ≤ sizeLine := smallE (Nat.le_of_ble_eq_true h)
/-! ### values -/
inductive Val (K : PySem.W.Frag) (H : Hp) : V → Prop where
  | non : Val K H .non
  | bl (b : Bool) : Val K H (.bl b)
  | int (i : Int) : Val K H (.int i)
  | str (z : Str) (h : z.cps.size ≤ 100) : Val K H (.str z)
  | lst {a : Addr} {xs : List V} (e : H a = some (.lst xs)) : Val K H (.ref a)
  | tup {a : Addr} {xs : List V} (e : H a = some (.tup xs)) : Val K H (.ref a)
  | dK {a : Addr} {kvs : List (Key × V)} (e : H a = some (.dK kvs)) : Val K H (.ref a)
theorem Val.mono {K : PySem.W.Frag} {H H' : Hp} {v : V} (h : Val K H v) (s : Same H H') : Val K H' v := by
  cases h with
  | non => exact .non
  | bl b => exact .bl b
  | int i => exact .int i
  | str z h => exact .str z h
  | lst e => exact .lst (s _ _ e)
  | tup e => exact .tup (s _ _ e)
  | dK e => exact .dK (s _ _ e)
def isS : V → Bool
  | .str _ => true
  | _ => false
def isI : V → Bool
  | .int _ => true
  | .bl _ => true
  | _ => false
def isB : V → Bool
  | .bl _ => true
  | _ => false
theorem Val.ty {K : PySem.W.Frag} {H : Hp} {v : V} (h : Val K H v) : ∃ t, TyX K H v t ∧ PySem.W.kitOne K t (.type "str") = some (isS v) ∧ PySem.W.kitOne K t (.type "int") = some (isI v) ∧ PySem.W.kitOne K t (.type "bool") = some (isB v) := by
  cases h with
  | non => exact ⟨_, .base .non, kit_ty (show kitB "NoneType" "str" = some false by decide +kernel), kit_ty (show kitB "NoneType" "int" = some false by decide +kernel), kit_ty (show kitB "NoneType" "bool" = some false by decide +kernel)⟩
  | bl b => exact ⟨_, .base (.bl b), kit_ty (show kitB "bool" "str" = some false by decide +kernel), kit_ty (show kitB "bool" "int" = some true by decide +kernel), kit_ty (show kitB "bool" "bool" = some true by decide +kernel)⟩
  | int i => exact ⟨_, .base (.int i), kit_ty (show kitB "int" "str" = some false by decide +kernel), kit_ty (show kitB "int" "int" = some true by decide +kernel), kit_ty (show kitB "int" "bool" = some false by decide +kernel)⟩
  | str z h => exact ⟨_, .base (.str z), kit_ty (show kitB "str" "str" = some true by decide +kernel), kit_ty (show kitB "str" "int" = some false by decide +kernel), kit_ty (show kitB "str" "bool" = some false by decide +kernel)⟩
  | lst e => exact ⟨_, .base (.lst e), kit_ty (show kitB "list" "str" = some false by decide +kernel), kit_ty (show kitB "list" "int" = some false by decide +kernel), kit_ty (show kitB "list" "bool" = some false by decide +kernel)⟩
  | tup e => exact ⟨_, .base (.tup e), kit_ty (show kitB "tuple" "str" = some false by decide +kernel), kit_ty (show kitB "tuple" "int" = some false by decide +kernel), kit_ty (show kitB "tuple" "bool" = some false by decide +kernel)⟩
  | dK e => exact ⟨_, .base (.dK e), kit_ty (show kitB "dict" "str" = some false by decide +kernel), kit_ty (show kitB "dict" "int" = some false by decide +kernel), kit_ty (show kitB "dict" "bool" = some false by decide +kernel)⟩
/-! ### what is computed -/
def letters : Str := "abcdefghijklmnopqrstuvwxyz"
def inL (c : Nat) : Bool := decide (c ∈ letters.cps.toList)
def nameB : V → Bool
  | .str z => decide (1 ≤ z.cps.size) && decide (z.cps.size ≤ 12) && z.cps.toList.all inL
  | _ => false
def wholeB (v : V) : Bool := isI v && !isB v
def stateB : V → Bool
  | .int i => decide (0 ≤ i) && decide (i ≤ 99)
  | _ => false
/-! ### promises -/
def spPure (g : V → Bool) (K : PySem.W.Frag) : Sp := fun vs H Q _ => ∃ v, vs = [v] ∧ Val K H v ∧ ∀ H', Same H H' → Q (.bl (g v)) H'
def sp_is_name := spPure nameB
def sp__law_is_name := spPure nameB
def sp_is_whole := spPure wholeB
def sp__law_is_integer := spPure wholeB
def sp_is_state := spPure stateB
def sp__law_is_state := spPure stateB
def sp__law_flag (_ : PySem.W.Frag) : Sp := fun vs H Q _ => ∃ a b, vs = [.bl a, .bl b] ∧ Q (.bl (decide (a = b))) H
def sp__law_mix (_ : PySem.W.Frag) : Sp := fun vs H Q _ => ∃ c k : Int, vs = [.int c, .int k] ∧ ∀ r : Int, 0 ≤ r → r < 2147483399 → Q (.int r) H
def sp__law_cell (K : PySem.W.Frag) : Sp := fun vs H Q _ => ∃ (a : Addr) (ns : List Int) (k : Nat), vs = [.ref a, .int (k : Int)] ∧ SqL K H a (ns.map V.int) ∧ ∀ r : Int, Q (.int r) H
def sp__law_row (K : PySem.W.Frag) : Sp := fun vs H Q _ => ∃ (c : Int) (b : Addr) (ss : List Int), vs = [.int c, .ref b] ∧ SqL K H b (ss.map V.int) ∧ ss.length ≤ 1000 ∧ (∀ s ∈ ss, 0 < s ∧ s < 1073741824) ∧
  ∀ H' p (rs : List Int), Same H H' → H p = none → H' p = some (.lst (rs.map V.int)) → rs.length = ss.length → (∀ (i : Nat) (r s : Int), rs[i]? = some r → ss[i]? = some s → 0 ≤ r ∧ r < s) → Q (.ref p) H'
def sp__law_text (_ : PySem.W.Frag) : Sp := fun vs H Q _ => ∃ c : Int, vs = [.int c] ∧ ∀ (z : Str) H', Same H H' → z.cps.size ≤ 100 → Q (.str z) H'
def sp_law (K : PySem.W.Frag) : Sp := fun vs H Q _ => ∃ (a : Addr) (ns : List Int), vs = [.ref a] ∧ SqL K H a (ns.map V.int) ∧ ns.length ≤ 63 ∧ ∀ H', Q (.bl true) H'
section
variable {P : Program} {w : World} {K : PySem.W.Frag} {mg : Str → Option Value} {base : Heap}

theorem ok_is_whole {f : Addr} {C : Addr} {fd : FuncData} (T : Txt K mg C) (F : Fun K "is_whole" "is_whole" s_is_whole f fd)  : FnOk P w K mg base CX0 1 f fd ["value"] (sp_is_whole K) := by
  have nd := sc_is_whole.nd
  refine F.ok sc_is_whole (fun vs H Q E h => ?_) (fun cdv A outer s H vs Q E hr h => ?_)
  · obtain ⟨v, rfl, _⟩ := h
    rfl
  · obtain ⟨v, rfl, hv, q⟩ := h
    refine ⟨_, (pss_one (ps_ret (pe_and (pe_callB call_isi (by rfl) T.m_isinstance (by decide +kernel) (pa_cons (pv 0) (pa_cons (pe_bltn (v := .ty "int") (u := .type "int") (by rfl) T.m_int (by decide +kernel) rfl) pa_nil))) (pe_one (pe_not (pe_callB call_isi (by rfl) T.m_isinstance (by decide +kernel) (pa_cons (pv 0) (pa_cons (pe_bltn (v := .ty "bool") (u := .type "bool") (by rfl) T.m_bool (by decide +kernel) rfl) pa_nil)))))))), ?_⟩
    obtain ⟨t, ht, hs, hi, hb⟩ := hv.ty
    refine ⟨v, rfl, v, .ty "int", t, _, isI v, rfl, .ty _, ht, hi, _, rfl, ?_⟩
    have q' := q H (Same.refl H)
    unfold wholeB at q'
    by_cases e : isI v = true
    · rw [if_pos e]
      refine ⟨v, rfl, v, .ty "bool", t, _, isB v, rfl, .ty _, ht, hb, _, rfl, ?_⟩
      rw [e] at q'
      exact q'
    · rw [if_neg e]
      rw [Bool.eq_false_iff.mpr e] at q'
      exact q'

theorem ok_is_state {f : Addr} {C : Addr} {fd : FuncData} (T : Txt K mg C) (F : Fun K "is_state" "is_state" s_is_state f fd) (c_is_whole : Cal P w K mg base 1 "is_whole" (sp_is_whole K) []) : FnOk P w K mg base CX0 2 f fd ["value"] (sp_is_state K) := by
  have nd := sc_is_state.nd
  refine F.ok sc_is_state (fun vs H Q E h => ?_) (fun cdv A outer s H vs Q E hr h => ?_)
  · obtain ⟨v, rfl, _⟩ := h
    rfl
  · obtain ⟨v, rfl, hv, q⟩ := h
    refine ⟨_, (pss_one (ps_ret (pe_and (pe_c c_is_whole hr (by omega) (by rfl) (pa_cons (pv 0) pa_nil)) (pe_one (pe_chain op_le op_le pe_int (pv 0) (pe_gc (by rfl) T.c_GREATEST_STATE)))))), ?_⟩
    refine ⟨v, rfl, v, rfl, hv, fun H1 s1 => ⟨_, rfl, ?_⟩⟩
    have q' := q H1 s1
    cases hv with
    | int i =>
      refine iteT ⟨.int i, rfl, 0, i, rfl, rfl, _, rfl, ?_⟩
      by_cases e : 0 ≤ i
      · rw [decide_eq_true e]
        refine iteT ⟨i, 99, rfl, rfl, ?_⟩
        have e2 : stateB (.int i) = decide (i ≤ 99) := by
          show (decide (0 ≤ i) && decide (i ≤ 99)) = _
          rw [decide_eq_true e]; rfl
        rw [e2] at q'
        exact q'
      · rw [decide_eq_false e]
        refine iteF ?_
        have e2 : stateB (.int i) = false := by
          show (decide (0 ≤ i) && decide (i ≤ 99)) = _
          rw [decide_eq_false e]; rfl
        rw [e2] at q'
        exact q'
    | _ => exact iteF q'

theorem nameB_out {z : Str} (h : ¬ (1 ≤ z.cps.size ∧ z.cps.size ≤ 12)) : nameB (.str z) = false := by
  show (decide (1 ≤ z.cps.size) && decide (z.cps.size ≤ 12) && z.cps.toList.all inL) = false
  by_cases a : 1 ≤ z.cps.size
  · rw [decide_eq_false (p := z.cps.size ≤ 12) (fun b => h ⟨a, b⟩), Bool.and_false]; rfl
  · rw [decide_eq_false a]; rfl
theorem nameB_in {z : Str} (h1 : 1 ≤ z.cps.size) (h2 : z.cps.size ≤ 12) : nameB (.str z) = z.cps.toList.all inL := by
  show (decide (1 ≤ z.cps.size) && decide (z.cps.size ≤ 12) && z.cps.toList.all inL) = _
  rw [decide_eq_true h1, decide_eq_true h2]; rfl
theorem nameB_not {v : V} (h : isS v = false) : nameB v = false := by
  cases v <;> first | rfl | cases h
theorem isS_str {v : V} (h : isS v = true) : ∃ z, v = .str z := by
  cases v <;> first | exact ⟨_, rfl⟩ | cases h
theorem Val.size {K : PySem.W.Frag} {H : Hp} {z : Str} (h : Val K H (.str z)) : z.cps.size ≤ 100 := by
  cases h with
  | str _ h => exact h

theorem ok_is_name {f : Addr} {C : Addr} {fd : FuncData} (T : Txt K mg C) (F : Fun K "is_name" "is_name" s_is_name f fd)  : FnOk P w K mg base CX0 1 f fd ["value"] (sp_is_name K) := by
  have nd := sc_is_name.nd
  refine F.ok sc_is_name (fun vs H Q E h => ?_) (fun cdv A outer s H vs Q E hr h => ?_)
  · obtain ⟨v, rfl, _⟩ := h
    rfl
  · obtain ⟨v, rfl, hv, q⟩ := h
    refine ⟨_, (pss_cons (ps_if (PW.pt (pw_or (pt_not (pt_val (pe_callB call_isi (by rfl) T.m_isinstance (by decide +kernel) (pa_cons (pv 0) (pa_cons (pe_bltn (v := .ty "str") (u := .type "str") (by rfl) T.m_str (by decide +kernel) rfl) pa_nil))))) (pw_or1 (pt_not (pt_chain op_le op_le pe_int (pe_callB call_len (by rfl) T.m_len (by decide +kernel) (pa_cons (pv 0) pa_nil)) (pe_gc (by rfl) T.c_LONGEST_NAME)))))) (pss_one (ps_ret pe_bl)) pss_nil)
      (pss_one (ps_ret (pe_callB (cr_all rfl) (by rfl) T.m_all (by decide +kernel) (pa_cons (pe_lc (own := [("letter", 1)]) (g := gName 1) (tt := tYes) rfl nd (pi_str (pv 0)) (blkOk_by (N := ["value", "letter"]) (sc := defScope s_is_name) (by decide +kernel)) (fun _ _ _ _ _ => (pg_name (i := 1) nd rfl (.inl rfl))) (fun _ _ _ _ _ => pts_nil) (fun _ _ _ _ _ => (pe_cmpR op_in_sign (pv 1) (pe_gc (by rfl) T.c_LETTERS) (by with_unfolding_all rfl)))) pa_nil))))), ?_⟩
    obtain ⟨t, ht, hs, hi, hb⟩ := hv.ty
    refine ⟨v, rfl, v, .ty "str", t, _, isS v, rfl, .ty _, ht, hs, _, rfl, ?_⟩
    cases e : isS v with
    | false =>
      refine iteT ?_
      have q' := q H (Same.refl H)
      rw [nameB_not e] at q'
      exact q'
    | true =>
      obtain ⟨z, rfl⟩ := isS_str e
      have hz := hv.size
      refine iteF ⟨.str z, rfl, .str z, z.cps.size, rfl, ⟨smallE (show z.cps.size ≤ 100000 by omega), rfl⟩, 1, (z.cps.size : Int), rfl, rfl, _, rfl, ?_⟩
      by_cases a : 1 ≤ z.cps.size
      · rw [decide_eq_true (show (1 : Int) ≤ (z.cps.size : Int) by omega)]
        refine iteT ⟨(z.cps.size : Int), 12, rfl, rfl, _, rfl, ?_⟩
        by_cases b : z.cps.size ≤ 12
        · rw [decide_eq_true (show (z.cps.size : Int) ≤ 12 by omega)]
          refine iteF ⟨.str z, rfl, z, rfl, fun D nD => lc_text (fun i H' => Same H H' ∧ H' D = some (.lst ((z.cps.toList.take i).map fun c => .bl (inL c)))) ⟨same_upd nD, upd_same⟩ (fun i c H' hc hP => ?_) (fun H' hP => ?_)⟩
          · obtain ⟨sm, eD⟩ := hP
            have hl : i < z.cps.toList.length := (List.getElem?_eq_some_iff.mp hc).1
            rw [Array.length_toList] at hl
            refine ⟨rfl, ?_⟩
            refine ⟨.str ⟨#[c]⟩, rfl, c, letters, rfl, rfl, _, eD, ?_, same_set nD sm, ?_⟩
            · rw [List.length_map, List.length_take]
              exact Nat.lt_of_le_of_lt (Nat.min_le_left _ _) (small (by omega))
            · rw [upd_same, take_more hc, List.map_append]; rfl
          · obtain ⟨sm, eD⟩ := hP
            rw [List.take_length] at eD
            refine ⟨D, z.cps.toList.map inL, rfl, .inl (.inl (by rw [eD, List.map_map]; rfl)), ?_⟩
            have q' := q H' sm
            rw [nameB_in a b] at q'
            rw [List.all_map]
            exact q'
        · rw [decide_eq_false (show ¬ (z.cps.size : Int) ≤ 12 by omega)]
          refine iteT ?_
          have q' := q H (Same.refl H)
          rw [nameB_out (fun h => b h.2)] at q'
          exact q'
      · rw [decide_eq_false (show ¬ (1 : Int) ≤ (z.cps.size : Int) by omega)]
        refine iteF ?_
        have q' := q H (Same.refl H)
        rw [nameB_out (fun h => a h.1)] at q'
        exact ⟨_, rfl, q'⟩

/-! ### rows, steps -/
abbrev rowO (b : Bool) (xs : List V) : HO := match b with | true => .lst xs | false => .tup xs
theorem row_sq {b : Bool} {H : Hp} {a : Addr} {xs : List V} (h : H a = some (rowO b xs)) : KnE.Sq K b H a xs := by
  cases b with
  | true => exact .inl (.inl h)
  | false => exact .inl (.inl h)
theorem row_len {b : Bool} {H : Hp} {a : Addr} {xs : List V} (h : H a = some (rowO b xs)) : LenV K (.ref a) H xs.length := by
  cases b with
  | true => exact .inl ⟨xs, .inl (.inl h), rfl⟩
  | false => exact .inr ⟨xs, .inl (.inl h), rfl⟩
abbrev tup3 (st : KnA.Stp) : HO := .tup [.int st.1, .str st.2.1, .int st.2.2]
abbrev key3 (st : KnA.Stp) : List Key := [.inl st.1, .inr st.2.1, .inl st.2.2]
theorem key3_inj {x y : KnA.Stp} (h : key3 x = key3 y) : x = y := by
  obtain ⟨a, b, c⟩ := x
  obtain ⟨a', b', c'⟩ := y
  simp only [key3, List.cons.injEq, Sum.inl.injEq, Sum.inr.injEq, and_true] at h
  obtain ⟨rfl, rfl, rfl⟩ := h
  rfl
def Stps (H : Hp) (as : List Addr) (ss : List KnA.Stp) : Prop := Paired (fun a st => H a = some (tup3 st)) as ss
theorem Stps.mono {H H' : Hp} {as : List Addr} {ss : List KnA.Stp} (h : Stps H as ss) (s : Same H H') : Stps H' as ss := Paired.mapP h fun _ _ e => s _ _ e
theorem paired_get {α β : Type} {F : α → β → Prop} {l : List α} {m : List β} (h : Paired F l m) : ∀ {i : Nat} {a : α}, l[i]? = some a → ∃ b, m[i]? = some b ∧ F a b := by
  induction h with
  | nil => intro i a e; cases e
  | cons r _ ih =>
    intro i a e
    cases i with
    | zero => cases e; exact ⟨_, rfl, r⟩
    | succ i => exact ih (i := i) e
theorem ref_get {H : Hp} {as : List Addr} {ss : List KnA.Stp} (h : Stps H as ss) {i : Nat} {x : V} (e : (as.map V.ref)[i]? = some x) : ∃ a st, x = .ref a ∧ as[i]? = some a ∧ ss[i]? = some st ∧ H a = some (tup3 st) := by
  rw [List.getElem?_map] at e
  cases g : as[i]? with
  | none => rw [g] at e; cases e
  | some a =>
    rw [g] at e
    obtain ⟨st, g2, r⟩ := paired_get h g
    exact ⟨a, st, (Option.some.inj e).symm, rfl, g2, r⟩
structure GoodStep (x : KnA.Stp) : Prop where
  s : stateB (.int x.1) = true
  w : nameB (.str x.2.1) = true
  t : stateB (.int x.2.2) = true
theorem name_size {z : Str} (h : nameB (.str z) = true) : 1 ≤ z.cps.size ∧ z.cps.size ≤ 12 := by
  by_cases a : 1 ≤ z.cps.size ∧ z.cps.size ≤ 12
  · exact a
  · rw [nameB_out a] at h; cases h
def cnt (ss : List KnA.Stp) (s : Int) : Nat := (ss.filter fun x => decide (x.1 = s)).length
structure GoodSteps (ss : List KnA.Stp) : Prop where
  lo : 1 ≤ ss.length
  hi : ss.length ≤ 80
  good : ∀ x ∈ ss, GoodStep x
  nd : ss.Nodup
  few : ∀ s, cnt ss s ≤ 8
theorem valT_in {kvs : List (List Key × V)} {k : List Key} : (valV kvs k).isSome = true ↔ k ∈ kvs.map (·.1) := by
  rw [← valV_any, List.any_eq_true]
  constructor
  · rintro ⟨p, hp, e⟩
    exact List.mem_map.mpr ⟨p, hp, of_decide_eq_true e⟩
  · intro h
    obtain ⟨p, hp, e⟩ := List.mem_map.mp h
    exact ⟨p, hp, decide_eq_true e⟩
theorem cnt_take {ss : List KnA.Stp} {i : Nat} {st : KnA.Stp} (h : ss[i]? = some st) (s : Int) : cnt (ss.take (i + 1)) s = cnt (ss.take i) s + if st.1 = s then 1 else 0 := by
  unfold cnt
  rw [take_more h, List.filter_append, List.length_append]
  by_cases e : st.1 = s
  · simp [List.filter_cons, e]
  · simp [List.filter_cons, e]
theorem cnt_le (ss : List KnA.Stp) (i : Nat) (s : Int) : cnt (ss.take i) s ≤ cnt ss s := by
  unfold cnt
  exact (List.Sublist.filter _ (List.take_sublist i ss)).length_le
/-! ### faults -/
/-- what a walk over the items of a dict asks -/
theorem for_items {d : Addr} {o : Obj} {kvs : List (Key × V)} {g : TG} {tb : TS} {D : Ends} {σ : L2.St} {H : Hp} (Pv : Nat → L2.St → Hp → Prop) (h0 : Pv 0 σ H) (hl : ∀ i σ H, i ≤ kvs.length → Pv i σ H → H d = some (.frz o (.dK kvs)))
    (hs : ∀ (i : Nat) (k : Key) (v : V) (T : Addr) (σ : L2.St) (H : Hp), kvs[i]? = some (k, v) → H T = none → Pv i σ H → g (.ref T) σ (upd H T (.tup [kV k, v])) fun σ2 H2 => tb { D with nx := Pv (i + 1), ct := Pv (i + 1), bk := D.nx } σ2 H2) (hd : ∀ σ H, Pv kvs.length σ H → D.nx σ H) :
    ∃ W : Nat → Nat → L2.St → Hp → Prop, (∃ m, W 0 m σ H) ∧ ∀ i m σ H, W i m σ H →
      ((Iti d o kvs).stop i H ∧ D.nx σ H) ∨ ((Iti d o kvs).go i H ∧ ∃ N : L2.St → Hp → Prop, (∀ σ' H', N σ' H' → ∃ m', m' < m ∧ W (i + 1) m' σ' H') ∧ ∀ x H', (Iti d o kvs).yld i H x H' → g x σ H' fun σ2 H2 => tb { D with nx := N, ct := N, bk := D.nx } σ2 H2) := by
  refine ⟨fun i m σ H => m = kvs.length - i ∧ i ≤ kvs.length ∧ Pv i σ H, ⟨kvs.length, rfl, Nat.zero_le _, h0⟩, fun i m σ H ⟨em, hi, p⟩ => ?_⟩
  have q := hl i σ H hi p
  rcases Nat.lt_or_eq_of_le hi with lt | e
  · refine .inr ⟨⟨q, lt⟩, Pv (i + 1), fun σ' H' p' => ⟨kvs.length - (i + 1), by omega, rfl, lt, p'⟩, fun v H' ⟨T, k, u, ek, ev, nT, eH⟩ => ?_⟩
    subst ev eH
    exact hs i k u T σ H ek nT p
  · subst e
    exact .inl ⟨⟨q, Nat.le_refl _⟩, hd σ H p⟩
/-- the pairs of a dict of faults -/
def fkv (fs : List (Str × Str)) : List (Key × V) := fs.map fun p => (Sum.inr p.1, .str p.2)
theorem fkv_get {fs : List (Str × Str)} {i : Nat} {k : Key} {v : V} (h : (fkv fs)[i]? = some (k, v)) : ∃ x y, fs[i]? = some (x, y) ∧ k = .inr x ∧ v = .str y := by
  unfold fkv at h
  rw [List.getElem?_map] at h
  cases e : fs[i]? with
  | none => rw [e] at h; cases h
  | some p => rw [e] at h; cases h; exact ⟨p.1, p.2, rfl, rfl, rfl⟩
structure GoodFaults (fs : List (Str × Str)) (ws : List Str) : Prop where
  word : ∀ p ∈ fs, nameB (.str p.1) = true ∧ p.1 ∈ ws ∧ nameB (.str p.2) = true
  few : (KnS.allL (fs.map fun p => Sum.inr p.2)).length ≤ 3
  len : fs.length ≤ 1000
/-- the faults as they are passed: None (no faults), or a dict -/
def FArg (H : Hp) (v : V) (fs : List (Str × Str)) : Prop := (v = .non ∧ fs = []) ∨ ∃ d, v = .ref d ∧ H d = some (.dK (fkv fs))
theorem FArg.mono {H H' : Hp} {v : V} {fs : List (Str × Str)} (h : FArg H v fs) (s : Same H H') : FArg H' v fs := by
  rcases h with h | ⟨d, e, h⟩
  · exact .inl h
  · exact .inr ⟨d, e, s _ _ h⟩
theorem inV_strs {x : Str} {ws : List Str} : inV (.str x) (ws.map V.str) = decide (x ∈ ws) := by
  unfold inV
  induction ws with
  | nil => rfl
  | cons y r ih =>
    rw [List.map_cons, List.any_cons, ih]
    have e : eqV (.str y) (.str x) = decide (y = x) := by
      show (y == x) = decide (y = x)
      by_cases z : y = x
      · rw [z]; simp
      · rw [decide_eq_false z]; exact beq_eq_false_iff_ne.mpr z
    rw [e]
    by_cases z : y = x
    · subst z; simp
    · have z' : ¬ x = y := fun q => z q.symm
      simp [z, z']
theorem flat_ws (ws : List Str) : (ws.map V.str).all flatV = true := by
  rw [List.all_map]
  exact List.all_eq_true.mpr fun _ _ => rfl
theorem foldL_mono : ∀ (l acc : List Key), acc.length ≤ (l.foldl KnS.addL acc).length
  | [], _ => Nat.le_refl _
  | k :: l, acc => by
    refine Nat.le_trans ?_ (foldL_mono l (KnS.addL acc k))
    unfold KnS.addL
    by_cases z : KnS.hasL acc k = true
    · rw [if_pos z]; exact Nat.le_refl _
    · rw [if_neg z, List.length_append]; exact Nat.le_add_right _ _
theorem putK_keys {kvs : List (Key × V)} {k : Key} {v : V} : (putK kvs k v).map (·.1) = KnS.addL (kvs.map (·.1)) k := by
  unfold putK KnS.addL
  have e : (kvs.any fun kv => decide (kv.1 = k)) = KnS.hasL (kvs.map (·.1)) k := by
    unfold KnS.hasL
    rw [List.any_map]; rfl
  rw [e]
  by_cases z : KnS.hasL (kvs.map (·.1)) k = true
  · rw [if_pos z, if_pos z, List.map_map]
    refine List.map_congr_left fun p _ => ?_
    show (if p.1 = k then (p.1, v) else p).1 = p.1
    split <;> rfl
  · rw [if_neg z, if_neg z, List.map_append]; rfl
/-! ### steps, right or wrong -/
/-- a value whose items are values, where it is a tuple -/
def Val2 (K : PySem.W.Frag) (H : Hp) (v : V) : Prop := Val K H v ∧ ∀ a xs, v = .ref a → H a = some (.tup xs) → ∀ x ∈ xs, Val K H x
def triple : V → V → V → Option KnA.Stp
  | .int s, .str x, .int t => if (stateB (.int s) && (nameB (.str x) && stateB (.int t))) = true then some (s, x, t) else none
  | _, _, _ => none
def tupOf : Option HO → Option KnA.Stp
  | some (.tup [x, y, z]) => triple x y z
  | _ => none
def stepOf (H : Hp) : V → Option KnA.Stp
  | .ref a => tupOf (H a)
  | _ => none
def sp_is_step (K : PySem.W.Frag) : Sp := fun vs H Q _ => ∃ v, vs = [v] ∧ Val2 K H v ∧ ∀ H', Same H H' → Q (.bl (stepOf H v).isSome) H'
theorem triple_some (x y z : V) : (triple x y z).isSome = (stateB x && (nameB y && stateB z)) := by
  cases x with
  | int i =>
    cases y with
    | str w =>
      cases z with
      | int j =>
        show (if (stateB (.int i) && (nameB (.str w) && stateB (.int j))) = true then some (i, w, j) else none : Option KnA.Stp).isSome = _
        cases (stateB (.int i) && (nameB (.str w) && stateB (.int j))) <;> rfl
      | _ => show false = (stateB (.int i) && (nameB (.str w) && false)); rw [Bool.and_false, Bool.and_false]
    | _ => show false = (stateB (.int i) && false); rw [Bool.and_false]
  | _ => rfl
theorem step3 {H : Hp} {a : Addr} {x y z : V} (e : H a = some (.tup [x, y, z])) : (stepOf H (.ref a)).isSome = (stateB x && (nameB y && stateB z)) := by
  show (tupOf (H a)).isSome = _
  rw [e]
  exact triple_some x y z
theorem step_len {H : Hp} {a : Addr} {xs : List V} (e : H a = some (.tup xs)) (h : xs.length ≠ 3) : stepOf H (.ref a) = none := by
  show tupOf (H a) = none
  rw [e]
  rcases xs with _ | ⟨x, _ | ⟨y, _ | ⟨z, _ | ⟨u, r⟩⟩⟩⟩
  · rfl
  · rfl
  · rfl
  · exact absurd rfl h
  · rfl
theorem step_other {H : Hp} {a : Addr} {o : HO} (e : H a = some o) (h : ∀ xs, o ≠ .tup xs) : stepOf H (.ref a) = none := by
  show tupOf (H a) = none
  rw [e]
  cases o with
  | tup xs => exact absurd rfl (h xs)
  | _ => rfl
/-- a right step is the tuple of its three -/
theorem step_is {H : Hp} {v : V} {st : KnA.Stp} (h : stepOf H v = some st) : ∃ a, v = .ref a ∧ H a = some (.tup [.int st.1, .str st.2.1, .int st.2.2]) ∧ stateB (.int st.1) = true ∧ nameB (.str st.2.1) = true ∧ stateB (.int st.2.2) = true := by
  cases v with
  | ref a =>
    refine ⟨a, rfl, ?_⟩
    have h' : tupOf (H a) = some st := h
    cases e : H a with
    | none => rw [e] at h'; cases h'
    | some o =>
      rw [e] at h'
      cases o with
      | tup xs =>
        rcases xs with _ | ⟨x, _ | ⟨y, _ | ⟨z, _ | ⟨u, r⟩⟩⟩⟩
        · cases h'
        · cases h'
        · cases h'
        · have h2 : triple x y z = some st := h'
          cases x with
          | int i =>
            cases y with
            | str w =>
              cases z with
              | int j =>
                have h3 : (if (stateB (.int i) && (nameB (.str w) && stateB (.int j))) = true then some (i, w, j) else none : Option KnA.Stp) = some st := h2
                by_cases c : (stateB (.int i) && (nameB (.str w) && stateB (.int j))) = true
                · rw [if_pos c] at h3
                  cases h3
                  rw [Bool.and_eq_true, Bool.and_eq_true] at c
                  exact ⟨rfl, c.1, c.2.1, c.2.2⟩
                · rw [if_neg c] at h3; cases h3
              | _ => cases h2
            | _ => cases h2
          | _ => cases h2
        · cases h'
      | _ => cases h'
  | _ => cases h
theorem ok_is_step {f : Addr} {C : Addr} {fd : FuncData} (T : Txt K mg C) (F : Fun K "is_step" "is_step" s_is_step f fd) (c_is_state : Cal P w K mg base 2 "is_state" (sp_is_state K) []) (c_is_name : Cal P w K mg base 1 "is_name" (sp_is_name K) []) : FnOk P w K mg base CX0 3 f fd ["value"] (sp_is_step K) := by
  have nd := sc_is_step.nd
  refine F.ok sc_is_step (fun vs H Q E h => ?_) (fun cdv A outer s H vs Q E hr h => ?_)
  · obtain ⟨v, rfl, _⟩ := h
    rfl
  · obtain ⟨v, rfl, hv, q⟩ := h
    refine ⟨_, (pss_cons (ps_if (PW.pt (pw_or (pt_not (pt_val (pe_callB call_isi (by rfl) T.m_isinstance (by decide +kernel) (pa_cons (pv 0) (pa_cons (pe_bltn (v := .ty "tuple") (u := .type "tuple") (by rfl) T.m_tuple (by decide +kernel) rfl) pa_nil))))) (pw_or1 (pt_cmpR op_ne (pe_callB call_len (by rfl) T.m_len (by decide +kernel) (pa_cons (pv 0) pa_nil)) pe_int (nomark _))))) (pss_one (ps_ret pe_bl)) pss_nil)
      (pss_one (ps_ret (pe_and (pe_c c_is_state hr (by omega) (by rfl) (pa_cons (pe_ix (r := rIxT K) ix_tup (pv 0) pe_int (fun _ _ => rfl)) pa_nil)) (pe_and (pe_c c_is_name hr (by omega) (by rfl) (pa_cons (pe_ix (r := rIxT K) ix_tup (pv 0) pe_int (fun _ _ => rfl)) pa_nil)) (pe_one (pe_c c_is_state hr (by omega) (by rfl) (pa_cons (pe_ix (r := rIxT K) ix_tup (pv 0) pe_int (fun _ _ => rfl)) pa_nil)))))))), ?_⟩
    have q0 := q H (Same.refl H)
    obtain ⟨hv, hi⟩ := hv
    cases hv with
    | non =>
      refine ⟨.non, rfl, .non, .ty "tuple", _, _, false, rfl, .ty _, .base .non, kit_ty (show kitB "NoneType" "tuple" = some false by decide +kernel), _, rfl, iteT ?_⟩
      exact q0
    | bl c =>
      refine ⟨.bl c, rfl, .bl c, .ty "tuple", _, _, false, rfl, .ty _, .base (.bl c), kit_ty (show kitB "bool" "tuple" = some false by decide +kernel), _, rfl, iteT ?_⟩
      exact q0
    | int i =>
      refine ⟨.int i, rfl, .int i, .ty "tuple", _, _, false, rfl, .ty _, .base (.int i), kit_ty (show kitB "int" "tuple" = some false by decide +kernel), _, rfl, iteT ?_⟩
      exact q0
    | str z hz =>
      refine ⟨.str z, rfl, .str z, .ty "tuple", _, _, false, rfl, .ty _, .base (.str z), kit_ty (show kitB "str" "tuple" = some false by decide +kernel), _, rfl, iteT ?_⟩
      exact q0
    | @lst a xs e =>
      refine ⟨.ref a, rfl, .ref a, .ty "tuple", _, _, false, rfl, .ty _, .base (.lst e), kit_ty (show kitB "list" "tuple" = some false by decide +kernel), _, rfl, iteT ?_⟩
      rw [step_other e (fun _ z => by cases z)] at q0
      exact q0
    | @dK a kvs e =>
      refine ⟨.ref a, rfl, .ref a, .ty "tuple", _, _, false, rfl, .ty _, .base (.dK e), kit_ty (show kitB "dict" "tuple" = some false by decide +kernel), _, rfl, iteT ?_⟩
      rw [step_other e (fun _ z => by cases z)] at q0
      exact q0
    | @tup a xs e =>
      refine ⟨.ref a, rfl, .ref a, .ty "tuple", _, _, true, rfl, .ty _, .base (.tup e), kit_ty (show kitB "tuple" "tuple" = some true by decide +kernel), _, rfl, ?_⟩
      refine iteF ⟨.ref a, rfl, .ref a, xs.length, rfl, .inr ⟨_, .inl (.inl e), rfl⟩, rfl, _, rfl, ?_⟩
      by_cases l3 : xs.length = 3
      · rw [decide_eq_true (show V.int (xs.length : Nat) = V.int 3 by rw [l3]; rfl)]
        obtain ⟨x, y, z, rfl⟩ : ∃ x y z, xs = [x, y, z] := by
          rcases xs with _ | ⟨x, _ | ⟨y, _ | ⟨z, _ | ⟨u, r⟩⟩⟩⟩
          · cases l3
          · cases l3
          · cases l3
          · exact ⟨x, y, z, rfl⟩
          · simp at l3
        have vx := hi a _ rfl e x (by simp)
        have vy := hi a _ rfl e y (by simp)
        have vz := hi a _ rfl e z (by simp)
        have s3 := step3 e
        have sq : ∀ {G : Hp}, Same H G → SqT K G a [x, y, z] := fun s => .inl (.inl (s _ _ e))
        refine iteF ⟨.ref a, rfl, a, _, 0, x, rfl, rfl, sq (Same.refl H), atI_nat (j := 0) rfl, x, rfl, vx, fun H1 s1 => ⟨_, rfl, ?_⟩⟩
        cases hx : stateB x with
        | false =>
          rw [hx] at s3
          refine iteF ?_
          have q1 := q H1 s1
          rw [s3] at q1
          exact q1
        | true =>
          rw [hx, Bool.true_and] at s3
          refine iteT ⟨.ref a, rfl, a, _, 1, y, rfl, rfl, sq s1, atI_nat (j := 1) rfl, y, rfl, vy.mono s1, fun H2 s2 => ⟨_, rfl, ?_⟩⟩
          cases hy : nameB y with
          | false =>
            rw [hy] at s3
            refine iteF ?_
            have q1 := q H2 (s1.trans s2)
            rw [s3] at q1
            exact q1
          | true =>
            rw [hy, Bool.true_and] at s3
            refine iteT ⟨.ref a, rfl, a, _, 2, z, rfl, rfl, sq (s1.trans s2), atI_nat (j := 2) rfl, z, rfl, vz.mono (s1.trans s2), fun H3 s4 => ?_⟩
            have q1 := q H3 (s1.trans (s2.trans s4))
            rw [s3] at q1
            exact q1
      · rw [decide_eq_false (show ¬ V.int (xs.length : Nat) = V.int 3 from fun z => l3 (by have := V.int.inj z; omega))]
        refine iteT ?_
        rw [step_len e l3] at q0
        exact q0

/-! ### a row of steps, right or wrong -/
theorem cnt_more (ss : List KnA.Stp) (st : KnA.Stp) (s : Int) : cnt (ss ++ [st]) s = cnt ss s + if st.1 = s then 1 else 0 := by
  unfold cnt
  rw [List.filter_append, List.length_append]
  by_cases e : st.1 = s
  · rw [if_pos e, List.filter_cons_of_pos (by simp [e])]; rfl
  · rw [if_neg e, List.filter_cons_of_neg (by simp [e])]; rfl
/-- the first wrong place -/
def scan (H : Hp) : List V → List KnA.Stp → Nat → Option Nat
  | [], _, _ => none
  | v :: r, ss, i => match stepOf H v with
    | none => some i
    | some st => if st ∈ ss ∨ 8 ≤ cnt ss st.1 then some i else scan H r (ss ++ [st]) (i + 1)
def itemsOf : Option HO → Option (List V)
  | some (.lst xs) => some xs
  | some (.tup xs) => some xs
  | _ => none
def rowOf (H : Hp) : V → Option (List V)
  | .ref a => itemsOf (H a)
  | _ => none
def stepsBad (H : Hp) (v : V) : Option Int := match rowOf H v with
  | none => some (-1)
  | some xs => if 1 ≤ xs.length ∧ xs.length ≤ 80 then (scan H xs [] 0).map Int.ofNat else some (-1)
def sp_is_row (K : PySem.W.Frag) : Sp := fun vs H Q _ => ∃ v, vs = [v] ∧ Val K H v ∧ ∀ H', Same H H' → Q (.bl (rowOf H v).isSome) H'
def sx_check_steps (K : PySem.W.Frag) (ce : Es) : Sp := fun vs H Q E => ∃ v, vs = [v] ∧ Val K H v ∧ (∀ xs, rowOf H v = some xs → ∀ x ∈ xs, Val2 K H x) ∧
  (stepsBad H v = none → ∀ H', Same H H' → Q .non H') ∧ ∀ i, stepsBad H v = some i → ∀ H' d, Same H H' → H' d = none → E (.ref ce.sp) (some d) (upd H' d (.xd [("at", .int i)]))
theorem ok_is_row {f : Addr} {C : Addr} {fd : FuncData} (T : Txt K mg C) (F : Fun K "is_row" "is_row" s_is_row f fd)  : FnOk P w K mg base CX0 1 f fd ["value"] (sp_is_row K) := by
  have nd := sc_is_row.nd
  refine F.ok sc_is_row (fun vs H Q E h => ?_) (fun cdv A outer s H vs Q E hr h => ?_)
  · obtain ⟨v, rfl, _⟩ := h
    rfl
  · obtain ⟨v, rfl, hv, q⟩ := h
    refine ⟨_, (pss_one (ps_ret (pe_callB call_isiT (by rfl) T.m_isinstance (by decide +kernel) (pa_cons (pv 0) (pa_cons (pe_tup (pa_cons (pe_bltn (v := .ty "list") (u := .type "list") (by rfl) T.m_list (by decide +kernel) rfl) (pa_cons (pe_bltn (v := .ty "tuple") (u := .type "tuple") (by rfl) T.m_tuple (by decide +kernel) rfl) pa_nil))) pa_nil))))), ?_⟩
    refine ⟨v, rfl, szl rfl, fun p np => ?_⟩
    have sp := same_upd (o := .tup [.ty "list", .ty "tuple"]) np
    have q' := q _ sp
    have hv' := hv.mono sp
    have both : ∀ {t : Value} (b1 b2 : Bool), TyX K (upd H p (.tup [.ty "list", .ty "tuple"])) v t → PySem.W.kitOne K t (.type "list") = some b1 → PySem.W.kitOne K t (.type "tuple") = some b2 → (rowOf H v).isSome = (b1 || b2) →
        ∃ (x : V) (tp : Addr) (cs : List V) (t : Value) (us : List Value) (b : Bool), [v, V.ref p] = [x, .ref tp] ∧ (upd H p (.tup [.ty "list", .ty "tuple"])) tp = some (.tup cs) ∧ Paired ClsV cs us ∧ TyX K (upd H p (.tup [.ty "list", .ty "tuple"])) x t ∧ PySem.W.kitAny K t us = some b ∧ Q (.bl b) (upd H p (.tup [.ty "list", .ty "tuple"])) := fun b1 b2 ht k1 k2 e => by
      refine ⟨v, p, [.ty "list", .ty "tuple"], _, [.type "list", .type "tuple"], b1 || b2, rfl, upd_same, .cons (.ty _) (.cons (.ty _) .nil), ht, ?_, by rw [← e]; exact q'⟩
      refine kitAny_cons k1 (fun z => ?_) (fun z => by rw [z]; rfl)
      refine kitAny_cons k2 (fun z2 => by rw [z, z2]; rfl) (fun z2 => by rw [z, z2]; rfl)
    cases hv with
    | non => exact both false false (.base .non) (kit_ty (show kitB "NoneType" "list" = some false by decide +kernel)) (kit_ty (show kitB "NoneType" "tuple" = some false by decide +kernel)) rfl
    | bl b => exact both false false (.base (.bl b)) (kit_ty (show kitB "bool" "list" = some false by decide +kernel)) (kit_ty (show kitB "bool" "tuple" = some false by decide +kernel)) rfl
    | int i => exact both false false (.base (.int i)) (kit_ty (show kitB "int" "list" = some false by decide +kernel)) (kit_ty (show kitB "int" "tuple" = some false by decide +kernel)) rfl
    | str z h => exact both false false (.base (.str z)) (kit_ty (show kitB "str" "list" = some false by decide +kernel)) (kit_ty (show kitB "str" "tuple" = some false by decide +kernel)) rfl
    | @lst a xs e => exact both true false (.base (.lst (sp _ _ e))) (kit_ty (show kitB "list" "list" = some true by decide +kernel)) (kit_ty (show kitB "list" "tuple" = some false by decide +kernel)) (by show (itemsOf (H a)).isSome = _; rw [e]; rfl)
    | @tup a xs e => exact both false true (.base (.tup (sp _ _ e))) (kit_ty (show kitB "tuple" "list" = some false by decide +kernel)) (kit_ty (show kitB "tuple" "tuple" = some true by decide +kernel)) (by show (itemsOf (H a)).isSome = _; rw [e]; rfl)
    | @dK a kvs e => exact both false false (.base (.dK (sp _ _ e))) (kit_ty (show kitB "dict" "list" = some false by decide +kernel)) (kit_ty (show kitB "dict" "tuple" = some false by decide +kernel)) (by show (itemsOf (H a)).isSome = _; rw [e]; rfl)
theorem stepOf_mono {K : PySem.W.Frag} {H H' : Hp} {v : V} (h : Val K H v) (s : Same H H') : stepOf H' v = stepOf H v := by
  cases h with
  | lst e => show tupOf _ = tupOf _; rw [e, s _ _ e]
  | tup e => show tupOf _ = tupOf _; rw [e, s _ _ e]
  | dK e => show tupOf _ = tupOf _; rw [e, s _ _ e]
  | _ => rfl
theorem Val2.mono {K : PySem.W.Frag} {H H' : Hp} {v : V} (h : Val2 K H v) (s : Same H H') : Val2 K H' v := by
  refine ⟨h.1.mono s, fun a xs e ha x hx => ?_⟩
  obtain ⟨h1, h2⟩ := h
  subst e
  cases h1 with
  | lst e => rw [s _ _ e] at ha; cases ha
  | tup e => rw [s _ _ e] at ha; cases ha; exact (h2 a xs rfl e x hx).mono s
  | dK e => rw [s _ _ e] at ha; cases ha
theorem row_at2 {H : Hp} {v : V} {xs : List V} (h : rowOf H v = some xs) : ∃ b a, v = .ref a ∧ H a = some (rowO b xs) := by
  cases v with
  | ref a =>
    have h' : itemsOf (H a) = some xs := h
    cases e : H a with
    | none => rw [e] at h'; cases h'
    | some o =>
      rw [e] at h'
      cases o with
      | lst ys => cases h'; exact ⟨true, a, rfl, e⟩
      | tup ys => cases h'; exact ⟨false, a, rfl, e⟩
      | _ => cases h'
  | _ => cases h
theorem drop_at {α : Type} {xs : List α} {i : Nat} {x : α} (h : xs[i]? = some x) : xs.drop i = x :: xs.drop (i + 1) := by
  obtain ⟨hi, e⟩ := List.getElem?_eq_some_iff.mp h
  rw [List.drop_eq_getElem_cons hi, e]
theorem ok_check_steps {f : Addr} {C : Addr} {ce : Es} {fd : FuncData} (T : Txt K mg C) (F : Fun K "check_steps" "check_steps" s_check_steps f fd) (c_BadSteps : KnX.Err P w K mg base 1 "BadSteps" ce.sp "at") (c_is_row : Cal P w K mg base 1 "is_row" (sp_is_row K) []) (c_is_step : Cal P w K mg base 3 "is_step" (sp_is_step K) []) : FnOk P w K mg base (L2.CX P w) 4 f fd ["steps"] (sx_check_steps K ce) := by
  have nd := sc_check_steps.nd
  refine F.okX sc_check_steps (fun vs H Q E h => ?_) (fun cdv A outer s H vs Q E hr h => ?_)
  · obtain ⟨v, rfl, _⟩ := h
    rfl
  · obtain ⟨v, rfl, hv, hi, qn, qe⟩ := h
    refine ⟨_, (pss_cons (ps_if (PW.pt (pw_or (pt_not (pt_val (pe_c c_is_row hr (by omega) (by rfl) (pa_cons (pv 0) pa_nil)))) (pw_or1 (pt_not (pt_chain op_le op_le pe_int (pe_callB call_len (by rfl) T.m_len (by decide +kernel) (pa_cons (pv 0) pa_nil)) (pe_gc (by rfl) T.c_MOST_STEPS)))))) (pss_one (KnX.ps_err rfl (takes_of rfl rfl rfl rfl) c_BadSteps hr (by omega) (by rfl) (pa_cons (pe_un un_neg pe_int) pa_nil))) pss_nil)
      (pss_cons (ps_set (i := 1) nd rfl (.inl rfl) pe_dnewT)
      (pss_cons (ps_set (i := 2) nd rfl (.inl rfl) pe_dnewK)
      (pss_one (ps_for (passes_of rfl) rfl (KnE.pi_en (by rfl) T.m_enumerate (pa_cons (pv 0) pa_nil)) (pg_tup (by rfl) (pgs_cons (pg_name (i := 3) nd rfl (.inl rfl)) (pgs_cons (pg_name (i := 4) nd rfl (.inl rfl)) pgs_nil))) (pss_cons (ps_if (PW.pt (pw_or (pt_not (pt_val (pe_c c_is_step hr (by omega) (by rfl) (pa_cons (pv 4) pa_nil)))) (pw_or1 (pt_cmp (pc_din (hu_of hr) (pv 4) (pv 1)))))) (pss_one (KnX.ps_err rfl (takes_of rfl rfl rfl rfl) c_BadSteps hr (by omega) (by rfl) (pa_cons (pv 3) pa_nil))) pss_nil)
      (pss_cons (ps_dput (hu_of hr) (pv 1) (pv 4) pe_bl rfl)
      (pss_cons (ps_dput (hu_of hr) (pv 2) (pe_ix (r := rIxT K) ix_tup (pv 4) pe_int (fun _ _ => rfl)) (pe_op op_add (pe_dget2 (hu_of hr) (pv 2) (pe_ix (r := rIxT K) ix_tup (pv 4) pe_int (fun _ _ => rfl)) pe_int ⟨rfl, rfl, rfl, rfl⟩) pe_int) rfl)
      (pss_one (ps_if (pt_cmpR op_gt (pe_dget (hu_of hr) (pv 2) (pe_ix (r := rIxT K) ix_tup (pv 4) pe_int (fun _ _ => rfl)) (fun _ _ => rfl)) (pe_gc (by rfl) T.c_MOST_LEAVING) (nomark _)) (pss_one (KnX.ps_err rfl (takes_of rfl rfl rfl rfl) c_BadSteps hr (by omega) (by rfl) (pa_cons (pv 3) pa_nil))) pss_nil)))))))))), ?_⟩
    refine ⟨v, rfl, v, rfl, hv, fun H1 s1 => ⟨_, rfl, ?_⟩⟩
    cases er : rowOf H v with
    | none =>
      have bad : stepsBad H v = some (-1) := by unfold stepsBad; rw [er]
      refine iteT ?_
      exact ⟨1, rfl, KnX.mk_err fun d nd => qe _ bad H1 d s1 nd⟩
    | some xs =>
      obtain ⟨b, a, rfl, ha⟩ := row_at2 er
      have hx2 := hi xs er
      have lenS : LenV K (.ref a) H1 xs.length := row_len (s1 _ _ ha)
      have badL : ¬ (1 ≤ xs.length ∧ xs.length ≤ 80) → stepsBad H (.ref a) = some (-1) := fun n => by unfold stepsBad; rw [er]; exact if_neg n
      refine iteF ⟨.ref a, rfl, .ref a, xs.length, rfl, lenS, 1, (xs.length : Int), rfl, rfl, _, rfl, ?_⟩
      by_cases l1 : (1 : Int) ≤ (xs.length : Int)
      · rw [decide_eq_true l1]
        refine iteT ⟨(xs.length : Int), 80, rfl, rfl, _, rfl, ?_⟩
        by_cases l2 : (xs.length : Int) ≤ 80
        · rw [decide_eq_true l2]
          refine iteF ?_
          have l12 : 1 ≤ xs.length ∧ xs.length ≤ 80 := by omega
          have eb : stepsBad H (.ref a) = (scan H xs [] 0).map Int.ofNat := by unfold stepsBad; rw [er]; exact if_pos l12
          rw [eb] at qn qe
          refine fun d nD c nC => ?_
          have s2 := same_upd (o := .dT []) nD
          have s3 := same_upd (o := .dK []) nC
          have nDC : d ≠ c := fun e => by rw [e, upd_same] at nC; cases nC
          have nDH : H d = none := s1.free nD
          have nCH : H c = none := s1.free (s2.free nC)
          have S0 : Same H (upd (upd H1 d (.dT [])) c (.dK [])) := s1.trans (s2.trans s3)
          refine ⟨.ref a, rfl, a, b, xs, rfl, row_sq (S0 _ _ ha), ?_⟩
          refine KnE.for_en (K := K) (fun i σ H' => ∃ (y3 y4 : Option V) (ss : List KnA.Stp), σ = [some (.ref a), some (.ref d), some (.ref c), y3, y4] ∧ Same H H' ∧ scan H (xs.drop i) ss i = scan H xs [] 0 ∧ ss.length = i ∧ (∃ kvs, H' d = some (.dT kvs) ∧ kvs.length ≤ i ∧ ∀ k, k ∈ kvs.map (·.1) ↔ k ∈ ss.map key3) ∧
              ∃ cs, H' c = some (.dK cs) ∧ cs.length ≤ i ∧ ∀ s : Int, valV cs (.inl s) = if cnt ss s = 0 then none else some (.int (cnt ss s)))
            ⟨none, none, [], rfl, S0, rfl, rfl, ⟨[], (upd_ne nDC).trans upd_same, Nat.le_refl _, fun k => Iff.rfl⟩, [], upd_same, Nat.le_refl _, fun s => rfl⟩ (fun i σ H' _ hP => row_sq (hP.choose_spec.choose_spec.choose_spec.2.1 _ _ ha)) (fun i x T σ H' hx nT hP => ?_) (fun σ H' hP => ?_)
          · obtain ⟨y3, y4, ss, rfl, S, sc, lss, ⟨kvs, ed, lk, mk⟩, cs, ec, lc, vc⟩ := hP
            have hi80 : i < xs.length := (List.getElem?_eq_some_iff.mp hx).1
            have hvx := hx2 x (List.mem_of_getElem? hx)
            rw [drop_at hx] at sc
            have sT := same_upd (o := .tup [.int (i : Nat), x]) nT
            have S' : Same H (upd H' T (.tup [.int (i : Nat), x])) := S.trans sT
            have ed' := sT _ _ ed
            have ec' := sT _ _ ec
            have eT : (upd H' T (.tup [.int (i : Nat), x])) T = some (.tup [.int (i : Nat), x]) := upd_same
            generalize upd H' T (.tup [.int (i : Nat), x]) = H2 at S' ed' ec' eT ⊢
            refine ⟨T, [.int (i : Nat), x], rfl, .inl (.inl eT), rfl, .int (i : Nat), [x], rfl, x, [], rfl, rfl, ?_⟩
            have em : stepOf H2 x = stepOf H x := stepOf_mono hvx.1 S'
            refine ⟨x, rfl, x, rfl, hvx.mono S', fun H3 s3' => ⟨_, rfl, ?_⟩⟩
            rw [em]
            have S3 : Same H H3 := S'.trans s3'
            cases es : stepOf H x with
            | none =>
              have sc' : (some i : Option Nat) = scan H xs [] 0 := by
                rw [← sc]
                show some i = (match stepOf H x with | none => some i | some st => if st ∈ ss ∨ 8 ≤ cnt ss st.1 then some i else scan H (xs.drop (i + 1)) (ss ++ [st]) (i + 1))
                rw [es]
              refine iteT ?_
              exact ⟨.int (i : Nat), rfl, KnX.mk_err fun d' nd' => qe (i : Nat) (by rw [← sc']; rfl) H3 d' S3 nd'⟩
            | some st =>
              have sc2 : scan H xs [] 0 = if st ∈ ss ∨ 8 ≤ cnt ss st.1 then some i else scan H (xs.drop (i + 1)) (ss ++ [st]) (i + 1) := by
                rw [← sc]
                show (match stepOf H x with | none => some i | some st => if st ∈ ss ∨ 8 ≤ cnt ss st.1 then some i else scan H (xs.drop (i + 1)) (ss ++ [st]) (i + 1)) = _
                rw [es]
              obtain ⟨ai, rfl, hai, g1, g2, g3⟩ := step_is es
              have ed3 := s3' _ _ ed'
              have ec3 := s3' _ _ ec'
              have hai3 := S3 _ _ hai
              refine iteF ⟨.ref ai, rfl, .ref d, rfl, d, valV kvs (key3 st), rfl, DGet.t ed3 hai3, _, rfl, ?_⟩
              by_cases old : st ∈ ss
              · have yes : (valV kvs (key3 st)).isSome = true := valT_in.mpr ((mk _).mpr (List.mem_map.mpr ⟨st, old, rfl⟩))
                rw [yes]
                refine iteT ?_
                exact ⟨.int (i : Nat), rfl, KnX.mk_err fun d' nd' => qe (i : Nat) (by rw [sc2, if_pos (.inl old)]; rfl) H3 d' S3 nd'⟩
              · have no : valV kvs (key3 st) = none := by
                  cases e : valV kvs (key3 st) with
                  | none => rfl
                  | some u =>
                    obtain ⟨u', hu, e'⟩ := List.mem_map.mp ((mk _).mp (valT_in.mp (by rw [e]; rfl)))
                    rw [key3_inj e'] at hu
                    exact absurd hu old
                rw [no]
                refine iteF ?_
                refine ⟨.ref d, rfl, .ref ai, rfl, d, _, rfl, DPut.t (k := key3 st) ed3 hai3 (small (by omega)), ?_⟩
                have ec4 : (upd H3 d (.dT (putK kvs (key3 st) (.bl true)))) c = some (.dK cs) := (upd_ne nDC.symm).trans ec3
                have nAi : ai ≠ d := ne_of hai3 ed3 (fun z => by cases z)
                have hai4 : (upd H3 d (.dT (putK kvs (key3 st) (.bl true)))) ai = some (.tup [.int st.1, .str st.2.1, .int st.2.2]) := (upd_ne nAi).trans hai3
                have ed4 : (upd H3 d (.dT (putK kvs (key3 st) (.bl true)))) d = some (.dT (putK kvs (key3 st) (.bl true))) := upd_same
                have S4 : Same H (upd H3 d (.dT (putK kvs (key3 st) (.bl true)))) := same_set nDH S3
                generalize upd H3 d (.dT (putK kvs (key3 st) (.bl true))) = H4 at ec4 hai4 ed4 S4 ⊢
                have sq4 : SqT K H4 ai [.int st.1, .str st.2.1, .int st.2.2] := .inl (.inl hai4)
                have get0 : (valV cs (.inl st.1)).getD (.int 0) = .int (cnt ss st.1 : Nat) := by
                  rw [vc]
                  by_cases z : cnt ss st.1 = 0
                  · rw [if_pos z, z]; rfl
                  · rw [if_neg z]; rfl
                refine ⟨.ref c, rfl, c, rfl, .inl ⟨cs, .inl ec4⟩, .ref ai, rfl, ai, _, 0, .int st.1, rfl, rfl, sq4, atI_nat (j := 0) rfl, valV cs (.inl st.1), DGet.k (k := .inl st.1) ec4, (cnt ss st.1 : Nat), 1, get0, rfl, ?_⟩
                refine ⟨.ref c, rfl, .ref ai, rfl, ai, _, 0, .int st.1, rfl, rfl, sq4, atI_nat (j := 0) rfl, c, _, rfl, DPut.k (k := .inl st.1) ec4 (small (by omega)), ?_⟩
                have nAc : ai ≠ c := ne_of hai4 ec4 (fun z => by cases z)
                have v1 : (V.int ((cnt ss st.1 : Nat) + 1) : V) = .int (cnt (ss ++ [st]) st.1 : Nat) := by rw [cnt_more, if_pos rfl]; rfl
                have vnew : ∀ s : Int, valV (putK cs (.inl st.1) (.int ((cnt ss st.1 : Nat) + 1))) (.inl s) = if cnt (ss ++ [st]) s = 0 then none else some (.int (cnt (ss ++ [st]) s)) := fun s => by
                  rw [valV_put]
                  by_cases e : s = st.1
                  · subst e
                    rw [if_pos rfl, v1, if_neg (by rw [cnt_more, if_pos rfl]; omega)]
                  · have e0 : cnt (ss ++ [st]) s = cnt ss s := by rw [cnt_more, if_neg (fun z => e z.symm)]; rfl
                    rw [if_neg (fun z => e (Sum.inl.inj z)), vc, e0]
                have ec5 : (upd H4 c (.dK (putK cs (.inl st.1) (.int ((cnt ss st.1 : Nat) + 1))))) c = some (.dK (putK cs (.inl st.1) (.int ((cnt ss st.1 : Nat) + 1)))) := upd_same
                have ed5 : (upd H4 c (.dK (putK cs (.inl st.1) (.int ((cnt ss st.1 : Nat) + 1))))) d = some (.dT (putK kvs (key3 st) (.bl true))) := (upd_ne nDC).trans ed4
                have hai5 : (upd H4 c (.dK (putK cs (.inl st.1) (.int ((cnt ss st.1 : Nat) + 1))))) ai = some (.tup [.int st.1, .str st.2.1, .int st.2.2]) := (upd_ne nAc).trans hai4
                have S5 : Same H (upd H4 c (.dK (putK cs (.inl st.1) (.int ((cnt ss st.1 : Nat) + 1))))) := same_set nCH S4
                have l5 := length_putK cs (.inl st.1) (.int ((cnt ss st.1 : Nat) + 1))
                generalize upd H4 c (.dK (putK cs (.inl st.1) (.int ((cnt ss st.1 : Nat) + 1)))) = H5 at ec5 ed5 hai5 S5 ⊢
                have g5 := vnew st.1
                have one : cnt (ss ++ [st]) st.1 = cnt ss st.1 + 1 := by rw [cnt_more, if_pos rfl]
                rw [if_neg (by omega)] at g5
                refine ⟨.ref c, rfl, .ref ai, rfl, ai, _, 0, .int st.1, rfl, rfl, .inl (.inl hai5), atI_nat (j := 0) rfl, c, .int (cnt (ss ++ [st]) st.1 : Nat), rfl, ?_, (cnt (ss ++ [st]) st.1 : Nat), 8, rfl, rfl, _, rfl, ?_⟩
                · have dg := DGet.k (k := .inl st.1) ec5
                  rw [g5] at dg
                  exact dg
                · by_cases many : 8 ≤ cnt ss st.1
                  · rw [decide_eq_true (show (8 : Int) < (cnt (ss ++ [st]) st.1 : Nat) by omega)]
                    refine iteT ?_
                    exact ⟨.int (i : Nat), rfl, KnX.mk_err fun d' nd' => qe (i : Nat) (by rw [sc2, if_pos (.inr many)]; rfl) H5 d' S5 nd'⟩
                  · rw [decide_eq_false (show ¬ (8 : Int) < (cnt (ss ++ [st]) st.1 : Nat) by omega)]
                    rw [if_neg (fun z => z.elim old many)] at sc2
                    refine iteF ⟨_, _, ss ++ [st], rfl, S5, sc2.symm, by rw [List.length_append, lss]; rfl, ⟨_, ed5, ?_, fun k => ?_⟩, _, ec5, by omega, vnew⟩
                    · have := length_putK kvs (key3 st) (.bl true)
                      omega
                    · rw [putK_new _ no, List.map_append, List.mem_append, mk, List.map_append, List.mem_append]
                      exact Iff.rfl
          · obtain ⟨y3, y4, ss, rfl, S, sc, lss, _⟩ := hP
            rw [List.drop_of_length_le (Nat.le_refl _)] at sc
            exact qn (by rw [← sc]; rfl) H' S
        · rw [decide_eq_false l2]
          refine iteT ?_
          exact ⟨1, rfl, KnX.mk_err fun d nd => qe _ (badL (by omega)) H1 d s1 nd⟩
      · rw [decide_eq_false l1]
        refine iteF ⟨_, rfl, iteT ?_⟩
        exact ⟨1, rfl, KnX.mk_err fun d nd => qe _ (badL (by omega)) H1 d s1 nd⟩

/-! ### faults, right or wrong -/
/-- the first wrong word -/
def fscan (ws : List Str) : List (Str × Str) → List Key → Option Str
  | [], _ => none
  | p :: r, seen => if ¬ (nameB (.str p.1) = true ∧ p.1 ∈ ws ∧ nameB (.str p.2) = true) then some p.1
      else if 3 < (KnS.addL seen (.inr p.2)).length then some p.1 else fscan ws r (KnS.addL seen (.inr p.2))
def sx_check_faults (K : PySem.W.Frag) (ce : Es) : Sp := fun vs H Q E => ∃ (v : V) (fs : List (Str × Str)) (l : Addr) (ws : List Str), vs = [v, .ref l] ∧ FArg H v fs ∧ H l = some (.lst (ws.map V.str)) ∧ (∀ p ∈ fs, p.1.cps.size ≤ 100 ∧ p.2.cps.size ≤ 100) ∧ fs.length ≤ 1000 ∧
  (fscan ws fs [] = none → ∀ H', Same H H' → Q .non H') ∧ ∀ x, fscan ws fs [] = some x → ∀ H' d, Same H H' → H' d = none → E (.ref ce.fa) (some d) (upd H' d (.xd [("word", .str x)]))
theorem ok_check_faults {f : Addr} {C : Addr} {ce : Es} {fd : FuncData} (T : Txt K mg C) (F : Fun K "check_faults" "check_faults" s_check_faults f fd) (c_BadFaults : KnX.Err P w K mg base 1 "BadFaults" ce.fa "word") (c_is_name : Cal P w K mg base 1 "is_name" (sp_is_name K) []) : FnOk P w K mg base (L2.CX P w) 3 f fd ["faults", "words"] (sx_check_faults K ce) := by
  have nd := sc_check_faults.nd
  refine F.okX sc_check_faults (fun vs H Q E h => ?_) (fun cdv A outer s H vs Q E hr h => ?_)
  · obtain ⟨v, fs, l, ws, rfl, _⟩ := h
    rfl
  · obtain ⟨v, fs, l, ws, rfl, hf, hl, hz, lenf, qn, qe⟩ := h
    refine ⟨_, (pss_cons (ps_if (pt_cmpR op_isN (pv 0) pe_non (nomark _)) (pss_one (ps_retN)) pss_nil)
      (pss_cons (ps_if (pt_not (pt_val (pe_callB call_isi (by rfl) T.m_isinstance (by decide +kernel) (pa_cons (pv 0) (pa_cons (pe_bltn (v := .ty "dict") (u := .type "dict") (by rfl) T.m_dict (by decide +kernel) rfl) pa_nil))))) (pss_one (KnX.ps_err rfl (takes_of rfl rfl rfl rfl) c_BadFaults hr (by omega) (by rfl) (pa_cons pe_non pa_nil))) pss_nil)
      (pss_cons (ps_set (i := 2) nd rfl (.inl rfl) pe_dnewK)
      (pss_one (ps_lock (ps_for (passes_of rfl) rfl (pi_items (pv 0)) (pg_tup (by rfl) (pgs_cons (pg_name (i := 3) nd rfl (.inl rfl)) (pgs_cons (pg_name (i := 4) nd rfl (.inl rfl)) pgs_nil))) (pss_cons (ps_if (PW.pt (pw_or (pt_not (pt_val (pe_c c_is_name hr (by omega) (by rfl) (pa_cons (pv 3) pa_nil)))) (pw_or (pt_cmpR op_notIn_seq (pv 3) (pv 1) (by with_unfolding_all rfl)) (pw_or1 (pt_not (pt_val (pe_c c_is_name hr (by omega) (by rfl) (pa_cons (pv 4) pa_nil)))))))) (pss_one (KnX.ps_err rfl (KnX.takes_un (takes_of rfl rfl rfl rfl)) c_BadFaults hr (by omega) (by rfl) (pa_cons (pv 3) pa_nil))) pss_nil)
      (pss_cons (ps_dput (hu_of hr) (pv 2) (pv 4) pe_bl rfl)
      (pss_one (ps_if (pt_cmpR op_gt (pe_callB call_lenD (by rfl) T.m_len (by decide +kernel) (pa_cons (pv 2) pa_nil)) (pe_gc (by rfl) T.c_MOST_FAULTS) (nomark _)) (pss_one (KnX.ps_err rfl (KnX.takes_un (takes_of rfl rfl rfl rfl)) c_BadFaults hr (by omega) (by rfl) (pa_cons (pv 3) pa_nil))) pss_nil)))))))))), ?_⟩
    rcases hf with ⟨rfl, rfl⟩ | ⟨d, rfl, hd⟩
    · exact ⟨.non, rfl, rfl, _, rfl, iteT (qn rfl H (Same.refl H))⟩
    · refine ⟨.ref d, rfl, rfl, _, rfl, iteF ?_⟩
      refine ⟨.ref d, rfl, .ref d, .ty "dict", _, _, true, rfl, .ty _, .base (.dK hd), kit_ty (show kitB "dict" "dict" = some true by decide +kernel), _, rfl, iteF ?_⟩
      refine fun c nC => ?_
      have S0 := same_upd (o := .dK []) nC
      have nDC : d ≠ c := ne_of_none hd nC
      have ed0 := S0 _ _ hd
      have ec0 := upd_same (H := H) (a := c) (o := .dK [])
      generalize upd H c (.dK []) = H0 at S0 ed0 ec0 ⊢
      refine ⟨d, .dK (fkv fs), ed0, trivial, fun od => ?_⟩
      have back : ∀ {H' : Hp}, (∀ b o, b ≠ d → H b = some o → H' b = some o) → Same H (upd H' d (.dK (fkv fs))) := fun k b o e => by
        by_cases z : b = d
        · rw [z] at e ⊢
          rw [hd] at e
          cases e
          exact upd_same
        · rw [upd_ne z]; exact k b o z e
      have nofz : ∀ (o' : Obj) (u' : HO), H d ≠ some (.frz o' u') := fun o' u' z => by rw [hd] at z; cases z
      -- the way out
      have out : ∀ {H' : Hp} {x : Str} {τ : L2.St}, (∀ b o, b ≠ d → H b = some o → H' b = some o) → H' d = some (.frz od (.dK (fkv fs))) → fscan ws fs [] = some x → ∀ d', H' d' = none → KnX.wUn H (fun cls d _ H' => E cls d H') (.ref ce.fa) (some d') τ (upd H' d' (.xd [("word", .str x)])) := fun {H' x τ} k hf bad d' nd' => by
        have ne : d ≠ d' := ne_of_none hf nd'
        refine ⟨d, .dK (fkv fs), od, nofz, (upd_ne ne).trans hf, ?_⟩
        rw [KnX.upd_swap (Ne.symm ne)]
        exact qe x bad _ d' (back k) ((upd_ne (Ne.symm ne)).trans nd')
      refine ⟨.ref d, rfl, d, od, fkv fs, rfl, upd_same, ?_⟩
      refine for_items (fun i σ H' => ∃ y3 y4, σ = [some (.ref d), some (.ref l), some (.ref c), y3, y4] ∧ H' d = some (.frz od (.dK (fkv fs))) ∧ (∀ b o, b ≠ d → H b = some o → H' b = some o) ∧ ∃ cs, H' c = some (.dK cs) ∧ cs.length ≤ i ∧ fscan ws (fs.drop i) (cs.map (·.1)) = fscan ws fs [])
        ⟨none, none, rfl, upd_same, fun b o z e => (upd_ne z).trans (S0 _ _ e), [], (upd_ne nDC.symm).trans ec0, Nat.le_refl _, rfl⟩ (fun i σ H' _ hP => hP.choose_spec.choose_spec.2.1) (fun i k v T σ H' hx nT hP => ?_) (fun σ H' hP => ?_)
      · obtain ⟨y3, y4, rfl, ed, S, cs, ec, lc, sc⟩ := hP
        obtain ⟨x, y, gx, rfl, rfl⟩ := fkv_get hx
        obtain ⟨zx, zy⟩ := hz _ (List.mem_of_getElem? gx)
        have hi : i < fs.length := (List.getElem?_eq_some_iff.mp gx).1
        rw [drop_at gx] at sc
        have sT := same_upd (o := .tup [.str x, .str y]) nT
        have ed2 := sT _ _ ed
        have ec2 := sT _ _ ec
        have S2 : ∀ b o, b ≠ d → H b = some o → (upd H' T (.tup [.str x, .str y])) b = some o := fun b o z e => sT _ _ (S b o z e)
        have eT : (upd H' T (.tup [.str x, .str y])) T = some (.tup [.str x, .str y]) := upd_same
        show gTup _ _ _ _ _ (upd H' T (.tup [.str x, .str y])) _
        generalize upd H' T (.tup [.str x, .str y]) = H2 at ed2 ec2 S2 eT ⊢
        refine ⟨T, [.str x, .str y], rfl, .inl (.inl eT), rfl, .str x, [.str y], rfl, .str y, [], rfl, rfl, ?_⟩
        have wrong : ¬ (nameB (.str x) = true ∧ x ∈ ws ∧ nameB (.str y) = true) → fscan ws fs [] = some x := fun n => by
          rw [← sc]
          show (if ¬ (nameB (.str x) = true ∧ x ∈ ws ∧ nameB (.str y) = true) then some x else _) = _
          rw [if_pos n]
        refine ⟨.str x, rfl, .str x, rfl, .str x zx, fun H3 s3 => ⟨_, rfl, ?_⟩⟩
        have nlc : l ≠ d := ne_of hl hd (fun z => by cases z)
        have S3 : ∀ b o, b ≠ d → H b = some o → H3 b = some o := fun b o z e => s3 _ _ (S2 b o z e)
        cases b1 : nameB (.str x) with
        | false => exact iteT ⟨.str x, rfl, KnX.mk_err (Q := fun cls dd G => KnX.wUn H (fun cls d _ H' => E cls d H') cls dd _ G) fun d' nd' => out S3 (s3 _ _ ed2) (wrong (fun z => by rw [b1] at z; cases z.1)) d' nd'⟩
        | true =>
          have hl3 : H3 l = some (.lst (ws.map V.str)) := S3 l _ nlc hl
          refine iteF ⟨.str x, rfl, .ref l, rfl, l, ws.map V.str, rfl, .inl (.inl (.inl hl3)), rfl, flat_ws ws, _, rfl, ?_⟩
          show if (!inV (.str x) (ws.map V.str)) = true then _ else _
          rw [inV_strs]
          by_cases b2 : x ∈ ws
          · rw [decide_eq_true b2]
            refine iteF ⟨.str y, rfl, .str y, rfl, .str y zy, fun H4 s4 => ⟨_, rfl, ?_⟩⟩
            have S4 : ∀ b o, b ≠ d → H b = some o → H4 b = some o := fun b o z e => s4 _ _ (S3 b o z e)
            have ec4 := s4 _ _ (s3 _ _ ec2)
            have ed4 := s4 _ _ (s3 _ _ ed2)
            cases b3 : nameB (.str y) with
            | false => exact iteT ⟨.str x, rfl, KnX.mk_err (Q := fun cls dd G => KnX.wUn H (fun cls d _ H' => E cls d H') cls dd _ G) fun d' nd' => out S4 ed4 (wrong (fun z => by rw [b3] at z; cases z.2.2)) d' nd'⟩
            | true =>
              have right : fscan ws fs [] = if 3 < (KnS.addL (cs.map (·.1)) (.inr y)).length then some x else fscan ws (fs.drop (i + 1)) (KnS.addL (cs.map (·.1)) (.inr y)) := by
                rw [← sc]
                show (if ¬ (nameB (.str x) = true ∧ x ∈ ws ∧ nameB (.str y) = true) then some x else _) = _
                rw [if_neg (fun z => z ⟨b1, b2, b3⟩)]
              refine iteF ⟨.ref c, rfl, .str y, rfl, c, _, rfl, DPut.k (k := .inr y) ec4 (small (by omega)), ?_⟩
              have kn : (putK cs (.inr y) (.bl true)).map (·.1) = KnS.addL (cs.map (·.1)) (.inr y) := putK_keys
              rw [← kn, List.length_map] at right
              have S5 : ∀ b o, b ≠ d → H b = some o → (upd H4 c (.dK (putK cs (.inr y) (.bl true)))) b = some o := fun b o z e => (upd_ne (ne_of_none e nC)).trans (S4 b o z e)
              have ed5 := (upd_ne (o := .dK (putK cs (.inr y) (.bl true))) nDC).trans ed4
              refine ⟨.ref c, rfl, c, putK cs (.inr y) (.bl true), rfl, upd_same, ((putK cs (.inr y) (.bl true)).length : Int), 3, rfl, rfl, _, rfl, ?_⟩
              by_cases b4 : 3 < (putK cs (.inr y) (.bl true)).length
              · rw [decide_eq_true (show (3 : Int) < ((putK cs (.inr y) (.bl true)).length : Int) by omega)]
                rw [if_pos b4] at right
                exact iteT ⟨.str x, rfl, KnX.mk_err (Q := fun cls dd G => KnX.wUn H (fun cls d _ H' => E cls d H') cls dd _ G) fun d' nd' => out S5 ed5 right d' nd'⟩
              · rw [decide_eq_false (show ¬ (3 : Int) < ((putK cs (.inr y) (.bl true)).length : Int) by omega)]
                rw [if_neg b4] at right
                refine iteF ⟨_, _, rfl, ed5, S5, _, upd_same, ?_, right.symm⟩
                have := length_putK cs (.inr y) (.bl true)
                omega
          · rw [decide_eq_false b2]
            exact iteT ⟨.str x, rfl, KnX.mk_err (Q := fun cls dd G => KnX.wUn H (fun cls d _ H' => E cls d H') cls dd _ G) fun d' nd' => out S3 (s3 _ _ ed2) (wrong (fun z => b2 z.2.1)) d' nd'⟩
      · obtain ⟨y3, y4, rfl, ed, S, cs, ec, lc, sc⟩ := hP
        have lf : (fkv fs).length = fs.length := List.length_map _
        rw [lf, List.drop_of_length_le (Nat.le_refl _)] at sc
        exact ⟨ed, qn (by rw [← sc]; rfl) _ (back S)⟩

/-! ### moves by state -/
/-- the moves that leave s, in order -/
def mv (ss : List KnA.Stp) (s : Int) : List (Str × Int) := (ss.filter fun x => decide (x.1 = s)).map (·.2)
theorem mv_take {ss : List KnA.Stp} {i : Nat} {st : KnA.Stp} (h : ss[i]? = some st) (s : Int) : mv (ss.take (i + 1)) s = mv (ss.take i) s ++ if st.1 = s then [st.2] else [] := by
  unfold mv
  rw [take_more h, List.filter_append, List.map_append]
  by_cases e : st.1 = s
  · simp [List.filter_cons, e]
  · simp [List.filter_cons, e]
theorem mv_mem {ss : List KnA.Stp} {s : Int} {m : Str × Int} : m ∈ mv ss s ↔ (s, m) ∈ ss := by
  unfold mv
  rw [List.mem_map]
  constructor
  · rintro ⟨x, hx, rfl⟩
    obtain ⟨h1, h2⟩ := List.mem_filter.mp hx
    have e := of_decide_eq_true h2
    rw [← e]
    exact h1
  · intro h
    exact ⟨_, List.mem_filter.mpr ⟨h, decide_eq_true rfl⟩, rfl⟩
abbrev tup2 (m : Str × Int) : HO := .tup [.str m.1, .int m.2]
def Mvs (H : Hp) (as : List Addr) (ms : List (Str × Int)) : Prop := Paired (fun a m => H a = some (tup2 m)) as ms
theorem Mvs.mono {H H' : Hp} {as : List Addr} {ms : List (Str × Int)} (h : Mvs H as ms) (s : Same H H') : Mvs H' as ms := Paired.mapP h fun _ _ e => s _ _ e
/-- the dict at d: for each state the list of its moves -/
def Leaves (H : Hp) (d : Addr) (ss : List KnA.Stp) : Prop := ∃ kvs, H d = some (.dK kvs) ∧ ∀ s : Int, if mv ss s = [] then valV kvs (.inl s) = none else ∃ l as, valV kvs (.inl s) = some (.ref l) ∧ H l = some (.lst (as.map V.ref)) ∧ Mvs H as (mv ss s)
theorem Leaves.mono {H H' : Hp} {d : Addr} {ss : List KnA.Stp} (h : Leaves H d ss) (s : Same H H') : Leaves H' d ss := by
  obtain ⟨kvs, e, h⟩ := h
  refine ⟨kvs, s _ _ e, fun x => ?_⟩
  have q := h x
  by_cases z : mv ss x = []
  · rw [if_pos z] at q ⊢; exact q
  · rw [if_neg z] at q ⊢
    obtain ⟨l, as, a, b, c⟩ := q
    exact ⟨l, as, a, s _ _ b, c.mono s⟩
def sp_moves_by_state (_ : PySem.W.Frag) : Sp := fun vs H Q _ => ∃ b a as ss, vs = [.ref a] ∧ H a = some (rowO b (as.map V.ref)) ∧ Stps H as ss ∧ ss.length ≤ 1000 ∧ ∀ H' d, Same H H' → Leaves H' d ss → Q (.ref d) H'
/-- .. while it is built: the lists are new, one for each state -/
structure Built (H H' : Hp) (d : Addr) (kvs : List (Key × V)) (ss : List KnA.Stp) : Prop where
  at_ : H' d = some (.dK kvs)
  len : kvs.length ≤ ss.length
  no : ∀ s : Int, mv ss s = [] → valV kvs (.inl s) = none
  yes : ∀ s : Int, mv ss s ≠ [] → ∃ l as, valV kvs (.inl s) = some (.ref l) ∧ H l = none ∧ H' l = some (.lst (as.map V.ref)) ∧ Mvs H' as (mv ss s)
  apart : ∀ s t : Int, ∀ l, valV kvs (.inl s) = some (.ref l) → valV kvs (.inl t) = some (.ref l) → s = t
theorem Built.leaves {H H' : Hp} {d : Addr} {kvs : List (Key × V)} {ss : List KnA.Stp} (B : Built H H' d kvs ss) : Leaves H' d ss := by
  refine ⟨kvs, B.at_, fun s => ?_⟩
  by_cases z : mv ss s = []
  · rw [if_pos z]; exact B.no s z
  · rw [if_neg z]
    obtain ⟨l, as, a, _, b, c⟩ := B.yes s z
    exact ⟨l, as, a, b, c⟩
theorem lst_ne_tup {H : Hp} {l a : Addr} {xs ys : List V} (h1 : H l = some (.lst xs)) (h2 : H a = some (.tup ys)) : a ≠ l := ne_of h2 h1 (fun z => by cases z)
theorem Mvs.upd {H : Hp} {as : List Addr} {ms : List (Str × Int)} {l : Addr} {xs : List V} {o : HO} (h : Mvs H as ms) (hl : H l = some (.lst xs)) : Mvs (upd H l o) as ms :=
  Paired.mapP h fun _ _ e => (upd_ne (lst_ne_tup hl e)).trans e
/-- one step more, of a state that has moves already -/
theorem Built.more {H H' : Hp} {d : Addr} {kvs : List (Key × V)} {ss : List KnA.Stp} {i : Nat} {st : KnA.Stp} (B : Built H H' d kvs (ss.take i)) (g : ss[i]? = some st) {l T : Addr} {as : List Addr} (hv : valV kvs (.inl st.1) = some (.ref l)) (hl : H' l = some (.lst (as.map V.ref)))
    (hm : Mvs H' as (mv (ss.take i) st.1)) (hT : H' T = none) : Built H (upd (upd H' T (tup2 st.2)) l (.lst (as.map V.ref ++ [.ref T]))) d kvs (ss.take (i + 1)) := by
  have nd : d ≠ l := ne_of B.at_ hl (fun z => by cases z)
  have ndT : d ≠ T := ne_of_none B.at_ hT
  have nlT : l ≠ T := ne_of_none hl hT
  have sT := same_upd (o := tup2 st.2) hT
  have hl1 := sT _ _ hl
  refine ⟨(upd_ne nd).trans (sT _ _ B.at_), ?_, fun s hs => ?_, fun s hs => ?_, B.apart⟩
  · have := B.len
    have hi : i < ss.length := (List.getElem?_eq_some_iff.mp g).1
    rw [List.length_take] at this ⊢
    omega
  · rw [mv_take g] at hs
    exact B.no s (List.append_eq_nil_iff.mp hs).1
  · by_cases e : st.1 = s
    · subst e
      have nl : H l = none := by
        have z : mv (ss.take i) st.1 ≠ [] := fun z => by rw [B.no _ z] at hv; cases hv
        obtain ⟨l', _, hv', hn, _⟩ := B.yes _ z
        rw [hv] at hv'
        cases hv'
        exact hn
      refine ⟨l, as ++ [T], hv, nl, by rw [upd_same, List.map_append]; rfl, ?_⟩
      rw [mv_take g, if_pos rfl]
      exact ((hm.mono sT).upd hl1).snoc ((upd_ne (lst_ne_tup hl1 upd_same)).trans upd_same)
    · rw [mv_take g, if_neg e, List.append_nil] at hs ⊢
      obtain ⟨l', as', hv', hn', hl', hm'⟩ := B.yes s hs
      have ne : l' ≠ l := fun z => e (B.apart _ _ l hv (z ▸ hv'))
      exact ⟨l', as', hv', hn', (upd_ne ne).trans (sT _ _ hl'), (hm'.mono sT).upd hl1⟩
/-- .. of a state that has none yet -/
theorem Built.first {H H' : Hp} {d : Addr} {kvs : List (Key × V)} {ss : List KnA.Stp} {i : Nat} {st : KnA.Stp} (S : Same H H') (hd : H d = none) (B : Built H H' d kvs (ss.take i)) (g : ss[i]? = some st) {l T : Addr} (hv : valV kvs (.inl st.1) = none) (hl : H' l = none)
    (hT : (upd (upd H' l (.lst [])) d (.dK (putK kvs (.inl st.1) (.ref l)))) T = none) :
    Built H (upd (upd (upd (upd H' l (.lst [])) d (.dK (putK kvs (.inl st.1) (.ref l)))) T (tup2 st.2)) l (.lst [.ref T])) d (putK kvs (.inl st.1) (.ref l)) (ss.take (i + 1)) := by
  have ndl : d ≠ l := ne_of_none B.at_ hl
  have s1 := same_upd (o := .lst []) hl
  have hl2 : (upd (upd H' l (.lst [])) d (.dK (putK kvs (.inl st.1) (.ref l)))) l = some (.lst []) := (upd_ne ndl.symm).trans upd_same
  have hd2 : (upd (upd H' l (.lst [])) d (.dK (putK kvs (.inl st.1) (.ref l)))) d = some (.dK (putK kvs (.inl st.1) (.ref l))) := upd_same
  have old : ∀ b o, b ≠ d → H' b = some o → (upd (upd H' l (.lst [])) d (.dK (putK kvs (.inl st.1) (.ref l)))) b = some o := fun b o z e => (upd_ne z).trans (s1 _ _ e)
  have nolist : ∀ b xs, H' b = some (.lst xs) → b ≠ d := fun b xs e z => by rw [z, B.at_] at e; cases e
  have notup : ∀ b xs, H' b = some (.tup xs) → b ≠ d := fun b xs e z => by rw [z, B.at_] at e; cases e
  generalize upd (upd H' l (.lst [])) d (.dK (putK kvs (.inl st.1) (.ref l))) = H2 at hT hl2 hd2 old ⊢
  have sT := same_upd (o := tup2 st.2) hT
  have hl3 := sT _ _ hl2
  have nlT : l ≠ T := ne_of_none hl2 hT
  have empty : mv (ss.take i) st.1 = [] := by
    by_cases z : mv (ss.take i) st.1 = []
    · exact z
    · obtain ⟨_, _, hv', _⟩ := B.yes _ z
      rw [hv] at hv'
      cases hv'
  refine ⟨(upd_ne ndl).trans (sT _ _ hd2), ?_, fun s hs => ?_, fun s hs => ?_, fun s t l' h1 h2 => ?_⟩
  · have h1 := B.len
    have h2 := length_putK kvs (.inl st.1 : Key) (.ref l)
    have hi : i < ss.length := (List.getElem?_eq_some_iff.mp g).1
    rw [List.length_take] at h1 ⊢
    omega
  · rw [mv_take g] at hs
    obtain ⟨h1, h2⟩ := List.append_eq_nil_iff.mp hs
    have ne : ¬ st.1 = s := fun e => by rw [if_pos e] at h2; cases h2
    rw [valV_put, if_neg fun z => ne (Sum.inl.inj z).symm]
    exact B.no s h1
  · by_cases e : st.1 = s
    · subst e
      refine ⟨l, [T], by rw [valV_put, if_pos rfl], S.free hl, upd_same, ?_⟩
      rw [mv_take g, if_pos rfl, empty]
      exact .cons ((upd_ne nlT.symm).trans upd_same) .nil
    · rw [mv_take g, if_neg e, List.append_nil] at hs ⊢
      obtain ⟨l', as', hv', hn', hl', hm'⟩ := B.yes s hs
      have ne : l' ≠ l := ne_of_none hl' hl
      refine ⟨l', as', by rw [valV_put, if_neg fun z => e (Sum.inl.inj z).symm]; exact hv', hn', (upd_ne ne).trans (sT _ _ (old _ _ (nolist _ _ hl') hl')), ?_⟩
      have hm2 : Mvs H2 as' (mv (ss.take i) s) := Paired.mapP hm' fun _ _ q => old _ _ (notup _ _ q) q
      exact (hm2.mono sT).upd hl3
  · rw [valV_put] at h1 h2
    have nol : ∀ t : Int, valV kvs (.inl t) = some (.ref l) → False := fun t q => by
      have z : mv (ss.take i) t ≠ [] := fun z => by rw [B.no _ z] at q; cases q
      obtain ⟨l'', _, q', _, q2, _⟩ := B.yes _ z
      rw [q] at q'
      cases q'
      rw [hl] at q2
      cases q2
    by_cases e1 : s = st.1
    · by_cases e2 : t = st.1
      · rw [e1, e2]
      · rw [if_pos (congrArg Sum.inl e1)] at h1
        rw [if_neg fun z => e2 (Sum.inl.inj z)] at h2
        cases h1
        exact (nol t h2).elim
    · rw [if_neg fun z => e1 (Sum.inl.inj z)] at h1
      by_cases e2 : t = st.1
      · rw [if_pos (congrArg Sum.inl e2)] at h2
        cases h2
        exact (nol s h1).elim
      · rw [if_neg fun z => e2 (Sum.inl.inj z)] at h2
        exact B.apart s t l' h1 h2
theorem ok_moves_by_state {f : Addr} {C : Addr} {fd : FuncData} (T : Txt K mg C) (F : Fun K "moves_by_state" "moves_by_state" s_moves_by_state f fd)  : FnOk P w K mg base CX0 1 f fd ["steps"] (sp_moves_by_state K) := by
  have nd := sc_moves_by_state.nd
  refine F.ok sc_moves_by_state (fun vs H Q E h => ?_) (fun cdv A outer s H vs Q E hr h => ?_)
  · obtain ⟨b, a, as, ss, rfl, _⟩ := h
    rfl
  · obtain ⟨b, a, as, ss, rfl, ha, hst, lss, q⟩ := h
    refine ⟨_, (pss_cons (ps_set (i := 1) nd rfl (.inl rfl) pe_dnewK)
      (pss_cons (ps_for PassesOwn.never rfl (KnE.pi_seq (pv 0)) (pg_tup (by rfl) (pgs_cons (pg_name (i := 2) nd rfl (.inl rfl)) (pgs_cons (pg_name (i := 3) nd rfl (.inl rfl)) (pgs_cons (pg_name (i := 4) nd rfl (.inl rfl)) pgs_nil)))) (pss_one (ps_expr (pe_bm PySem.F.plainAttrs_list PySem.F.slot_list_append PySem.F.type_list_append mt_append (pe_dsetd (pv 1) (pv 2) (pe_lst pa_nil) ⟨rfl, rfl, rfl, rfl⟩) (pa_cons (pe_tup (pa_cons (pv 3) (pa_cons (pv 4) pa_nil))) pa_nil)))))
      (pss_one (ps_ret (pv 1))))), ?_⟩
    refine fun d nD => ?_
    have S0 := same_upd (o := .dK []) nD
    refine ⟨.ref a, rfl, a, b, rfl, ⟨_, row_sq (S0 _ _ ha)⟩, ?_⟩
    refine KnE.for_seq (K := K) (xs := as.map V.ref) (fun i σ H' => ∃ y2 y3 y4 kvs, σ = [some (.ref a), some (.ref d), y2, y3, y4] ∧ Same H H' ∧ Built H H' d kvs (ss.take i))
      ⟨none, none, none, [], rfl, S0, upd_same, Nat.zero_le _, fun _ _ => rfl, fun s hs => (hs rfl).elim, fun s t l h => by cases h⟩ (fun i σ H' _ hP => ?_) (fun i x σ H' hx hP => ?_) (fun σ H' hP => ?_)
    · obtain ⟨_, _, _, _, _, S, _⟩ := hP
      exact row_sq (S _ _ ha)
    · obtain ⟨y2, y3, y4, kvs, rfl, S, B⟩ := hP
      obtain ⟨ai, st, rfl, gi, g, hai⟩ := ref_get (hst.mono S) hx
      refine ⟨ai, _, rfl, .inl (.inl hai), rfl, .int st.1, _, rfl, .str st.2.1, _, rfl, .int st.2.2, [], rfl, rfl, ?_⟩
      refine ⟨.ref d, rfl, d, rfl, .inl ⟨kvs, .inl B.at_⟩, .int st.1, rfl, szl rfl, fun l nl => ?_⟩
      have hi : i < ss.length := (List.getElem?_eq_some_iff.mp g).1
      have lk := B.len
      rw [List.length_take] at lk
      have ndl : d ≠ l := ne_of_none B.at_ nl
      have ed1 : (upd H' l (.lst [])) d = some (.dK kvs) := (upd_ne ndl).trans B.at_
      have S1 := same_upd (o := .lst []) nl
      refine ⟨kvs, .inl st.1, ed1, rfl, small (by omega), fun v hv => ?_, fun hv => ?_⟩
      · -- the list is there
        have z : mv (ss.take i) st.1 ≠ [] := fun z => by rw [B.no _ z] at hv; cases hv
        obtain ⟨l', as', hv', hn', hl', hm'⟩ := B.yes _ z
        rw [hv] at hv'
        cases hv'
        have hl1 := S1 _ _ hl'
        have B1 : Built H (upd H' l (.lst [])) d kvs (ss.take i) := ⟨ed1, B.len, B.no, fun s hs => let ⟨l, as, a, b, c, e⟩ := B.yes s hs; ⟨l, as, a, b, S1 _ _ c, e.mono S1⟩, B.apart⟩
        refine ⟨.inl ⟨rfl, _, .inl (.inl hl1)⟩, .str st.2.1, rfl, .int st.2.2, rfl, szl rfl, fun T nT => ?_⟩
        have ST := same_upd (o := tup2 st.2) nT
        refine ⟨l', as'.map V.ref, .ref T, rfl, rfl, ST _ _ hl1, ?_, ?_⟩
        · rw [List.length_map, hm'.length]
          unfold mv
          rw [List.length_map]
          refine small (Nat.le_trans (List.length_filter_le _ _) ?_)
          rw [List.length_take]
          omega
        · exact ⟨_, _, _, kvs, rfl, same_set hn' (S.trans (S1.trans ST)), B1.more g hv hl1 (hm'.mono S1) nT⟩
      · -- it is the state's first
        have hl1 : (upd (upd H' l (.lst [])) d (.dK (putK kvs (.inl st.1) (.ref l)))) l = some (.lst []) := (upd_ne ndl.symm).trans upd_same
        refine ⟨.inl ⟨rfl, _, .inl (.inl hl1)⟩, .str st.2.1, rfl, .int st.2.2, rfl, szl rfl, fun T nT => ?_⟩
        have ST := same_upd (o := tup2 st.2) nT
        refine ⟨l, [], .ref T, rfl, rfl, ST _ _ hl1, small (by decide), ?_⟩
        refine ⟨_, _, _, _, rfl, same_set (S.free nl) ((same_set nD (S.trans S1)).trans ST), B.first S nD g hv nl nT⟩
    · obtain ⟨y2, y3, y4, kvs, rfl, S, B⟩ := hP
      rw [List.length_map, hst.length, List.take_length] at B
      exact ⟨.ref d, rfl, q H' d S B.leaves⟩

/-! ### reached states -/
def sp_reached_states (_ : PySem.W.Frag) : Sp := fun vs H Q _ => ∃ (s0 : Int) (d : Addr) (ss : List KnA.Stp), vs = [.int s0, .ref d] ∧ stateB (.int s0) = true ∧ GoodSteps ss ∧ Leaves H d ss ∧ ∀ H' a ns, Same H H' → H a = none → H' a = some (.lst (ns.map V.int)) → KnA.States ns ss s0 → Q (.ref a) H'
theorem few_nat : ∀ (n : Nat) (l : List Nat), l.Nodup → (∀ x ∈ l, x < n) → l.length ≤ n
  | 0, l, _, h => by
    cases l with
    | nil => exact Nat.le_refl _
    | cons x r => exact absurd (h x List.mem_cons_self) (Nat.not_lt_zero _)
  | n + 1, l, d, h => by
    have ih := few_nat n (l.erase n) (d.erase n) (fun x hx => by
      have h1 := h x (List.mem_of_mem_erase hx)
      have h2 := ((List.Nodup.mem_erase_iff d).mp hx).1
      omega)
    have := List.length_erase (a := n) (l := l)
    by_cases z : n ∈ l
    · rw [if_pos z] at this; omega
    · rw [if_neg z] at this; omega
theorem few_int {l : List Int} (d : l.Nodup) (h : ∀ x ∈ l, 0 ≤ x ∧ x ≤ 99) : l.length ≤ 100 := by
  have := few_nat 100 (l.map Int.toNat) (List.pairwise_map.mpr (d.imp_of_mem fun ha hb ne e => ne (by have := h _ ha; have := h _ hb; omega))) (fun x hx => by
    obtain ⟨y, hy, rfl⟩ := List.mem_map.mp hx
    have := h y hy
    omega)
  rwa [List.length_map] at this
theorem state_in {x : Int} (h : stateB (.int x) = true) : 0 ≤ x ∧ x ≤ 99 := by
  have h' : (decide (0 ≤ x) && decide (x ≤ 99)) = true := h
  rw [Bool.and_eq_true] at h'
  exact ⟨of_decide_eq_true h'.1, of_decide_eq_true h'.2⟩
/-- the dict of the reached states -/
def rkv (R : List Int) : List (Key × V) := R.map fun x => (Sum.inl x, .bl true)
theorem rkv_in (R : List Int) (y : Int) : (valV (rkv R) (.inl y)).isSome = decide (y ∈ R) := by
  rw [← valV_any]
  unfold rkv
  induction R with
  | nil => rfl
  | cons x r ih =>
    rw [List.map_cons, List.any_cons, ih]
    by_cases e : x = y
    · subst e; simp
    · have e' : ¬ y = x := fun q => e q.symm
      simp [e, e']
theorem rkv_put {R : List Int} {y : Int} (h : y ∉ R) : putK (rkv R) (.inl y) (.bl true) = rkv (R ++ [y]) := by
  rw [putK_new]
  · unfold rkv; rw [List.map_append]; rfl
  · have := rkv_in R y
    rw [decide_eq_false h] at this
    cases e : valV (rkv R) (.inl y) with
    | none => rfl
    | some v => rw [e] at this; cases this
/-- the walk: R is reached, W waits; x is under way, its moves up to the i-th are done -/
structure Walk (ss : List KnA.Stp) (s0 : Int) (R W : List Int) (un : Int → Prop) : Prop where
  nd : R.Nodup
  le : W.length ≤ R.length
  sub : ∀ x ∈ W, x ∈ R
  re : ∀ x ∈ R, KnA.Reach ss s0 x
  st : ∀ x ∈ R, 0 ≤ x ∧ x ≤ 99
  s0 : s0 ∈ R
  cl : ∀ x w y, x ∈ R → x ∉ W → ¬ un x → (x, w, y) ∈ ss → y ∈ R
theorem Walk.few {ss : List KnA.Stp} {s0 : Int} {R W : List Int} {un : Int → Prop} (h : Walk ss s0 R W un) : R.length ≤ 100 := few_int h.nd h.st
theorem Walk.push {ss : List KnA.Stp} {s0 : Int} {R W : List Int} {un : Int → Prop} (h : Walk ss s0 R W un) {y : Int} (hy : y ∉ R) (hr : KnA.Reach ss s0 y) (hs : 0 ≤ y ∧ y ≤ 99) : Walk ss s0 (R ++ [y]) (W ++ [y]) un := by
  have mem : ∀ {l : List Int} {x : Int}, x ∈ l ++ [y] ↔ x ∈ l ∨ x = y := fun {l x} => by rw [List.mem_append, List.mem_singleton]
  refine ⟨?_, by rw [List.length_append, List.length_append]; exact Nat.add_le_add_right h.le _, fun x hx => ?_, fun x hx => ?_, fun x hx => ?_, mem.mpr (.inl h.s0), fun x w z hx hw hu hm => ?_⟩
  · refine List.nodup_append.mpr ⟨h.nd, by simp, fun a ha b hb e => ?_⟩
    rw [List.mem_singleton] at hb
    exact hy (hb ▸ e ▸ ha)
  · rcases mem.mp hx with q | q
    · exact mem.mpr (.inl (h.sub x q))
    · exact mem.mpr (.inr q)
  · rcases mem.mp hx with q | q
    · exact h.re x q
    · rw [q]; exact hr
  · rcases mem.mp hx with q | q
    · exact h.st x q
    · rw [q]; exact hs
  · have nw : x ∉ W := fun q => hw (mem.mpr (.inl q))
    have ny : ¬ x = y := fun q => hw (mem.mpr (.inr q))
    exact mem.mpr (.inl (h.cl x w z ((mem.mp hx).resolve_right ny) nw hu hm))
theorem ok_reached_states {f : Addr} {C : Addr} {fd : FuncData} (T : Txt K mg C) (F : Fun K "reached_states" "reached_states" s_reached_states f fd)  : FnOk P w K mg base CX0 1 f fd ["start", "leaving"] (sp_reached_states K) := by
  have nd := sc_reached_states.nd
  refine F.ok sc_reached_states (fun vs H Q E h => ?_) (fun cdv A outer s H vs Q E hr h => ?_)
  · obtain ⟨s0, d, ss, rfl, _⟩ := h
    rfl
  · obtain ⟨s0, d, ss, rfl, st0, gs, hd, q⟩ := h
    refine ⟨_, (pss_cons (ps_set (i := 2) nd rfl (.inl rfl) (pe_disp (pps_cons (pv 0) pe_bl pps_nil) (by rfl) (by rfl) (fun z => by cases z) (by decide)))
      (pss_cons (ps_set (i := 3) nd rfl (.inl rfl) (pe_lst (pa_cons (pv 0) pa_nil)))
      (pss_cons (ps_while PassesOwn.never (pt_cmpR op_gt (pe_callB call_len (by rfl) T.m_len (by decide +kernel) (pa_cons (pv 3) pa_nil)) pe_int (nomark _)) (pss_cons (ps_set (i := 4) nd rfl (.inl rfl) (pe_dget2 (hu_of hr) (pv 1) (pe_bm0 PySem.F.plainAttrs_list PySem.F.slot_list_pop PySem.F.type_list_pop mt_pop (pv 3)) (pe_lst pa_nil) ⟨rfl, rfl, rfl, rfl⟩))
      (pss_one (ps_for PassesOwn.never rfl (pi_list (pv 4)) (pg_tup (by rfl) (pgs_cons (pg_name (i := 5) nd rfl (.inl rfl)) (pgs_cons (pg_name (i := 6) nd rfl (.inl rfl)) pgs_nil))) (pss_one (ps_if (pt_cmp (pc_dnotin (hu_of hr) (pv 6) (pv 2))) (pss_cons (ps_dput (hu_of hr) (pv 2) (pv 6) pe_bl rfl)
      (pss_one (ps_expr (pe_bm PySem.F.plainAttrs_list PySem.F.slot_list_append PySem.F.type_list_append mt_append (pv 3) (pa_cons (pv 6) pa_nil))))) pss_nil))))))
      (pss_one (ps_ret (pe_callB cr_sortedI (by rfl) T.m_sorted (by decide +kernel) (pa_cons (pe_callTy (call_listD rfl) (by rfl) T.m_list (by decide +kernel) (pa_cons (pv 2) pa_nil)) pa_nil))))))), ?_⟩
    refine fun r nr => ⟨.int s0, rfl, upd_same, [(.inl s0, .bl true)], rfl, Nat.le_of_ble_eq_true rfl, .int s0, rfl, szl rfl, fun wa nw => ?_⟩
    rw [upd_upd] at nw ⊢
    have s1 := same_upd (o := .dK (mergeK [] [((.inl s0 : Key), V.bl true)])) nr
    have s2 := same_upd (o := .lst [.int s0]) nw
    have nrw : r ≠ wa := fun e => by rw [e, upd_same] at nw; cases nw
    have nwH : H wa = none := s1.free nw
    refine ⟨fun m σ H' => ∃ y4 y5 y6 R W, σ = [some (.int s0), some (.ref d), some (.ref r), some (.ref wa), y4, y5, y6] ∧ Same H H' ∧ H' r = some (.dK (rkv R)) ∧ H' wa = some (.lst (W.map V.int)) ∧ Walk ss s0 R W (fun _ => False) ∧ m = 2 * (101 - R.length) + W.length,
      ⟨_, none, none, none, [s0], [s0], rfl, s1.trans s2, (upd_ne nrw).trans upd_same, upd_same, ⟨by simp, Nat.le_refl _, fun x hx => hx, fun x hx => by rw [List.mem_singleton.mp hx]; exact .start, fun x hx => by rw [List.mem_singleton.mp hx]; exact state_in st0, List.mem_singleton.mpr rfl, fun x w y hx hn => absurd hx hn⟩, rfl⟩, fun m σ H' hW => ?_⟩
    obtain ⟨y4, y5, y6, R, W, rfl, S, er, ew, wk, rfl⟩ := hW
    refine ⟨.ref wa, rfl, .ref wa, (W.map V.int).length, rfl, .inl ⟨_, .inl (.inl ew), rfl⟩, ((W.map V.int).length : Int), 0, rfl, rfl, _, rfl, ?_⟩
    rw [List.length_map]
    by_cases z : W = []
    · subst z
      refine iteF ⟨.ref r, rfl, r, rkv R, rfl, .inl er, fun p np => ?_⟩
      have em : (rkv R).map (fun kv => kV kv.1) = R.map V.int := by unfold rkv; rw [List.map_map]; rfl
      rw [em]
      have sp := same_upd (o := .lst (R.map V.int)) np
      refine ⟨p, R, rfl, .inl (.inl upd_same), fun ns o hp hs no => ?_⟩
      refine q _ o ns (S.trans (sp.trans (same_upd no))) (S.free (sp.free no)) upd_same ⟨KnA.lt_of_le hs (hp.symm.nodup wk.nd), fun x => ?_⟩
      rw [hp.mem_iff]
      exact KnA.reach_of wk.s0 (fun x w y hx => wk.cl x w y hx (fun z => nomatch z) id) wk.re x
    · have lw : 0 < W.length := List.length_pos_iff.mpr z
      rw [decide_eq_true (show (0 : Int) < (W.length : Int) by omega)]
      refine iteT ⟨fun σ' H'' => ∃ y4 y5 y6 R' W', σ' = [some (.int s0), some (.ref d), some (.ref r), some (.ref wa), y4, y5, y6] ∧ Same H H'' ∧ H'' r = some (.dK (rkv R')) ∧ H'' wa = some (.lst (W'.map V.int)) ∧ Walk ss s0 R' W' (fun _ => False) ∧ 2 * (101 - R'.length) + W'.length < 2 * (101 - R.length) + W.length,
        fun σ' H'' ⟨y4, y5, y6, R', W', e, a1, a2, a3, a4, a5⟩ => ⟨_, a5, y4, y5, y6, R', W', e, a1, a2, a3, a4, rfl⟩, ?_⟩
      have hD : ∀ {G : Hp}, Same H G → IsD G d := fun s => let ⟨kvs, e, _⟩ := hd; .inl ⟨kvs, .inl (s _ _ e)⟩
      obtain ⟨x, hx⟩ : ∃ x, W[W.length - 1]? = some x := ⟨_, List.getElem?_eq_getElem (by omega)⟩
      have hxR := wk.sub x (List.mem_of_getElem? hx)
      refine ⟨.ref d, rfl, d, rfl, hD S, .ref wa, rfl, .inl ⟨rfl, _, .inl (.inl ew)⟩, wa, W.map V.int, .int x, rfl, rfl, ew, by rw [List.length_map, List.getElem?_map, hx]; rfl, szl rfl, fun p np => ?_⟩
      have nr2 : r ≠ wa := nrw
      have S2 : Same H (upd H' wa (.lst (W.map V.int).dropLast)) := same_set nwH S
      have er2 : (upd H' wa (.lst (W.map V.int).dropLast)) r = some (.dK (rkv R)) := (upd_ne nr2).trans er
      have ew2 : (upd H' wa (.lst (W.map V.int).dropLast)) wa = some (.lst (W.dropLast.map V.int)) := by rw [upd_same, List.map_dropLast]
      generalize upd H' wa (.lst (W.map V.int).dropLast) = H2 at np S2 er2 ew2 ⊢
      have sp := same_upd (o := .lst []) np
      have S3 := S2.trans sp
      have er3 := sp _ _ er2
      have ew3 := sp _ _ ew2
      obtain ⟨o, ml, as, dg, eo, hml, hms, nmr, nmw⟩ : ∃ o ml as, DGet (upd H2 p (.lst [])) d (.int x) o ∧ o.getD (.ref p) = .ref ml ∧ (upd H2 p (.lst [])) ml = some (.lst (as.map V.ref)) ∧ Mvs (upd H2 p (.lst [])) as (mv ss x) ∧ ml ≠ r ∧ ml ≠ wa := by
        obtain ⟨kvs, ed, hk⟩ := hd
        refine ⟨valV kvs (.inl x), ?_⟩
        have hkx := hk x
        have dg : DGet (upd H2 p (.lst [])) d (.int x) (valV kvs (.inl x)) := DGet.k (k := .inl x) (S3 _ _ ed)
        by_cases e : mv ss x = []
        · rw [if_pos e] at hkx
          refine ⟨p, [], dg, by rw [hkx]; rfl, upd_same, by rw [e]; exact .nil, (ne_of_none er2 np).symm, (ne_of_none ew2 np).symm⟩
        · rw [if_neg e] at hkx
          obtain ⟨l, as, h1, h2, h3⟩ := hkx
          exact ⟨l, as, dg, by rw [h1]; rfl, S3 _ _ h2, h3.mono S3, ne_of_none h2 nr, ne_of_none h2 nwH⟩
      refine ⟨o, dg, ?_⟩
      rw [eo]
      generalize upd H2 p (.lst []) = H3 at S3 er3 ew3 hml hms
      have wk0 : Walk ss s0 R W.dropLast (fun u => u = x) := ⟨wk.nd, by rw [List.length_dropLast]; have := wk.le; omega, fun u hu => wk.sub u ((List.dropLast_sublist W).subset hu), wk.re, wk.st, wk.s0, fun u w y hu hn hne hm => wk.cl u w y hu (fun hin => by
          have sp : W = W.dropLast ++ [x] := by
            have := List.dropLast_concat_getLast z
            rw [List.getLast_eq_getElem] at this
            have e2 : W[W.length - 1]'(by omega) = x := (List.getElem?_eq_some_iff.mp hx).2
            rw [e2] at this
            exact this.symm
          rw [sp, List.mem_append, List.mem_singleton] at hin
          exact hin.elim hn hne) id hm⟩
      refine ⟨.ref ml, rfl, ml, rfl, ⟨_, .inl (.inl hml)⟩, ?_⟩
      refine for_list (K := K) (xs := as.map V.ref) (fun i σ H' => ∃ y5 y6 R' W', σ = [some (.int s0), some (.ref d), some (.ref r), some (.ref wa), some (.ref ml), y5, y6] ∧ Same H H' ∧ H' r = some (.dK (rkv R')) ∧ H' wa = some (.lst (W'.map V.int)) ∧ Walk ss s0 R' W' (fun u => u = x) ∧
          H' ml = some (.lst (as.map V.ref)) ∧ Mvs H' as (mv ss x) ∧ (∀ y ∈ (mv ss x).take i, y.2 ∈ R') ∧ x ∈ R' ∧ 2 * (101 - R'.length) + W'.length < 2 * (101 - R.length) + W.length)
        ⟨_, _, R, W.dropLast, rfl, S3, er3, ew3, wk0, hml, hms, fun y hy => absurd hy (by simp), hxR, by rw [List.length_dropLast]; omega⟩
        (fun i σ H' _ ⟨_, _, _, _, _, _, _, _, _, h, _⟩ => .inl (.inl h)) (fun i v σ H' hv hP => ?_) (fun σ H' hP => ?_)
      · obtain ⟨y5, y6, R', W', rfl, S, er, ew, wk, hml, hms, hin, hxR, lt⟩ := hP
        rw [List.getElem?_map] at hv
        cases ga : as[i]? with
        | none => rw [ga] at hv; cases hv
        | some ai =>
        rw [ga] at hv
        cases hv
        obtain ⟨m, gm, hai⟩ := paired_get hms ga
        have hss : (x, m.1, m.2) ∈ ss := mv_mem.mp (List.mem_of_getElem? gm)
        have takeM := take_more gm
        refine ⟨ai, _, rfl, .inl (.inl hai), rfl, .str m.1, _, rfl, .int m.2, [], rfl, rfl, ?_⟩
        refine ⟨.int m.2, rfl, .ref r, rfl, r, valV (rkv R') (.inl m.2), rfl, DGet.k (k := .inl m.2) er, _, rfl, ?_⟩
        rw [rkv_in]
        by_cases y : m.2 ∈ R'
        · rw [decide_eq_true y]
          refine iteF ⟨_, _, R', W', rfl, S, er, ew, wk, hml, hms, fun u hu => ?_, hxR, lt⟩
          rw [takeM, List.mem_append, List.mem_singleton] at hu
          rcases hu with hu | hu
          · exact hin u hu
          · rw [hu]; exact y
        · rw [decide_eq_false y]
          have few := wk.few
          have lrk : (rkv R').length = R'.length := List.length_map _
          refine iteT ⟨.ref r, rfl, .int m.2, rfl, r, _, rfl, DPut.k (k := .inl m.2) er (small (by omega)), ?_⟩
          rw [rkv_put y]
          have ew4 : (upd H' r (.dK (rkv (R' ++ [m.2])))) wa = some (.lst (W'.map V.int)) := (upd_ne nrw.symm).trans ew
          have S4 : Same H (upd H' r (.dK (rkv (R' ++ [m.2])))) := same_set nr S
          have hml4 : (upd H' r (.dK (rkv (R' ++ [m.2])))) ml = some (.lst (as.map V.ref)) := (upd_ne nmr).trans hml
          have hms4 : Mvs (upd H' r (.dK (rkv (R' ++ [m.2])))) as (mv ss x) := Paired.mapP hms fun _ _ e => (upd_ne (ne_of e er (fun z => by cases z))).trans e
          have er4 : (upd H' r (.dK (rkv (R' ++ [m.2])))) r = some (.dK (rkv (R' ++ [m.2]))) := upd_same
          generalize upd H' r (.dK (rkv (R' ++ [m.2]))) = H4 at S4 ew4 hml4 hms4 er4
          have le := wk.le
          refine ⟨.ref wa, rfl, .inl ⟨rfl, _, .inl (.inl ew4)⟩, .int m.2, rfl, wa, _, .int m.2, rfl, rfl, ew4, small (by rw [List.length_map]; omega), ?_⟩
          refine ⟨_, _, R' ++ [m.2], W' ++ [m.2], rfl, same_set nwH S4, (upd_ne nrw).trans er4, by rw [upd_same, List.map_append]; rfl, wk.push y (.step (wk.re x hxR) hss) (state_in (gs.good _ hss).t), (upd_ne nmw).trans hml4, Paired.mapP hms4 fun _ _ e => (upd_ne (ne_of e ew4 (fun z => by cases z))).trans e, fun u hu => ?_, List.mem_append.mpr (.inl hxR), ?_⟩
          · rw [takeM, List.mem_append, List.mem_singleton] at hu
            rcases hu with hu | hu
            · exact List.mem_append.mpr (.inl (hin u hu))
            · rw [hu]; exact List.mem_append.mpr (.inr (List.mem_singleton.mpr rfl))
          · have f2 := (wk.push y (.step (wk.re x hxR) hss) (state_in (gs.good _ hss).t)).few
            rw [List.length_append] at f2 ⊢
            rw [List.length_append]
            have e1 : [m.2].length = 1 := rfl
            rw [e1] at f2 ⊢
            omega
      · obtain ⟨y5, y6, R', W', rfl, S, er, ew, wk, hml, hms, hin, hxR, lt⟩ := hP
        refine ⟨_, _, _, R', W', rfl, S, er, ew, ⟨wk.nd, wk.le, wk.sub, wk.re, wk.st, wk.s0, fun u w y hu hn _ hm => ?_⟩, lt⟩
        by_cases e : u = x
        · subst e
          rw [List.length_map, hms.length, List.take_length] at hin
          exact hin _ (mv_mem.mpr hm)
        · exact wk.cl u w y hu hn e hm

/-! ### a machine -/
def look (fs : List (Str × Str)) (x : Str) : Option Str := (fs.find? fun p => decide (p.1 = x)).map (·.2)
/-- the faults in the order of the words -/
def orderF (ws : List Str) (fs : List (Str × Str)) : List (Str × Str) := ws.filterMap fun x => (look fs x).map fun n => (x, n)
theorem look_val (fs : List (Str × Str)) (x : Str) : valV (fkv fs) (.inr x) = (look fs x).map V.str := by
  unfold look fkv
  induction fs with
  | nil => rfl
  | cons p r ih =>
    obtain ⟨y, n⟩ := p
    by_cases e : y = x
    · rw [List.find?_cons_of_pos (by simp [e])]
      unfold valV
      rw [List.map_cons, List.find?_cons_of_pos (by simp [e])]
      rfl
    · rw [List.find?_cons_of_neg (by simp [e]), ← ih]
      unfold valV
      rw [List.map_cons, List.find?_cons_of_neg (by simp [e])]
theorem order_take {ws : List Str} {fs : List (Str × Str)} {i : Nat} {x : Str} (h : ws[i]? = some x) : orderF (ws.take (i + 1)) fs = orderF (ws.take i) fs ++ (match look fs x with | none => [] | some n => [(x, n)]) := by
  unfold orderF
  rw [take_more h, List.filterMap_append]
  congr 1
  rw [List.filterMap_cons]
  cases look fs x <;> rfl
theorem order_keys {ws : List Str} {fs : List (Str × Str)} {p : Str × Str} (h : p ∈ orderF ws fs) : p.1 ∈ ws := by
  unfold orderF at h
  obtain ⟨x, hx, e⟩ := List.mem_filterMap.mp h
  cases g : look fs x with
  | none => rw [g] at e; cases e
  | some n => rw [g] at e; cases e; exact hx
theorem order_len (ws : List Str) (fs : List (Str × Str)) : (orderF ws fs).length ≤ ws.length := List.length_filterMap_le _ _
theorem order_nil (ws : List Str) : orderF ws [] = [] := by
  unfold orderF
  induction ws with
  | nil => rfl
  | cons x r ih => rw [List.filterMap_cons]; exact ih
theorem val_none {fs : List (Str × Str)} {x : Str} (h : ∀ p ∈ fs, p.1 ≠ x) : valV (fkv fs) (.inr x) = none := by
  rw [look_val]
  unfold look
  rw [List.find?_eq_none.mpr fun p hp => by simp [h p hp]]; rfl
def mflds (s0 : Int) (ls lw df lt : Addr) : List (Str × V) := putF "_states" (.ref lt) (putF "_faults" (.ref df) (putF "_words" (.ref lw) (putF "_steps" (.ref ls) (putF "_start" (.int s0) []))))
theorem mf_start (s0 : Int) (ls lw df lt : Addr) : (mflds s0 ls lw df lt).lookup ("_start" : Str) = some (.int s0) := by
  unfold mflds; simp only [lookup_putF]; rw [if_neg (by decide +kernel), if_neg (by decide +kernel), if_neg (by decide +kernel), if_neg (by decide +kernel), if_pos True.intro]
theorem mf_steps (s0 : Int) (ls lw df lt : Addr) : (mflds s0 ls lw df lt).lookup ("_steps" : Str) = some (.ref ls) := by
  unfold mflds; simp only [lookup_putF]; rw [if_neg (by decide +kernel), if_neg (by decide +kernel), if_neg (by decide +kernel), if_pos True.intro]
theorem mf_words (s0 : Int) (ls lw df lt : Addr) : (mflds s0 ls lw df lt).lookup ("_words" : Str) = some (.ref lw) := by
  unfold mflds; simp only [lookup_putF]; rw [if_neg (by decide +kernel), if_neg (by decide +kernel), if_pos True.intro]
theorem mf_faults (s0 : Int) (ls lw df lt : Addr) : (mflds s0 ls lw df lt).lookup ("_faults" : Str) = some (.ref df) := by
  unfold mflds; simp only [lookup_putF]; rw [if_neg (by decide +kernel), if_pos True.intro]
theorem mf_states (s0 : Int) (ls lw df lt : Addr) : (mflds s0 ls lw df lt).lookup ("_states" : Str) = some (.ref lt) := by
  unfold mflds; simp only [lookup_putF]; rw [if_pos True.intro]
structure MachO (C : Addr) (H : Hp) (p dx ls lw df lt : Addr) (as : List Addr) (ws : List Str) (ns : List Int) (s0 : Int) (ss : List KnA.Stp) (fs : List (Str × Str)) : Prop where
  ob : H p = some (.ins C dx (mflds s0 ls lw df lt))
  hs : H ls = some (.lst (as.map V.ref))
  st : Stps H as ss
  hw : H lw = some (.lst (ws.map V.str))
  wo : KnA.Words ws (ss.map (·.2.1))
  hf : H df = some (.dK (fkv (orderF ws fs)))
  ht : H lt = some (.lst (ns.map V.int))
  re : KnA.States ns ss s0
/-- a machine stands at p -/
def MachAt (C : Addr) (H : Hp) (p : Addr) (s0 : Int) (ss : List KnA.Stp) (fs : List (Str × Str)) : Prop := ∃ dx ls lw df lt as ws ns, MachO C H p dx ls lw df lt as ws ns s0 ss fs
theorem MachAt.mono {C : Addr} {H H' : Hp} {p : Addr} {s0 : Int} {ss : List KnA.Stp} {fs : List (Str × Str)} (h : MachAt C H p s0 ss fs) (s : Same H H') : MachAt C H' p s0 ss fs := by
  obtain ⟨dx, ls, lw, df, lt, as, ws, ns, m⟩ := h
  exact ⟨dx, ls, lw, df, lt, as, ws, ns, s _ _ m.ob, s _ _ m.hs, m.st.mono s, s _ _ m.hw, m.wo, s _ _ m.hf, s _ _ m.ht, m.re⟩
/-- what makes a machine -/
structure GoodMach (s0 : Int) (ss : List KnA.Stp) (fs : List (Str × Str)) : Prop where
  st0 : stateB (.int s0) = true
  gs : GoodSteps ss
  few : ∀ ws, KnA.Words ws (ss.map (·.2.1)) → ws.length ≤ 14
  gf : GoodFaults fs (ss.map (·.2.1))
  live : ∀ x, KnA.Reach ss s0 x → ∃ w y, (x, w, y) ∈ ss
theorem GoodFaults.at_ {fs : List (Str × Str)} {ws xs : List Str} (g : GoodFaults fs xs) (h : KnA.Words ws xs) : GoodFaults fs ws := ⟨fun p hp => let ⟨a, b, c⟩ := g.word p hp; ⟨a, (h.mem _).mpr b, c⟩, g.few, g.len⟩
/-! ### a machine, made or refused -/
inductive Out where
  | ok | st | sp (i : Int) | tm | fa (x : Str) | nl (n : Int)
/-- right steps in the row -/
structure RowOk (H : Hp) (row : V) (b : Bool) (a : Addr) (as : List Addr) (ss : List KnA.Stp) : Prop where
  ev : row = .ref a
  ha : H a = some (rowO b (as.map V.ref))
  st : Stps H as ss
  gs : GoodSteps ss
inductive MOut (H : Hp) (v0 row : V) (fs : List (Str × Str)) : Out → Prop where
  | st (h : stateB v0 = false) : MOut H v0 row fs .st
  | sp {i : Int} (h : stateB v0 = true) (e : stepsBad H row = some i) : MOut H v0 row fs (.sp i)
  | tm {b : Bool} {a : Addr} {as : List Addr} {ss : List KnA.Stp} {ws : List Str} (h : stateB v0 = true) (r : RowOk H row b a as ss) (w : KnA.Words ws (ss.map (·.2.1))) (m : 14 < ws.length) : MOut H v0 row fs .tm
  | fa {b : Bool} {a : Addr} {as : List Addr} {ss : List KnA.Stp} {ws : List Str} {x : Str} (h : stateB v0 = true) (r : RowOk H row b a as ss) (w : KnA.Words ws (ss.map (·.2.1))) (m : ws.length ≤ 14) (e : fscan ws fs [] = some x) : MOut H v0 row fs (.fa x)
  | nl {b : Bool} {a : Addr} {as : List Addr} {ss : List KnA.Stp} {ws : List Str} {s0 n : Int} (h : stateB v0 = true) (r : RowOk H row b a as ss) (w : KnA.Words ws (ss.map (·.2.1))) (m : ws.length ≤ 14) (e : fscan ws fs [] = none) (e0 : v0 = .int s0)
      (hn : KnA.Reach ss s0 n) (no : mv ss n = []) (lo : ∀ k, KnA.Reach ss s0 k → k < n → mv ss k ≠ []) : MOut H v0 row fs (.nl n)
  | ok {b : Bool} {a : Addr} {as : List Addr} {ss : List KnA.Stp} {ws : List Str} {s0 : Int} (h : stateB v0 = true) (r : RowOk H row b a as ss) (w : KnA.Words ws (ss.map (·.2.1))) (m : ws.length ≤ 14) (e : fscan ws fs [] = none) (e0 : v0 = .int s0)
      (live : ∀ k, KnA.Reach ss s0 k → mv ss k ≠ []) : MOut H v0 row fs .ok
/-- what is behind each outcome -/
def MCont (C : Addr) (ce : Es) (H : Hp) (p : Addr) (v0 row : V) (fs : List (Str × Str)) (Q : VK) (E : XK) : Out → Prop
  | .st => ∀ H' d, Same H H' → H' d = none → E (.ref ce.st) (some d) (upd H' d (.xd [("value", v0)]))
  | .sp i => ∀ H' d, Same H H' → H' d = none → E (.ref ce.sp) (some d) (upd H' d (.xd [("at", .int i)]))
  | .tm => ∀ H' d, Same H H' → H' d = none → E (.ref ce.tm) (some d) (upd H' d (.xd [("limit", .int 14)]))
  | .fa x => ∀ H' d, Same H H' → H' d = none → E (.ref ce.fa) (some d) (upd H' d (.xd [("word", .str x)]))
  | .nl n => ∀ H' d, Same H H' → H' d = none → E (.ref ce.nl) (some d) (upd H' d (.xd [("state", .int n)]))
  | .ok => ∀ (s0 : Int) (as : List Addr) (ss : List KnA.Stp) H' dx ls lw df lt ws ns, v0 = .int s0 → Stps H as ss → GoodSteps ss → (∀ b o, H b = some o → b ≠ p → H' b = some o) → MachO C H' p dx ls lw df lt as ws ns s0 ss fs → H ls = none → H lw = none → H df = none → H lt = none → Q .non H'
theorem scan_ok {H : Hp} : ∀ {r : List V} {ss : List KnA.Stp} {i : Nat}, scan H r ss i = none → ss.Nodup → (∀ s, cnt ss s ≤ 8) → ∃ (as : List Addr) (ts : List KnA.Stp), r = as.map V.ref ∧ Stps H as ts ∧ (ss ++ ts).Nodup ∧ (∀ s, cnt (ss ++ ts) s ≤ 8) ∧ ∀ x ∈ ts, GoodStep x
  | [], ss, i, _, nd, c => ⟨[], [], rfl, .nil, by rw [List.append_nil]; exact nd, by rw [List.append_nil]; exact c, fun x hx => nomatch hx⟩
  | v :: r, ss, i, h, nd, c => by
    have h' : (match stepOf H v with | none => some i | some st => if st ∈ ss ∨ 8 ≤ cnt ss st.1 then some i else scan H r (ss ++ [st]) (i + 1)) = none := h
    cases e : stepOf H v with
    | none => rw [e] at h'; cases h'
    | some st =>
      rw [e] at h'
      have h2 : (if st ∈ ss ∨ 8 ≤ cnt ss st.1 then some i else scan H r (ss ++ [st]) (i + 1)) = none := h'
      by_cases z : st ∈ ss ∨ 8 ≤ cnt ss st.1
      · rw [if_pos z] at h2; cases h2
      · rw [if_neg z] at h2
        obtain ⟨a, rfl, ha, g1, g2, g3⟩ := step_is e
        have nin : st ∉ ss := fun q => z (.inl q)
        obtain ⟨as, ts, rfl, hs, n2, c2, g⟩ := scan_ok h2 (List.nodup_append.mpr ⟨nd, by simp, fun x hx y hy e => nin (by rw [List.mem_singleton.mp hy] at e; rw [← e]; exact hx)⟩) (fun s => by
          rw [cnt_more]
          by_cases q : st.1 = s
          · rw [if_pos q]
            have : ¬ 8 ≤ cnt ss st.1 := fun t => z (.inr t)
            rw [q] at this
            omega
          · rw [if_neg q]; exact c s)
        rw [List.append_assoc] at n2 c2
        exact ⟨a :: as, st :: ts, rfl, .cons ha hs, n2, c2, fun x hx => (List.mem_cons.mp hx).elim (fun q => by rw [q]; exact ⟨g1, g2, g3⟩) (g x)⟩
theorem steps_ok {H : Hp} {v : V} (h : stepsBad H v = none) : ∃ b a as ss, RowOk H v b a as ss := by
  unfold stepsBad at h
  cases er : rowOf H v with
  | none => rw [er] at h; cases h
  | some xs =>
    rw [er] at h
    have h1 : (if 1 ≤ xs.length ∧ xs.length ≤ 80 then (scan H xs [] 0).map Int.ofNat else some (-1)) = none := h
    by_cases z : 1 ≤ xs.length ∧ xs.length ≤ 80
    · rw [if_pos z] at h1
      have h2 : scan H xs [] 0 = none := by
        cases e : scan H xs [] 0 with
        | none => rfl
        | some i => rw [e] at h1; cases h1
      obtain ⟨as, ts, rfl, hs, nd, c, g⟩ := scan_ok h2 List.nodup_nil (fun s => Nat.zero_le _)
      obtain ⟨b, a, ev, ha⟩ := row_at2 er
      have len := hs.length
      rw [List.length_map] at z
      exact ⟨b, a, as, ts, ev, ha, hs, by omega, by omega, g, nd, c⟩
    · rw [if_neg z] at h1; cases h1
def sx_Machine_init (K : PySem.W.Frag) (C : Addr) (ce : Es) : Sp := fun vs H Q E => ∃ (p dx : Addr) (v0 row vf : V) (fs : List (Str × Str)), vs = [.ref p, v0, row, vf] ∧ H p = some (.ins C dx []) ∧ Val K H v0 ∧ Val K H row ∧ (∀ xs, rowOf H row = some xs → ∀ x ∈ xs, Val2 K H x) ∧
  FArg H vf fs ∧ (∀ p ∈ fs, p.1.cps.size ≤ 100 ∧ p.2.cps.size ≤ 100) ∧ fs.length ≤ 1000 ∧ ∀ o, MOut H v0 row fs o → MCont C ce H p v0 row fs Q E o
theorem ok_Machine_init {f : Addr} {C : Addr} {ce : Es} {fd : FuncData} (T : Txt K mg C) (F : KnD.FunX K "__init__" "Machine.__init__" s_Machine_init f fd) (c_BadState : KnX.Err P w K mg base 1 "BadState" ce.st "value") (c_TooMany : KnX.Err P w K mg base 1 "TooMany" ce.tm "limit") (c_NotLive : KnX.Err P w K mg base 1 "NotLive" ce.nl "state") (c_is_state : Cal P w K mg base 2 "is_state" (sp_is_state K) []) (c_check_steps : KnX.CalX P w K mg base 4 "check_steps" (sx_check_steps K ce)) (c_check_faults : KnX.CalX P w K mg base 3 "check_faults" (sx_check_faults K ce)) (c_moves_by_state : Cal P w K mg base 1 "moves_by_state" (sp_moves_by_state K) []) (c_reached_states : Cal P w K mg base 1 "reached_states" (sp_reached_states K) []) : FnOk P w K mg base (L2.CX P w) 5 f fd ["self", "start", "steps", "faults"] (sx_Machine_init K C ce) := by
  have nd := sc_Machine_init.nd
  refine F.okX sc_Machine_init (fun vs H Q E h => ?_) (fun cdv A outer s H vs Q E hr h => ?_)
  · obtain ⟨p, dx, v0, row, vf, fs, rfl, _⟩ := h
    rfl
  · obtain ⟨p, dx, v0, row, v, fs, rfl, hp, hv0, hrow, hitems, hf, hsz, hfl, q⟩ := h
    refine ⟨_, (pss_cons (ps_if (pt_not (pt_val (pe_c c_is_state hr (by omega) (by rfl) (pa_cons (pv 1) pa_nil)))) (pss_one (KnX.ps_err rfl (takes_of rfl rfl rfl rfl) c_BadState hr (by omega) (by rfl) (pa_cons (pv 1) pa_nil))) pss_nil)
      (pss_cons (ps_expr (KnX.pe_cx c_check_steps hr (by omega) (by rfl) (takes_of rfl rfl rfl rfl) (pa_cons (pv 2) pa_nil)))
      (pss_cons (ps_set (i := 4) nd rfl (.inl rfl) (pe_callB (show CallR _ (.builtin "sorted") (KnS.rSortedL P w) from KnS.cr_sortedL rfl) (by rfl) T.m_sorted (by decide +kernel) (pa_cons (KnS.scL (own := [("step", 8)]) (g := gName 8) (tt := tYes) rfl nd (KnE.pi_seq (pv 2)) (blkOk_by (own := [("step", 8)]) (N := ["self", "start", "steps", "faults", "words", "leaving", "states", "state", "step", "word"]) (sc := defScope s_Machine_init) (by decide +kernel)) (fun _ _ _ _ _ => (pg_name (i := 8) nd rfl (.inl rfl))) (fun _ _ _ _ _ => pts_nil) (fun _ _ _ _ _ => (pe_ix (r := rIxT K) ix_tup (pv 8) pe_int (fun _ _ => rfl)))) pa_nil)))
      (pss_cons (ps_if (pt_cmpR op_gt (pe_callB call_len (by rfl) T.m_len (by decide +kernel) (pa_cons (pv 4) pa_nil)) (pe_gc (by rfl) T.c_MOST_WORDS) (nomark _)) (pss_one (KnX.ps_err rfl (takes_of rfl rfl rfl rfl) c_TooMany hr (by omega) (by rfl) (pa_cons (pe_gc (by rfl) T.c_MOST_WORDS) pa_nil))) pss_nil)
      (pss_cons (ps_expr (KnX.pe_cx c_check_faults hr (by omega) (by rfl) (takes_of rfl rfl rfl rfl) (pa_cons (pv 3) (pa_cons (pv 4) pa_nil))))
      (pss_cons (ps_set (i := 5) nd rfl (.inl rfl) (pe_c c_moves_by_state hr (by omega) (by rfl) (pa_cons (pv 2) pa_nil)))
      (pss_cons (ps_set (i := 6) nd rfl (.inl rfl) (pe_c c_reached_states hr (by omega) (by rfl) (pa_cons (pv 1) (pa_cons (pv 5) pa_nil))))
      (pss_cons (ps_for (passes_of rfl) rfl (pi_list (pv 6)) (pg_name (i := 7) nd rfl (.inl rfl)) (pss_one (ps_if (pt_cmp (pc_dnotin (hu_of hr) (pv 7) (pv 5))) (pss_one (KnX.ps_err rfl (takes_of rfl rfl rfl rfl) c_NotLive hr (by omega) (by rfl) (pa_cons (pv 7) pa_nil))) pss_nil)))
      (pss_cons (ps_fld (pv 0) (pv 1) rfl)
      (pss_cons (ps_fld (pv 0) (pe_callTy call_list_of (by rfl) T.m_list (by decide +kernel) (pa_cons (pv 2) pa_nil)) rfl)
      (pss_cons (ps_fld (pv 0) (pv 4) rfl)
      (pss_cons (ps_fld (pv 0) (pe_ifExp (pt_cmpR op_isN (pv 3) pe_non (nomark _)) pe_dnewK (pe_dc (own := [("word", 9)]) (g := gName 9) rfl nd (pi_list (pv 4)) (blkOk_by (own := [("word", 9)]) (N := ["self", "start", "steps", "faults", "words", "leaving", "states", "state", "step", "word"]) (sc := defScope s_Machine_init) (by decide +kernel)) (fun _ _ _ _ _ => (pg_name (i := 9) nd rfl (.inl rfl))) (fun _ _ _ _ _ => (pts_one (pt_cmp (pc_din (hu_of hr) (pv 9) (pv 3))))) (fun _ _ _ _ _ => (pv 9)) (fun _ _ _ _ _ => (pe_dget (hu_of hr) (pv 3) (pv 9) (fun _ _ => rfl))))) rfl)
      (pss_one (ps_fld (pv 0) (pv 6) rfl)))))))))))))), ?_⟩
    refine ⟨v0, rfl, v0, rfl, hv0, fun H1 s1 => ⟨_, rfl, ?_⟩⟩
    cases st0 : stateB v0 with
    | false => exact iteT ⟨v0, rfl, KnX.mk_err (Q := fun cls dd G => E cls dd G) fun d' nd' => q .st (.st st0) H1 d' s1 nd'⟩
    | true =>
    obtain ⟨s0, rfl⟩ : ∃ s0, v0 = .int s0 := by
      cases v0 with
      | int i => exact ⟨i, rfl⟩
      | _ => cases st0
    have rowM : ∀ {G : Hp}, Same H G → rowOf G row = rowOf H row := fun s => by
      cases hrow with
      | lst e => show itemsOf _ = itemsOf _; rw [e, s _ _ e]
      | tup e => show itemsOf _ = itemsOf _; rw [e, s _ _ e]
      | dK e => show itemsOf _ = itemsOf _; rw [e, s _ _ e]
      | _ => rfl
    have scanM : ∀ {G : Hp}, Same H G → ∀ (xs : List V) (ss : List KnA.Stp) (i : Nat), (∀ x ∈ xs, Val2 K H x) → scan G xs ss i = scan H xs ss i := fun {G} s xs => by
      induction xs with
      | nil => intro _ _ _; rfl
      | cons x r ih =>
        intro ss i hx
        show (match stepOf G x with | none => some i | some st => if st ∈ ss ∨ 8 ≤ cnt ss st.1 then some i else scan G r (ss ++ [st]) (i + 1)) = (match stepOf H x with | none => some i | some st => if st ∈ ss ∨ 8 ≤ cnt ss st.1 then some i else scan H r (ss ++ [st]) (i + 1))
        rw [stepOf_mono (hx x List.mem_cons_self).1 s]
        cases stepOf H x with
        | none => rfl
        | some st =>
          show (if st ∈ ss ∨ 8 ≤ cnt ss st.1 then some i else scan G r (ss ++ [st]) (i + 1)) = _
          rw [ih _ _ fun y hy => hx y (List.mem_cons_of_mem _ hy)]
    have badM : stepsBad H1 row = stepsBad H row := by
      unfold stepsBad
      rw [rowM s1]
      cases er : rowOf H row with
      | none => rfl
      | some xs =>
        show (if 1 ≤ xs.length ∧ xs.length ≤ 80 then (scan H1 xs [] 0).map Int.ofNat else some (-1)) = _
        rw [scanM s1 xs [] 0 (hitems xs er)]
    refine iteF ⟨row, rfl, row, rfl, hrow.mono s1, (fun xs e x hx => (hitems xs (by rw [← rowM s1]; exact e) x hx).mono s1), fun none_ H2 s2' => ?_, fun i e H2 d' s2' nd' => q (.sp i) (.sp st0 (by rw [← badM]; exact e)) H2 d' (s1.trans s2') nd'⟩
    rw [badM] at none_
    obtain ⟨b, a, as, ss, ro⟩ := steps_ok none_
    obtain ⟨ev, ha, hst, gs⟩ := id ro
    subst ev
    have s2 := s1.trans s2'
    refine ⟨.ref a, rfl, a, b, rfl, ⟨_, row_sq (s2 _ _ ha)⟩, fun D nD => ?_⟩
    have nDH : H D = none := s2.free nD
    have hi := gs.hi
    have lst : (as.map V.ref).length = ss.length := by rw [List.length_map, hst.length]
    refine KnC.sc_seq (P := P) (w := w) (K := K) (b := b) (a := a) (xs := as.map V.ref) (fun i H' => Same H H' ∧ ∃ xs : List Str, H' D = some (KnS.SetL P w D (xs.map Sum.inr)) ∧ xs.Nodup ∧ xs.length ≤ i ∧ ∀ x, x ∈ xs ↔ x ∈ (ss.take i).map (·.2.1))
      ⟨same_set nDH s2, [], upd_same, List.nodup_nil, Nat.le_refl _, fun x => Iff.rfl⟩ (fun i H' _ hP => row_sq (hP.1 _ _ ha)) (fun i x H' hx hP => ?_) (fun H' hP => ?_)
    · obtain ⟨S, xs, eD, nx, lx, mx⟩ := hP
      obtain ⟨ai, st, rfl, gi, gsi, hai⟩ := ref_get (hst.mono S) hx
      have hi80 : i < ss.length := (List.getElem?_eq_some_iff.mp gsi).1
      refine ⟨rfl, ?_⟩
      unfold tYes
      refine iteT ?_
      refine ⟨.ref ai, rfl, ai, [.int st.1, .str st.2.1, .int st.2.2], 1, .str st.2.1, rfl, rfl, .inl (.inl hai), atI_nat (j := 1) rfl, .inr st.2.1, _, rfl, eD, by rw [List.length_map]; unfold scanBound; omega, same_set nDH S, _, by rw [upd_same, KnC.addL_strs], ?_, ?_, fun x => ?_⟩
      · by_cases z : st.2.1 ∈ xs
        · rw [if_pos z]; exact nx
        · rw [if_neg z]
          refine List.nodup_append.mpr ⟨nx, by simp, fun a ha b hb e => ?_⟩
          rw [List.mem_singleton] at hb
          exact z (hb ▸ e ▸ ha)
      · by_cases z : st.2.1 ∈ xs
        · rw [if_pos z]; omega
        · rw [if_neg z, List.length_append]; exact Nat.succ_le_succ lx
      · rw [take_more gsi, List.map_append, List.mem_append, ← mx]
        by_cases z : st.2.1 ∈ xs
        · rw [if_pos z]
          refine ⟨.inl, fun y => y.elim id fun e => ?_⟩
          rw [List.mem_singleton.mp e]; exact z
        · rw [if_neg z, List.mem_append]; exact Iff.rfl
    · obtain ⟨S, xs, eD, nx, lx, mx⟩ := hP
      rw [lst, List.take_length] at mx
      refine ⟨D, xs, rfl, eD, fun ws lw pw sw nw => ?_⟩
      have hws : KnA.Words ws (ss.map (·.2.1)) := ⟨KnA.sorted_pair sw, pw.symm.nodup nx, fun x => pw.mem_iff.trans (mx x)⟩
      have S3 := S.trans (same_upd (o := .lst (ws.map V.str)) nw)
      have ew : (upd H' lw (.lst (ws.map V.str))) lw = some (.lst (ws.map V.str)) := upd_same
      have nwH : H lw = none := S.free nw
      generalize upd H' lw (.lst (ws.map V.str)) = H3 at S3 ew
      refine ⟨.ref lw, rfl, .ref lw, (ws.map V.str).length, rfl, .inl ⟨_, .inl (.inl ew), rfl⟩, ((ws.map V.str).length : Int), 14, rfl, rfl, _, rfl, ?_⟩
      rw [List.length_map]
      by_cases few : ws.length ≤ 14
      case neg =>
        rw [decide_eq_true (show (14 : Int) < (ws.length : Int) by omega)]
        exact iteT (KnX.mk_err (Q := fun cls dd G => E cls dd G) fun d' nd' => q .tm (.tm st0 ro hws (by omega)) H3 d' S3 nd')
      rw [decide_eq_false (show ¬ (14 : Int) < (ws.length : Int) by omega)]
      refine iteF ⟨v, rfl, .ref lw, rfl, v, fs, lw, ws, rfl, hf.mono S3, ew, hsz, hfl, fun fnone H4 s4' => ?_, fun x e H4 d' s4' nd' => q (.fa x) (.fa st0 ro hws few e) H4 d' (S3.trans s4') nd'⟩
      have S4 := S3.trans s4'
      have ew4 := s4' _ _ ew
      refine ⟨.ref a, rfl, b, a, as, ss, rfl, S4 _ _ ha, hst.mono S4, Nat.le_trans hi (by decide), fun H5 d s5' hd => ?_⟩
      have S5 := S4.trans s5'
      have ew5 := s5' _ _ ew4
      refine ⟨.int s0, rfl, .ref d, rfl, s0, d, ss, rfl, st0, gs, hd, fun H6 lt ns s6' nlt elt hns => ?_⟩
      have S6 := S5.trans s6'
      have ew6 := s6' _ _ ew5
      have hd6 := hd.mono s6'
      have nltH : H lt = none := S5.free nlt
      refine ⟨.ref lt, rfl, lt, rfl, ⟨_, .inl (.inl elt)⟩, ?_⟩
      refine for_list (K := K) (xs := ns.map V.int) (fun i σ H' => ∃ y7, σ = [some (.ref p), some (.int s0), some (.ref a), some v, some (.ref lw), some (.ref d), some (.ref lt), y7, none, none] ∧ H' = H6 ∧ ∀ k ∈ ns.take i, mv ss k ≠ []) ⟨none, rfl, rfl, fun k hk => absurd hk (by simp)⟩ (fun i σ H' _ ⟨_, _, e, _⟩ => by rw [e]; exact .inl (.inl elt)) (fun i x σ H' hx hP => ?_) (fun σ H' hP => ?_)
      · obtain ⟨y7, rfl, rfl, seen⟩ := hP
        rw [List.getElem?_map] at hx
        cases gx : ns[i]? with
        | none => rw [gx] at hx; cases hx
        | some n =>
        rw [gx] at hx
        cases hx
        obtain ⟨kvs, ed, hk⟩ := hd6
        have hkn := hk n
        have dg : DGet H' d (.int n) (valV kvs (.inl n)) := DGet.k (k := .inl n) ed
        have hin := (hns.mem n).mp (List.mem_of_getElem? gx)
        by_cases ne : mv ss n = []
        · rw [if_pos ne] at hkn
          rw [hkn] at dg
          refine ⟨.int n, rfl, .ref d, rfl, d, _, rfl, dg, _, rfl, iteT ⟨.int n, rfl, KnX.mk_err (Q := fun cls dd G => E cls dd G) fun d' nd' => q (.nl n) (.nl st0 ro hws few fnone rfl hin ne fun k hk' lt => ?_) H' d' S6 nd'⟩⟩
          have kin := (hns.mem k).mpr hk'
          obtain ⟨j, hj, ej⟩ := List.mem_iff_getElem.mp kin
          have hin2 : i < ns.length := (List.getElem?_eq_some_iff.mp gx).1
          have en : ns[i] = n := (List.getElem?_eq_some_iff.mp gx).2
          have ji : j < i := by
            rcases Nat.lt_or_ge j i with h | h
            · exact h
            · exfalso
              rcases Nat.lt_or_eq_of_le h with h | h
              · have := List.pairwise_iff_getElem.mp hns.up i j hin2 hj h
                rw [en, ej] at this
                omega
              · subst h
                rw [en] at ej
                omega
          exact seen k (by rw [← ej]; exact List.mem_iff_getElem.mpr ⟨j, by rw [List.length_take]; omega, by rw [List.getElem_take]⟩)
        · rw [if_neg ne] at hkn
          obtain ⟨l, as', hv, _⟩ := hkn
          rw [hv] at dg
          refine ⟨.int n, rfl, .ref d, rfl, d, _, rfl, dg, _, rfl, iteF ⟨_, rfl, rfl, fun k hk' => ?_⟩⟩
          rw [take_more gx, List.mem_append, List.mem_singleton] at hk'
          rcases hk' with h | h
          · exact seen k h
          · rw [h]; exact ne
      · obtain ⟨y7, rfl, rfl, seen⟩ := hP
        rw [List.length_map, List.take_length] at seen
        have hok : MOut H (.int s0) (.ref a) fs .ok := .ok st0 ro hws few fnone rfl fun k hk' => seen k ((hns.mem k).mpr hk')
        have kp : ∀ {G : Hp} {o : HO} {b : Addr}, b ≠ p → (upd G p o) b = G b := fun h => upd_ne h
        have hp6 := S6 _ _ hp
        -- self._start = start
        refine ⟨.int s0, rfl, .ref p, rfl, p, C, dx, [], rfl, hp6, T.cl, T.n__start, by show 0 < 1000; decide, ?_⟩
        -- self._steps = list(steps)
        have npa : a ≠ p := ne_of ha hp (fun z => by cases b <;> cases z)
        have eah : (upd H' p (.ins C dx (putF "_start" (.int s0) []))) a = some (rowO b (as.map V.ref)) := (kp npa).trans (S6 _ _ ha)
        have len1 : ∀ (f : Str) (x : V) (l : List (Str × V)) (n : Nat), l.length ≤ n → (putF f x l).length ≤ n + 1 := fun f x l n h => Nat.le_trans (length_putF f x l) (Nat.succ_le_succ h)
        have l1 : (putF ("_start" : Str) (.int s0) []).length ≤ 1 := len1 _ _ [] 0 (Nat.le_refl _)
        refine ⟨.ref a, rfl, a, as.map V.ref, rfl, by cases b with | true => exact .inl (.inl (.inl eah)) | false => exact .inr (.inl (.inl eah)), fun ls nls => ?_⟩
        have nls6 : H' ls = none := by
          by_cases e : ls = p
          · rw [e, upd_same] at nls; cases nls
          · rwa [kp e] at nls
        have nlsp : ls ≠ p := fun e => by rw [e, hp6] at nls6; cases nls6
        have s7 := same_upd (o := .lst (as.map V.ref)) nls
        refine ⟨.ref p, rfl, p, C, dx, _, rfl, s7 _ _ upd_same, T.cl, T.n__steps, by omega, ?_⟩
        have l2 := len1 "_steps" (.ref ls) _ _ l1
        -- self._words = words
        refine ⟨.ref lw, rfl, .ref p, rfl, p, C, dx, _, rfl, upd_same, T.cl, T.n__words, by omega, ?_⟩
        have l3 := len1 "_words" (.ref lw) _ _ l2
        -- the heap so far: all of H', the list of steps, the object
        have S7 : ∀ {G : Hp} (o : HO), (∀ b x, b ≠ p → H' b = some x → G b = some x) → ∀ b x, b ≠ p → H' b = some x → (upd G p o) b = some x := fun o k b x h e => (kp h).trans (k b x h e)
        have B7 : ∀ b x, b ≠ p → H' b = some x → (upd (upd (upd (upd H' p (.ins C dx (putF "_start" (.int s0) []))) ls (.lst (as.map V.ref))) p (.ins C dx (putF "_steps" (.ref ls) (putF "_start" (.int s0) [])))) p (.ins C dx (putF "_words" (.ref lw) (putF "_steps" (.ref ls) (putF "_start" (.int s0) []))))) b = some x := fun b x h e =>
          (kp h).trans ((kp h).trans (s7 _ _ ((kp h).trans e)))
        have els : (upd (upd (upd (upd H' p (.ins C dx (putF "_start" (.int s0) []))) ls (.lst (as.map V.ref))) p (.ins C dx (putF "_steps" (.ref ls) (putF "_start" (.int s0) [])))) p (.ins C dx (putF "_words" (.ref lw) (putF "_steps" (.ref ls) (putF "_start" (.int s0) []))))) ls = some (.lst (as.map V.ref)) := (kp nlsp).trans ((kp nlsp).trans upd_same)
        have ep : (upd (upd (upd (upd H' p (.ins C dx (putF "_start" (.int s0) []))) ls (.lst (as.map V.ref))) p (.ins C dx (putF "_steps" (.ref ls) (putF "_start" (.int s0) [])))) p (.ins C dx (putF "_words" (.ref lw) (putF "_steps" (.ref ls) (putF "_start" (.int s0) []))))) p = some (.ins C dx (putF "_words" (.ref lw) (putF "_steps" (.ref ls) (putF "_start" (.int s0) [])))) := upd_same
        generalize upd (upd (upd (upd H' p (.ins C dx (putF "_start" (.int s0) []))) ls (.lst (as.map V.ref))) p (.ins C dx (putF "_steps" (.ref ls) (putF "_start" (.int s0) [])))) p (.ins C dx (putF "_words" (.ref lw) (putF "_steps" (.ref ls) (putF "_start" (.int s0) [])))) = G at B7 els ep
        have nlwp : lw ≠ p := ne_of_none hp nwH |>.symm
        have nltp : lt ≠ p := ne_of_none hp nltH |>.symm
        have SG : ∀ b o, H b = some o → b ≠ p → G b = some o := fun b o e h => B7 b o h (S6 _ _ e)
        have stG : Stps G as ss := Paired.mapP hst fun b _ e => SG b _ e (ne_of e hp (fun z => by cases z))
        have fin : ∀ {G' : Hp} {df : Addr}, Same G G' → G df = none → G' df = some (.dK (fkv (orderF ws fs))) → (sFld K (fun σ H Q => Q (.ref p) H) (fun σ H Q => Q (.ref df) H) "_faults" { nx := fun σ' G2 => sFld K (tVar 0) (tVar 6) "_states" { nx := fun x H' => Q V.non H', rt := Q } σ' G2, rt := Q } [some (.ref p), some (.int s0), some (.ref a), some v, some (.ref lw), some (.ref d), some (.ref lt), y7, none, none] G') := fun {G' df} sG nfG edf => by
          have ndfp : df ≠ p := ne_of edf (sG _ _ ep) (fun z => by cases z)
          refine ⟨p, C, dx, _, rfl, sG _ _ ep, T.cl, T.n__faults, by omega, ?_⟩
          have l4 := len1 "_faults" (.ref df) _ _ l3
          refine ⟨.ref lt, rfl, .ref p, rfl, p, C, dx, _, rfl, upd_same, T.cl, T.n__states, by omega, ?_⟩
          have keep : ∀ b o, b ≠ p → G' b = some o → (upd (upd G' p (.ins C dx (putF "_faults" (.ref df) (putF "_words" (.ref lw) (putF "_steps" (.ref ls) (putF "_start" (.int s0) [])))))) p (.ins C dx (putF "_states" (.ref lt) (putF "_faults" (.ref df) (putF "_words" (.ref lw) (putF "_steps" (.ref ls) (putF "_start" (.int s0) []))))))) b = some o := fun b o h e => (kp h).trans ((kp h).trans e)
          have ndfH : H df = none := by
            cases e : H df with
            | none => rfl
            | some o =>
              have e2 := SG df o e ndfp
              rw [nfG] at e2
              cases e2
          refine q .ok hok s0 as ss _ dx ls lw df lt ws ns rfl hst gs (fun b o e h => keep b o h (sG _ _ (SG b o e h))) ⟨upd_same, keep _ _ nlsp (sG _ _ els), ?_, keep _ _ nlwp (sG _ _ (B7 _ _ nlwp ew6)), hws, keep _ _ ndfp edf, keep _ _ nltp (sG _ _ (B7 _ _ nltp elt)), hns⟩ (S6.free nls6) nwH ndfH nltH
          exact Paired.mapP (stG.mono sG) fun b _ e => keep b _ (ne_of e (sG _ _ ep) (fun z => by cases z)) e
        rcases hf with ⟨rfl, rfl⟩ | ⟨fd, rfl, efd⟩
        · refine ⟨.non, rfl, rfl, _, rfl, iteT fun df ndf => ⟨.ref p, rfl, ?_⟩⟩
          exact fin (same_upd ndf) ndf (by rw [upd_same, order_nil]; rfl)
        · refine ⟨.ref fd, rfl, rfl, _, rfl, ?_⟩
          rw [decide_eq_false (show ¬ V.ref fd = V.non from fun z => by cases z)]
          have nfp : fd ≠ p := ne_of efd hp (fun z => by cases z)
          have efG := SG _ _ efd nfp
          have ewG := B7 _ _ nlwp ew6
          refine iteF ⟨.ref lw, rfl, lw, rfl, ⟨_, .inl (.inl ewG)⟩, fun df ndf => ?_⟩
          refine KnC.dc_list (K := K) (xs := ws.map V.str) (fun i G' => Same G G' ∧ G' df = some (.dK (fkv (orderF (ws.take i) fs)))) ⟨same_upd ndf, upd_same⟩ (fun i G' _ hP => .inl (.inl (hP.1 _ _ ewG))) (fun i x G' hx hP => ?_) (fun G' hP => ?_)
          · obtain ⟨SG', edf⟩ := hP
            rw [List.getElem?_map] at hx
            cases gx : ws[i]? with
            | none => rw [gx] at hx; cases hx
            | some z =>
            rw [gx] at hx
            cases hx
            have hiw : i < ws.length := (List.getElem?_eq_some_iff.mp gx).1
            have dg : DGet G' fd (.str z) (valV (fkv fs) (.inr z)) := DGet.k (k := .inr z) (SG' _ _ efG)
            rw [look_val] at dg
            refine ⟨rfl, .str z, rfl, .ref fd, rfl, fd, _, rfl, dg, _, rfl, ?_⟩
            have tk := order_take (fs := fs) gx
            cases lk : look fs z with
            | none =>
              rw [lk] at tk
              refine iteF ⟨SG', ?_⟩
              rw [tk, List.append_nil]; exact edf
            | some n =>
              rw [lk] at tk dg
              have no : valV (fkv (orderF (ws.take i) fs)) (.inr z) = none := val_none fun p hp e => by
                have hm := order_keys hp
                rw [e] at hm
                obtain ⟨j, hj, ej⟩ := List.mem_iff_getElem.mp hm
                rw [List.getElem_take] at ej
                have lj : j < i := by rw [List.length_take] at hj; omega
                have e1 : ws[i] = z := (List.getElem?_eq_some_iff.mp gx).2
                exact absurd ((List.getElem_inj hws.nd).mp (ej.trans e1.symm)) (by omega)
              have lf : (fkv (orderF (ws.take i) fs)).length ≤ 14 := by
                unfold fkv
                rw [List.length_map]
                refine Nat.le_trans (order_len _ _) ?_
                rw [List.length_take]; omega
              refine iteT ⟨.str z, rfl, .ref fd, rfl, .str z, rfl, fd, .str n, rfl, dg, _, .inr z, rfl, edf, small (by omega), ?_⟩
              refine ⟨same_set ndf SG', ?_⟩
              rw [upd_same, putK_new _ no, tk]
              unfold fkv
              rw [List.map_append]; rfl
          · obtain ⟨SG', edf⟩ := hP
            rw [List.length_map, List.take_length] at edf
            exact ⟨.ref p, rfl, fin SG' ndf edf⟩

/-! ### the errors' classes -/
structure TxE (K : PySem.W.Frag) (mg : Str → Option Value) (C : Addr) (ce : Es) : Prop where
  g_Machine : mg "Machine" = some (.ref C)
  ins : C8.InsC K C
  g_BadState : mg "BadState" = some (.ref ce.st)
  g_BadSteps : mg "BadSteps" = some (.ref ce.sp)
  g_BadFaults : mg "BadFaults" = some (.ref ce.fa)
  g_NotLive : mg "NotLive" = some (.ref ce.nl)
  g_TooMany : mg "TooMany" = some (.ref ce.tm)
  f_BadState : XfC K ce.st
  f_BadSteps : XfC K ce.sp
  f_BadFaults : XfC K ce.fa
  f_NotLive : XfC K ce.nl
  f_TooMany : XfC K ce.tm
  o_BadState : PySem.W.findIn K (.ref ce.st) "value" = some none
  o_BadSteps : PySem.W.findIn K (.ref ce.sp) "at" = some none
  o_BadFaults : PySem.W.findIn K (.ref ce.fa) "word" = some none
  o_NotLive : PySem.W.findIn K (.ref ce.nl) "state" = some none
  o_TooMany : PySem.W.findIn K (.ref ce.tm) "limit" = some none
  x_same : ∀ A ∈ [ce.st, ce.sp, ce.fa, ce.nl, ce.tm], PySem.W.exmOne K (.ref A) (.ref A) = some true
  x_dif : ∀ A ∈ [ce.st, ce.sp, ce.fa, ce.nl, ce.tm], ∀ B ∈ [ce.st, ce.sp, ce.fa, ce.nl, ce.tm], A ≠ B → PySem.W.exmOne K (.ref A) (.ref B) = some false
  dist : ce.st ≠ ce.sp ∧ ce.st ≠ ce.fa ∧ ce.st ≠ ce.nl ∧ ce.st ≠ ce.tm ∧ ce.sp ≠ ce.fa ∧ ce.sp ≠ ce.nl ∧ ce.sp ≠ ce.tm ∧ ce.fa ≠ ce.nl ∧ ce.fa ≠ ce.tm ∧ ce.nl ≠ ce.tm
theorem rowOf_mono {K : PySem.W.Frag} {H G : Hp} {row : V} (h : Val K H row) (s : Same H G) : rowOf G row = rowOf H row := by
  cases h with
  | lst e => show itemsOf _ = itemsOf _; rw [e, s _ _ e]
  | tup e => show itemsOf _ = itemsOf _; rw [e, s _ _ e]
  | dK e => show itemsOf _ = itemsOf _; rw [e, s _ _ e]
  | _ => rfl
theorem scan_mono {K : PySem.W.Frag} {H G : Hp} (s : Same H G) : ∀ (xs : List V) (ss : List KnA.Stp) (i : Nat), (∀ x ∈ xs, Val2 K H x) → scan G xs ss i = scan H xs ss i
  | [], _, _, _ => rfl
  | x :: r, ss, i, hx => by
    show (match stepOf G x with | none => some i | some st => if st ∈ ss ∨ 8 ≤ cnt ss st.1 then some i else scan G r (ss ++ [st]) (i + 1)) = (match stepOf H x with | none => some i | some st => if st ∈ ss ∨ 8 ≤ cnt ss st.1 then some i else scan H r (ss ++ [st]) (i + 1))
    rw [stepOf_mono (hx x List.mem_cons_self).1 s]
    cases stepOf H x with
    | none => rfl
    | some st =>
      show (if st ∈ ss ∨ 8 ≤ cnt ss st.1 then some i else scan G r (ss ++ [st]) (i + 1)) = _
      rw [scan_mono s r _ _ fun y hy => hx y (List.mem_cons_of_mem _ hy)]
theorem bad_mono {K : PySem.W.Frag} {H G : Hp} {row : V} (h : Val K H row) (hi : ∀ xs, rowOf H row = some xs → ∀ x ∈ xs, Val2 K H x) (s : Same H G) : stepsBad G row = stepsBad H row := by
  unfold stepsBad
  rw [rowOf_mono h s]
  cases er : rowOf H row with
  | none => rfl
  | some xs =>
    show (if 1 ≤ xs.length ∧ xs.length ≤ 80 then (scan G xs [] 0).map Int.ofNat else some (-1)) = _
    rw [scan_mono s xs [] 0 (hi xs er)]
/-- a right row in a later heap is a right row in the earlier one -/
theorem RowOk.back {K : PySem.W.Frag} {H G : Hp} {row : V} {b : Bool} {a : Addr} {as : List Addr} {ss : List KnA.Stp} (r : RowOk G row b a as ss) (h : Val K H row) (hi : ∀ xs, rowOf H row = some xs → ∀ x ∈ xs, Val2 K H x) (s : Same H G) : RowOk H row b a as ss := by
  obtain ⟨ev, ha, st, gs⟩ := r
  subst ev
  have there : ∀ {c : Addr} {o : HO}, Val K H (.ref c) → G c = some o → H c = some o := fun {c o} hv e => by
    cases hv with
    | lst e' => rw [s _ _ e'] at e; rw [e', e]
    | tup e' => rw [s _ _ e'] at e; rw [e', e]
    | dK e' => rw [s _ _ e'] at e; rw [e', e]
  have ha' := there h ha
  have er : rowOf H (.ref a) = some (as.map V.ref) := by
    show itemsOf (H a) = _
    rw [ha']
    cases b <;> rfl
  refine ⟨rfl, ha', ?_, gs⟩
  have hit := hi _ er
  clear ha ha' er h gs
  induction st with
  | nil => exact .nil
  | cons e _ ih => exact .cons (there (hit _ List.mem_cons_self).1 e) (ih fun x hx => hit x (List.mem_cons_of_mem _ hx))
theorem MOut.back {K : PySem.W.Frag} {H G : Hp} {v0 row : V} {fs : List (Str × Str)} {o : Out} (m : MOut G v0 row fs o) (h : Val K H row) (hi : ∀ xs, rowOf H row = some xs → ∀ x ∈ xs, Val2 K H x) (s : Same H G) : MOut H v0 row fs o := by
  cases m with
  | st a => exact .st a
  | sp a e => exact .sp a (by rw [← bad_mono h hi s]; exact e)
  | tm a r w m => exact .tm a (r.back h hi s) w m
  | fa a r w m e => exact .fa a (r.back h hi s) w m e
  | nl a r w m e e0 hn no lo => exact .nl a (r.back h hi s) w m e e0 hn no lo
  | ok a r w m e e0 live => exact .ok a (r.back h hi s) w m e e0 live
theorem look1 {g : Str} {v : V} : ([(g, v)] : List (Str × V)).lookup g = some v := by simp [List.lookup]
/-- what is told of an outcome -/
def outV (v0 : V) : Out → List V
  | .ok => [.str "made", .int 0]
  | .st => [.str "BadState", v0]
  | .sp i => [.str "BadSteps", .int i]
  | .tm => [.str "TooMany", .int 14]
  | .fa x => [.str "BadFaults", .str x]
  | .nl n => [.str "NotLive", .int n]
def sp__law_made (K : PySem.W.Frag) : Sp := fun vs H Q _ => ∃ (v0 row vf : V) (fs : List (Str × Str)), vs = [v0, row, vf] ∧ Val K H v0 ∧ Val K H row ∧ (∀ xs, rowOf H row = some xs → ∀ x ∈ xs, Val2 K H x) ∧
  FArg H vf fs ∧ (∀ p ∈ fs, p.1.cps.size ≤ 100 ∧ p.2.cps.size ≤ 100) ∧ fs.length ≤ 1000 ∧ ∀ o, MOut H v0 row fs o → ∀ H' l, Same H H' → H l = none → H' l = some (.lst (outV v0 o)) → Q (.ref l) H'
theorem ok__law_made {f : Addr} {C : Addr} {ce : Es} {fd : FuncData} (T : Txt K mg C) (F : Fun K "_law_made" "_law_made" s__law_made f fd) (TE : TxE K mg C ce) (c_Machine_init : KnX.MakX P w K mg base 5 "Machine" C (sx_Machine_init K C ce)) : FnOk P w K mg base CX0 7 f fd ["_law_start", "_law_rows", "_law_faults"] (sp__law_made K) := by
  have nd := sc__law_made.nd
  refine F.ok sc__law_made (fun vs H Q E h => ?_) (fun cdv A outer s H vs Q E hr h => ?_)
  · obtain ⟨v0, row, vf, fs, rfl, _⟩ := h
    rfl
  · obtain ⟨v0, row, vf, fs, rfl, hv0, hrow, hitems, hf, hsz, hfl, q⟩ := h
    refine ⟨_, (pss_cons (KnX.ps_try_all rfl rfl nd takes0 (fun W pn xe tk po => (pss_one (ps_set (i := 3) nd rfl (.inl rfl) (KnX.pe_mkx c_Machine_init hr (by omega) (by rfl) tk (pa_cons (pv 0) (pa_cons (pv 1) (pa_cons (pv 2) pa_nil))))))) (.cons ⟨rfl, by decide, .inl TE.g_BadState⟩ (i := 4) rfl rfl (fun a oe cls d pn hz hf => (pss_one (ps_ret (pe_lst (pa_cons pe_str (pa_cons (pe_xf TE.f_BadState TE.o_BadState hz hf (pv 4)) pa_nil)))))) (.cons ⟨rfl, by decide, .inl TE.g_BadSteps⟩ (i := 4) rfl rfl (fun a oe cls d pn hz hf => (pss_one (ps_ret (pe_lst (pa_cons pe_str (pa_cons (pe_xf TE.f_BadSteps TE.o_BadSteps hz hf (pv 4)) pa_nil)))))) (.cons ⟨rfl, by decide, .inl TE.g_TooMany⟩ (i := 4) rfl rfl (fun a oe cls d pn hz hf => (pss_one (ps_ret (pe_lst (pa_cons pe_str (pa_cons (pe_xf TE.f_TooMany TE.o_TooMany hz hf (pv 4)) pa_nil)))))) (.cons ⟨rfl, by decide, .inl TE.g_BadFaults⟩ (i := 4) rfl rfl (fun a oe cls d pn hz hf => (pss_one (ps_ret (pe_lst (pa_cons pe_str (pa_cons (pe_xf TE.f_BadFaults TE.o_BadFaults hz hf (pv 4)) pa_nil)))))) (.cons ⟨rfl, by decide, .inl TE.g_NotLive⟩ (i := 4) rfl rfl (fun a oe cls d pn hz hf => (pss_one (ps_ret (pe_lst (pa_cons pe_str (pa_cons (pe_xf TE.f_NotLive TE.o_NotLive hz hf (pv 4)) pa_nil)))))) .nil))))))
      (pss_one (ps_ret (pe_lst (pa_cons pe_str (pa_cons (pe_callTy call_int1 (by rfl) T.m_int (by decide +kernel) (pa_cons (pe_not (pe_callB (C8.call_isC TE.ins) (by rfl) T.m_isinstance (by decide +kernel) (pa_cons (pv 3) (pa_cons (pe_glob (v := .ref C) (by rfl) TE.g_Machine rfl) pa_nil)))) pa_nil)) pa_nil)))))), ?_⟩
    refine ⟨v0, rfl, row, rfl, vf, rfl, fun x dx nx ndx nex => ?_⟩
    have sx : Same H (upd (upd H dx (.own x)) x (.ins C dx [])) := fun b o e => (upd_ne (ne_of_none e nx)).trans ((upd_ne (ne_of_none e ndx)).trans e)
    refine ⟨x, dx, v0, row, vf, fs, rfl, upd_same, hv0.mono sx, hrow.mono sx, fun xs e y hy => (hitems xs (by rw [← rowOf_mono hrow sx]; exact e) y hy).mono sx, hf.mono sx, hsz, hfl, fun o ho => ?_⟩
    have ho' := ho.back hrow hitems sx
    have q' := q o ho'
    clear ho
    cases o with
    | ok =>
      intro s0 as ss H' dx' ls lw df lt ws ns ev hs gs kp mo f1 f2 f3 f4
      have S : Same H H' := fun b o e => kp b o (sx _ _ e) (ne_of_none e nx)
      exact ⟨rfl, .ref x, rfl, x, dx', _, rfl, mo.ob, true, rfl, .inr ⟨false, rfl, szl rfl, fun l nl => q' _ l (S.trans (same_upd nl)) (S.free nl) upd_same⟩⟩
    | st =>
      intro H' d s' nd'
      refine ⟨true, TE.x_same ce.st (by simp), (fun _ a na => ?_), fun z => by cases z⟩
      have S : Same H (upd H' d (.xd [("value", v0)])) := (sx.trans s').trans (same_upd nd')
      exact ⟨.ref a, rfl, rfl, rfl, d, _, v0, rfl, upd_same, look1, szl rfl, fun l nl => q' _ l (S.trans (same_upd nl)) (S.free nl) upd_same⟩
    | sp i =>
      intro H' d s' nd'
      refine ⟨false, TE.x_dif ce.sp (by simp) ce.st (by simp) (Ne.symm (TE.dist.1)), (fun z => by cases z), fun _ => ⟨true, TE.x_same ce.sp (by simp), (fun _ a na => ?_), fun z => by cases z⟩⟩
      have S : Same H (upd H' d (.xd [("at", .int i)])) := (sx.trans s').trans (same_upd nd')
      exact ⟨.ref a, rfl, rfl, rfl, d, _, (.int i), rfl, upd_same, look1, szl rfl, fun l nl => q' _ l (S.trans (same_upd nl)) (S.free nl) upd_same⟩
    | tm =>
      intro H' d s' nd'
      refine ⟨false, TE.x_dif ce.tm (by simp) ce.st (by simp) (Ne.symm (TE.dist.2.2.2.1)), (fun z => by cases z), fun _ => ⟨false, TE.x_dif ce.tm (by simp) ce.sp (by simp) (Ne.symm (TE.dist.2.2.2.2.2.2.1)), (fun z => by cases z), fun _ => ⟨true, TE.x_same ce.tm (by simp), (fun _ a na => ?_), fun z => by cases z⟩⟩⟩
      have S : Same H (upd H' d (.xd [("limit", .int 14)])) := (sx.trans s').trans (same_upd nd')
      exact ⟨.ref a, rfl, rfl, rfl, d, _, (.int 14), rfl, upd_same, look1, szl rfl, fun l nl => q' _ l (S.trans (same_upd nl)) (S.free nl) upd_same⟩
    | fa x1 =>
      intro H' d s' nd'
      refine ⟨false, TE.x_dif ce.fa (by simp) ce.st (by simp) (Ne.symm (TE.dist.2.1)), (fun z => by cases z), fun _ => ⟨false, TE.x_dif ce.fa (by simp) ce.sp (by simp) (Ne.symm (TE.dist.2.2.2.2.1)), (fun z => by cases z), fun _ => ⟨false, TE.x_dif ce.fa (by simp) ce.tm (by simp) TE.dist.2.2.2.2.2.2.2.2.1, (fun z => by cases z), fun _ => ⟨true, TE.x_same ce.fa (by simp), (fun _ a na => ?_), fun z => by cases z⟩⟩⟩⟩
      have S : Same H (upd H' d (.xd [("word", .str x1)])) := (sx.trans s').trans (same_upd nd')
      exact ⟨.ref a, rfl, rfl, rfl, d, _, (.str x1), rfl, upd_same, look1, szl rfl, fun l nl => q' _ l (S.trans (same_upd nl)) (S.free nl) upd_same⟩
    | nl n =>
      intro H' d s' nd'
      refine ⟨false, TE.x_dif ce.nl (by simp) ce.st (by simp) (Ne.symm (TE.dist.2.2.1)), (fun z => by cases z), fun _ => ⟨false, TE.x_dif ce.nl (by simp) ce.sp (by simp) (Ne.symm (TE.dist.2.2.2.2.2.1)), (fun z => by cases z), fun _ => ⟨false, TE.x_dif ce.nl (by simp) ce.tm (by simp) TE.dist.2.2.2.2.2.2.2.2.2, (fun z => by cases z), fun _ => ⟨false, TE.x_dif ce.nl (by simp) ce.fa (by simp) (Ne.symm (TE.dist.2.2.2.2.2.2.2.1)), (fun z => by cases z), fun _ => ⟨true, TE.x_same ce.nl (by simp), (fun _ a na => ?_), fun z => by cases z⟩⟩⟩⟩⟩
      have S : Same H (upd H' d (.xd [("state", .int n)])) := (sx.trans s').trans (same_upd nd')
      exact ⟨.ref a, rfl, rfl, rfl, d, _, (.int n), rfl, upd_same, look1, szl rfl, fun l nl => q' _ l (S.trans (same_upd nl)) (S.free nl) upd_same⟩

end
end Kn

set_option Elab.async false
set_option linter.all false
set_option maxRecDepth 100000
set_option maxHeartbeats 4000000
namespace Kn
open PySem PySem.Spec PyProof.Rows L2
open C8 (Cal pe_c pe_gc Mak pe_mk)
section
variable {P : Program} {w : World} {K : PySem.W.Frag} {mg : Str → Option Value} {base : Heap}
theorem ok__law_is_integer {f : Addr} {C : Addr} {fd : FuncData} (T : Txt K mg C) (F : Fun K "_law_is_integer" "_law_is_integer" s__law_is_integer f fd)  : FnOk P w K mg base CX0 1 f fd ["_law_thing_here"] (sp__law_is_integer K) := by
  have nd := sc__law_is_integer.nd
  refine F.ok sc__law_is_integer (fun vs H Q E h => ?_) (fun cdv A outer s H vs Q E hr h => ?_)
  · obtain ⟨v, rfl, _⟩ := h
    rfl
  · obtain ⟨v, rfl, hv, q⟩ := h
    refine ⟨_, (pss_one (ps_ret (pe_and (pe_callB call_isi (by rfl) T.m_isinstance (by decide +kernel) (pa_cons (pv 0) (pa_cons (pe_bltn (v := .ty "int") (u := .type "int") (by rfl) T.m_int (by decide +kernel) rfl) pa_nil))) (pe_one (pe_not (pe_callB call_isi (by rfl) T.m_isinstance (by decide +kernel) (pa_cons (pv 0) (pa_cons (pe_bltn (v := .ty "bool") (u := .type "bool") (by rfl) T.m_bool (by decide +kernel) rfl) pa_nil)))))))), ?_⟩
    obtain ⟨t, ht, hs, hi, hb⟩ := hv.ty
    refine ⟨v, rfl, v, .ty "int", t, _, isI v, rfl, .ty _, ht, hi, _, rfl, ?_⟩
    have q' := q H (Same.refl H)
    unfold wholeB at q'
    by_cases e : isI v = true
    · rw [if_pos e]
      refine ⟨v, rfl, v, .ty "bool", t, _, isB v, rfl, .ty _, ht, hb, _, rfl, ?_⟩
      rw [e] at q'
      exact q'
    · rw [if_neg e]
      rw [Bool.eq_false_iff.mpr e] at q'
      exact q'


theorem ok__law_is_state {f : Addr} {C : Addr} {fd : FuncData} (T : Txt K mg C) (F : Fun K "_law_is_state" "_law_is_state" s__law_is_state f fd) (c__law_is_integer : Cal P w K mg base 1 "_law_is_integer" (sp__law_is_integer K) []) : FnOk P w K mg base CX0 2 f fd ["_law_thing_here"] (sp__law_is_state K) := by
  have nd := sc__law_is_state.nd
  refine F.ok sc__law_is_state (fun vs H Q E h => ?_) (fun cdv A outer s H vs Q E hr h => ?_)
  · obtain ⟨v, rfl, _⟩ := h
    rfl
  · obtain ⟨v, rfl, hv, q⟩ := h
    refine ⟨_, (pss_one (ps_ret (pe_and (pe_c c__law_is_integer hr (by omega) (by rfl) (pa_cons (pv 0) pa_nil)) (pe_one (pe_chain op_le op_le pe_int (pv 0) pe_int))))), ?_⟩
    refine ⟨v, rfl, v, rfl, hv, fun H1 s1 => ⟨_, rfl, ?_⟩⟩
    have q' := q H1 s1
    cases hv with
    | int i =>
      refine iteT ⟨.int i, rfl, 0, i, rfl, rfl, _, rfl, ?_⟩
      by_cases e : 0 ≤ i
      · rw [decide_eq_true e]
        refine iteT ⟨i, 99, rfl, rfl, ?_⟩
        have e2 : stateB (.int i) = decide (i ≤ 99) := by
          show (decide (0 ≤ i) && decide (i ≤ 99)) = _
          rw [decide_eq_true e]; rfl
        rw [e2] at q'
        exact q'
      · rw [decide_eq_false e]
        refine iteF ?_
        have e2 : stateB (.int i) = false := by
          show (decide (0 ≤ i) && decide (i ≤ 99)) = _
          rw [decide_eq_false e]; rfl
        rw [e2] at q'
        exact q'
    | _ => exact iteF q'

theorem ok__law_is_name {f : Addr} {C : Addr} {fd : FuncData} (T : Txt K mg C) (F : Fun K "_law_is_name" "_law_is_name" s__law_is_name f fd)  : FnOk P w K mg base CX0 1 f fd ["_law_thing_here"] (sp__law_is_name K) := by
  have nd := sc__law_is_name.nd
  refine F.ok sc__law_is_name (fun vs H Q E h => ?_) (fun cdv A outer s H vs Q E hr h => ?_)
  · obtain ⟨v, rfl, _⟩ := h
    rfl
  · obtain ⟨v, rfl, hv, q⟩ := h
    refine ⟨_, (pss_cons (ps_if (PW.pt (pw_or (pt_not (pt_val (pe_callB call_isi (by rfl) T.m_isinstance (by decide +kernel) (pa_cons (pv 0) (pa_cons (pe_bltn (v := .ty "str") (u := .type "str") (by rfl) T.m_str (by decide +kernel) rfl) pa_nil))))) (pw_or1 (pt_not (pt_chain op_le op_le pe_int (pe_callB call_len (by rfl) T.m_len (by decide +kernel) (pa_cons (pv 0) pa_nil)) pe_int))))) (pss_one (ps_ret pe_bl)) pss_nil)
      (pss_one (ps_ret (pe_cmpR op_eq (pe_callB call_len (by rfl) T.m_len (by decide +kernel) (pa_cons (pe_lc (own := [("_law_sign", 1)]) (g := gName 1) rfl nd (pi_str (pv 0)) (blkOk_by (N := ["_law_thing_here", "_law_sign"]) (sc := defScope s__law_is_name) (by decide +kernel)) (fun _ _ _ _ _ => (pg_name (i := 1) nd rfl (.inl rfl))) (fun _ _ _ _ _ => (pts_one (pt_cmpR op_notIn_sign (pv 1) pe_str (by with_unfolding_all rfl)))) (fun _ _ _ _ _ => (pv 1))) pa_nil)) pe_int (nomark _))))), ?_⟩
    obtain ⟨t, ht, hs, hi, hb⟩ := hv.ty
    refine ⟨v, rfl, v, .ty "str", t, _, isS v, rfl, .ty _, ht, hs, _, rfl, ?_⟩
    cases e : isS v with
    | false =>
      refine iteT ?_
      have q' := q H (Same.refl H)
      rw [nameB_not e] at q'
      exact q'
    | true =>
      obtain ⟨z, rfl⟩ := isS_str e
      have hz := hv.size
      refine iteF ⟨.str z, rfl, .str z, z.cps.size, rfl, ⟨smallE (show z.cps.size ≤ 100000 by omega), rfl⟩, 1, (z.cps.size : Int), rfl, rfl, _, rfl, ?_⟩
      by_cases a : 1 ≤ z.cps.size
      · rw [decide_eq_true (show (1 : Int) ≤ (z.cps.size : Int) by omega)]
        refine iteT ⟨(z.cps.size : Int), 12, rfl, rfl, _, rfl, ?_⟩
        by_cases b : z.cps.size ≤ 12
        · rw [decide_eq_true (show (z.cps.size : Int) ≤ 12 by omega)]
          refine iteF ⟨.str z, rfl, z, rfl, fun D nD => lc_text (fun i H' => Same H H' ∧ ∃ ys : List V, H' D = some (.lst ys) ∧ ys.length ≤ i ∧ decide (ys.length = 0) = (z.cps.toList.take i).all inL) ⟨same_upd nD, [], upd_same, Nat.le_refl _, rfl⟩ (fun i c H' hc hP => ?_) (fun H' hP => ?_)⟩
          · obtain ⟨sm, ys, eD, hl2, hn⟩ := hP
            have hl : i < z.cps.toList.length := (List.getElem?_eq_some_iff.mp hc).1
            rw [Array.length_toList] at hl
            refine ⟨rfl, .str ⟨#[c]⟩, rfl, c, letters, rfl, rfl, _, rfl, ?_⟩
            have e3 : decide (c ∈ letters.cps.toList) = inL c := rfl
            rw [e3]
            cases e4 : inL c with
            | true =>
              refine iteF ⟨sm, ys, eD, by omega, ?_⟩
              rw [take_more hc, List.all_append, ← hn]
              simp [e4]
            | false =>
              refine iteT ⟨.str ⟨#[c]⟩, rfl, ys, eD, small (by omega), same_set nD sm, ys ++ [.str ⟨#[c]⟩], upd_same, by rw [List.length_append]; exact Nat.succ_le_succ hl2, ?_⟩
              rw [take_more hc, List.all_append]
              simp [e4]
          · obtain ⟨sm, ys, eD, hl2, hn⟩ := hP
            rw [List.take_length] at hn
            refine ⟨.ref D, ys.length, rfl, .inl ⟨ys, .inl (.inl eD), rfl⟩, rfl, ?_⟩
            have q' := q H' sm
            rw [nameB_in a b, ← hn] at q'
            have e5 : decide (V.int (ys.length : Int) = V.int 0) = decide (ys.length = 0) := by
              by_cases y0 : ys.length = 0
              · rw [y0]; rfl
              · rw [decide_eq_false y0, decide_eq_false]
                intro z
                have := V.int.inj z
                omega
            rw [e5]
            exact q'
        · rw [decide_eq_false (show ¬ (z.cps.size : Int) ≤ 12 by omega)]
          refine iteT ?_
          have q' := q H (Same.refl H)
          rw [nameB_out (fun h => b h.2)] at q'
          exact q'
      · rw [decide_eq_false (show ¬ (1 : Int) ≤ (z.cps.size : Int) by omega)]
        refine iteF ?_
        have q' := q H (Same.refl H)
        rw [nameB_out (fun h => a h.1)] at q'
        exact ⟨_, rfl, q'⟩

/-- steps as data -/
def dat (x : KnA.Stp) : PyData := .tuple [.int x.1, .str x.2.1, .int x.2.2]
theorem dat_eq (x y : KnA.Stp) : PyData.eqv (dat x) (dat y) = decide (x = y) := by
  obtain ⟨a, b, c⟩ := x
  obtain ⟨a', b', c'⟩ := y
  show ((a == a') && ((b == b') && ((c == c') && true))) = decide ((a, b, c) = (a', b', c'))
  by_cases e1 : a = a' <;> by_cases e2 : b = b' <;> by_cases e3 : c = c' <;> simp [e1, e2, e3]
theorem dat_any (ss : List KnA.Stp) (x : KnA.Stp) : ((ss.map dat).any fun z => PyData.eqv z (dat x)) = decide (x ∈ ss) := by
  induction ss with
  | nil => rfl
  | cons y r ih =>
    rw [List.map_cons, List.any_cons, ih, dat_eq]
    by_cases e : y = x
    · subst e; simp
    · have e' : ¬ x = y := fun q => e q.symm
      simp [e, e']
theorem strOk_name {z : Str} (h : nameB (.str z) = true) : PyData.strOk z = true := by
  have h' : (decide (1 ≤ z.cps.size) && decide (z.cps.size ≤ 12) && z.cps.toList.all inL) = true := h
  rw [Bool.and_eq_true] at h'
  have hl : ∀ c ∈ letters.cps.toList, c < 0x110000 := by decide +kernel
  unfold PyData.strOk
  rw [Array.all_eq_true]
  intro i hi
  have hm : z.cps[i] ∈ z.cps.toList := Array.getElem_mem_toList hi
  exact decide_eq_true (hl _ (of_decide_eq_true (List.all_eq_true.mp h'.2 _ hm)))
theorem dat_shaped {x : KnA.Stp} (h : nameB (.str x.2.1) = true) : SeqAt.shaped (dat x) = true := by
  unfold SeqAt.shaped
  have h1 : (dat x).canLay0 = true := by
    show (true && (PyData.strOk x.2.1 && (true && true))) = true
    rw [strOk_name h]; rfl
  have h2 : (dat x).depth = 1 := by
    show max 0 (max 0 (max 0 0)) + 1 = 1
    rfl
  rw [h1, h2]; rfl
theorem dats_shaped {ss : List KnA.Stp} (h : ∀ x ∈ ss, nameB (.str x.2.1) = true) : SeqAt.shaped (.list (ss.map dat)) = true := by
  have h1 : PyData.canLayAll0 (ss.map dat) = true ∧ PyData.depthAll (ss.map dat) ≤ 1 := by
    induction ss with
    | nil => exact ⟨rfl, Nat.zero_le _⟩
    | cons x r ih =>
      obtain ⟨a, b⟩ := ih fun y hy => h y (List.mem_cons_of_mem _ hy)
      refine ⟨?_, ?_⟩
      · show ((true && (PyData.strOk x.2.1 && (true && true))) && PyData.canLayAll0 (r.map dat)) = true
        rw [strOk_name (h x List.mem_cons_self), a]; rfl
      · show max (max 0 (max 0 (max 0 0)) + 1) (PyData.depthAll (r.map dat)) ≤ 1
        omega
  unfold SeqAt.shaped
  have h2 : (PyData.list (ss.map dat)).canLay0 = true := h1.1
  have h3 : (PyData.list (ss.map dat)).depth ≤ 64 := by
    show PyData.depthAll (ss.map dat) + 1 ≤ 64
    omega
  rw [h2, decide_eq_true h3]; rfl
theorem dps {K : PySem.W.Frag} {H : Hp} {as : List Addr} {ss : List KnA.Stp} (h : Stps H as ss) : DpAll K H (as.map V.ref) (ss.map dat) := by
  induction h with
  | nil => exact .nil
  | cons r _ ih => exact .cons (.tup (.inl (.inl r)) (.cons (.int _) (.cons (.str _) (.cons (.int _) .nil)))) ih
theorem cut_from {xs : List V} {a : Nat} : cutV xs (some (a : Int)) none = xs.drop a := by
  unfold cutV
  rw [HT.sIx_nat, HT.sIx_none]
  by_cases h : a ≤ xs.length
  · rw [Nat.min_eq_left h, List.take_of_length_le (by rw [List.length_drop]; omega)]
  · rw [Nat.min_eq_right (by omega : xs.length ≤ a), List.drop_of_length_le (Nat.le_refl _), List.drop_of_length_le (by omega), List.take_nil]
theorem cut_to {xs : List V} {a : Nat} : cutV xs none (some (a : Int)) = xs.take a := by
  unfold cutV
  rw [HT.sIx_nat, HT.sIx_none, List.drop_zero, Nat.sub_zero]
  by_cases h : a ≤ xs.length
  · rw [Nat.min_eq_left h]
  · rw [Nat.min_eq_right (by omega : xs.length ≤ a), List.take_of_length_le (Nat.le_refl _), List.take_of_length_le (by omega)]
theorem str_dec {a b : Str} : decide (V.str a = V.str b) = decide (a = b) := by
  by_cases e : a = b
  · subst e; simp
  · rw [decide_eq_false e, decide_eq_false fun z => e (V.str.inj z)]

/-! ### the law's own first wrong step -/
def badAt (H : Hp) (xs : List V) : Int := match scan H xs [] 0 with
  | none => -1
  | some i => (i : Int)
def sp__law_bad_step (K : PySem.W.Frag) : Sp := fun vs H Q _ => ∃ (b : Bool) (a : Addr) (xs : List V), vs = [.ref a] ∧ H a = some (rowO b xs) ∧ xs.length ≤ 1000 ∧ (∀ x ∈ xs, Val2 K H x) ∧ (b = false → ∀ x, xs[0]? = some x → stepOf H x = none) ∧ ∀ H', Same H H' → Q (.int (badAt H xs)) H'
theorem ok__law_bad_step {f : Addr} {C : Addr} {fd : FuncData} (T : Txt K mg C) (F : Fun K "_law_bad_step" "_law_bad_step" s__law_bad_step f fd) (c__law_is_state : Cal P w K mg base 2 "_law_is_state" (sp__law_is_state K) []) (c__law_is_name : Cal P w K mg base 1 "_law_is_name" (sp__law_is_name K) []) : FnOk P w K mg base CX0 3 f fd ["_law_rows"] (sp__law_bad_step K) := by
  have nd := sc__law_bad_step.nd
  refine F.ok sc__law_bad_step (fun vs H Q E h => ?_) (fun cdv A outer s H vs Q E hr h => ?_)
  · obtain ⟨b, a, xs, rfl, _⟩ := h
    rfl
  · obtain ⟨b, a, xs, rfl, ha, hl, hx2, hb, q⟩ := h
    refine ⟨_, (pss_cons (ps_for PassesOwn.never rfl (pi_range1 (by rfl) T.m_range (pa_cons (pe_callB call_len (by rfl) T.m_len (by decide +kernel) (pa_cons (pv 0) pa_nil)) pa_nil)) (pg_name (i := 1) nd rfl (.inl rfl)) (pss_cons (ps_set (i := 2) nd rfl (.inr rfl) (pe_ix (r := KnC.rIx K) (KnC.ix_seq ix_list ix_tup) (pv 0) (pv 1) (fun _ _ => rfl)))
      (pss_cons (ps_if (PW.pt (pw_or (pt_not (pt_val (pe_callB call_isi (by rfl) T.m_isinstance (by decide +kernel) (pa_cons (pv 2) (pa_cons (pe_bltn (v := .ty "tuple") (u := .type "tuple") (by rfl) T.m_tuple (by decide +kernel) rfl) pa_nil))))) (pw_or1 (pt_cmpR op_ne (pe_callB call_len (by rfl) T.m_len (by decide +kernel) (pa_cons (pv 2) pa_nil)) pe_int (nomark _))))) (pss_one (ps_ret (pv 1))) pss_nil)
      (pss_cons (ps_if (PW.pt (pw_or (pt_not (pt_val (pe_c c__law_is_state hr (by omega) (by rfl) (pa_cons (pe_ix (r := rIxT K) ix_tup (pv 2) pe_int (fun _ _ => rfl)) pa_nil)))) (pw_or1 (pt_not (pt_val (pe_c c__law_is_state hr (by omega) (by rfl) (pa_cons (pe_ix (r := rIxT K) ix_tup (pv 2) pe_int (fun _ _ => rfl)) pa_nil))))))) (pss_one (ps_ret (pv 1))) pss_nil)
      (pss_cons (ps_if (pt_not (pt_val (pe_c c__law_is_name hr (by omega) (by rfl) (pa_cons (pe_ix (r := rIxT K) ix_tup (pv 2) pe_int (fun _ _ => rfl)) pa_nil)))) (pss_one (ps_ret (pv 1))) pss_nil)
      (pss_cons (ps_setLc (i := 3) (own := [("_law_row_here", 4)]) (g := gName 4) rfl nd rfl rfl (sw_true rfl rfl rfl (by decide +kernel)) (KnE.pi_seq (pe_slice sl_list (pv 0) po_none (po_some (pv 1)))) (blkOk_by (N := ["_law_rows", "_law_at", "_law_item", "_law_near", "_law_row_here"]) (sc := defScope s__law_bad_step) (by decide +kernel)) (fun _ _ _ _ _ => (pg_name (i := 4) nd rfl (.inl rfl))) (fun _ _ _ _ _ => (pts_one (pt_cmpR op_eq (pe_ix (r := rIxT K) ix_tup (pv 4) pe_int (fun _ _ => rfl)) (pe_ix (r := rIxT K) ix_tup (pv 2) pe_int (fun _ _ => rfl)) (nomark _)))) (fun _ _ _ _ _ => (pv 4)))
      (pss_one (ps_if (PW.pt (pw_or (pt_cmpR (op_inD (KnC.un65 hr)) (pv 2) (pe_slice sl_list (pv 0) po_none (po_some (pv 1))) (by with_unfolding_all rfl)) (pw_or1 (pt_cmpR op_ge (pe_callB call_len (by rfl) T.m_len (by decide +kernel) (pa_cons (pv 3) pa_nil)) pe_int (nomark _))))) (pss_one (ps_ret (pv 1))) pss_nil))))))))
      (pss_one (ps_ret (pe_un un_neg pe_int)))), ?_⟩
    have lenA : ∀ {G : Hp}, Same H G → LenV K (.ref a) G xs.length := fun s => row_len (s _ _ ha)
    refine ⟨.ref a, rfl, .ref a, xs.length, rfl, lenA (Same.refl H), (xs.length : Int), rfl, by omega, by omega, ?_⟩
    have en : ((xs.length : Int)).toNat = xs.length := Int.toNat_natCast _
    rw [en]
    refine for_range (lo := 0) (fun i σ H' => ∃ (y1 y2 y3 : Option V) (as : List Addr) (ss : List KnA.Stp), σ = [some (.ref a), y1, y2, y3, none] ∧ Same H H' ∧ scan H (xs.drop i) ss i = scan H xs [] 0 ∧ xs.take i = as.map V.ref ∧ Stps H as ss ∧ (∀ x ∈ ss, nameB (.str x.2.1) = true) ∧ ∀ y ∈ xs.take i, stepOf H y ≠ none)
      ⟨none, none, none, [], [], rfl, Same.refl H, rfl, rfl, .nil, fun x hx => (nomatch hx), fun y hy => absurd hy (by simp)⟩ (fun i σ H' hi hP => ?_) (fun σ H' hP => ?_)
    · obtain ⟨y1, y2, y3, as, ss, rfl, S, sc, tk, hst, hnm, hne⟩ := hP
      have e0 : (0 : Int) + (i : Nat) = (i : Nat) := by omega
      rw [e0]
      have hx : xs[i]? = some xs[i] := List.getElem?_eq_getElem hi
      have hin : xs[i] ∈ xs := List.getElem_mem hi
      generalize xs[i] = x at hx hin
      have hv2 := hx2 x hin
      rw [drop_at hx] at sc
      have scN : stepOf H x = none → scan H xs [] 0 = some i := fun e => by
        rw [← sc]
        show (match stepOf H x with | none => some i | some st => if st ∈ ss ∨ 8 ≤ cnt ss st.1 then some i else scan H (xs.drop (i + 1)) (ss ++ [st]) (i + 1)) = some i
        rw [e]
      have at_ : scan H xs [] 0 = some i → ∀ G, Same H G → Q (.int (i : Nat)) G := fun e G s => by
        have := q G s
        unfold badAt at this
        rw [e] at this
        exact this
      have fin : stepOf H x = none → Q (.int (i : Nat)) H' := fun e => at_ (scN e) H' S
      have ix : KnC.rIx K (.ref a) (.int (i : Nat)) H' = KnC.rIx K (.ref a) (.int (i : Nat)) H' := rfl
      have get : ∀ {R : VK}, R x H' → KnC.rIx K (.ref a) (.int (i : Nat)) H' R := fun r => by
        cases b with
        | true => exact .inl ⟨a, xs, _, x, rfl, rfl, .inl (.inl (S _ _ ha)), atI_nat hx, r⟩
        | false => exact .inr ⟨a, xs, _, x, rfl, rfl, .inl (.inl (S _ _ ha)), atI_nat hx, r⟩
      refine ⟨.ref a, rfl, .int (i : Nat), rfl, get ?_⟩
      obtain ⟨hv, hitems⟩ := id hv2
      cases hv with
      | non => exact ⟨.non, rfl, .non, .ty "tuple", _, _, false, rfl, .ty _, .base .non, kit_ty (show kitB "NoneType" "tuple" = some false by decide +kernel), _, rfl, iteT ⟨.int (i : Nat), rfl, fin (by rfl)⟩⟩
      | bl c => exact ⟨.bl c, rfl, .bl c, .ty "tuple", _, _, false, rfl, .ty _, .base (.bl c), kit_ty (show kitB "bool" "tuple" = some false by decide +kernel), _, rfl, iteT ⟨.int (i : Nat), rfl, fin (by rfl)⟩⟩
      | int j => exact ⟨.int j, rfl, .int j, .ty "tuple", _, _, false, rfl, .ty _, .base (.int j), kit_ty (show kitB "int" "tuple" = some false by decide +kernel), _, rfl, iteT ⟨.int (i : Nat), rfl, fin (by rfl)⟩⟩
      | str z hz => exact ⟨.str z, rfl, .str z, .ty "tuple", _, _, false, rfl, .ty _, .base (.str z), kit_ty (show kitB "str" "tuple" = some false by decide +kernel), _, rfl, iteT ⟨.int (i : Nat), rfl, fin (by rfl)⟩⟩
      | @lst c ys e =>
        exact ⟨.ref c, rfl, .ref c, .ty "tuple", _, _, false, rfl, .ty _, .base (.lst (S _ _ e)), kit_ty (show kitB "list" "tuple" = some false by decide +kernel), _, rfl, iteT ⟨.int (i : Nat), rfl, fin (step_other e (fun _ z => by cases z))⟩⟩
      | @dK c kvs e =>
        exact ⟨.ref c, rfl, .ref c, .ty "tuple", _, _, false, rfl, .ty _, .base (.dK (S _ _ e)), kit_ty (show kitB "dict" "tuple" = some false by decide +kernel), _, rfl, iteT ⟨.int (i : Nat), rfl, fin (step_other e (fun _ z => by cases z))⟩⟩
      | @tup c ys e =>
        refine ⟨.ref c, rfl, .ref c, .ty "tuple", _, _, true, rfl, .ty _, .base (.tup (S _ _ e)), kit_ty (show kitB "tuple" "tuple" = some true by decide +kernel), _, rfl, ?_⟩
        refine iteF ⟨.ref c, rfl, .ref c, ys.length, rfl, .inr ⟨_, .inl (.inl (S _ _ e)), rfl⟩, rfl, _, rfl, ?_⟩
        by_cases l3 : ys.length = 3
        case neg =>
          rw [decide_eq_false (show ¬ V.int (ys.length : Nat) = V.int 3 from fun z => l3 (by have := V.int.inj z; omega))]
          exact iteT ⟨.int (i : Nat), rfl, fin (step_len e l3)⟩
        rw [decide_eq_true (show V.int (ys.length : Nat) = V.int 3 by rw [l3]; rfl)]
        obtain ⟨u, v, z, rfl⟩ : ∃ u v z, ys = [u, v, z] := by
          rcases ys with _ | ⟨x, _ | ⟨y, _ | ⟨z, _ | ⟨u, r⟩⟩⟩⟩
          · cases l3
          · cases l3
          · cases l3
          · exact ⟨x, y, z, rfl⟩
          · simp at l3
        have vu := hitems c _ rfl e u (by simp)
        have vv := hitems c _ rfl e v (by simp)
        have vz := hitems c _ rfl e z (by simp)
        have s3 := step3 e
        have sq : ∀ {G : Hp}, Same H G → SqT K G c [u, v, z] := fun s => .inl (.inl (s _ _ e))
        have none_ : (stateB u && (nameB v && stateB z)) = false → stepOf H (.ref c) = none := fun h => by
          rw [h] at s3
          cases t : stepOf H (.ref c) with
          | none => rfl
          | some st => rw [t] at s3; cases s3
        refine iteF ⟨.ref c, rfl, c, _, 0, u, rfl, rfl, sq S, atI_nat (j := 0) rfl, u, rfl, vu.mono S, fun H1 s1 => ⟨_, rfl, ?_⟩⟩
        have S1 := S.trans s1
        cases hu : stateB u with
        | false => exact iteT (iteT ⟨.int (i : Nat), rfl, at_ (scN (none_ (by rw [hu]; rfl))) H1 S1⟩)
        | true =>
        refine iteF ⟨.ref c, rfl, c, _, 2, z, rfl, rfl, sq S1, atI_nat (j := 2) rfl, z, rfl, vz.mono S1, fun H2 s2 => ⟨_, rfl, ?_⟩⟩
        have S2 := S1.trans s2
        cases hz : stateB z with
        | false => exact iteT ⟨.int (i : Nat), rfl, at_ (scN (none_ (by rw [hz, Bool.and_false, Bool.and_false]))) H2 S2⟩
        | true =>
        refine iteF ⟨.ref c, rfl, c, _, 1, v, rfl, rfl, sq S2, atI_nat (j := 1) rfl, v, rfl, vv.mono S2, fun H3 s3' => ⟨_, rfl, ?_⟩⟩
        have S3 := S2.trans s3'
        cases hn : nameB v with
        | false => exact iteT ⟨.int (i : Nat), rfl, at_ (scN (none_ (by rw [hn, Bool.false_and, Bool.and_false]))) H3 S3⟩
        | true =>
        refine iteF ?_
        obtain ⟨st, es⟩ : ∃ st, stepOf H (.ref c) = some st := by
          rw [hu, hn, hz] at s3
          exact Option.isSome_iff_exists.mp s3
        obtain ⟨c', ec, hc, g1, g2, g3⟩ := step_is es
        cases ec
        rw [e] at hc
        cases hc
        have sc2 : scan H xs [] 0 = if st ∈ ss ∨ 8 ≤ cnt ss st.1 then some i else scan H (xs.drop (i + 1)) (ss ++ [st]) (i + 1) := by
          rw [← sc]
          show (match stepOf H (.ref c) with | none => some i | some st => if st ∈ ss ∨ 8 ≤ cnt ss st.1 then some i else scan H (xs.drop (i + 1)) (ss ++ [st]) (i + 1)) = _
          rw [es]
        have bt : b = true := by
          cases b with
          | true => rfl
          | false =>
            exfalso
            cases i with
            | zero => rw [hb rfl _ hx] at es; cases es
            | succ i =>
              have hx0 : xs[0]? = some xs[0] := List.getElem?_eq_getElem (by omega)
              refine hne xs[0] ?_ (hb rfl _ hx0)
              refine List.mem_iff_getElem.mpr ⟨0, by rw [List.length_take]; omega, by rw [List.getElem_take]⟩
        subst bt
        have haL : ∀ {G : Hp}, Same H G → SqL K G a xs := fun s => .inl (.inl (s _ _ ha))
        have li : ss.length = i := by
          have h1 := congrArg List.length tk
          rw [List.length_take, List.length_map, hst.length] at h1
          omega
        have gn : nameB (.str st.2.1) = true := g2
        refine ⟨.ref a, rfl, .int (i : Nat), rfl, (i : Nat), rfl, a, xs, rfl, haL S3, fun W nW => ?_⟩
        rw [cut_to, tk]
        have sW := same_upd (o := .lst (as.map V.ref)) nW
        have eW : (upd H3 W (.lst (as.map V.ref))) W = some (.lst (as.map V.ref)) := upd_same
        generalize upd H3 W (.lst (as.map V.ref)) = H4 at sW eW ⊢
        have S4 := S3.trans sW
        refine ⟨W, true, rfl, ⟨_, .inl (.inl eW)⟩, fun D nD => ?_⟩
        refine lc_list (K := K) (xs := as.map V.ref) (fun j G => Same H4 G ∧ ∃ vs : List V, G D = some (.lst vs) ∧ vs.length = cnt (ss.take j) st.1) ⟨same_upd nD, [], upd_same, rfl⟩ (fun j G _ hP => .inl (.inl (hP.1 _ _ eW))) (fun j y G hy hP => ?_) (fun G hP => ?_)
        · obtain ⟨S5, vs, eD, lv⟩ := hP
          obtain ⟨ai, u', rfl, gi, gg, hai⟩ := ref_get (hst.mono (S4.trans S5)) hy
          have hj : j < ss.length := (List.getElem?_eq_some_iff.mp gg).1
          refine ⟨rfl, .ref ai, rfl, ai, [.int u'.1, .str u'.2.1, .int u'.2.2], 0, .int u'.1, rfl, rfl, .inl (.inl hai), atI_nat (j := 0) rfl, .ref c, rfl, c, _, 0, .int st.1, rfl, rfl, sq (S4.trans S5), atI_nat (j := 0) rfl, rfl, _, rfl, ?_⟩
          by_cases z : u'.1 = st.1
          · rw [decide_eq_true (show V.int u'.1 = V.int st.1 by rw [z])]
            refine iteT ⟨.ref ai, rfl, vs, eD, small (by rw [lv]; have := cnt_le ss j st.1; have : cnt ss st.1 ≤ ss.length := List.length_filter_le _ _; omega), same_set nD S5, vs ++ [.ref ai], upd_same, ?_⟩
            rw [List.length_append, lv, cnt_take gg, if_pos z]; rfl
          · rw [decide_eq_false (show ¬ V.int u'.1 = V.int st.1 from fun e => z (V.int.inj e))]
            refine iteF ⟨S5, vs, eD, ?_⟩
            rw [lv, cnt_take gg, if_neg z]; rfl
        · obtain ⟨S5, vs, eD, lv⟩ := hP
          rw [List.length_map, hst.length, List.take_length] at lv
          have S45 := S4.trans S5
          refine ⟨.ref c, rfl, .ref a, rfl, .int (i : Nat), rfl, (i : Nat), rfl, a, xs, rfl, haL S45, fun W2 nW2 => ?_⟩
          rw [cut_to, tk]
          have sW2 := same_upd (o := .lst (as.map V.ref)) nW2
          have eW2 : (upd G W2 (.lst (as.map V.ref))) W2 = some (.lst (as.map V.ref)) := upd_same
          generalize upd G W2 (.lst (as.map V.ref)) = H6 at sW2 eW2 ⊢
          have S6 := S45.trans sW2
          have eD6 := sW2 _ _ eD
          refine ⟨dat st, ss.map dat, .tup (.inl (.inl (S6 _ _ e))) (.cons (.int _) (.cons (.str _) (.cons (.int _) .nil))), .lst (.inl (.inl eW2)) (dps (hst.mono S6)), dat_shaped (x := st) gn, dats_shaped hnm, _, rfl, ?_⟩
          show if ((ss.map dat).any fun z => PyData.eqv z (dat st)) = true then _ else _
          rw [dat_any]
          by_cases old : st ∈ ss
          · rw [decide_eq_true old]
            exact iteT (iteT ⟨.int (i : Nat), rfl, at_ (by rw [sc2, if_pos (.inl old)]) H6 S6⟩)
          · rw [decide_eq_false old]
            refine iteF ⟨.ref D, rfl, .ref D, vs.length, rfl, .inl ⟨_, .inl (.inl eD6), rfl⟩, (vs.length : Int), 8, rfl, rfl, _, rfl, ?_⟩
            by_cases many : 8 ≤ cnt ss st.1
            · rw [decide_eq_true (show (8 : Int) ≤ (vs.length : Int) by omega)]
              exact iteT ⟨.int (i : Nat), rfl, at_ (by rw [sc2, if_pos (.inr many)]) H6 S6⟩
            · rw [decide_eq_false (show ¬ (8 : Int) ≤ (vs.length : Int) by omega)]
              rw [if_neg (fun z => z.elim old many)] at sc2
              refine iteF ⟨_, _, _, as ++ [c], ss ++ [st], rfl, S6, sc2.symm, ?_, hst.snoc e, fun y hy => ?_, fun y hy => ?_⟩
              · rw [take_more hx, tk, List.map_append]; rfl
              · rcases List.mem_append.mp hy with h | h
                · exact hnm y h
                · rw [List.mem_singleton.mp h]; exact gn
              · rw [take_more hx] at hy
                rcases List.mem_append.mp hy with h | h
                · exact hne y h
                · rw [List.mem_singleton.mp h, es]; exact fun z => by cases z
    · obtain ⟨y1, y2, y3, as, ss, rfl, S, sc, tk, hst, hnm, hne⟩ := hP
      rw [List.drop_of_length_le (Nat.le_refl _)] at sc
      refine ⟨1, rfl, ?_⟩
      have := q H' S
      unfold badAt at this
      rw [← sc] at this
      exact this

/-! ### the law's own first wrong fault -/
def faultV : Option Str → List V
  | none => []
  | some x => [.str x]
def sp__law_bad_fault (_ : PySem.W.Frag) : Sp := fun vs H Q _ => ∃ (a d : Addr) (as : List Addr) (ss : List KnA.Stp) (fs : List (Str × Str)), vs = [.ref a, .ref d] ∧ H a = some (.lst (as.map V.ref)) ∧ Stps H as ss ∧ ss.length ≤ 1000 ∧ H d = some (.dK (fkv fs)) ∧ (fs.map (·.1)).Nodup ∧ (∀ p ∈ fs, p.1.cps.size ≤ 100 ∧ p.2.cps.size ≤ 100) ∧ fs.length ≤ 1000 ∧
  ∀ H' l, Same H H' → H l = none → H' l = some (.lst (faultV (fscan (ss.map (·.2.1)) fs []))) → Q (.ref l) H'
theorem look_fs {fs : List (Str × Str)} (nd : (fs.map (·.1)).Nodup) {i : Nat} {x n : Str} (h : fs[i]? = some (x, n)) : valV (fkv fs) (.inr x) = some (.str n) := by
  have hm := List.mem_of_getElem? h
  clear h
  induction fs with
  | nil => exact nomatch hm
  | cons p r ih =>
    obtain ⟨y, m⟩ := p
    rw [List.map_cons, List.nodup_cons] at nd
    unfold fkv valV
    rw [List.map_cons]
    by_cases e : y = x
    · subst e
      rcases List.mem_cons.mp hm with h | h
      · cases h; rw [List.find?_cons_of_pos (by simp)]; rfl
      · exact absurd (List.mem_map.mpr ⟨_, h, rfl⟩) nd.1
    · rw [List.find?_cons_of_neg (by simp [e])]
      rcases List.mem_cons.mp hm with h | h
      · cases h; exact absurd rfl e
      · exact ih nd.2 h
theorem ok__law_bad_fault {f : Addr} {C : Addr} {fd : FuncData} (T : Txt K mg C) (F : Fun K "_law_bad_fault" "_law_bad_fault" s__law_bad_fault f fd) (c__law_is_name : Cal P w K mg base 1 "_law_is_name" (sp__law_is_name K) []) : FnOk P w K mg base CX0 2 f fd ["_law_rows", "_law_faults"] (sp__law_bad_fault K) := by
  have nd := sc__law_bad_fault.nd
  refine F.ok sc__law_bad_fault (fun vs H Q E h => ?_) (fun cdv A outer s H vs Q E hr h => ?_)
  · obtain ⟨a, d, as, ss, fs, rfl, _⟩ := h
    rfl
  · obtain ⟨a, d, as, ss, fs, rfl, ha, hst, lss, hd, ndf, hz, lf, q⟩ := h
    refine ⟨_, (pss_cons (ps_setLc (i := 2) (own := [("_law_row_here", 5)]) (g := gName 5) (tt := tYes) rfl nd rfl rfl (sw_true rfl rfl rfl (by decide +kernel)) (pi_list (pv 0)) (blkOk_by (N := ["_law_rows", "_law_faults", "_law_words", "_law_names_here", "_law_word", "_law_row_here"]) (sc := defScope s__law_bad_fault) (by decide +kernel)) (fun _ _ _ _ _ => (pg_name (i := 5) nd rfl (.inl rfl))) (fun _ _ _ _ _ => pts_nil) (fun _ _ _ _ _ => (pe_ix (r := rIxT K) ix_tup (pv 5) pe_int (fun _ _ => rfl))))
      (pss_cons (ps_set (i := 3) nd rfl (.inl rfl) (pe_lst pa_nil))
      (pss_cons (ps_for PassesOwn.never rfl (pi_list (pe_callTy (call_listD rfl) (by rfl) T.m_list (by decide +kernel) (pa_cons (pv 1) pa_nil))) (pg_name (i := 4) nd rfl (.inl rfl)) (pss_cons (ps_if (PW.pt (pw_or (pt_not (pt_val (pe_c c__law_is_name hr (by omega) (by rfl) (pa_cons (pv 4) pa_nil)))) (pw_or (pt_cmpR op_notIn_seq (pv 4) (pv 2) (by with_unfolding_all rfl)) (pw_or1 (pt_not (pt_val (pe_c c__law_is_name hr (by omega) (by rfl) (pa_cons (pe_dget (hu_of hr) (pv 1) (pv 4) (fun _ _ => rfl)) pa_nil)))))))) (pss_one (ps_ret (pe_lst (pa_cons (pv 4) pa_nil)))) pss_nil)
      (pss_cons (ps_if (pt_cmpR op_notIn_seq (pe_dget (hu_of hr) (pv 1) (pv 4) (fun _ _ => rfl)) (pv 3) (by with_unfolding_all rfl)) (pss_one (ps_expr (pe_bm PySem.F.plainAttrs_list PySem.F.slot_list_append PySem.F.type_list_append mt_append (pv 3) (pa_cons (pe_dget (hu_of hr) (pv 1) (pv 4) (fun _ _ => rfl)) pa_nil)))) pss_nil)
      (pss_one (ps_if (pt_cmpR op_gt (pe_callB call_len (by rfl) T.m_len (by decide +kernel) (pa_cons (pv 3) pa_nil)) pe_int (nomark _)) (pss_one (ps_ret (pe_lst (pa_cons (pv 4) pa_nil)))) pss_nil)))))
      (pss_one (ps_ret (pe_lst pa_nil)))))), ?_⟩
    refine ⟨.ref a, rfl, a, rfl, ⟨_, .inl (.inl ha)⟩, fun W nW => ?_⟩
    refine lc_list (K := K) (xs := as.map V.ref) (fun j G => Same H G ∧ G W = some (.lst (((ss.take j).map (·.2.1)).map V.str))) ⟨same_upd nW, upd_same⟩ (fun j G _ hP => .inl (.inl (hP.1 _ _ ha))) (fun j y G hy hP => ?_) (fun G hP => ?_)
    · obtain ⟨S1, eW⟩ := hP
      obtain ⟨ai, u, rfl, gi, g, hai⟩ := ref_get (hst.mono S1) hy
      have hj : j < ss.length := (List.getElem?_eq_some_iff.mp g).1
      refine ⟨rfl, ?_⟩
      unfold tYes
      refine iteT ?_
      refine ⟨.ref ai, rfl, ai, [.int u.1, .str u.2.1, .int u.2.2], 1, .str u.2.1, rfl, rfl, .inl (.inl hai), atI_nat (j := 1) rfl, _, eW, small (by rw [List.length_map, List.length_map, List.length_take]; omega), same_set nW S1, ?_⟩
      rw [upd_same, take_more g, List.map_append, List.map_append]; rfl
    · obtain ⟨S1, eW⟩ := hP
      rw [List.length_map, hst.length, List.take_length] at eW
      generalize ss.map (·.2.1) = ws at eW q
      refine ⟨szl rfl, fun N nN => ?_⟩
      have nNH := S1.free nN
      have s2 := same_upd (o := .lst []) nN
      have S2 := S1.trans s2
      have eW2 := s2 _ _ eW
      have eN0 : (upd G N (.lst [])) N = some (.lst []) := upd_same
      have nWN : W ≠ N := ne_of_none eW nN
      generalize upd G N (.lst []) = G2 at S2 eW2 eN0
      refine ⟨.ref d, rfl, d, fkv fs, rfl, .inl (S2 _ _ hd), fun L nL => ?_⟩
      have ekf : (fkv fs).map (fun kv => kV kv.1) = (fs.map (·.1)).map V.str := by unfold fkv; rw [List.map_map, List.map_map]; rfl
      rw [ekf]
      have s3 := same_upd (o := .lst ((fs.map (·.1)).map V.str)) nL
      have nNL : N ≠ L := ne_of_none eN0 nL
      refine ⟨L, rfl, ⟨_, .inl (.inl upd_same)⟩, ?_⟩
      refine for_list (K := K) (xs := (fs.map (·.1)).map V.str) (fun i σ G => ∃ (y4 : Option V) (nm : List Str), σ = [some (.ref a), some (.ref d), some (.ref W), some (.ref N), y4, none] ∧ Same H G ∧ G W = some (.lst (ws.map V.str)) ∧ G N = some (.lst (nm.map V.str)) ∧ G L = some (.lst ((fs.map (·.1)).map V.str)) ∧ nm.length ≤ i ∧ fscan ws (fs.drop i) (nm.map Sum.inr) = fscan ws fs [])
        ⟨none, [], rfl, S2.trans s3, s3 _ _ eW2, s3 _ _ eN0, upd_same, Nat.le_refl _, rfl⟩ (fun i σ G _ ⟨_, _, _, _, _, _, h, _⟩ => .inl (.inl h)) (fun i k σ G hx hP => ?_) (fun σ G hP => ?_)
      · obtain ⟨y4, nm, rfl, S, eW, eN, eL, lnm, sc⟩ := hP
        rw [List.getElem?_map, List.getElem?_map] at hx
        cases gx : fs[i]? with
        | none => rw [gx] at hx; cases hx
        | some p =>
        rw [gx] at hx
        cases hx
        obtain ⟨x, y⟩ := p
        have hi : i < fs.length := (List.getElem?_eq_some_iff.mp gx).1
        obtain ⟨zx, zy⟩ := hz _ (List.mem_of_getElem? gx)
        rw [drop_at gx] at sc
        have wrong : ¬ (nameB (.str x) = true ∧ x ∈ ws ∧ nameB (.str y) = true) → fscan ws fs [] = some x := fun n => by
          rw [← sc]
          show (if ¬ (nameB (.str x) = true ∧ x ∈ ws ∧ nameB (.str y) = true) then some x else _) = _
          rw [if_pos n]
        have out : ∀ {G' : Hp}, Same H G' → fscan ws fs [] = some x → ∀ l, G' l = none → Q (.ref l) (upd G' l (.lst [.str x])) := fun {G'} s e l nl => q _ l (s.trans (same_upd nl)) (s.free nl) (by rw [upd_same, e]; rfl)
        refine ⟨.str x, rfl, .str x, rfl, .str x zx, fun H3 s3 => ⟨_, rfl, ?_⟩⟩
        have S3 := S.trans s3
        cases b1 : nameB (.str x) with
        | false => exact iteT ⟨.str x, rfl, szl rfl, out S3 (wrong (fun z => by rw [b1] at z; cases z.1))⟩
        | true =>
        refine iteF ⟨.str x, rfl, .ref W, rfl, W, ws.map V.str, rfl, .inl (.inl (.inl (s3 _ _ eW))), rfl, flat_ws ws, _, rfl, ?_⟩
        show if (!inV (.str x) (ws.map V.str)) = true then _ else _
        rw [inV_strs]
        by_cases b2 : x ∈ ws
        case neg =>
          rw [decide_eq_false b2]
          exact iteT (iteT ⟨.str x, rfl, szl rfl, out S3 (wrong (fun z => b2 z.2.1))⟩)
        rw [decide_eq_true b2]
        have dg : ∀ {G' : Hp}, Same H G' → DGet G' d (.str x) (some (.str y)) := fun s => by
          have h := DGet.k (k := .inr x) (s _ _ hd)
          rw [look_fs ndf gx] at h
          exact h
        refine iteF ⟨.ref d, rfl, .str x, rfl, d, .str y, rfl, dg S3, .str y, rfl, .str y zy, fun H4 s4 => ⟨_, rfl, ?_⟩⟩
        have S4 := S3.trans s4
        cases b3 : nameB (.str y) with
        | false => exact iteT ⟨.str x, rfl, szl rfl, out S4 (wrong (fun z => by rw [b3] at z; cases z.2.2))⟩
        | true =>
        have right : fscan ws fs [] = if 3 < (KnS.addL (nm.map Sum.inr) (.inr y)).length then some x else fscan ws (fs.drop (i + 1)) (KnS.addL (nm.map Sum.inr) (.inr y)) := by
          rw [← sc]
          show (if ¬ (nameB (.str x) = true ∧ x ∈ ws ∧ nameB (.str y) = true) then some x else _) = _
          rw [if_neg (fun z => z ⟨b1, b2, b3⟩)]
        rw [KnC.addL_strs, List.length_map] at right
        have s34 := s3.trans s4
        have eN4 := s34 _ _ eN
        refine iteF ⟨.ref d, rfl, .str x, rfl, d, .str y, rfl, dg S4, .ref N, rfl, N, nm.map V.str, rfl, .inl (.inl (.inl eN4)), rfl, flat_ws nm, _, rfl, ?_⟩
        show if (!inV (.str y) (nm.map V.str)) = true then _ else _
        rw [inV_strs]
        by_cases b4 : y ∈ nm
        · rw [decide_eq_true b4]
          rw [if_pos b4] at right
          refine iteF ⟨.ref N, rfl, .ref N, nm.length, rfl, .inl ⟨_, .inl (.inl eN4), (List.length_map _).symm⟩, (nm.length : Int), 3, rfl, rfl, _, rfl, ?_⟩
          by_cases b5 : 3 < nm.length
          · rw [decide_eq_true (show (3 : Int) < (nm.length : Int) by omega)]
            rw [if_pos b5] at right
            exact iteT ⟨.str x, rfl, szl rfl, out S4 right⟩
          · rw [decide_eq_false (show ¬ (3 : Int) < (nm.length : Int) by omega)]
            rw [if_neg b5] at right
            exact iteF ⟨_, nm, rfl, S4, s34 _ _ eW, eN4, s34 _ _ eL, by omega, right.symm⟩
        · rw [decide_eq_false b4]
          rw [if_neg b4] at right
          refine iteT ⟨.ref N, rfl, .inl ⟨rfl, _, .inl (.inl eN4)⟩, .ref d, rfl, .str x, rfl, d, .str y, rfl, dg S4, N, nm.map V.str, .str y, rfl, rfl, eN4, small (by rw [List.length_map]; omega), ?_⟩
          have S5 : Same H (upd H4 N (.lst (nm.map V.str ++ [.str y]))) := same_set nNH S4
          have eN5 : (upd H4 N (.lst (nm.map V.str ++ [.str y]))) N = some (.lst ((nm ++ [y]).map V.str)) := by rw [upd_same, List.map_append]; rfl
          have eW5 : (upd H4 N (.lst (nm.map V.str ++ [.str y]))) W = some (.lst (ws.map V.str)) := (upd_ne nWN).trans (s34 _ _ eW)
          have eL5 : (upd H4 N (.lst (nm.map V.str ++ [.str y]))) L = some (.lst ((fs.map (·.1)).map V.str)) := (upd_ne nNL.symm).trans (s34 _ _ eL)
          refine ⟨.ref N, rfl, .ref N, (nm ++ [y]).length, rfl, .inl ⟨_, .inl (.inl eN5), (List.length_map _).symm⟩, ((nm ++ [y]).length : Int), 3, rfl, rfl, _, rfl, ?_⟩
          by_cases b5 : 3 < (nm ++ [y]).length
          · rw [decide_eq_true (show (3 : Int) < ((nm ++ [y]).length : Int) by omega)]
            rw [if_pos b5] at right
            exact iteT ⟨.str x, rfl, szl rfl, out S5 right⟩
          · rw [decide_eq_false (show ¬ (3 : Int) < ((nm ++ [y]).length : Int) by omega)]
            rw [if_neg b5] at right
            exact iteF ⟨_, nm ++ [y], rfl, S5, eW5, eN5, eL5, by rw [List.length_append]; exact Nat.succ_le_succ lnm, right.symm⟩
      · obtain ⟨y4, nm, rfl, S, eW, eN, eL, lnm, sc⟩ := hP
        have lf2 : ((fs.map (·.1)).map V.str).length = fs.length := by rw [List.length_map, List.length_map]
        rw [lf2, List.drop_of_length_le (Nat.le_refl _)] at sc
        exact ⟨szl rfl, fun l nl => q _ l (S.trans (same_upd nl)) (S.free nl) (by rw [upd_same, ← sc]; rfl)⟩

/-! ### the law's own helpers -/
def sp__law_reached (_ : PySem.W.Frag) : Sp := fun vs H Q _ => ∃ (s0 : Int) (l : Addr) (as : List Addr) (ss : List KnA.Stp), vs = [.int s0, .ref l] ∧ H l = some (.lst (as.map V.ref)) ∧ Stps H as ss ∧ stateB (.int s0) = true ∧ (∀ x ∈ ss, GoodStep x) ∧ ∀ H' a ns, Same H H' → H a = none → H' a = some (.lst (ns.map V.int)) → KnA.States ns ss s0 → Q (.ref a) H'
theorem inV_ints {x : Int} {ws : List Int} : inV (.int x) (ws.map V.int) = decide (x ∈ ws) := by
  unfold inV
  induction ws with
  | nil => rfl
  | cons y r ih =>
    rw [List.map_cons, List.any_cons, ih]
    have e : eqV (.int y) (.int x) = decide (y = x) := by
      show (y == x) = decide (y = x)
      by_cases z : y = x
      · rw [z]; simp
      · rw [decide_eq_false z]; exact beq_eq_false_iff_ne.mpr z
    rw [e]
    by_cases z : y = x
    · subst z; simp
    · have z' : ¬ x = y := fun q => z q.symm
      simp [z, z']
theorem flat_is (ws : List Int) : (ws.map V.int).all flatV = true := by
  rw [List.all_map]
  exact List.all_eq_true.mpr fun _ _ => rfl
/-- what has been found: each once, from the start -/
structure Fnd (ss : List KnA.Stp) (s0 : Int) (R : List Int) : Prop where
  nd : R.Nodup
  re : ∀ x ∈ R, KnA.Reach ss s0 x
  st : ∀ x ∈ R, 0 ≤ x ∧ x ≤ 99
  s0 : s0 ∈ R
def Clo (ss : List KnA.Stp) (R : List Int) : Prop := ∀ st ∈ ss, st.1 ∈ R → st.2.2 ∈ R
theorem Fnd.push {ss : List KnA.Stp} {s0 : Int} {R : List Int} (h : Fnd ss s0 R) {y : Int} (hy : y ∉ R) (hr : KnA.Reach ss s0 y) (hs : 0 ≤ y ∧ y ≤ 99) : Fnd ss s0 (R ++ [y]) := by
  have mem : ∀ {l : List Int} {x : Int}, x ∈ l ++ [y] ↔ x ∈ l ∨ x = y := fun {l x} => by rw [List.mem_append, List.mem_singleton]
  refine ⟨?_, fun x hx => ?_, fun x hx => ?_, mem.mpr (.inl h.s0)⟩
  · refine List.nodup_append.mpr ⟨h.nd, by simp, fun a ha b hb e => ?_⟩
    rw [List.mem_singleton] at hb
    exact hy (hb ▸ e ▸ ha)
  · rcases mem.mp hx with q | q
    · exact h.re x q
    · rw [q]; exact hr
  · rcases mem.mp hx with q | q
    · exact h.st x q
    · rw [q]; exact hs
theorem ok__law_reached {f : Addr} {C : Addr} {fd : FuncData} (T : Txt K mg C) (F : Fun K "_law_reached" "_law_reached" s__law_reached f fd)  : FnOk P w K mg base CX0 1 f fd ["_law_start", "_law_steps"] (sp__law_reached K) := by
  have nd := sc__law_reached.nd
  refine F.ok sc__law_reached (fun vs H Q E h => ?_) (fun cdv A outer s H vs Q E hr h => ?_)
  · obtain ⟨s0, l, as, ss, rfl, _⟩ := h
    rfl
  · obtain ⟨s0, l, as, ss, rfl, hl, hst, st0, gs, q⟩ := h
    refine ⟨_, (pss_cons (ps_set (i := 2) nd rfl (.inl rfl) (pe_lst (pa_cons (pv 0) pa_nil)))
      (pss_cons (ps_for PassesOwn.never rfl (pi_range1 (by rfl) T.m_range (pa_cons pe_int pa_nil)) (pg_name (i := 3) nd rfl (.inl rfl)) (pss_one (ps_for PassesOwn.never rfl (pi_list (pv 1)) (pg_name (i := 4) nd rfl (.inl rfl)) (pss_one (ps_if (PW.pt (pw_and (pt_cmpR op_in_seq (pe_ix (r := rIxT K) ix_tup (pv 4) pe_int (fun _ _ => rfl)) (pv 2) (by with_unfolding_all rfl)) (pw_and1 (pt_cmpR op_notIn_seq (pe_ix (r := rIxT K) ix_tup (pv 4) pe_int (fun _ _ => rfl)) (pv 2) (by with_unfolding_all rfl))))) (pss_one (ps_expr (pe_bm PySem.F.plainAttrs_list PySem.F.slot_list_append PySem.F.type_list_append mt_append (pv 2) (pa_cons (pe_ix (r := rIxT K) ix_tup (pv 4) pe_int (fun _ _ => rfl)) pa_nil)))) pss_nil)))))
      (pss_one (ps_ret (pe_callB cr_sortedI (by rfl) T.m_sorted (by decide +kernel) (pa_cons (pv 2) pa_nil)))))), ?_⟩
    refine ⟨.int s0, rfl, szl rfl, fun f nf => ?_⟩
    have s1 := same_upd (o := .lst [.int s0]) nf
    refine ⟨100, rfl, by decide, by decide, ?_⟩
    refine for_range (lo := 0) (n := 100) (fun i σ H' => ∃ y3 y4 R, σ = [some (.int s0), some (.ref l), some (.ref f), y3, y4] ∧ Same H H' ∧ H' f = some (.lst (R.map V.int)) ∧ Fnd ss s0 R ∧ (Clo ss R ∨ i + 1 ≤ R.length))
      ⟨_, _, [s0], rfl, s1, upd_same, ⟨by simp, fun x hx => by rw [List.mem_singleton.mp hx]; exact .start, fun x hx => by rw [List.mem_singleton.mp hx]; exact state_in st0, List.mem_singleton.mpr rfl⟩, .inr (Nat.le_refl _)⟩ (fun i σ H' hi hP => ?_) (fun σ H' hP => ?_)
    · obtain ⟨y3, y4, R0, rfl, S, ef, fd0, cl0⟩ := hP
      refine ⟨.ref l, rfl, l, rfl, ⟨_, .inl (.inl (S _ _ hl))⟩, ?_⟩
      refine for_list (K := K) (xs := as.map V.ref) (fun j σ H' => ∃ y4 R, σ = [some (.int s0), some (.ref l), some (.ref f), some (.int (0 + (i : Nat))), y4] ∧ Same H H' ∧ H' f = some (.lst (R.map V.int)) ∧ Fnd ss s0 R ∧ ((R = R0 ∧ Clo (ss.take j) R) ∨ (R0.length < R.length ∧ ¬ Clo ss R0)))
        ⟨_, R0, rfl, S, ef, fd0, .inl ⟨rfl, fun st h => absurd h (by simp)⟩⟩ (fun j σ H' _ ⟨_, _, _, S, _⟩ => .inl (.inl (S _ _ hl))) (fun j x σ H' hx hP => ?_) (fun σ H' hP => ?_)
      · obtain ⟨y4, R, rfl, S, ef, fd1, cl⟩ := hP
        obtain ⟨ai, st, rfl, gi, g, hai⟩ := ref_get (hst.mono S) hx
        have hm := List.mem_of_getElem? g
        have sq : SqT K H' ai [.int st.1, .str st.2.1, .int st.2.2] := .inl (.inl hai)
        have stay : (st.1 ∈ R → st.2.2 ∈ R) → (R = R0 ∧ Clo (ss.take (j + 1)) R) ∨ (R0.length < R.length ∧ ¬ Clo ss R0) := fun k => by
          rcases cl with ⟨e, c⟩ | c
          · refine .inl ⟨e, fun u hu => ?_⟩
            rw [take_more g, List.mem_append, List.mem_singleton] at hu
            rcases hu with hu | hu
            · exact c u hu
            · rw [hu]; exact k
          · exact .inr c
        refine ⟨.ref ai, rfl, ai, _, 0, .int st.1, rfl, rfl, sq, atI_nat (j := 0) rfl, .ref f, rfl, f, R.map V.int, rfl, .inl (.inl (.inl ef)), rfl, flat_is R, _, rfl, ?_⟩
        show if inV (.int st.1) (R.map V.int) = true then _ else _
        rw [inV_ints]
        by_cases z1 : st.1 ∈ R
        · rw [decide_eq_true z1]
          refine iteT ⟨.ref ai, rfl, ai, _, 2, .int st.2.2, rfl, rfl, sq, atI_nat (j := 2) rfl, .ref f, rfl, f, R.map V.int, rfl, .inl (.inl (.inl ef)), rfl, flat_is R, _, rfl, ?_⟩
          show if (!inV (.int st.2.2) (R.map V.int)) = true then _ else _
          rw [inV_ints]
          by_cases z2 : st.2.2 ∈ R
          · rw [decide_eq_true z2]
            exact iteF ⟨_, R, rfl, S, ef, fd1, stay fun _ => z2⟩
          · rw [decide_eq_false z2]
            have few := few_int fd1.nd fd1.st
            refine iteT ⟨.ref f, rfl, .inl ⟨rfl, _, .inl (.inl ef)⟩, .ref ai, rfl, ai, _, 2, .int st.2.2, rfl, rfl, sq, atI_nat (j := 2) rfl, f, R.map V.int, .int st.2.2, rfl, rfl, ef, small (by rw [List.length_map]; omega), ?_⟩
            refine ⟨_, R ++ [st.2.2], rfl, same_set nf S, by rw [upd_same, List.map_append]; rfl, fd1.push z2 (.step (w := st.2.1) (fd1.re _ z1) hm) (state_in (gs _ hm).t), .inr ?_⟩
            rw [List.length_append]
            rcases cl with ⟨e, c⟩ | ⟨c1, c2⟩
            · refine ⟨by rw [e]; exact Nat.lt_succ_self _, fun k => z2 ?_⟩
              rw [e] at z1 ⊢
              exact k st hm z1
            · exact ⟨Nat.lt_of_lt_of_le c1 (Nat.le_add_right _ _), c2⟩
        · rw [decide_eq_false z1]
          exact iteF (iteF ⟨_, R, rfl, S, ef, fd1, stay fun h => absurd h z1⟩)
      · obtain ⟨y4, R, rfl, S, ef, fd1, cl⟩ := hP
        refine ⟨_, _, R, rfl, S, ef, fd1, ?_⟩
        rcases cl with ⟨e, c⟩ | ⟨c1, c2⟩
        · rw [List.length_map, hst.length, List.take_length] at c
          exact .inl c
        · exact .inr (by have := cl0.resolve_left c2; omega)
    · obtain ⟨y3, y4, R, rfl, S, ef, fd1, cl⟩ := hP
      have few := few_int fd1.nd fd1.st
      have clo := cl.resolve_right (by omega)
      refine ⟨.ref f, rfl, f, R, rfl, .inl (.inl ef), fun ns o hp hs no => ?_⟩
      refine q _ o ns (S.trans (same_upd no)) (S.free no) upd_same ⟨KnA.lt_of_le hs (hp.symm.nodup fd1.nd), fun x => ?_⟩
      rw [hp.mem_iff]
      exact KnA.reach_of fd1.s0 (fun x w y hx hm => clo (x, w, y) hm hx) fd1.re x

/-! ### what is due of a machine that may be refused -/
theorem lt_asymm : ∀ {a b : List Nat}, ltCps a b = true → ltCps b a = false
  | [], [], h => by cases h
  | [], _ :: _, _ => rfl
  | _ :: _, [], h => by cases h
  | x :: r, y :: t, h => by
    have h' : (decide (x < y) || (x == y && ltCps r t)) = true := h
    show (decide (y < x) || (y == x && ltCps t r)) = false
    rw [Bool.or_eq_true, decide_eq_true_iff, Bool.and_eq_true, beq_iff_eq] at h'
    rw [Bool.or_eq_false_iff, decide_eq_false_iff_not, Bool.and_eq_false_iff, beq_eq_false_iff_ne]
    rcases h' with h' | ⟨e, h'⟩
    · exact ⟨by omega, .inl (by omega)⟩
    · exact ⟨by omega, .inr (lt_asymm h')⟩
def insS (x : Str) : List Str → List Str
  | [] => [x]
  | y :: r => if ltCps y.cps.toList x.cps.toList = false then x :: y :: r else y :: insS x r
theorem insS_perm (x : Str) : ∀ l : List Str, (insS x l).Perm (x :: l)
  | [] => List.Perm.refl _
  | y :: r => by
    unfold insS
    by_cases h : ltCps y.cps.toList x.cps.toList = false
    · rw [if_pos h]
    · rw [if_neg h]; exact ((insS_perm x r).cons y).trans (List.Perm.swap x y r)
theorem insS_up (x : Str) : ∀ {l : List Str}, l.Pairwise KnA.leS → (insS x l).Pairwise KnA.leS
  | [], _ => List.pairwise_singleton _ _
  | y :: r, h => by
    obtain ⟨h1, h2⟩ := List.pairwise_cons.mp h
    unfold insS
    by_cases q : ltCps y.cps.toList x.cps.toList = false
    · rw [if_pos q]
      refine List.pairwise_cons.mpr ⟨fun z hz => ?_, h⟩
      rcases List.mem_cons.mp hz with e | e
      · rw [e]; exact q
      · exact KnA.leS_trans q (h1 z e)
    · rw [if_neg q]
      refine List.pairwise_cons.mpr ⟨fun z hz => ?_, insS_up x h2⟩
      rcases List.mem_cons.mp ((insS_perm x r).mem_iff.mp hz) with e | e
      · rw [e]
        exact lt_asymm (by simpa using q)
      · exact h1 z e
theorem sort_of : ∀ l : List Str, ∃ m : List Str, m.Perm l ∧ m.Pairwise KnA.leS
  | [] => ⟨[], List.Perm.refl _, List.Pairwise.nil⟩
  | x :: r => let ⟨m, p, u⟩ := sort_of r; ⟨insS x m, (insS_perm x m).trans (p.cons x), insS_up x u⟩
theorem words_of (xs : List Str) {ys : List Str} (nd : ys.Nodup) (h : ∀ x, x ∈ ys ↔ x ∈ xs) : ∃ ws, KnA.Words ws xs ∧ ws.length = ys.length := by
  obtain ⟨ws, p, u⟩ := sort_of ys
  exact ⟨ws, ⟨u, p.symm.nodup nd, fun x => p.mem_iff.trans (h x)⟩, p.length_eq⟩
theorem fscan_congr {ws vs : List Str} (h : ∀ x, x ∈ ws ↔ x ∈ vs) : ∀ (fs : List (Str × Str)) (sn : List Key), fscan ws fs sn = fscan vs fs sn
  | [], _ => rfl
  | p :: r, sn => by
    show (if ¬ (nameB (.str p.1) = true ∧ p.1 ∈ ws ∧ nameB (.str p.2) = true) then some p.1 else if 3 < (KnS.addL sn (.inr p.2)).length then some p.1 else fscan ws r (KnS.addL sn (.inr p.2))) = (if ¬ (nameB (.str p.1) = true ∧ p.1 ∈ vs ∧ nameB (.str p.2) = true) then some p.1 else if 3 < (KnS.addL sn (.inr p.2)).length then some p.1 else fscan vs r (KnS.addL sn (.inr p.2)))
    have e : (p.1 ∈ ws) = (p.1 ∈ vs) := propext (h p.1)
    simp only [fscan_congr h r, e]
theorem allL_texts (xs : List Str) : ∃ ys : List Str, KnS.allL (xs.map Sum.inr) = ys.map Sum.inr ∧ ys.Nodup ∧ ∀ x, x ∈ ys ↔ x ∈ xs := by
  have go : ∀ (xs acc : List Str), acc.Nodup → ∃ ys : List Str, (xs.map Sum.inr).foldl KnS.addL (acc.map Sum.inr) = (ys.map Sum.inr : List Key) ∧ ys.Nodup ∧ ∀ x, x ∈ ys ↔ x ∈ acc ∨ x ∈ xs := by
    intro xs
    induction xs with
    | nil => intro acc h; exact ⟨acc, rfl, h, fun x => by simp⟩
    | cons z xs ih =>
      intro acc h
      obtain ⟨ys, e, n, m⟩ := ih (if z ∈ acc then acc else acc ++ [z]) (by
        by_cases q : z ∈ acc
        · rw [if_pos q]; exact h
        · rw [if_neg q]
          refine List.nodup_append.mpr ⟨h, by simp, fun a ha b hb e => ?_⟩
          rw [List.mem_singleton] at hb
          exact q (hb ▸ e ▸ ha))
      refine ⟨ys, by rw [List.map_cons, List.foldl_cons, KnC.addL_strs, e], n, fun x => ?_⟩
      rw [m]
      by_cases q : z ∈ acc
      · rw [if_pos q, List.mem_cons]
        exact ⟨fun y => y.elim .inl fun t => .inr (.inr t), fun y => y.elim .inl fun t => t.elim (fun t => .inl (t ▸ q)) .inr⟩
      · rw [if_neg q, List.mem_append, List.mem_singleton, List.mem_cons, or_assoc]
  obtain ⟨ys, e, n, m⟩ := go xs [] List.nodup_nil
  exact ⟨ys, e, n, fun x => (m x).trans (by simp)⟩
theorem cnt_mv {ss : List KnA.Stp} {n : Int} : cnt ss n = 0 ↔ mv ss n = [] := by
  unfold cnt mv
  rw [List.length_eq_zero_iff, List.map_eq_nil_iff]
theorem take_lt {ns : List Int} (up : ns.Pairwise (· < ·)) {i : Nat} {n k : Int} (hn : ns[i]? = some n) (hk : k ∈ ns) (lt : k < n) : k ∈ ns.take i := by
  rw [← List.take_append_drop i ns, List.mem_append] at hk
  rcases hk with h | h
  · exact h
  · exfalso
    have hd : ns.drop i = n :: ns.drop (i + 1) := drop_at hn
    have u := up.sublist (List.drop_sublist i ns)
    rw [hd] at h u
    rcases List.mem_cons.mp h with rfl | h
    · omega
    · have := (List.pairwise_cons.mp u).1 k h
      omega
def sp__law_due (K : PySem.W.Frag) : Sp := fun vs H Q _ => ∃ (v0 row vf : V) (fs : List (Str × Str)), vs = [v0, row, vf] ∧ Val K H v0 ∧ Val K H row ∧ (∀ xs, rowOf H row = some xs → ∀ x ∈ xs, Val2 K H x) ∧ (∀ xs, rowOf H row = some xs → xs.length ≤ 1000) ∧
  (∀ a xs, row = .ref a → H a = some (.tup xs) → ∀ x, xs[0]? = some x → stepOf H x = none) ∧ FArg H vf fs ∧ (fs.map (·.1)).Nodup ∧ (∀ p ∈ fs, p.1.cps.size ≤ 100 ∧ p.2.cps.size ≤ 100) ∧ fs.length ≤ 1000 ∧
  ∀ o H' l, MOut H v0 row fs o → Same H H' → H l = none → H' l = some (.lst (outV v0 o)) → Q (.ref l) H'
theorem ok__law_due {f : Addr} {C : Addr} {fd : FuncData} (T : Txt K mg C) (F : Fun K "_law_due" "_law_due" s__law_due f fd) (c__law_is_state : Cal P w K mg base 2 "_law_is_state" (sp__law_is_state K) []) (c__law_bad_step : Cal P w K mg base 3 "_law_bad_step" (sp__law_bad_step K) []) (c__law_bad_fault : Cal P w K mg base 2 "_law_bad_fault" (sp__law_bad_fault K) []) (c__law_reached : Cal P w K mg base 1 "_law_reached" (sp__law_reached K) []) : FnOk P w K mg base CX0 4 f fd ["_law_start", "_law_rows", "_law_faults"] (sp__law_due K) := by
  have nd := sc__law_due.nd
  refine F.ok sc__law_due (fun vs H Q E h => ?_) (fun cdv A outer s H vs Q E hr h => ?_)
  · obtain ⟨v0, row, vf, fs, rfl, _⟩ := h
    rfl
  · obtain ⟨v0, row, vf, fs, rfl, hv0, hrow, hitems, hlen, htup, hf, ndf, hsz, hfl, q⟩ := h
    refine ⟨_, (pss_cons (ps_if (pt_not (pt_val (pe_c c__law_is_state hr (by omega) (by rfl) (pa_cons (pv 0) pa_nil)))) (pss_one (ps_ret (pe_lst (pa_cons pe_str (pa_cons (pv 0) pa_nil))))) pss_nil)
      (pss_cons (ps_if (PW.pt (pw_and (pt_not (pt_val (pe_callB call_isi (by rfl) T.m_isinstance (by decide +kernel) (pa_cons (pv 1) (pa_cons (pe_bltn (v := .ty "list") (u := .type "list") (by rfl) T.m_list (by decide +kernel) rfl) pa_nil))))) (pw_and1 (pt_not (pt_val (pe_callB call_isi (by rfl) T.m_isinstance (by decide +kernel) (pa_cons (pv 1) (pa_cons (pe_bltn (v := .ty "tuple") (u := .type "tuple") (by rfl) T.m_tuple (by decide +kernel) rfl) pa_nil)))))))) (pss_one (ps_ret (pe_lst (pa_cons pe_str (pa_cons (pe_un un_neg pe_int) pa_nil))))) pss_nil)
      (pss_cons (ps_if (pt_not (pt_chain op_le op_le pe_int (pe_callB call_len (by rfl) T.m_len (by decide +kernel) (pa_cons (pv 1) pa_nil)) pe_int)) (pss_one (ps_ret (pe_lst (pa_cons pe_str (pa_cons (pe_un un_neg pe_int) pa_nil))))) pss_nil)
      (pss_cons (ps_if (pt_cmpR op_ge (pe_c c__law_bad_step hr (by omega) (by rfl) (pa_cons (pv 1) pa_nil)) pe_int (nomark _)) (pss_one (ps_ret (pe_lst (pa_cons pe_str (pa_cons (pe_c c__law_bad_step hr (by omega) (by rfl) (pa_cons (pv 1) pa_nil)) pa_nil))))) pss_nil)
      (pss_cons (ps_if (pt_cmpR op_gt (pe_callB KnS.cr_lenL (by rfl) T.m_len (by decide +kernel) (pa_cons (pe_callTy (show CallR _ (.type "set") (KnS.rSetOf K P w) from KnS.cr_setOf rfl) (by rfl) T.m_set (by decide +kernel) (pa_cons (pe_lc (own := [("_law_row_here", 4)]) (g := gName 4) (tt := tYes) rfl nd (pi_list (pv 1)) (blkOk_by (N := ["_law_start", "_law_rows", "_law_faults", "_law_state", "_law_row_here"]) (sc := defScope s__law_due) (by decide +kernel)) (fun _ _ _ _ _ => (pg_name (i := 4) nd rfl (.inl rfl))) (fun _ _ _ _ _ => pts_nil) (fun _ _ _ _ _ => (pe_ix (r := rIxT K) ix_tup (pv 4) pe_int (fun _ _ => rfl)))) pa_nil)) pa_nil)) pe_int (nomark _)) (pss_one (ps_ret (pe_lst (pa_cons pe_str (pa_cons pe_int pa_nil))))) pss_nil)
      (pss_cons (ps_if (PW.pt (pw_and (pt_cmpR op_notN (pv 2) pe_non (nomark _)) (pw_and1 (pt_not (pt_val (pe_callB call_isi (by rfl) T.m_isinstance (by decide +kernel) (pa_cons (pv 2) (pa_cons (pe_bltn (v := .ty "dict") (u := .type "dict") (by rfl) T.m_dict (by decide +kernel) rfl) pa_nil)))))))) (pss_one (ps_ret (pe_lst (pa_cons pe_str (pa_cons pe_non pa_nil))))) pss_nil)
      (pss_cons (ps_if (PW.pt (pw_and (pt_cmpR op_notN (pv 2) pe_non (nomark _)) (pw_and1 (pt_cmpR op_gt (pe_callB call_len (by rfl) T.m_len (by decide +kernel) (pa_cons (pe_c c__law_bad_fault hr (by omega) (by rfl) (pa_cons (pv 1) (pa_cons (pv 2) pa_nil))) pa_nil)) pe_int (nomark _))))) (pss_one (ps_ret (pe_lst (pa_cons pe_str (pa_cons (pe_ix (r := rIxL K) ix_list (pe_c c__law_bad_fault hr (by omega) (by rfl) (pa_cons (pv 1) (pa_cons (pv 2) pa_nil))) pe_int (fun _ _ => rfl)) pa_nil))))) pss_nil)
      (pss_cons (ps_for PassesOwn.never rfl (pi_list (pe_c c__law_reached hr (by omega) (by rfl) (pa_cons (pv 0) (pa_cons (pv 1) pa_nil)))) (pg_name (i := 3) nd rfl (.inr rfl)) (pss_one (ps_if (pt_cmpR op_eq (pe_callB call_len (by rfl) T.m_len (by decide +kernel) (pa_cons (pe_lc (own := [("_law_row_here", 4)]) (g := gName 4) rfl nd (pi_list (pv 1)) (blkOk_by (N := ["_law_start", "_law_rows", "_law_faults", "_law_state", "_law_row_here"]) (sc := defScope s__law_due) (by decide +kernel)) (fun _ _ _ _ _ => (pg_name (i := 4) nd rfl (.inl rfl))) (fun _ _ _ _ _ => (pts_one (pt_cmpR op_eq (pe_ix (r := rIxT K) ix_tup (pv 4) pe_int (fun _ _ => rfl)) (pv 3) (nomark _)))) (fun _ _ _ _ _ => (pv 4))) pa_nil)) pe_int (nomark _)) (pss_one (ps_ret (pe_lst (pa_cons pe_str (pa_cons (pv 3) pa_nil))))) pss_nil)))
      (pss_one (ps_ret (pe_lst (pa_cons pe_str (pa_cons pe_int pa_nil))))))))))))), ?_⟩
    have fin : ∀ (o : Out) {G : Hp}, MOut H v0 row fs o → Same H G → ∀ l, G l = none → Q (.ref l) (upd G l (.lst (outV v0 o))) := fun o {G} m s l nl => q o _ l m (s.trans (same_upd nl)) (s.free nl) upd_same
    refine ⟨v0, rfl, v0, rfl, hv0, fun H1 s1 => ⟨_, rfl, ?_⟩⟩
    cases st0 : stateB v0 with
    | false => exact iteT ⟨v0, rfl, szl rfl, fin .st (.st st0) s1⟩
    | true =>
    obtain ⟨s0, rfl⟩ : ∃ s0, v0 = .int s0 := by
      cases v0 with
      | int i => exact ⟨i, rfl⟩
      | _ => cases st0
    refine iteF ?_
    have hrow' := hrow
    cases hrow with
    | non => exact ⟨.non, rfl, .non, .ty "list", _, _, false, rfl, .ty _, .base .non, kit_ty (show kitB "NoneType" "list" = some false by decide +kernel), _, rfl, iteT ⟨.non, rfl, .non, .ty "tuple", _, _, false, rfl, .ty _, .base .non, kit_ty (show kitB "NoneType" "tuple" = some false by decide +kernel), _, rfl, iteT ⟨1, rfl, szl rfl, fin (.sp (-1)) (.sp st0 rfl) s1⟩⟩⟩
    | bl c => exact ⟨.bl c, rfl, .bl c, .ty "list", _, _, false, rfl, .ty _, .base (.bl c), kit_ty (show kitB "bool" "list" = some false by decide +kernel), _, rfl, iteT ⟨.bl c, rfl, .bl c, .ty "tuple", _, _, false, rfl, .ty _, .base (.bl c), kit_ty (show kitB "bool" "tuple" = some false by decide +kernel), _, rfl, iteT ⟨1, rfl, szl rfl, fin (.sp (-1)) (.sp st0 rfl) s1⟩⟩⟩
    | int j => exact ⟨.int j, rfl, .int j, .ty "list", _, _, false, rfl, .ty _, .base (.int j), kit_ty (show kitB "int" "list" = some false by decide +kernel), _, rfl, iteT ⟨.int j, rfl, .int j, .ty "tuple", _, _, false, rfl, .ty _, .base (.int j), kit_ty (show kitB "int" "tuple" = some false by decide +kernel), _, rfl, iteT ⟨1, rfl, szl rfl, fin (.sp (-1)) (.sp st0 rfl) s1⟩⟩⟩
    | str z hz => exact ⟨.str z, rfl, .str z, .ty "list", _, _, false, rfl, .ty _, .base (.str z), kit_ty (show kitB "str" "list" = some false by decide +kernel), _, rfl, iteT ⟨.str z, rfl, .str z, .ty "tuple", _, _, false, rfl, .ty _, .base (.str z), kit_ty (show kitB "str" "tuple" = some false by decide +kernel), _, rfl, iteT ⟨1, rfl, szl rfl, fin (.sp (-1)) (.sp st0 rfl) s1⟩⟩⟩
    | @dK c kvs e =>
      have bad : stepsBad H (.ref c) = some (-1) := by
        unfold stepsBad
        have er : rowOf H (.ref c) = none := by show itemsOf (H c) = none; rw [e]; rfl
        rw [er]
      exact ⟨.ref c, rfl, .ref c, .ty "list", _, _, false, rfl, .ty _, .base (.dK (s1 _ _ e)), kit_ty (show kitB "dict" "list" = some false by decide +kernel), _, rfl, iteT ⟨.ref c, rfl, .ref c, .ty "tuple", _, _, false, rfl, .ty _, .base (.dK (s1 _ _ e)), kit_ty (show kitB "dict" "tuple" = some false by decide +kernel), _, rfl, iteT ⟨1, rfl, szl rfl, fin (.sp (-1)) (.sp st0 bad) s1⟩⟩⟩
    | @tup c xs e =>
      refine ⟨.ref c, rfl, .ref c, .ty "list", _, _, false, rfl, .ty _, .base (.tup (s1 _ _ e)), kit_ty (show kitB "tuple" "list" = some false by decide +kernel), _, rfl, iteT ⟨.ref c, rfl, .ref c, .ty "tuple", _, _, true, rfl, .ty _, .base (.tup (s1 _ _ e)), kit_ty (show kitB "tuple" "tuple" = some true by decide +kernel), _, rfl, iteF ?_⟩⟩
      have er : rowOf H (.ref c) = some xs := by show itemsOf (H c) = _; rw [e]; rfl
      have badL : ¬ (1 ≤ xs.length ∧ xs.length ≤ 80) → stepsBad H (.ref c) = some (-1) := fun n => by unfold stepsBad; rw [er]; exact if_neg n
      have hx2 := hitems xs er
      have len1000 := hlen xs er
      have badG : ∀ {G : Hp}, Same H G → badAt G xs = badAt H xs := fun s => by unfold badAt; rw [scan_mono s xs [] 0 hx2]
      refine ⟨.ref c, rfl, .ref c, xs.length, rfl, row_len (b := false) (s1 _ _ e), 1, (xs.length : Int), rfl, rfl, _, rfl, ?_⟩
      by_cases l1 : (1 : Int) ≤ (xs.length : Int)
      case neg =>
        rw [decide_eq_false l1]
        exact iteF ⟨_, rfl, iteT ⟨1, rfl, szl rfl, fin (.sp (-1)) (.sp st0 (badL (by omega))) s1⟩⟩
      rw [decide_eq_true l1]
      refine iteT ⟨(xs.length : Int), 80, rfl, rfl, _, rfl, ?_⟩
      by_cases l2 : (xs.length : Int) ≤ 80
      case neg =>
        rw [decide_eq_false l2]
        exact iteT ⟨1, rfl, szl rfl, fin (.sp (-1)) (.sp st0 (badL (by omega))) s1⟩
      rw [decide_eq_true l2]
      have l12 : 1 ≤ xs.length ∧ xs.length ≤ 80 := by omega
      have eb : stepsBad H (.ref c) = (scan H xs [] 0).map Int.ofNat := by unfold stepsBad; rw [er]; exact if_pos l12
      refine iteF ?_
      have x2m : ∀ {G : Hp}, Same H G → ∀ x ∈ xs, Val2 K G x := fun s x hx => (hx2 x hx).mono s
      have first : ∀ {G : Hp}, Same H G → (false = false → ∀ x, xs[0]? = some x → stepOf G x = none) := fun s _ x h0 => (stepOf_mono (hx2 x (List.mem_of_getElem? h0)).1 s).trans (htup c xs rfl e x h0)
      have b0 : scan H xs [] 0 = some 0 := by
        cases xs with
        | nil => exact absurd l12.1 (by simp)
        | cons x r =>
          show (match stepOf H x with | none => some 0 | some st => if st ∈ [] ∨ 8 ≤ cnt [] st.1 then some 0 else scan H r ([] ++ [st]) 1) = some 0
          rw [htup c (x :: r) rfl e x rfl]
      have bA : badAt H xs = 0 := by unfold badAt; rw [b0]; rfl
      refine ⟨.ref c, rfl, false, c, xs, rfl, s1 _ _ e, len1000, x2m s1, first s1, fun H2 s2 => ?_⟩
      rw [badG s1]
      refine ⟨badAt H xs, 0, rfl, rfl, _, rfl, ?_⟩
      rw [decide_eq_true (show (0 : Int) ≤ badAt H xs by omega)]
      refine iteT ⟨.ref c, rfl, false, c, xs, rfl, (s1.trans s2) _ _ e, len1000, x2m (s1.trans s2), first (s1.trans s2), fun H3 s3 => ?_⟩
      rw [badG (s1.trans s2), bA]
      exact ⟨szl rfl, fin (.sp 0) (.sp st0 (by rw [eb, b0]; rfl)) (s1.trans (s2.trans s3))⟩
    | @lst c xs e =>
      refine ⟨.ref c, rfl, .ref c, .ty "list", _, _, true, rfl, .ty _, .base (.lst (s1 _ _ e)), kit_ty (show kitB "list" "list" = some true by decide +kernel), _, rfl, iteF ?_⟩
      have er : rowOf H (.ref c) = some xs := by show itemsOf (H c) = _; rw [e]; rfl
      have badL : ¬ (1 ≤ xs.length ∧ xs.length ≤ 80) → stepsBad H (.ref c) = some (-1) := fun n => by unfold stepsBad; rw [er]; exact if_neg n
      have hx2 := hitems xs er
      have len1000 := hlen xs er
      have badG : ∀ {G : Hp}, Same H G → badAt G xs = badAt H xs := fun s => by unfold badAt; rw [scan_mono s xs [] 0 hx2]
      refine ⟨.ref c, rfl, .ref c, xs.length, rfl, row_len (b := true) (s1 _ _ e), 1, (xs.length : Int), rfl, rfl, _, rfl, ?_⟩
      by_cases l1 : (1 : Int) ≤ (xs.length : Int)
      case neg =>
        rw [decide_eq_false l1]
        exact iteF ⟨_, rfl, iteT ⟨1, rfl, szl rfl, fin (.sp (-1)) (.sp st0 (badL (by omega))) s1⟩⟩
      rw [decide_eq_true l1]
      refine iteT ⟨(xs.length : Int), 80, rfl, rfl, _, rfl, ?_⟩
      by_cases l2 : (xs.length : Int) ≤ 80
      case neg =>
        rw [decide_eq_false l2]
        exact iteT ⟨1, rfl, szl rfl, fin (.sp (-1)) (.sp st0 (badL (by omega))) s1⟩
      rw [decide_eq_true l2]
      have l12 : 1 ≤ xs.length ∧ xs.length ≤ 80 := by omega
      have eb : stepsBad H (.ref c) = (scan H xs [] 0).map Int.ofNat := by unfold stepsBad; rw [er]; exact if_pos l12
      refine iteF ?_
      have x2m : ∀ {G : Hp}, Same H G → ∀ x ∈ xs, Val2 K G x := fun s x hx => (hx2 x hx).mono s
      refine ⟨.ref c, rfl, true, c, xs, rfl, s1 _ _ e, len1000, x2m s1, (fun z => nomatch z), fun H2 s2 => ?_⟩
      rw [badG s1]
      refine ⟨badAt H xs, 0, rfl, rfl, _, rfl, ?_⟩
      cases sb : scan H xs [] 0 with
      | some i =>
        have bA : badAt H xs = (i : Int) := by unfold badAt; rw [sb]
        rw [decide_eq_true (show (0 : Int) ≤ badAt H xs by omega)]
        refine iteT ⟨.ref c, rfl, true, c, xs, rfl, (s1.trans s2) _ _ e, len1000, x2m (s1.trans s2), (fun z => nomatch z), fun H3 s3 => ?_⟩
        rw [badG (s1.trans s2), bA]
        exact ⟨szl rfl, fin (.sp i) (.sp st0 (by rw [eb, sb]; rfl)) (s1.trans (s2.trans s3))⟩
      | none =>
        have bA : badAt H xs = -1 := by unfold badAt; rw [sb]
        rw [decide_eq_false (show ¬ (0 : Int) ≤ badAt H xs by omega)]
        refine iteF ?_
        obtain ⟨b, a, as, ss, ro⟩ := steps_ok (show stepsBad H (.ref c) = none by rw [eb, sb]; rfl)
        have hac : c = a := by have := ro.ev; injection this
        subst hac
        obtain ⟨rfl, rfl⟩ : b = true ∧ xs = as.map V.ref := by
          have h := ro.ha
          rw [e] at h
          cases b with
          | true => exact ⟨rfl, HO.lst.inj (Option.some.inj h)⟩
          | false => exact absurd (Option.some.inj h) (by intro z; cases z)
        have S2 : Same H H2 := s1.trans s2
        obtain ⟨ys, ea, yn, ym⟩ := allL_texts (ss.map (·.2.1))
        obtain ⟨ws, wd, wl⟩ := words_of (ss.map (·.2.1)) yn ym
        have lss : ss.length ≤ 80 := by have := l12.2; rwa [List.length_map, ro.st.length] at this
        refine ⟨.ref c, rfl, c, rfl, ⟨_, .inl (.inl (S2 _ _ e))⟩, fun W nW => ?_⟩
        refine lc_list (K := K) (xs := as.map V.ref) (fun j G => Same H G ∧ G W = some (.lst (((ss.take j).map (·.2.1)).map V.str))) ⟨S2.trans (same_upd nW), upd_same⟩ (fun j G _ hP => .inl (.inl (hP.1 _ _ e))) (fun j y G hy hP => ?_) (fun G hP => ?_)
        · obtain ⟨S1, eW⟩ := hP
          obtain ⟨ai, u, rfl, gi, g, hai⟩ := ref_get (ro.st.mono S1) hy
          have hj : j < ss.length := (List.getElem?_eq_some_iff.mp g).1
          refine ⟨rfl, ?_⟩
          unfold tYes
          refine iteT ?_
          refine ⟨.ref ai, rfl, ai, [.int u.1, .str u.2.1, .int u.2.2], 1, .str u.2.1, rfl, rfl, .inl (.inl hai), atI_nat (j := 1) rfl, _, eW, small (by rw [List.length_map, List.length_map, List.length_take]; omega), same_set (S2.free nW) S1, ?_⟩
          rw [upd_same, take_more g, List.map_append, List.map_append]; rfl
        · obtain ⟨S3, eW⟩ := hP
          rw [List.length_map, ro.st.length, List.take_length] at eW
          have ekv : (ss.map (·.2.1)).map V.str = ((ss.map (·.2.1)).map Sum.inr).map kV := by rw [List.map_map, List.map_map, List.map_map]; rfl
          rw [ekv] at eW
          refine ⟨W, (ss.map (·.2.1)).map Sum.inr, rfl, .inl (.inl eW), (by rw [List.length_map, List.length_map]; exact Nat.lt_of_le_of_lt (show ss.length + 1 ≤ 81 by omega) (by decide)), fun D nD => ?_⟩
          rw [ea]
          have s4 := same_upd (o := KnS.SetL P w D (ys.map Sum.inr)) nD
          refine ⟨D, ys.map Sum.inr, rfl, upd_same, ?_⟩
          rw [List.length_map]
          have S4 := S3.trans s4
          refine ⟨(ys.length : Int), 14, rfl, rfl, _, rfl, ?_⟩
          by_cases m14 : (14 : Int) < (ys.length : Int)
          case pos =>
            rw [decide_eq_true m14]
            exact iteT ⟨szl rfl, fin .tm (.tm st0 ro wd (by omega)) S4⟩
          rw [decide_eq_false m14]
          refine iteF ?_
          have lw : ws.length ≤ 14 := by omega
          generalize upd G D (KnS.SetL P w D (ys.map Sum.inr)) = G4 at S4
          have esc : fscan (ss.map (·.2.1)) fs [] = fscan ws fs [] := fscan_congr (fun x => (wd.mem x).symm) fs []
          rcases hf with ⟨rfl, rfl⟩ | ⟨d, rfl, hd⟩
          case' inl =>
            let VFX : V := V.non
            refine ⟨.non, rfl, rfl, _, rfl, iteF (iteF ⟨.non, rfl, rfl, _, rfl, iteF (iteF ?_)⟩)⟩
            have fs0 : fscan ws [] [] = none := rfl
            have S5 := S4
          case' inr =>
            let VFX : V := V.ref d
            refine ⟨.ref d, rfl, rfl, _, rfl, iteT ⟨.ref d, rfl, .ref d, .ty "dict", _, _, true, rfl, .ty _, .base (.dK (S4 _ _ hd)), kit_ty (show kitB "dict" "dict" = some true by decide +kernel), _, rfl, iteF ?_⟩⟩
            refine ⟨.ref d, rfl, rfl, _, rfl, iteT ⟨.ref c, rfl, .ref d, rfl, c, d, as, ss, fs, rfl, S4 _ _ e, ro.st.mono S4, by omega, S4 _ _ hd, ndf, hsz, hfl, ?_⟩⟩
            rw [esc]
            intro G5 l5 s5 n5 e5
            refine ⟨.ref l5, (faultV (fscan ws fs [])).length, rfl, .inl ⟨_, .inl (.inl e5), rfl⟩, ((faultV (fscan ws fs [])).length : Int), 0, rfl, rfl, _, rfl, ?_⟩
            have S5 := S4.trans s5
            cases fs0 : fscan ws fs [] with
            | some x =>
              refine iteT ⟨.ref c, rfl, .ref d, rfl, c, d, as, ss, fs, rfl, S5 _ _ e, ro.st.mono S5, by omega, S5 _ _ hd, ndf, hsz, hfl, ?_⟩
              rw [esc, fs0]
              intro G6 l6 s6 n6 e6
              exact ⟨l6, [.str x], 0, .str x, rfl, rfl, .inl (.inl e6), rfl, szl rfl, fin (.fa x) (.fa st0 ro wd lw fs0) (S5.trans s6)⟩
            | none => ?_
            refine iteF ?_
          all_goals
            refine ⟨.int s0, rfl, .ref c, rfl, s0, c, as, ss, rfl, S5 _ _ e, ro.st.mono S5, st0, ro.gs.good, fun G7 N ns s7 nN eN hst => ?_⟩
            have S7 := S5.trans s7
            refine ⟨N, rfl, ⟨_, .inl (.inl eN)⟩, ?_⟩
            refine for_list (K := K) (xs := ns.map V.int) (fun i σ G => ∃ y3 : Option V, σ = [some (.int s0), some (.ref c), some (VFX), y3, none] ∧ Same H G ∧ G N = some (.lst (ns.map V.int)) ∧ ∀ k ∈ ns.take i, mv ss k ≠ [])
              ⟨none, rfl, S7, eN, fun k hk => absurd hk (by simp)⟩ (fun i σ G _ ⟨_, _, _, h, _⟩ => .inl (.inl h)) (fun i k σ G hx hP => ?_) (fun σ G hP => ?_)
            · obtain ⟨y3, rfl, S, eN', lv⟩ := hP
              obtain ⟨n, rfl, hn⟩ : ∃ n, k = .int n ∧ ns[i]? = some n := by
                rw [List.getElem?_map] at hx
                cases h : ns[i]? with
                | none => rw [h] at hx; cases hx
                | some n => rw [h] at hx; exact ⟨n, (Option.some.inj hx).symm, rfl⟩
              refine ⟨.ref c, rfl, c, rfl, ⟨_, .inl (.inl (S _ _ e))⟩, fun W nW => ?_⟩
              refine lc_list (K := K) (xs := as.map V.ref) (fun j G' => Same G G' ∧ ∃ vs : List V, G' W = some (.lst vs) ∧ vs.length = cnt (ss.take j) n) ⟨same_upd nW, [], upd_same, rfl⟩ (fun j G' _ hP => .inl (.inl ((S.trans hP.1) _ _ e))) (fun j y G' hy hP => ?_) (fun G' hP => ?_)
              · obtain ⟨S1, vs, eW, lv⟩ := hP
                obtain ⟨ai, u, rfl, gi, g, hai⟩ := ref_get (ro.st.mono (S.trans S1)) hy
                have hj : j < ss.length := (List.getElem?_eq_some_iff.mp g).1
                have hc : cnt (ss.take (j + 1)) n = cnt (ss.take j) n + if u.1 = n then 1 else 0 := by
                  rw [take_more g]
                  unfold cnt
                  rw [List.filter_append, List.length_append]
                  by_cases q : u.1 = n
                  · rw [if_pos q, List.filter_cons_of_pos (by simpa using q)]; rfl
                  · rw [if_neg q, List.filter_cons_of_neg (by simpa using q)]; rfl
                have hcj : cnt (ss.take j) n ≤ j := by
                  unfold cnt
                  exact Nat.le_trans (List.length_filter_le _ _) (by rw [List.length_take]; omega)
                refine ⟨rfl, .ref ai, rfl, ai, [.int u.1, .str u.2.1, .int u.2.2], 0, .int u.1, rfl, rfl, .inl (.inl hai), atI_nat (j := 0) rfl, .int n, rfl, rfl, _, rfl, ?_⟩
                by_cases q : u.1 = n
                · rw [decide_eq_true (show V.int u.1 = V.int n by rw [q])]
                  refine iteT ⟨.ref ai, rfl, _, eW, small (by omega), same_set nW S1, _, upd_same, ?_⟩
                  rw [List.length_append, lv, hc, if_pos q]; rfl
                · rw [decide_eq_false (show ¬ V.int u.1 = V.int n from fun z => q (V.int.inj z))]
                  exact iteF ⟨S1, vs, eW, by rw [hc, if_neg q, lv]; rfl⟩
              · obtain ⟨S1, vs, eW, lw1⟩ := hP
                rw [List.length_map, ro.st.length, List.take_length] at lw1
                refine ⟨.ref W, vs.length, rfl, .inl ⟨_, .inl (.inl eW), rfl⟩, rfl, _, rfl, ?_⟩
                by_cases z0 : vs.length = 0
                · rw [decide_eq_true (show V.int (vs.length : Nat) = V.int 0 by rw [z0]; rfl)]
                  refine iteT ⟨.int n, rfl, szl rfl, fin (.nl n) (.nl st0 ro wd lw fs0 rfl ((hst.mem n).mp (List.mem_of_getElem? hn)) (cnt_mv.mp (by omega)) (fun k hk lt => lv k (take_lt hst.up hn ((hst.mem k).mpr hk) lt))) (S.trans S1)⟩
                · rw [decide_eq_false (show ¬ V.int (vs.length : Nat) = V.int 0 from fun z => z0 (by have := V.int.inj z; omega))]
                  refine iteF ⟨_, rfl, S.trans S1, S1 _ _ eN', fun k hk => ?_⟩
                  rw [take_more hn, List.mem_append, List.mem_singleton] at hk
                  rcases hk with hk | rfl
                  · exact lv k hk
                  · exact fun m0 => z0 (by rw [lw1]; exact cnt_mv.mpr m0)
            · obtain ⟨y3, rfl, S, eN', lv⟩ := hP
              rw [List.length_map, List.take_length] at lv
              exact ⟨szl rfl, fin .ok (.ok st0 ro wd lw fs0 rfl fun k hk => lv k ((hst.mem k).mpr hk)) S⟩

end
end Kn

set_option Elab.async false
set_option linter.all false
set_option maxRecDepth 100000
set_option maxHeartbeats 4000000
namespace Kn
open PySem PySem.Spec PyProof.Rows L2
open C8 (Cal pe_c pe_gc Mak pe_mk)
section
variable {P : Program} {w : World} {K : PySem.W.Frag} {mg : Str → Option Value} {base : Heap}
/-! ### two values are the same, kind by kind -/
inductive ExA (K : PySem.W.Frag) : V → V → Prop where
  | non : ExA K .non .non
  | bl (b : Bool) : ExA K (.bl b) (.bl b)
  | int (i : Int) : ExA K (.int i) (.int i)
  | str (z : Str) : ExA K (.str z) (.str z)
/-- .. with lists and tuples, nested less than n deep -/
def Ex (K : PySem.W.Frag) (H : Hp) : Nat → V → V → Prop
  | 0, _, _ => False
  | n + 1, x, y => ExA K x y ∨ ∃ b a a' xs ys, x = .ref a ∧ y = .ref a' ∧ H a = some (rowO b xs) ∧ H a' = some (rowO b ys) ∧ xs.length ≤ 100000 ∧ Paired (Ex K H n) xs ys
theorem Ex.mono {K : PySem.W.Frag} {H H' : Hp} (s : Same H H') : ∀ {n : Nat} {x y : V}, Ex K H n x y → Ex K H' n x y
  | 0, _, _, h => h
  | n + 1, _, _, h => by
    rcases h with h | ⟨b, a, a', xs, ys, e1, e2, h1, h2, l, p⟩
    · exact .inl h
    · exact .inr ⟨b, a, a', xs, ys, e1, e2, s _ _ h1, s _ _ h2, l, Paired.mapP p fun _ _ e => Ex.mono s e⟩
def spEx (n : Nat) (K : PySem.W.Frag) : Sp := fun vs H Q _ => ∃ x y, vs = [x, y] ∧ Ex K H n x y ∧ ∀ H', Same H H' → Q (.bl true) H'
def sp__law_exact := spEx 4
theorem ok_ex0 {f : Addr} {fd : FuncData} (F : Fun K "_law_exact" "_law_exact" s__law_exact f fd) : FnOk P w K mg base CX0 1 f fd ["_law_told", "_law_due_here"] (spEx 0 K) := by
  refine F.ok sc__law_exact (fun vs H Q E h => ?_) (fun cdv A outer s H vs Q E hr h => ?_)
  · obtain ⟨x, y, rfl, _⟩ := h
    rfl
  · obtain ⟨x, y, rfl, hx, q⟩ := h
    exact hx.elim
theorem ok_exs {f : Addr} {C : Addr} {fd : FuncData} (T : Txt K mg C) (F : Fun K "_law_exact" "_law_exact" s__law_exact f fd) (n : Nat) (c__law_is_integer : Cal P w K mg base 1 "_law_is_integer" (sp__law_is_integer K) [])
    (c__law_exact : Cal P w K mg base (n + 1) "_law_exact" (spEx n K) []) : FnOk P w K mg base CX0 (n + 1 + 1) f fd ["_law_told", "_law_due_here"] (spEx (n + 1) K) := by
  have nd := sc__law_exact.nd
  refine F.ok sc__law_exact (fun vs H Q E h => ?_) (fun cdv A outer s H vs Q E hr h => ?_)
  · obtain ⟨x, y, rfl, _⟩ := h
    rfl
  · obtain ⟨x, y, rfl, hx, q⟩ := h
    refine ⟨_, (pss_cons (ps_if (PW.pt (pw_or (pt_val (pe_callB call_isi (by rfl) T.m_isinstance (by decide +kernel) (pa_cons (pv 1) (pa_cons (pe_bltn (v := .ty "list") (u := .type "list") (by rfl) T.m_list (by decide +kernel) rfl) pa_nil)))) (pw_or1 (pt_val (pe_callB call_isi (by rfl) T.m_isinstance (by decide +kernel) (pa_cons (pv 1) (pa_cons (pe_bltn (v := .ty "tuple") (u := .type "tuple") (by rfl) T.m_tuple (by decide +kernel) rfl) pa_nil))))))) (pss_cons (ps_if (PW.pt (pw_and (pt_val (pe_callB call_isi (by rfl) T.m_isinstance (by decide +kernel) (pa_cons (pv 1) (pa_cons (pe_bltn (v := .ty "list") (u := .type "list") (by rfl) T.m_list (by decide +kernel) rfl) pa_nil)))) (pw_and1 (pt_not (pt_val (pe_callB call_isi (by rfl) T.m_isinstance (by decide +kernel) (pa_cons (pv 0) (pa_cons (pe_bltn (v := .ty "list") (u := .type "list") (by rfl) T.m_list (by decide +kernel) rfl) pa_nil)))))))) (pss_one (ps_ret pe_bl)) pss_nil)
      (pss_cons (ps_if (PW.pt (pw_and (pt_val (pe_callB call_isi (by rfl) T.m_isinstance (by decide +kernel) (pa_cons (pv 1) (pa_cons (pe_bltn (v := .ty "tuple") (u := .type "tuple") (by rfl) T.m_tuple (by decide +kernel) rfl) pa_nil)))) (pw_and1 (pt_not (pt_val (pe_callB call_isi (by rfl) T.m_isinstance (by decide +kernel) (pa_cons (pv 0) (pa_cons (pe_bltn (v := .ty "tuple") (u := .type "tuple") (by rfl) T.m_tuple (by decide +kernel) rfl) pa_nil)))))))) (pss_one (ps_ret pe_bl)) pss_nil)
      (pss_cons (ps_if (pt_cmpR op_ne (pe_callB call_len (by rfl) T.m_len (by decide +kernel) (pa_cons (pv 0) pa_nil)) (pe_callB call_len (by rfl) T.m_len (by decide +kernel) (pa_cons (pv 1) pa_nil)) (nomark _)) (pss_one (ps_ret pe_bl)) pss_nil)
      (pss_cons (ps_for PassesOwn.never rfl (pi_range1 (by rfl) T.m_range (pa_cons (pe_callB call_len (by rfl) T.m_len (by decide +kernel) (pa_cons (pv 1) pa_nil)) pa_nil)) (pg_name (i := 2) nd rfl (.inl rfl)) (pss_one (ps_if (pt_not (pt_val (pe_c c__law_exact hr (by omega) (by rfl) (pa_cons (pe_ix (r := KnC.rIx K) (KnC.ix_seq ix_list ix_tup) (pv 0) (pv 2) (fun _ _ => rfl)) (pa_cons (pe_ix (r := KnC.rIx K) (KnC.ix_seq ix_list ix_tup) (pv 1) (pv 2) (fun _ _ => rfl)) pa_nil))))) (pss_one (ps_ret pe_bl)) pss_nil)))
      (pss_one (ps_ret pe_bl)))))) pss_nil)
      (pss_cons (ps_if (pt_cmpR op_isN (pv 1) pe_non (nomark _)) (pss_one (ps_ret (pe_cmpR op_isN (pv 0) pe_non (nomark _)))) pss_nil)
      (pss_cons (ps_if (pt_val (pe_callB call_isi (by rfl) T.m_isinstance (by decide +kernel) (pa_cons (pv 1) (pa_cons (pe_bltn (v := .ty "bool") (u := .type "bool") (by rfl) T.m_bool (by decide +kernel) rfl) pa_nil)))) (pss_one (ps_ret (pe_and (pe_callB call_isi (by rfl) T.m_isinstance (by decide +kernel) (pa_cons (pv 0) (pa_cons (pe_bltn (v := .ty "bool") (u := .type "bool") (by rfl) T.m_bool (by decide +kernel) rfl) pa_nil))) (pe_one (pe_cmpR op_eq (pv 0) (pv 1) (nomark _)))))) pss_nil)
      (pss_cons (ps_if (pt_val (pe_callB call_isi (by rfl) T.m_isinstance (by decide +kernel) (pa_cons (pv 1) (pa_cons (pe_bltn (v := .ty "int") (u := .type "int") (by rfl) T.m_int (by decide +kernel) rfl) pa_nil)))) (pss_one (ps_ret (pe_and (pe_c c__law_is_integer hr (by omega) (by rfl) (pa_cons (pv 0) pa_nil)) (pe_one (pe_cmpR op_eq (pv 0) (pv 1) (nomark _)))))) pss_nil)
      (pss_one (ps_ret (pe_and (pe_callB call_isi (by rfl) T.m_isinstance (by decide +kernel) (pa_cons (pv 0) (pa_cons (pe_bltn (v := .ty "str") (u := .type "str") (by rfl) T.m_str (by decide +kernel) rfl) pa_nil))) (pe_one (pe_cmpR op_eq (pv 0) (pv 1) (nomark _)))))))))), ?_⟩
    have q0 := q H (Same.refl H)
    rcases hx with hx | ⟨b, a, a', xs, ys, rfl, rfl, ha, ha', hl, hp⟩
    · cases hx with
      | non =>
        refine ⟨.non, rfl, .non, .ty "list", _, _, false, rfl, .ty _, .base .non, kit_ty (show kitB "NoneType" "list" = some false by decide +kernel), _, rfl, iteF ?_⟩
        refine ⟨.non, rfl, .non, .ty "tuple", _, _, false, rfl, .ty _, .base .non, kit_ty (show kitB "NoneType" "tuple" = some false by decide +kernel), _, rfl, iteF ?_⟩
        exact ⟨.non, rfl, rfl, _, rfl, iteT ⟨.non, rfl, rfl, q0⟩⟩
      | bl c =>
        refine ⟨.bl c, rfl, .bl c, .ty "list", _, _, false, rfl, .ty _, .base (.bl c), kit_ty (show kitB "bool" "list" = some false by decide +kernel), _, rfl, iteF ?_⟩
        refine ⟨.bl c, rfl, .bl c, .ty "tuple", _, _, false, rfl, .ty _, .base (.bl c), kit_ty (show kitB "bool" "tuple" = some false by decide +kernel), _, rfl, iteF ?_⟩
        refine ⟨.bl c, rfl, rfl, _, rfl, ?_⟩
        rw [decide_eq_false (show ¬ V.bl c = V.non from fun z => by cases z)]
        refine iteF ⟨.bl c, rfl, .bl c, .ty "bool", _, _, true, rfl, .ty _, .base (.bl c), kit_ty (show kitB "bool" "bool" = some true by decide +kernel), _, rfl, iteT ?_⟩
        refine ⟨.bl c, rfl, .bl c, .ty "bool", _, _, true, rfl, .ty _, .base (.bl c), kit_ty (show kitB "bool" "bool" = some true by decide +kernel), _, rfl, iteT ⟨.bl c, rfl, .bl c, rfl, rfl, ?_⟩⟩
        rw [decide_eq_true rfl]
        exact q0
      | int i =>
        refine ⟨.int i, rfl, .int i, .ty "list", _, _, false, rfl, .ty _, .base (.int i), kit_ty (show kitB "int" "list" = some false by decide +kernel), _, rfl, iteF ?_⟩
        refine ⟨.int i, rfl, .int i, .ty "tuple", _, _, false, rfl, .ty _, .base (.int i), kit_ty (show kitB "int" "tuple" = some false by decide +kernel), _, rfl, iteF ?_⟩
        refine ⟨.int i, rfl, rfl, _, rfl, ?_⟩
        rw [decide_eq_false (show ¬ V.int i = V.non from fun z => by cases z)]
        refine iteF ⟨.int i, rfl, .int i, .ty "bool", _, _, false, rfl, .ty _, .base (.int i), kit_ty (show kitB "int" "bool" = some false by decide +kernel), _, rfl, iteF ?_⟩
        refine ⟨.int i, rfl, .int i, .ty "int", _, _, true, rfl, .ty _, .base (.int i), kit_ty (show kitB "int" "int" = some true by decide +kernel), _, rfl, iteT ?_⟩
        refine ⟨.int i, rfl, .int i, rfl, .int _, fun H1 s1 => ⟨_, rfl, iteT ⟨.int i, rfl, .int i, rfl, rfl, ?_⟩⟩⟩
        rw [decide_eq_true rfl]
        exact q H1 s1
      | str z =>
        refine ⟨.str z, rfl, .str z, .ty "list", _, _, false, rfl, .ty _, .base (.str z), kit_ty (show kitB "str" "list" = some false by decide +kernel), _, rfl, iteF ?_⟩
        refine ⟨.str z, rfl, .str z, .ty "tuple", _, _, false, rfl, .ty _, .base (.str z), kit_ty (show kitB "str" "tuple" = some false by decide +kernel), _, rfl, iteF ?_⟩
        refine ⟨.str z, rfl, rfl, _, rfl, ?_⟩
        rw [decide_eq_false (show ¬ V.str z = V.non from fun z => by cases z)]
        refine iteF ⟨.str z, rfl, .str z, .ty "bool", _, _, false, rfl, .ty _, .base (.str z), kit_ty (show kitB "str" "bool" = some false by decide +kernel), _, rfl, iteF ?_⟩
        refine ⟨.str z, rfl, .str z, .ty "int", _, _, false, rfl, .ty _, .base (.str z), kit_ty (show kitB "str" "int" = some false by decide +kernel), _, rfl, iteF ?_⟩
        refine ⟨.str z, rfl, .str z, .ty "str", _, _, true, rfl, .ty _, .base (.str z), kit_ty (show kitB "str" "str" = some true by decide +kernel), _, rfl, iteT ⟨.str z, rfl, .str z, rfl, rfl, ?_⟩⟩
        rw [decide_eq_true rfl]
        exact q0
    · have hly := hp.length
      have len1 : ∀ {G : Hp}, Same H G → LenV K (.ref a) G xs.length := fun s => row_len (s _ _ ha)
      have len2 : ∀ {G : Hp}, Same H G → LenV K (.ref a') G xs.length := fun s => by rw [hly]; exact row_len (s _ _ ha')
      cases b with
      | true =>
        refine ⟨.ref a', rfl, .ref a', .ty "list", _, _, true, rfl, .ty _, .base (.lst ha'), kit_ty (show kitB "list" "list" = some true by decide +kernel), _, rfl, iteT ?_⟩
        refine ⟨.ref a', rfl, .ref a', .ty "list", _, _, true, rfl, .ty _, .base (.lst ha'), kit_ty (show kitB "list" "list" = some true by decide +kernel), _, rfl, iteT ⟨.ref a, rfl, .ref a, .ty "list", _, _, true, rfl, .ty _, .base (.lst ha), kit_ty (show kitB "list" "list" = some true by decide +kernel), _, rfl, iteF ?_⟩⟩
        refine ⟨.ref a', rfl, .ref a', .ty "tuple", _, _, false, rfl, .ty _, .base (.lst ha'), kit_ty (show kitB "list" "tuple" = some false by decide +kernel), _, rfl, iteF (iteF ?_)⟩
        refine ⟨.ref a, rfl, .ref a, xs.length, rfl, len1 (Same.refl H), .ref a', rfl, .ref a', xs.length, rfl, len2 (Same.refl H), rfl, _, rfl, ?_⟩
        rw [decide_eq_true rfl]
        refine iteF ⟨.ref a', rfl, .ref a', xs.length, rfl, len2 (Same.refl H), (xs.length : Int), rfl, by omega, by omega, ?_⟩
        refine for_range (lo := 0) (n := ((xs.length : Int)).toNat) (fun i σ H' => Same H H' ∧ ∃ y2, σ = [some (.ref a), some (.ref a'), y2]) ⟨Same.refl H, none, rfl⟩ (fun i σ H' hi hP => ?_) (fun σ H' hP => ?_)
        · obtain ⟨S, y2, rfl⟩ := hP
          have hi' : i < xs.length := by omega
          have g1 : xs[i]? = some xs[i] := List.getElem?_eq_getElem hi'
          obtain ⟨y, g2, hxy⟩ := paired_get hp g1
          have e0 : (0 : Int) + (i : Nat) = (i : Nat) := by omega
          rw [e0]
          refine ⟨.ref a, rfl, .int (i : Nat), rfl, .inl ⟨a, xs, _, xs[i], rfl, rfl, .inl (.inl (S _ _ ha)), atI_nat g1, ?_⟩⟩
          refine ⟨.ref a', rfl, .int (i : Nat), rfl, .inl ⟨a', ys, _, y, rfl, rfl, .inl (.inl (S _ _ ha')), atI_nat g2, ?_⟩⟩
          exact ⟨xs[i], y, rfl, Ex.mono S hxy, fun H1 s1 => ⟨_, rfl, iteF ⟨S.trans s1, _, rfl⟩⟩⟩
        · obtain ⟨S, y2, rfl⟩ := hP
          exact q H' S
      | false =>
        refine ⟨.ref a', rfl, .ref a', .ty "list", _, _, false, rfl, .ty _, .base (.tup ha'), kit_ty (show kitB "tuple" "list" = some false by decide +kernel), _, rfl, iteF ⟨.ref a', rfl, .ref a', .ty "tuple", _, _, true, rfl, .ty _, .base (.tup ha'), kit_ty (show kitB "tuple" "tuple" = some true by decide +kernel), _, rfl, iteT ?_⟩⟩
        refine ⟨.ref a', rfl, .ref a', .ty "list", _, _, false, rfl, .ty _, .base (.tup ha'), kit_ty (show kitB "tuple" "list" = some false by decide +kernel), _, rfl, iteF (iteF ?_)⟩
        refine ⟨.ref a', rfl, .ref a', .ty "tuple", _, _, true, rfl, .ty _, .base (.tup ha'), kit_ty (show kitB "tuple" "tuple" = some true by decide +kernel), _, rfl, iteT ⟨.ref a, rfl, .ref a, .ty "tuple", _, _, true, rfl, .ty _, .base (.tup ha), kit_ty (show kitB "tuple" "tuple" = some true by decide +kernel), _, rfl, iteF ?_⟩⟩
        refine ⟨.ref a, rfl, .ref a, xs.length, rfl, len1 (Same.refl H), .ref a', rfl, .ref a', xs.length, rfl, len2 (Same.refl H), rfl, _, rfl, ?_⟩
        rw [decide_eq_true rfl]
        refine iteF ⟨.ref a', rfl, .ref a', xs.length, rfl, len2 (Same.refl H), (xs.length : Int), rfl, by omega, by omega, ?_⟩
        refine for_range (lo := 0) (n := ((xs.length : Int)).toNat) (fun i σ H' => Same H H' ∧ ∃ y2, σ = [some (.ref a), some (.ref a'), y2]) ⟨Same.refl H, none, rfl⟩ (fun i σ H' hi hP => ?_) (fun σ H' hP => ?_)
        · obtain ⟨S, y2, rfl⟩ := hP
          have hi' : i < xs.length := by omega
          have g1 : xs[i]? = some xs[i] := List.getElem?_eq_getElem hi'
          obtain ⟨y, g2, hxy⟩ := paired_get hp g1
          have e0 : (0 : Int) + (i : Nat) = (i : Nat) := by omega
          rw [e0]
          refine ⟨.ref a, rfl, .int (i : Nat), rfl, .inr ⟨a, xs, _, xs[i], rfl, rfl, .inl (.inl (S _ _ ha)), atI_nat g1, ?_⟩⟩
          refine ⟨.ref a', rfl, .int (i : Nat), rfl, .inr ⟨a', ys, _, y, rfl, rfl, .inl (.inl (S _ _ ha')), atI_nat g2, ?_⟩⟩
          exact ⟨xs[i], y, rfl, Ex.mono S hxy, fun H1 s1 => ⟨_, rfl, iteF ⟨S.trans s1, _, rfl⟩⟩⟩
        · obtain ⟨S, y2, rfl⟩ := hP
          exact q H' S

theorem ok__law_mix {f : Addr} {C : Addr} {fd : FuncData} (T : Txt K mg C) (F : Fun K "_law_mix" "_law_mix" s__law_mix f fd)  : FnOk P w K mg base CX0 1 f fd ["_law_cell_here", "_law_k"] (sp__law_mix K) := by
  have nd := sc__law_mix.nd
  refine F.ok sc__law_mix (fun vs H Q E h => ?_) (fun cdv A outer s H vs Q E hr h => ?_)
  · obtain ⟨c, k, rfl, _⟩ := h
    rfl
  · obtain ⟨c, k, rfl, q⟩ := h
    refine ⟨_, (pss_cons (ps_set (i := 2) nd rfl (.inl rfl) (pe_op op_mod (pe_op op_mul (pe_callTy call_int1 (by rfl) T.m_int (by decide +kernel) (pa_cons (pe_op op_add (pe_op op_add (pe_callTy call_int1 (by rfl) T.m_int (by decide +kernel) (pa_cons (pv 0) pa_nil)) (pe_op op_mul pe_int (pv 1))) pe_int) pa_nil)) pe_int) pe_int))
      (pss_cons (ps_set (i := 2) nd rfl (.inl rfl) (pe_op op_mod (pe_callTy call_int1 (by rfl) T.m_int (by decide +kernel) (pa_cons (pe_op op_mul (pv 2) (pe_op op_add (pe_op op_fdiv (pv 2) pe_int) pe_int)) pa_nil)) pe_int))
      (pss_one (ps_ret (pe_op op_mod (pe_callTy call_int1 (by rfl) T.m_int (by decide +kernel) (pa_cons (pe_op op_mul (pv 2) (pe_op op_add (pe_op op_fdiv (pv 2) pe_int) pe_int)) pa_nil)) pe_int))))), ?_⟩
    refine ⟨.int c, rfl, .inl ⟨c, rfl, .int k, rfl, 7919, k, rfl, rfl, .inl ⟨by decide, by decide⟩, _, _, rfl, rfl, _, _, rfl, rfl, .inl ⟨_, rfl, _, 48271, rfl, rfl, .inr ⟨by decide, by decide⟩, _, 2147483647, rfl, rfl, (show (0 : Int) < 2147483647 by decide), ?_⟩⟩⟩
    refine ⟨_, rfl, _, rfl, _, 1009, rfl, rfl, ⟨by decide, by decide⟩, _, 69621, rfl, rfl, _, _, rfl, rfl, .inl ⟨?_, ?_⟩, .inl ⟨_, rfl, _, 2147483647, rfl, rfl, (show (0 : Int) < 2147483647 by decide), ?_⟩⟩
    · omega
    · omega
    refine ⟨_, rfl, _, rfl, _, 2003, rfl, rfl, ⟨by decide, by decide⟩, _, 40692, rfl, rfl, _, _, rfl, rfl, .inl ⟨?_, ?_⟩, .inl ⟨_, rfl, _, 2147483399, rfl, rfl, (show (0 : Int) < 2147483399 by decide), ?_⟩⟩
    · omega
    · omega
    exact q _ (Int.emod_nonneg _ (by decide)) (Int.emod_lt_of_pos _ (by decide))

theorem ok__law_cell {f : Addr} {C : Addr} {fd : FuncData} (T : Txt K mg C) (F : Fun K "_law_cell" "_law_cell" s__law_cell f fd) (c__law_mix : Cal P w K mg base 1 "_law_mix" (sp__law_mix K) []) : FnOk P w K mg base CX0 2 f fd ["_law_script", "_law_k"] (sp__law_cell K) := by
  have nd := sc__law_cell.nd
  refine F.ok sc__law_cell (fun vs H Q E h => ?_) (fun cdv A outer s H vs Q E hr h => ?_)
  · obtain ⟨a, ns, k, rfl, _⟩ := h
    rfl
  · obtain ⟨a, ns, k, rfl, hS, q⟩ := h
    refine ⟨_, (pss_cons (ps_if (pt_cmpR op_lt (pv 1) (pe_callB call_len (by rfl) T.m_len (by decide +kernel) (pa_cons (pv 0) pa_nil)) (nomark _)) (pss_one (ps_ret (pe_callTy call_int1 (by rfl) T.m_int (by decide +kernel) (pa_cons (pe_ix (r := rIxL K) ix_list (pv 0) (pv 1) (fun _ _ => rfl)) pa_nil)))) pss_nil)
      (pss_cons (ps_if (pt_cmpR op_eq (pe_callB call_len (by rfl) T.m_len (by decide +kernel) (pa_cons (pv 0) pa_nil)) pe_int (nomark _)) (pss_one (ps_ret (pv 1))) pss_nil)
      (pss_one (ps_ret (pe_c c__law_mix hr (by omega) (by rfl) (pa_cons (pe_ix (r := rIxL K) ix_list (pv 0) (pe_op op_mod (pe_callTy call_int1 (by rfl) T.m_int (by decide +kernel) (pa_cons (pv 1) pa_nil)) (pe_callB call_len (by rfl) T.m_len (by decide +kernel) (pa_cons (pv 0) pa_nil))) (fun _ _ => rfl)) (pa_cons (pv 1) pa_nil))))))), ?_⟩
    refine ⟨.int k, rfl, .ref a, rfl, .ref a, (ns.map V.int).length, rfl, .inl ⟨_, hS, rfl⟩, _, _, rfl, rfl, _, rfl, ite2 (fun e => ?_) (fun e => ?_)⟩
    · have hk : k < (ns.map V.int).length := by
        have := of_decide_eq_true e
        omega
      have hk2 : k < ns.length := by rw [List.length_map] at hk; exact hk
      have g : (ns.map V.int)[k]? = some (.int ns[k]) := by rw [List.getElem?_map, List.getElem?_eq_getElem hk2]; rfl
      exact ⟨.ref a, rfl, .int k, rfl, a, _, (k : Int), _, rfl, rfl, hS, atI_nat g, .inl ⟨_, rfl, q _⟩⟩
    · refine ⟨.ref a, rfl, .ref a, (ns.map V.int).length, rfl, .inl ⟨_, hS, rfl⟩, rfl, _, rfl, ite2 (fun e0 => ?_) (fun e0 => ?_)⟩
      · exact ⟨.int k, rfl, q _⟩
      · have hp : 0 < (ns.map V.int).length := by
          cases e1 : (ns.map V.int).length with
          | zero => exact absurd (decide_eq_true (by rw [e1]; rfl)) e0
          | succ n => exact Nat.succ_pos _
        have hj : ((k : Int) % ((ns.map V.int).length : Int)) = ((k % (ns.map V.int).length : Nat) : Int) := rfl
        have hlt : k % (ns.map V.int).length < ns.length := by
          have := Nat.mod_lt k hp
          rw [List.length_map] at this ⊢
          exact this
        have g : (ns.map V.int)[k % (ns.map V.int).length]? = some (.int ns[k % (ns.map V.int).length]) := by rw [List.getElem?_map, List.getElem?_eq_getElem hlt]; rfl
        refine ⟨.ref a, rfl, .int k, rfl, .inl ⟨_, rfl, .ref a, rfl, .ref a, (ns.map V.int).length, rfl, .inl ⟨_, hS, rfl⟩, (k : Int), ((ns.map V.int).length : Int), rfl, rfl, (show (0 : Int) < ((ns.map V.int).length : Int) by omega), a, ns.map V.int, (k : Int) % ((ns.map V.int).length : Int), .int ns[k % (ns.map V.int).length], rfl, rfl, hS, ?_, ?_⟩⟩
        · rw [hj]; exact atI_nat g
        · exact ⟨.int k, rfl, _, _, rfl, fun r _ _ => q r⟩

theorem ok__law_row {f : Addr} {C : Addr} {fd : FuncData} (T : Txt K mg C) (F : Fun K "_law_row" "_law_row" s__law_row f fd) (c__law_mix : Cal P w K mg base 1 "_law_mix" (sp__law_mix K) []) : FnOk P w K mg base CX0 2 f fd ["_law_cell_here", "_law_sizes"] (sp__law_row K) := by
  have nd := sc__law_row.nd
  refine F.ok sc__law_row (fun vs H Q E h => ?_) (fun cdv A outer s H vs Q E hr h => ?_)
  · obtain ⟨c, b, ss, rfl, _⟩ := h
    rfl
  · obtain ⟨c, b, ss, rfl, hS, hlen, hpos, q⟩ := h
    refine ⟨_, (pss_cons (ps_set (i := 2) nd rfl (.inl rfl) (pe_lst pa_nil))
      (pss_cons (ps_set (i := 3) nd rfl (.inl rfl) (pe_callTy call_int1 (by rfl) T.m_int (by decide +kernel) (pa_cons (pv 0) pa_nil)))
      (pss_cons (ps_for PassesOwn.never rfl (pi_range1 (by rfl) T.m_range (pa_cons (pe_callB call_len (by rfl) T.m_len (by decide +kernel) (pa_cons (pv 1) pa_nil)) pa_nil)) (pg_name (i := 4) nd rfl (.inl rfl)) (pss_one (ps_if (pt_cmpR op_ge (pv 0) (pe_op op_pow pe_int pe_int) (nomark _)) (pss_cons (ps_expr (pe_bm PySem.F.plainAttrs_list PySem.F.slot_list_append PySem.F.type_list_append mt_append (pv 2) (pa_cons (pe_op op_mod (pe_callTy call_int1 (by rfl) T.m_int (by decide +kernel) (pa_cons (pv 3) pa_nil)) (pe_ix (r := rIxL K) ix_list (pv 1) (pv 4) (fun _ _ => rfl))) pa_nil)))
      (pss_one (ps_set (i := 3) nd rfl (.inl rfl) (pe_op op_fdiv (pv 3) (pe_ix (r := rIxL K) ix_list (pv 1) (pv 4) (fun _ _ => rfl)))))) (pss_one (ps_expr (pe_bm PySem.F.plainAttrs_list PySem.F.slot_list_append PySem.F.type_list_append mt_append (pv 2) (pa_cons (pe_op op_mod (pe_callTy call_int1 (by rfl) T.m_int (by decide +kernel) (pa_cons (pe_c c__law_mix hr (by omega) (by rfl) (pa_cons (pv 0) (pa_cons (pv 4) pa_nil))) pa_nil)) (pe_ix (r := rIxL K) ix_list (pv 1) (pv 4) (fun _ _ => rfl))) pa_nil)))))))
      (pss_one (ps_ret (pv 2)))))), ?_⟩
    refine ⟨Nat.zero_le _, fun R nR => ⟨.int c, rfl, .inl ⟨c, rfl, .ref b, rfl, .ref b, (ss.map V.int).length, rfl, .inl ⟨_, (same_upd nR).seq hS, rfl⟩, _, rfl, ?_, ?_, ?_⟩⟩⟩
    · have : (0 : Int) ≤ ((ss.map V.int).length : Int) := by omega
      omega
    · rw [List.length_map]
      omega
    · refine for_range (lo := 0) (fun i σ H' => ∃ (z : Int) (y : Option V) (rs : List Int), σ = [some (.int c), some (.ref b), some (.ref R), some (.int z), y] ∧ Same H H' ∧ H' R = some (.lst (rs.map V.int)) ∧ rs.length = i ∧ ∀ (i : Nat) (r s : Int), rs[i]? = some r → ss[i]? = some s → 0 ≤ r ∧ r < s)
        ⟨c, none, [], rfl, same_upd nR, upd_same, rfl, fun i r s h => by simp at h⟩ (fun i σ H' hi hP => ?_) (fun σ H' hP => ?_)
      · obtain ⟨z, y, rs, rfl, sm, eR, hrl, hb⟩ := hP
        have hi2 : i < ss.length := by
          have : i < ((ss.map V.int).length : Int).toNat := hi
          rw [List.length_map, Int.toNat_natCast] at this
          exact this
        have g : (ss.map V.int)[i]? = some (.int ss[i]) := by rw [List.getElem?_map, List.getElem?_eq_getElem hi2]; rfl
        have ps := hpos _ (List.getElem_mem hi2)
        have hS' := sm.seq hS
        have hA : atI (ss.map V.int) (0 + (i : Int)) = some (.int ss[i]) := by rw [Int.zero_add]; exact atI_nat g
        have push : ∀ r : Int, 0 ≤ r → r < ss[i] → ∀ (j : Nat) (r' s : Int), (rs ++ [r])[j]? = some r' → ss[j]? = some s → 0 ≤ r' ∧ r' < s := by
          intro r r0 r1 j r' s e1 e2
          by_cases hj : j < rs.length
          · rw [List.getElem?_append_left hj] at e1
            exact hb j r' s e1 e2
          · by_cases hj2 : j = rs.length
            · subst hj2
              rw [List.getElem?_concat_length] at e1
              cases e1
              rw [hrl, List.getElem?_eq_getElem hi2] at e2
              cases e2
              exact ⟨r0, r1⟩
            · rw [List.getElem?_eq_none (by rw [List.length_append]; simp; omega)] at e1
              cases e1
        have hsz : (rs.map V.int).length < sizeLine := by rw [List.length_map]; exact small (by omega)
        refine ⟨.int c, rfl, 10, 18, rfl, rfl, ⟨by decide, by decide, by decide⟩, c, _, rfl, rfl, _, rfl, ite2 (fun e => ?_) (fun e => ?_)⟩
        · -- the digits of a great cell
          refine ⟨.ref R, rfl, .inl ⟨rfl, _, .inl (.inl eR)⟩, .int z, rfl, .inl ⟨z, rfl, .ref b, rfl, .int (0 + (i : Int)), rfl, b, _, _, _, rfl, rfl, hS', hA, z, ss[i], rfl, rfl, ps.1, R, _, _, rfl, rfl, eR, hsz, ?_⟩⟩
          refine ⟨.int z, rfl, .ref b, rfl, .int (0 + (i : Int)), rfl, b, _, _, _, rfl, rfl, (same_set nR sm).seq hS, hA, z, ss[i], rfl, rfl, ps, ?_⟩
          exact ⟨_, _, rs ++ [z % ss[i]], rfl, same_set nR sm, by rw [upd_same, List.map_append]; rfl, by rw [List.length_append, hrl]; rfl, push _ (Int.emod_nonneg _ (by omega)) (Int.emod_lt_of_pos _ ps.1)⟩
        · refine ⟨.ref R, rfl, .inl ⟨rfl, _, .inl (.inl eR)⟩, .int c, rfl, .int (0 + (i : Int)), rfl, c, (0 + (i : Int)), rfl, fun r r0 r1 => .inl ⟨r, rfl, .ref b, rfl, .int (0 + (i : Int)), rfl, b, _, _, _, rfl, rfl, hS', hA, r, ss[i], rfl, rfl, ps.1, R, _, _, rfl, rfl, eR, hsz, ?_⟩⟩
          exact ⟨_, _, rs ++ [r % ss[i]], rfl, same_set nR sm, by rw [upd_same, List.map_append]; rfl, by rw [List.length_append, hrl]; rfl, push _ (Int.emod_nonneg _ (by omega)) (Int.emod_lt_of_pos _ ps.1)⟩
      · obtain ⟨z, y, rs, rfl, sm, eR, hrl, hb⟩ := hP
        refine ⟨.ref R, rfl, q H' R rs sm nR eR ?_ hb⟩
        rw [hrl, List.length_map, Int.toNat_natCast]

/-! ### names -/
theorem cutS_length (z : Str) (lo hi : Option Int) : (cutS z lo hi).cps.size ≤ z.cps.size := by
  show ((z.cps.toList.drop _).take _).toArray.size ≤ _
  rw [List.size_toArray, List.length_take, List.length_drop, Array.length_toList]
  exact Nat.le_trans (Nat.min_le_right _ _) (Nat.sub_le _ _)
theorem cutS_mem {z : Str} {lo hi : Option Int} {c : Nat} (h : c ∈ (cutS z lo hi).cps.toList) : c ∈ z.cps.toList := by
  have h' : c ∈ (z.cps.toList.drop (HT.sIx z.length 0 lo)).take (HT.sIx z.length z.length hi - HT.sIx z.length 0 lo) := h
  exact List.mem_of_mem_drop (List.mem_of_mem_take h')
theorem app_size (x y : Str) : (x ++ y).cps.size = x.cps.size + y.cps.size := by
  show (x.cps ++ y.cps).size = _
  rw [Array.size_append]
theorem app_mem {x y : Str} {c : Nat} (h : c ∈ (x ++ y).cps.toList) : c ∈ x.cps.toList ∨ c ∈ y.cps.toList := by
  have h' : c ∈ (x.cps ++ y.cps).toList := h
  rw [Array.toList_append] at h'
  exact List.mem_append.mp h'
theorem join_size : ∀ {ys : List Str}, (∀ y ∈ ys, y.cps.size = 1) → (Txt.join "" ys).cps.size ≤ ys.length := by
  intro ys
  rw [TL.join_eq]
  induction ys with
  | nil => intro _; exact Nat.le_refl _
  | cons x r ih =>
    intro h
    cases r with
    | nil => exact Nat.le_of_eq (h x List.mem_cons_self)
    | cons z r =>
      have h1 := h x List.mem_cons_self
      have h2 := ih fun y hy => h y (List.mem_cons_of_mem _ hy)
      have e : (Str.join "" (x :: z :: r)).cps.size = x.cps.size + 0 + (Str.join "" (z :: r)).cps.size := by
        show ((x.cps ++ #[]) ++ (Str.join "" (z :: r)).cps).size = _
        rw [Array.size_append, Array.size_append]; rfl
      rw [e, List.length_cons]
      omega
theorem join_mem {p : Nat → Prop} : ∀ {ys : List Str}, (∀ y ∈ ys, ∀ c ∈ y.cps.toList, p c) → ∀ c ∈ (Txt.join "" ys).cps.toList, p c := by
  intro ys
  rw [TL.join_eq]
  induction ys with
  | nil => intro _ c hc; exact absurd hc (by decide +revert)
  | cons x r ih =>
    intro h c hc
    cases r with
    | nil => exact h x List.mem_cons_self c hc
    | cons z r =>
      have h2 := ih fun y hy => h y (List.mem_cons_of_mem _ hy)
      have hc' : c ∈ ((x.cps ++ #[]) ++ (Str.join "" (z :: r)).cps).toList := hc
      rw [Array.toList_append, Array.toList_append, List.mem_append, List.mem_append] at hc'
      rcases hc' with (hc' | hc') | hc'
      · exact h x List.mem_cons_self c hc'
      · exact absurd hc' (by simp)
      · exact h2 c hc'
theorem join_sum {zs : List Str} (h : ∀ y ∈ zs, y.cps.size = 1) : (zs.map (·.length)).sum + zs.length * ("" : Str).length = zs.length := by
  have z0 : ("" : Str).length = 0 := rfl
  rw [z0, Nat.mul_zero, Nat.add_zero]
  induction zs with
  | nil => rfl
  | cons x r ih =>
    rw [List.map_cons, List.sum_cons, ih fun y hy => h y (List.mem_cons_of_mem _ hy), List.length_cons]
    have : x.length = 1 := h x List.mem_cons_self
    omega
/-- a place of a row -/
theorem row_at {rs ss : List Int} (hl : rs.length = ss.length) (hb : ∀ (i : Nat) (r s : Int), rs[i]? = some r → ss[i]? = some s → 0 ≤ r ∧ r < s) {j : Nat} {t : Int} (e : ss[j]? = some t) : ∃ r, rs[j]? = some r ∧ (rs.map V.int)[j]? = some (.int r) ∧ 0 ≤ r ∧ r < t := by
  have hj : j < ss.length := (List.getElem?_eq_some_iff.mp e).1
  have g : rs[j]? = some (rs[j]'(by omega)) := List.getElem?_eq_getElem (by omega)
  obtain ⟨h1, h2⟩ := hb j _ t g e
  exact ⟨_, g, by rw [List.getElem?_map, g]; rfl, h1, h2⟩
theorem flat_get {α : Type} {l : List α} {j : Nat} (hj : j < l.length) : ∀ {m k : Nat}, k < m → (List.replicate m l).flatten[l.length * k + j]? = l[j]?
  | 0, k, h => absurd h (Nat.not_lt_zero _)
  | m + 1, 0, _ => by
    rw [List.replicate_succ, List.flatten_cons, Nat.mul_zero, Nat.zero_add, List.getElem?_append_left hj]
  | m + 1, k + 1, h => by
    rw [List.replicate_succ, List.flatten_cons, List.getElem?_append_right (by rw [Nat.mul_succ]; omega)]
    have e : l.length * (k + 1) + j - l.length = l.length * k + j := by rw [Nat.mul_succ]; omega
    rw [e]
    exact flat_get hj (by omega)
theorem flat_len {α : Type} (l : List α) (m : Nat) : (List.replicate m l).flatten.length = l.length * m := by
  induction m with
  | zero => rfl
  | succ m ih => rw [List.replicate_succ, List.flatten_cons, List.length_append, ih, Nat.mul_succ]; omega
theorem flat_mem {α : Type} {l : List α} {m : Nat} {x : α} (h : x ∈ (List.replicate m l).flatten) : x ∈ l := by
  obtain ⟨y, hy, hx⟩ := List.mem_flatten.mp h
  rw [(List.mem_replicate.mp hy).2] at hx
  exact hx
theorem cut_nat {xs : List V} {a b : Nat} : cutV xs (some (a : Int)) (some (b : Int)) = (xs.drop a).take (b - a) := by
  unfold cutV
  rw [HT.sIx_nat, HT.sIx_nat]
  by_cases h : a ≤ xs.length
  · rw [Nat.min_eq_left h]
    by_cases h2 : b ≤ xs.length
    · rw [Nat.min_eq_left h2]
    · rw [Nat.min_eq_right (by omega : xs.length ≤ b), List.take_of_length_le (by rw [List.length_drop]; omega), List.take_of_length_le (by rw [List.length_drop]; omega)]
  · rw [Nat.min_eq_right (by omega : xs.length ≤ a), List.drop_of_length_le (Nat.le_refl _), List.drop_of_length_le (by omega), List.take_nil, List.take_nil]
def szN (m : Nat) : List Int := [13, 2, 6] ++ (List.replicate m [6, 13, 13, 13, 13, 13]).flatten
theorem szN_len (m : Nat) : (szN m).length = 3 + 6 * m := by
  unfold szN
  rw [List.length_append, flat_len]; rfl
theorem szN_map (m : Nat) : ([13, 2, 6].map V.int ++ (List.replicate m ([6, 13, 13, 13, 13, 13].map V.int)).flatten) = (szN m).map V.int := by
  unfold szN
  rw [List.map_append, List.map_flatten, List.map_replicate]
theorem szN_at {m k j : Nat} (hk : k < m) (hj : j < 6) : (szN m)[3 + 6 * k + j]? = ([6, 13, 13, 13, 13, 13] : List Int)[j]? := by
  unfold szN
  rw [List.getElem?_append_right (by show 3 ≤ _; omega)]
  show (List.replicate m [6, 13, 13, 13, 13, 13]).flatten[3 + 6 * k + j - 3]? = _
  rw [show 3 + 6 * k + j - 3 = 6 * k + j by omega]
  exact flat_get (l := ([6, 13, 13, 13, 13, 13] : List Int)) (j := j) hj hk
theorem szN_good {m : Nat} {x : Int} (h : x ∈ szN m) : 0 < x ∧ x < 1073741824 := by
  unfold szN at h
  rcases List.mem_append.mp h with h | h
  · simp at h; omega
  · have := flat_mem h
    simp at this; omega
/-- a place of a slice of a row -/
def Own (os : List Int) : Prop := os.length = 6 ∧ ∀ (j : Nat) (r s : Int), os[j]? = some r → ([6, 13, 13, 13, 13, 13] : List Int)[j]? = some s → 0 ≤ r ∧ r < s
theorem own_cut {rs : List Int} {m k : Nat} (hl : rs.length = (szN m).length) (hb : ∀ (i : Nat) (r s : Int), rs[i]? = some r → (szN m)[i]? = some s → 0 ≤ r ∧ r < s) (hk : k < m) : Own ((rs.drop (3 + 6 * k)).take 6) := by
  rw [szN_len] at hl
  refine ⟨by rw [List.length_take, List.length_drop]; omega, fun j r s e1 e2 => ?_⟩
  have hj : j < 6 := (List.getElem?_eq_some_iff.mp e2).1
  rw [List.getElem?_take_of_lt hj, List.getElem?_drop] at e1
  exact hb _ r s e1 (by rw [szN_at hk hj]; exact e2)
def half1 : Str := "abcdefghijklm"
def half2 : Str := "nopqrstuvwxyz"
theorem half1_in : ∀ c ∈ half1.cps.toList, inL c = true := by decide +kernel
theorem half2_in : ∀ c ∈ half2.cps.toList, inL c = true := by decide +kernel
def sp__law_names (_ : PySem.W.Frag) : Sp := fun vs H Q _ => ∃ (c : Int) (m : Nat), vs = [.int c, .int (m : Int)] ∧ m ≤ 100 ∧ ∀ H' a (zs : List Str), Same H H' → H a = none → H' a = some (.lst (zs.map V.str)) → zs.length = m → (∀ z ∈ zs, nameB (.str z) = true) → Q (.ref a) H'
theorem ok__law_names {f : Addr} {C : Addr} {fd : FuncData} (T : Txt K mg C) (F : Fun K "_law_names" "_law_names" s__law_names f fd) (c__law_row : Cal P w K mg base 2 "_law_row" (sp__law_row K) []) : FnOk P w K mg base CX0 3 f fd ["_law_cell_here", "_law_many"] (sp__law_names K) := by
  have nd := sc__law_names.nd
  refine F.ok sc__law_names (fun vs H Q E h => ?_) (fun cdv A outer s H vs Q E hr h => ?_)
  · obtain ⟨c, m, rfl, _⟩ := h
    rfl
  · obtain ⟨c, m, rfl, hm, q⟩ := h
    refine ⟨_, (pss_cons (ps_set (i := 2) nd rfl (.inl rfl) (pe_c c__law_row hr (by omega) (by rfl) (pa_cons (pv 0) (pa_cons (pe_op op_cat (pe_lst (pa_cons pe_int (pa_cons pe_int (pa_cons pe_int pa_nil)))) (pe_op op_rep (pe_lst (pa_cons pe_int (pa_cons pe_int (pa_cons pe_int (pa_cons pe_int (pa_cons pe_int (pa_cons pe_int pa_nil))))))) (pv 1))) pa_nil))))
      (pss_cons (ps_set (i := 3) nd rfl (.inl rfl) (pe_lst pa_nil))
      (pss_cons (ps_for PassesOwn.never rfl (pi_range1 (by rfl) T.m_range (pa_cons (pv 1) pa_nil)) (pg_name (i := 4) nd rfl (.inl rfl)) (pss_cons (ps_set (i := 5) nd rfl (.inl rfl) (pe_slice sl_list (pv 2) (po_some (pe_op op_add pe_int (pe_op op_mul pe_int (pv 4)))) (po_some (pe_op op_add pe_int (pe_op op_mul pe_int (pv 4))))))
      (pss_cons (ps_if (pt_cmpR op_eq (pe_ix (r := rIxL K) ix_list (pv 2) pe_int (fun _ _ => rfl)) pe_int (nomark _)) (pss_one (ps_set (i := 5) nd rfl (.inl rfl) (pe_slice sl_list (pv 2) (po_some pe_int) (po_some pe_int)))) pss_nil)
      (pss_cons (ps_set (i := 6) nd rfl (.inl rfl) (pe_join pe_str (pe_lc (own := [("_law_digit", 9)]) (g := gName 9) (tt := tYes) rfl nd (pi_list (pe_slice sl_list (pv 5) (po_some pe_int) (po_some (pe_op op_add pe_int (pe_ix (r := rIxL K) ix_list (pv 5) pe_int (fun _ _ => rfl)))))) (blkOk_by (N := ["_law_cell_here", "_law_many", "_law_row_here", "_law_names_here", "_law_k", "_law_own", "_law_text", "_law_at", "_law_letter", "_law_digit"]) (sc := defScope s__law_names) (by decide +kernel)) (fun _ _ _ _ _ => (pg_name (i := 9) nd rfl (.inl rfl))) (fun _ _ _ _ _ => pts_nil) (fun _ _ _ _ _ => (pe_ix ix_str pe_str (pv 9) (fun _ _ => rfl))))))
      (pss_cons (ps_set (i := 7) nd rfl (.inl rfl) (pe_op op_mod (pe_callTy call_int1 (by rfl) T.m_int (by decide +kernel) (pa_cons (pe_ix (r := rIxL K) ix_list (pv 2) pe_int (fun _ _ => rfl)) pa_nil)) (pe_op op_add (pe_callB call_len (by rfl) T.m_len (by decide +kernel) (pa_cons (pv 6) pa_nil)) pe_int)))
      (pss_cons (ps_set (i := 8) nd rfl (.inl rfl) (pe_ix ix_str pe_str (pe_op op_mod (pe_callTy call_int1 (by rfl) T.m_int (by decide +kernel) (pa_cons (pe_op op_add (pe_ix (r := rIxL K) ix_list (pv 2) pe_int (fun _ _ => rfl)) (pe_op op_mul pe_int (pv 4))) pa_nil)) pe_int) (fun _ _ => rfl)))
      (pss_one (ps_expr (pe_bm PySem.F.plainAttrs_list PySem.F.slot_list_append PySem.F.type_list_append mt_append (pv 3) (pa_cons (pe_op op_add_str (pe_op op_add_str (pe_slice sl_str (pv 6) po_none (po_some (pv 7))) (pv 8)) (pe_slice sl_str (pv 6) (po_some (pv 7)) po_none)) pa_nil))))))))))
      (pss_one (ps_ret (pv 3)))))), ?_⟩
    refine ⟨.int c, rfl, szl rfl, fun p1 n1 => ⟨szl rfl, fun p2 n2 => ⟨.int m, rfl, p2, m, [.int 6, .int 13, .int 13, .int 13, .int 13, .int 13], rfl, rfl, upd_same, by omega, by omega, smallE (by show 6 * (m : Int).toNat ≤ _; omega), fun p3 n3 => ?_⟩⟩⟩
    have em : (m : Int).toNat = m := Int.toNat_natCast m
    rw [em]
    have s1 := same_upd (o := .lst [.int 13, .int 2, .int 6]) n1
    have s2 := same_upd (o := .lst [.int 6, .int 13, .int 13, .int 13, .int 13, .int 13]) n2
    have s3 := same_upd (o := .lst (List.replicate m [V.int 6, .int 13, .int 13, .int 13, .int 13, .int 13]).flatten) n3
    refine ⟨p1, p3, [.int 13, .int 2, .int 6], _, rfl, rfl, s3 _ _ (s2 _ _ upd_same), upd_same, smallE (by rw [flat_len]; show 3 + 6 * m ≤ _; omega), fun p4 n4 => ?_⟩
    have s4 := (s1.trans (s2.trans s3)).trans (same_upd (o := .lst ([.int 13, .int 2, .int 6] ++ (List.replicate m [V.int 6, .int 13, .int 13, .int 13, .int 13, .int 13]).flatten)) n4)
    have e4 : (upd (upd (upd (upd H p1 (.lst [.int 13, .int 2, .int 6])) p2 (.lst [.int 6, .int 13, .int 13, .int 13, .int 13, .int 13])) p3 (.lst (List.replicate m [V.int 6, .int 13, .int 13, .int 13, .int 13, .int 13]).flatten)) p4 (.lst ([.int 13, .int 2, .int 6] ++ (List.replicate m [V.int 6, .int 13, .int 13, .int 13, .int 13, .int 13]).flatten))) p4 = some (.lst ((szN m).map V.int)) := by
      rw [upd_same, ← szN_map]; rfl
    generalize upd (upd (upd (upd H p1 (.lst [.int 13, .int 2, .int 6])) p2 (.lst [.int 6, .int 13, .int 13, .int 13, .int 13, .int 13])) p3 (.lst (List.replicate m [V.int 6, .int 13, .int 13, .int 13, .int 13, .int 13]).flatten)) p4 (.lst ([.int 13, .int 2, .int 6] ++ (List.replicate m [V.int 6, .int 13, .int 13, .int 13, .int 13, .int 13]).flatten)) = G at s4 e4
    refine ⟨c, p4, szN m, rfl, .inl (.inl e4), by rw [szN_len]; omega, fun x hx => szN_good hx, fun H1 R rs sm nR eR hrl hb => ?_⟩
    have sH : Same H H1 := s4.trans sm
    refine ⟨szl rfl, fun N nN => ?_⟩
    have s5 := same_upd (o := .lst []) nN
    have nNH : H N = none := sH.free nN
    have eR5 := s5 _ _ eR
    have nNR : R ≠ N := ne_of_none eR nN
    refine ⟨.int m, rfl, m, rfl, by omega, by omega, ?_⟩
    refine for_range (lo := 0) (fun i σ H' => ∃ (y4 y5 y6 y7 y8 : Option V) (zs : List Str), σ = [some (.int c), some (.int m), some (.ref R), some (.ref N), y4, y5, y6, y7, y8, none] ∧ Same H H' ∧ H' R = some (.lst (rs.map V.int)) ∧ H' N = some (.lst (zs.map V.str)) ∧ zs.length = i ∧ ∀ z ∈ zs, nameB (.str z) = true)
      ⟨_, _, _, _, _, [], rfl, sH.trans s5, eR5, upd_same, rfl, fun z hz => nomatch hz⟩ (fun i σ H' hi hP => ?_) (fun σ H' hP => ?_)
    · rw [em] at hi
      obtain ⟨y4, y5, y6, y7, y8, zs, rfl, S, eR, eN, lz, hz⟩ := hP
      have e0 : (0 : Int) + (i : Nat) = (i : Nat) := by omega
      rw [e0]
      have i0 : m ≠ 0 := by omega
      obtain ⟨r0, _, g0, l0, u0⟩ := row_at hrl hb (j := 0) (t := 13) rfl
      obtain ⟨r1, _, g1, l1, u1⟩ := row_at hrl hb (j := 1) (t := 2) rfl
      obtain ⟨r2, _, g2, l2, u2⟩ := row_at hrl hb (j := 2) (t := 6) rfl
      refine ⟨.ref R, rfl, .int (i : Nat), rfl, 6, (i : Nat), rfl, rfl, .inl ⟨by decide, by decide⟩, 3, _, rfl, rfl, _, rfl, .int (i : Nat), rfl, 6, (i : Nat), rfl, rfl, .inl ⟨by decide, by decide⟩, 9, _, rfl, rfl, _, rfl, R, rs.map V.int, rfl, .inl (.inl eR), fun w1 nw1 => ?_⟩
      have ec : cutV (rs.map V.int) (some (3 + 6 * ((i : Nat) : Int))) (some (9 + 6 * ((i : Nat) : Int))) = (((rs.drop (3 + 6 * i)).take 6)).map V.int := by
        rw [show (3 + 6 * ((i : Nat) : Int)) = ((3 + 6 * i : Nat) : Int) by omega, show (9 + 6 * ((i : Nat) : Int)) = ((9 + 6 * i : Nat) : Int) by omega, cut_nat, List.map_take, List.map_drop, show 9 + 6 * i - (3 + 6 * i) = 6 by omega]
      rw [ec]
      have sw1 := same_upd (o := .lst (((rs.drop (3 + 6 * i)).take 6).map V.int)) nw1
      have own1 := own_cut hrl hb hi
      refine KnC.asg_if (fun σ2 G => ∃ (wa : Addr) (os : List Int), σ2 = [some (.int c), some (.int m), some (.ref R), some (.ref N), some (.int (i : Nat)), some (.ref wa), y6, y7, y8, none] ∧ Same H' G ∧ G wa = some (.lst (os.map V.int)) ∧ Own os) (fun go => ?_) (fun σ2 G hT => ?_)
      · refine ⟨.ref R, rfl, R, rs.map V.int, 1, .int r1, rfl, rfl, .inl (.inl (sw1 _ _ eR)), atI_nat (j := 1) g1, rfl, _, rfl, ite2 (fun e => ?_) (fun e => ?_)⟩
        · refine ⟨.ref R, rfl, _, rfl, _, rfl, R, rs.map V.int, rfl, .inl (.inl (sw1 _ _ eR)), fun w2 nw2 => ?_⟩
          refine go _ _ ⟨w2, (rs.drop 3).take 6, rfl, sw1.trans (same_upd nw2), ?_, own_cut hrl hb (k := 0) (by omega)⟩
          rw [upd_same, show (some (3 : Int)) = some ((3 : Nat) : Int) from rfl, show (some (9 : Int)) = some ((9 : Nat) : Int) from rfl, cut_nat, List.map_take, List.map_drop]
        · exact go _ _ ⟨w1, _, rfl, sw1, upd_same, own1⟩
      · obtain ⟨wa, os, rfl, SG, ewa, lo, ow⟩ := hT
        obtain ⟨o0, go0, gV, l0', u0'⟩ := row_at (rs := os) (ss := [6, 13, 13, 13, 13, 13]) lo ow (j := 0) (t := 6) rfl
        have eRG := SG _ _ eR
        have eNG := SG _ _ eN
        refine ⟨⟨"", rfl⟩, .ref wa, rfl, 1, rfl, .ref wa, rfl, wa, os.map V.int, 0, .int o0, rfl, rfl, .inl (.inl ewa), atI_nat (j := 0) gV, 1, o0, rfl, rfl, _, rfl, wa, os.map V.int, rfl, .inl (.inl ewa), fun cc nc => ?_⟩
        have cs_ : cutV (os.map V.int) (some 1) (some (1 + o0)) = ((os.drop 1).take o0.toNat).map V.int := by
          rw [show (1 + o0) = ((1 + o0.toNat : Nat) : Int) by omega, show (some (1 : Int)) = some ((1 : Nat) : Int) from rfl, cut_nat, List.map_take, List.map_drop, show 1 + o0.toNat - 1 = o0.toNat by omega]
        rw [cs_]
        have scc := same_upd (o := .lst (((os.drop 1).take o0.toNat).map V.int)) nc
        have ecc : (upd G cc (.lst (((os.drop 1).take o0.toNat).map V.int))) cc = some (.lst (((os.drop 1).take o0.toNat).map V.int)) := upd_same
        have lcs : ((os.drop 1).take o0.toNat).length ≤ 5 := by rw [List.length_take, List.length_drop]; omega
        have mcs : ∀ (j : Nat) (r : Int), ((os.drop 1).take o0.toNat)[j]? = some r → 0 ≤ r ∧ r < 13 := fun j r e => by
          have hj : j < o0.toNat := by
            have := (List.getElem?_eq_some_iff.mp e).1
            rw [List.length_take] at this
            omega
          rw [List.getElem?_take_of_lt hj, List.getElem?_drop] at e
          refine ow (1 + j) r 13 e ?_
          have : j < 5 := by omega
          rcases j with _ | _ | _ | _ | _ | j
          · rfl
          · rfl
          · rfl
          · rfl
          · rfl
          · omega
        generalize (os.drop 1).take o0.toNat = cs at scc ecc lcs mcs
        generalize upd G cc (.lst (cs.map V.int)) = G1 at scc ecc
        refine ⟨cc, rfl, ⟨_, .inl (.inl ecc)⟩, fun D nD => lc_list (K := K) (a := cc) (xs := cs.map V.int) (fun i H' => Same G1 H' ∧ ∃ ys : List Str, H' D = some (.lst (ys.map V.str)) ∧ ys.length = i ∧ (∀ y ∈ ys, y.cps.size = 1) ∧ ∀ y ∈ ys, ∀ c ∈ y.cps.toList, inL c = true)
          ⟨same_upd nD, [], upd_same, rfl, (fun y hy => nomatch hy), fun y hy => nomatch hy⟩ (fun i H' _ hP => hP.1.seq (.inl (.inl ecc))) (fun i x H' hx hP => ?_) (fun H' hP => ?_)⟩
        · obtain ⟨sm', ys, eD, hl, h1, h2⟩ := hP
          rw [List.getElem?_map] at hx
          cases gx : cs[i]? with
          | none => rw [gx] at hx; cases hx
          | some r =>
          rw [gx] at hx
          cases hx
          obtain ⟨l, u⟩ := mcs i r gx
          have hi : i < cs.length := (List.getElem?_eq_some_iff.mp gx).1
          obtain ⟨j, rfl⟩ : ∃ j : Nat, r = (j : Int) := ⟨r.toNat, by omega⟩
          have hj : j < half1.cps.toList.length := by
            have : half1.cps.toList.length = 13 := by decide
            omega
          refine ⟨rfl, ?_⟩
          unfold tYes
          refine iteT ?_
          refine ⟨.int j, rfl, half1, (j : Int), half1.cps.toList[j], rfl, rfl, smallE (by decide), atI_nat (List.getElem?_eq_getElem hj), ys.map V.str, eD, ?_, same_set nD sm', ys ++ [⟨#[half1.cps.toList[j]]⟩], ?_, ?_, ?_, ?_⟩
          · rw [List.length_map]; exact small (by omega)
          · rw [upd_same, List.map_append]; rfl
          · rw [List.length_append, hl]; rfl
          · intro y hy
            rcases List.mem_append.mp hy with hy | hy
            · exact h1 y hy
            · rw [List.mem_singleton.mp hy]; rfl
          · intro y hy c hc
            rcases List.mem_append.mp hy with hy | hy
            · exact h2 y hy c hc
            · rw [List.mem_singleton.mp hy] at hc
              rw [List.mem_singleton.mp (show c ∈ [half1.cps.toList[j]] from hc)]
              exact half1_in _ (List.getElem_mem hj)
        · obtain ⟨sm', ys, eD, hl, h1, h2⟩ := hP
          rw [List.length_map] at hl
          have hz1 := join_size h1
          have hin := join_mem h2
          have hs : (ys.map (·.length)).sum + ys.length * ("" : Str).length ≤ 16777216 := by rw [join_sum h1]; omega
          have SG' : Same G H' := scc.trans sm'
          have eRF := SG' _ _ eRG
          have eNF := SG' _ _ eNG
          have SF := S.trans (SG.trans SG')
          refine ⟨"", D, ys, rfl, rfl, .inl (.inl (.inl eD)), hs, ?_⟩
          generalize Txt.join "" ys = z at hz1 hin ⊢
          have hz5 : z.cps.size ≤ 5 := by omega
          have hzl : z.length ≤ sizeLine := smallE (show z.cps.size ≤ 100000 by omega)
          refine ⟨.ref R, rfl, R, rs.map V.int, 2, .int r2, rfl, rfl, .inl (.inl eRF), atI_nat (j := 2) g2, .inl ⟨r2, rfl, .str z, rfl, .str z, z.cps.size, rfl, ⟨hzl, rfl⟩, (z.cps.size : Int), 1, rfl, rfl, r2, (z.cps.size : Int) + 1, rfl, rfl, (show (0 : Int) < (z.cps.size : Int) + 1 by omega), ?_⟩⟩
          obtain ⟨j, ej⟩ : ∃ j : Nat, (r0 + 5 * ((i : Nat) : Int)) % 13 = (j : Int) := ⟨((r0 + 5 * ((i : Nat) : Int)) % 13).toNat, by omega⟩
          have hj : j < half2.cps.toList.length := by
            have : half2.cps.toList.length = 13 := by decide
            omega
          refine ⟨.ref R, rfl, R, rs.map V.int, 0, .int r0, rfl, rfl, .inl (.inl eRF), atI_nat (j := 0) g0, .int (i : Nat), rfl, 5, (i : Nat), rfl, rfl, .inl ⟨by decide, by decide⟩, r0, _, rfl, rfl, .inl ⟨_, rfl, _, 13, rfl, rfl, (show (0 : Int) < 13 by decide), half2, _, half2.cps.toList[j], rfl, rfl, smallE (by decide), by rw [ej]; exact atI_nat (List.getElem?_eq_getElem hj), ?_⟩⟩
          refine ⟨.ref N, rfl, .inl ⟨rfl, _, .inl (.inl eNF)⟩, .str z, rfl, _, rfl, _, rfl, z, rfl, hzl, .str _, rfl, _, _, rfl, rfl, ?_, .str z, rfl, _, rfl, _, rfl, z, rfl, hzl, _, _, rfl, rfl, ?_, N, _, _, rfl, rfl, eNF, ?_, ?_⟩
          · refine smallE ?_
            have := cutS_length z none (some (r2 % ((z.cps.size : Int) + 1)))
            show (cutS z none _).cps.size + 1 ≤ 100000
            omega
          · refine smallE ?_
            have h1 := cutS_length z none (some (r2 % ((z.cps.size : Int) + 1)))
            have h2 := cutS_length z (some (r2 % ((z.cps.size : Int) + 1))) none
            show ((cutS z none _) ++ (⟨#[_]⟩ : Str)).cps.size + (cutS z _ none).cps.size ≤ 100000
            rw [app_size]
            show (cutS z none _).cps.size + 1 + _ ≤ _
            omega
          · exact small (by rw [List.length_map]; omega)
          · refine ⟨_, _, _, _, _, zs ++ [_], rfl, same_set nNH SF, (upd_ne nNR).trans eRF, by rw [upd_same, List.map_append]; rfl, by rw [List.length_append, lz]; rfl, fun y hy => ?_⟩
            rcases List.mem_append.mp hy with hy | hy
            · exact hz y hy
            · rw [List.mem_singleton.mp hy]
              have h1 := cutS_length z none (some (r2 % ((z.cps.size : Int) + 1)))
              have h2 := cutS_length z (some (r2 % ((z.cps.size : Int) + 1))) none
              have sz : (cutS z none (some (r2 % ((z.cps.size : Int) + 1))) ++ (⟨#[half2.cps.toList[j]]⟩ : Str) ++ cutS z (some (r2 % ((z.cps.size : Int) + 1))) none).cps.size = (cutS z none (some (r2 % ((z.cps.size : Int) + 1)))).cps.size + 1 + (cutS z (some (r2 % ((z.cps.size : Int) + 1))) none).cps.size := by
                rw [app_size, app_size]; rfl
              show (decide _ && decide _ && List.all _ inL) = true
              rw [sz, Bool.and_eq_true, Bool.and_eq_true, List.all_eq_true]
              refine ⟨⟨decide_eq_true (by omega), decide_eq_true (by omega)⟩, fun c hc => ?_⟩
              rcases app_mem hc with hc | hc
              · rcases app_mem hc with hc | hc
                · exact hin c (cutS_mem hc)
                · rw [List.mem_singleton.mp (show c ∈ [half2.cps.toList[j]] from hc)]
                  exact half2_in _ (List.getElem_mem hj)
              · exact hin c (cutS_mem hc)
    · rw [em] at hP
      obtain ⟨y4, y5, y6, y7, y8, zs, rfl, S, eR, eN, lz, hz⟩ := hP
      exact ⟨.ref N, rfl, q H' N zs S nNH eN lz hz⟩

/-! ### a drawn machine -/
theorem paired_take {α β : Type} {F : α → β → Prop} {l : List α} {m : List β} (h : Paired F l m) : ∀ n, Paired F (l.take n) (m.take n) := by
  induction h with
  | nil => intro n; rw [List.take_nil, List.take_nil]; exact .nil
  | cons r _ ih =>
    intro n
    cases n with
    | zero => exact .nil
    | succ n => exact .cons r (ih n)
theorem paired_drop {α β : Type} {F : α → β → Prop} {l : List α} {m : List β} (h : Paired F l m) : ∀ n, Paired F (l.drop n) (m.drop n) := by
  induction h with
  | nil => intro n; rw [List.drop_nil, List.drop_nil]; exact .nil
  | cons r k ih =>
    intro n
    cases n with
    | zero => exact .cons r k
    | succ n => exact ih n
theorem paired_app {α β : Type} {F : α → β → Prop} {l l' : List α} {m m' : List β} (h : Paired F l m) (h' : Paired F l' m') : Paired F (l ++ l') (m ++ m') := by
  induction h with
  | nil => exact h'
  | cons r _ ih => exact .cons r ih
/-- steps of a drawn machine: `most` the greatest number that leave one state -/
structure Drawn (ls : List Int) (names : List Str) (ss : List KnA.Stp) (most : Nat) : Prop where
  nd : ss.Nodup
  good : ∀ x ∈ ss, x.1 ∈ ls ∧ x.2.1 ∈ names ∧ x.2.2 ∈ ls
  few : ∀ s, cnt ss s ≤ most
theorem cnt_app (l m : List KnA.Stp) (s : Int) : cnt (l ++ m) s = cnt l s + cnt m s := by
  unfold cnt
  rw [List.filter_append, List.length_append]
theorem cnt_one (x : KnA.Stp) (s : Int) : cnt [x] s ≤ 1 := List.length_filter_le _ _
theorem Drawn.push {ls : List Int} {names : List Str} {ss : List KnA.Stp} {most : Nat} (h : Drawn ls names ss most) {x : KnA.Stp} (hx : x ∉ ss) (g : x.1 ∈ ls ∧ x.2.1 ∈ names ∧ x.2.2 ∈ ls) : Drawn ls names (ss ++ [x]) (most + 1) := by
  refine ⟨?_, fun y hy => ?_, fun s => ?_⟩
  · refine List.nodup_append.mpr ⟨h.nd, by simp, fun a ha b hb e => ?_⟩
    rw [List.mem_singleton] at hb
    exact hx (hb ▸ e ▸ ha)
  · rcases List.mem_append.mp hy with q | q
    · exact h.good y q
    · rw [List.mem_singleton.mp q]; exact g
  · rw [cnt_app]
    have := h.few s
    have := cnt_one x s
    omega
theorem Drawn.up {ls : List Int} {names : List Str} {ss : List KnA.Stp} {m n : Nat} (h : Drawn ls names ss m) (k : m ≤ n) : Drawn ls names ss n := ⟨h.nd, h.good, fun s => Nat.le_trans (h.few s) k⟩
theorem Drawn.turn {ls : List Int} {names : List Str} {ss : List KnA.Stp} {m : Nat} (h : Drawn ls names ss m) (t : Nat) : Drawn ls names (ss.drop t ++ ss.take t) m := by
  have p : (ss.drop t ++ ss.take t).Perm ss := by
    have := List.perm_append_comm (l₁ := ss.drop t) (l₂ := ss.take t)
    rwa [List.take_append_drop] at this
  refine ⟨p.symm.nodup h.nd, fun x hx => h.good x (p.mem_iff.mp hx), fun s => ?_⟩
  have e : cnt (ss.drop t ++ ss.take t) s = cnt ss s := (p.filter _).length_eq
  rw [e]
  exact h.few s
/-- the base: each label has one step -/
theorem cnt_base {ss : List KnA.Stp} (h : (ss.map (·.1)).Nodup) (s : Int) : cnt ss s ≤ 1 := by
  unfold cnt
  induction ss with
  | nil => exact Nat.zero_le _
  | cons x r ih =>
    rw [List.map_cons, List.nodup_cons] at h
    by_cases e : x.1 = s
    · rw [List.filter_cons_of_pos (by simp [e])]
      have : r.filter (fun y => decide (y.1 = s)) = [] := List.filter_eq_nil_iff.mpr fun y hy z => h.1 (by
        have e2 := of_decide_eq_true z
        exact List.mem_map.mpr ⟨y, hy, e2.trans e.symm⟩)
      rw [this]
      exact Nat.le_refl _
    · rw [List.filter_cons_of_neg (by simp [e])]
      exact ih h.2
theorem nodup_base {ss : List KnA.Stp} (h : (ss.map (·.1)).Nodup) : ss.Nodup := by
  have := List.pairwise_map.mp h
  exact this.imp fun hne e => hne (congrArg (·.1) e)
def strides : List Int := [1, 3, 7, 9, 11, 13, 17, 19]
def labs (r st : Int) (n : Nat) : List Int := (List.range n).map fun (k : Nat) => (r + st * (k : Int)) % 100
theorem labs_len (r st : Int) (n : Nat) : (labs r st n).length = n := by unfold labs; rw [List.length_map, List.length_range]
theorem labs_succ (r st : Int) (n : Nat) : labs r st (n + 1) = labs r st n ++ [(r + st * (n : Int)) % 100] := by
  unfold labs
  rw [List.range_succ, List.map_append]; rfl
theorem labs_in {r st : Int} {n : Nat} {x : Int} (h : x ∈ labs r st n) : 0 ≤ x ∧ x ≤ 99 := by
  obtain ⟨k, _, rfl⟩ := List.mem_map.mp h
  have h1 := Int.emod_nonneg (r + st * (k : Int)) (show (100 : Int) ≠ 0 by decide)
  have h2 := Int.emod_lt_of_pos (r + st * (k : Int)) (show (0 : Int) < 100 by decide)
  omega
theorem labs_nd {r st : Int} {n : Nat} (hs : st ∈ strides) (hn : n ≤ 100) : (labs r st n).Nodup := by
  unfold labs
  refine List.pairwise_map.mpr (List.nodup_range.imp_of_mem fun {a b} ha hb ne e => ne ?_)
  have ha := List.mem_range.mp ha
  have hb := List.mem_range.mp hb
  unfold strides at hs
  simp only [List.mem_cons, List.not_mem_nil, or_false] at hs
  rcases hs with rfl | rfl | rfl | rfl | rfl | rfl | rfl | rfl <;> omega
theorem stateB_of {x : Int} (h : 0 ≤ x ∧ x ≤ 99) : stateB (.int x) = true := by
  show (decide (0 ≤ x) && decide (x ≤ 99)) = true
  rw [decide_eq_true h.1, decide_eq_true h.2]; rfl
/-- a drawn machine: its labels, the steps of each, a word that is used -/
structure DrawnM (ls : List Int) (names : List Str) (ss : List KnA.Stp) : Prop where
  ne : ls ≠ []
  few : ls.length ≤ 8
  st : ∀ x ∈ ls, stateB (.int x) = true
  dr : Drawn ls names ss 8
  all : ∀ x ∈ ls, ∃ w y, (x, w, y) ∈ ss
  hi : ss.length ≤ 80
  w0 : ∀ x, names[0]? = some x → x ∈ ss.map (·.2.1)
theorem DrawnM.steps {ls : List Int} {names : List Str} {ss : List KnA.Stp} (h : DrawnM ls names ss) (hn : ∀ z ∈ names, nameB (.str z) = true) : GoodSteps ss := by
  refine ⟨?_, h.hi, fun x hx => ⟨h.st _ (h.dr.good x hx).1, hn _ (h.dr.good x hx).2.1, h.st _ (h.dr.good x hx).2.2⟩, h.dr.nd, h.dr.few⟩
  obtain ⟨l, hl⟩ := List.exists_mem_of_ne_nil _ h.ne
  obtain ⟨w, y, hm⟩ := h.all l hl
  exact List.length_pos_of_mem hm
theorem DrawnM.live {ls : List Int} {names : List Str} {ss : List KnA.Stp} (h : DrawnM ls names ss) {s0 : Int} (hs : s0 ∈ ls) (x : Int) (r : KnA.Reach ss s0 x) : ∃ w y, (x, w, y) ∈ ss := by
  refine h.all x ?_
  induction r with
  | start => exact hs
  | step _ m _ => exact (h.dr.good _ m).2.2
def szM (n mo ex : Nat) : List Int := [(mo : Int), (ex : Int) + 1, 100, 8, 64] ++ (List.replicate mo [(n : Int) - 1, (mo : Int)]).flatten ++ (List.replicate ex [(mo : Int), (n : Int) + 2, (mo : Int)]).flatten
theorem szM_len (n mo ex : Nat) : (szM n mo ex).length = 5 + 2 * mo + 3 * ex := by
  unfold szM
  rw [List.length_append, List.length_append, flat_len, flat_len]; rfl
theorem szM_base {n mo ex k j : Nat} (hk : k < mo) (hj : j < 2) : (szM n mo ex)[5 + 2 * k + j]? = ([(n : Int) - 1, (mo : Int)] : List Int)[j]? := by
  unfold szM
  have l5 : ([(mo : Int), (ex : Int) + 1, 100, 8, 64] : List Int).length = 5 := rfl
  have l2 : (List.replicate mo [(n : Int) - 1, (mo : Int)]).flatten.length = 2 * mo := flat_len _ _
  rw [List.getElem?_append_left (by rw [List.length_append, l5, l2]; omega), List.getElem?_append_right (by rw [l5]; omega), l5, show 5 + 2 * k + j - 5 = 2 * k + j by omega]
  exact flat_get (l := ([(n : Int) - 1, (mo : Int)] : List Int)) (j := j) hj hk
theorem szM_more {n mo ex k j : Nat} (hk : k < ex) (hj : j < 3) : (szM n mo ex)[5 + 2 * mo + 3 * k + j]? = ([(mo : Int), (n : Int) + 2, (mo : Int)] : List Int)[j]? := by
  unfold szM
  have l5 : ([(mo : Int), (ex : Int) + 1, 100, 8, 64] : List Int).length = 5 := rfl
  have l2 : (List.replicate mo [(n : Int) - 1, (mo : Int)]).flatten.length = 2 * mo := flat_len _ _
  rw [List.getElem?_append_right (by rw [List.length_append, l5, l2]; omega), List.length_append, l5, l2, show 5 + 2 * mo + 3 * k + j - (5 + 2 * mo) = 3 * k + j by omega]
  exact flat_get (l := ([(mo : Int), (n : Int) + 2, (mo : Int)] : List Int)) (j := j) hj hk
theorem szM_good {n mo ex : Nat} (h1 : 2 ≤ n) (h2 : n ≤ 100) (h3 : 1 ≤ mo) (h4 : mo ≤ 100) (h5 : ex ≤ 100) {x : Int} (h : x ∈ szM n mo ex) : 0 < x ∧ x < 1073741824 := by
  unfold szM at h
  rcases List.mem_append.mp h with h | h
  · rcases List.mem_append.mp h with h | h
    · simp at h; omega
    · have := flat_mem h
      simp at this; omega
  · have := flat_mem h
    simp at this; omega

def sp__law_machine (_ : PySem.W.Frag) : Sp := fun vs H Q _ => ∃ (c : Int) (n : Addr) (names : List Str) (mo ex : Nat), vs = [.int c, .ref n, .int (mo : Int), .int (ex : Int)] ∧ H n = some (.lst (names.map V.str)) ∧
  2 ≤ names.length ∧ names.length ≤ 14 ∧ (∀ z ∈ names, nameB (.str z) = true) ∧ 1 ≤ mo ∧ mo ≤ 8 ∧ ex ≤ 6 ∧
  ∀ H' t lb sl (ls : List Int) as ss, Same H H' → H' t = some (.lst [.ref lb, .ref sl]) → H lb = none → H sl = none → lb ≠ sl → H' lb = some (.lst (ls.map V.int)) → H' sl = some (.lst (as.map V.ref)) → Stps H' as ss → DrawnM ls names ss → Q (.ref t) H'
theorem ok__law_machine {f : Addr} {C : Addr} {fd : FuncData} (T : Txt K mg C) (F : Fun K "_law_machine" "_law_machine" s__law_machine f fd) (c__law_row : Cal P w K mg base 2 "_law_row" (sp__law_row K) []) : FnOk P w K mg base CX0 3 f fd ["_law_cell_here", "_law_names_here", "_law_most", "_law_extra"] (sp__law_machine K) := by
  have nd := sc__law_machine.nd
  refine F.ok sc__law_machine (fun vs H Q E h => ?_) (fun cdv A outer s H vs Q E hr h => ?_)
  · obtain ⟨c, n, names, mo, ex, rfl, _⟩ := h
    rfl
  · obtain ⟨c, n, names, mo, ex, rfl, hn, ln2, ln14, hnm, mo1, mo8, ex6, q⟩ := h
    refine ⟨_, (pss_cons (ps_set (i := 4) nd rfl (.inl rfl) (pe_op op_cat (pe_lst (pa_cons (pv 2) (pa_cons (pe_op op_add (pv 3) pe_int) (pa_cons pe_int (pa_cons pe_int (pa_cons pe_int pa_nil)))))) (pe_op op_rep (pe_lst (pa_cons (pe_op op_sub (pe_callB call_len (by rfl) T.m_len (by decide +kernel) (pa_cons (pv 1) pa_nil)) pe_int) (pa_cons (pv 2) pa_nil))) (pv 2))))
      (pss_cons (ps_set (i := 5) nd rfl (.inr rfl) (pe_c c__law_row hr (by omega) (by rfl) (pa_cons (pv 0) (pa_cons (pe_op op_cat (pv 4) (pe_op op_rep (pe_lst (pa_cons (pv 2) (pa_cons (pe_op op_add (pe_callB call_len (by rfl) T.m_len (by decide +kernel) (pa_cons (pv 1) pa_nil)) pe_int) (pa_cons (pv 2) pa_nil)))) (pv 3))) pa_nil))))
      (pss_cons (ps_set (i := 6) nd rfl (.inl rfl) (pe_op op_add pe_int (pe_ix (r := rIxL K) ix_list (pv 5) pe_int (fun _ _ => rfl))))
      (pss_cons (ps_set (i := 7) nd rfl (.inr rfl) (pe_ix (r := rIxL K) ix_list (pe_lst (pa_cons pe_int (pa_cons pe_int (pa_cons pe_int (pa_cons pe_int (pa_cons pe_int (pa_cons pe_int (pa_cons pe_int (pa_cons pe_int pa_nil))))))))) (pe_ix (r := rIxL K) ix_list (pv 5) pe_int (fun _ _ => rfl)) (fun _ _ => rfl)))
      (pss_cons (ps_setLc (i := 8) (own := [("_law_k", 10)]) (g := gName 10) (tt := tYes) rfl nd rfl rfl (sw_true rfl rfl rfl (by decide +kernel)) (pi_range1 (by rfl) T.m_range (pa_cons (pv 6) pa_nil)) (blkOk_by (N := ["_law_cell_here", "_law_names_here", "_law_most", "_law_extra", "_law_sizes", "_law_row_here", "_law_many", "_law_stride", "_law_labels", "_law_steps", "_law_k", "_law_word", "_law_at", "_law_step", "_law_target", "_law_turn"]) (sc := defScope s__law_machine) (by decide +kernel)) (fun _ _ _ _ _ => (pg_name (i := 10) nd rfl (.inl rfl))) (fun _ _ _ _ _ => pts_nil) (fun _ _ _ _ _ => (pe_op op_mod (pe_callTy call_int1 (by rfl) T.m_int (by decide +kernel) (pa_cons (pe_op op_add (pe_ix (r := rIxL K) ix_list (pv 5) pe_int (fun _ _ => rfl)) (pe_op op_mul (pv 7) (pv 10))) pa_nil)) pe_int)))
      (pss_cons (ps_set (i := 9) nd rfl (.inl rfl) (pe_lst pa_nil))
      (pss_cons (ps_for PassesOwn.never rfl (pi_range1 (by rfl) T.m_range (pa_cons (pv 6) pa_nil)) (pg_name (i := 10) nd rfl (.inl rfl)) (pss_cons (ps_set (i := 11) nd rfl (.inl rfl) (pe_ix (r := rIxL K) ix_list (pv 1) (pe_op op_add pe_int (pe_ix (r := rIxL K) ix_list (pv 5) (pe_op op_add pe_int (pe_op op_mul pe_int (pv 10))) (fun _ _ => rfl))) (fun _ _ => rfl)))
      (pss_one (ps_expr (pe_bm PySem.F.plainAttrs_list PySem.F.slot_list_append PySem.F.type_list_append mt_append (pv 9) (pa_cons (pe_tup (pa_cons (pe_ix (r := rIxL K) ix_list (pv 8) (pv 10) (fun _ _ => rfl)) (pa_cons (pv 11) (pa_cons (pe_ix (r := rIxL K) ix_list (pv 8) (pe_op op_mod (pe_callTy call_int1 (by rfl) T.m_int (by decide +kernel) (pa_cons (pe_ix (r := rIxL K) ix_list (pv 5) (pe_op op_add pe_int (pe_op op_mul pe_int (pv 10))) (fun _ _ => rfl)) pa_nil)) (pv 6)) (fun _ _ => rfl)) pa_nil)))) pa_nil))))))
      (pss_cons (ps_for PassesOwn.never rfl (pi_range1 (by rfl) T.m_range (pa_cons (pe_ix (r := rIxL K) ix_list (pv 5) pe_int (fun _ _ => rfl)) pa_nil)) (pg_name (i := 10) nd rfl (.inl rfl)) (pss_cons (ps_set (i := 12) nd rfl (.inl rfl) (pe_op op_add (pe_callB call_len (by rfl) T.m_len (by decide +kernel) (pa_cons (pv 4) pa_nil)) (pe_op op_mul pe_int (pv 10))))
      (pss_cons (ps_set (i := 11) nd rfl (.inl rfl) (pe_ix (r := rIxL K) ix_list (pv 1) (pe_op op_mod (pe_callTy call_int1 (by rfl) T.m_int (by decide +kernel) (pa_cons (pe_ix (r := rIxL K) ix_list (pv 5) (pe_op op_add (pv 12) pe_int) (fun _ _ => rfl)) pa_nil)) (pe_callB call_len (by rfl) T.m_len (by decide +kernel) (pa_cons (pv 1) pa_nil))) (fun _ _ => rfl)))
      (pss_cons (ps_set (i := 13) nd rfl (.inl rfl) (pe_tup (pa_cons (pe_ix (r := rIxL K) ix_list (pv 8) (pe_op op_mod (pe_callTy call_int1 (by rfl) T.m_int (by decide +kernel) (pa_cons (pe_ix (r := rIxL K) ix_list (pv 5) (pv 12) (fun _ _ => rfl)) pa_nil)) (pv 6)) (fun _ _ => rfl)) (pa_cons (pv 11) pa_nil))))
      (pss_cons (ps_set (i := 13) nd rfl (.inl rfl) (pe_op op_catT (pv 13) (pe_tup (pa_cons (pe_ix (r := rIxL K) ix_list (pv 8) (pe_op op_mod (pe_callTy call_int1 (by rfl) T.m_int (by decide +kernel) (pa_cons (pe_ix (r := rIxL K) ix_list (pv 5) (pe_op op_add (pv 12) pe_int) (fun _ _ => rfl)) pa_nil)) (pv 6)) (fun _ _ => rfl)) pa_nil))))
      (pss_one (ps_if (pt_cmpR (op_notInD (KnC.un65 hr)) (pv 13) (pv 9) (by with_unfolding_all rfl)) (pss_one (ps_expr (pe_bm PySem.F.plainAttrs_list PySem.F.slot_list_append PySem.F.type_list_append mt_append (pv 9) (pa_cons (pv 13) pa_nil)))) pss_nil)))))))
      (pss_cons (ps_if (pt_cmpR op_eq (pe_callB call_len (by rfl) T.m_len (by decide +kernel) (pa_cons (pe_lc (own := [("_law_step", 13)]) (g := gName 13) rfl nd (pi_list (pv 9)) (blkOk_by (N := ["_law_cell_here", "_law_names_here", "_law_most", "_law_extra", "_law_sizes", "_law_row_here", "_law_many", "_law_stride", "_law_labels", "_law_steps", "_law_k", "_law_word", "_law_at", "_law_step", "_law_target", "_law_turn"]) (sc := defScope s__law_machine) (by decide +kernel)) (fun _ _ _ _ _ => (pg_name (i := 13) nd rfl (.inl rfl))) (fun _ _ _ _ _ => (pts_one (pt_cmpR op_eq (pe_ix (r := rIxT K) ix_tup (pv 13) pe_int (fun _ _ => rfl)) (pe_ix (r := rIxL K) ix_list (pv 1) pe_int (fun _ _ => rfl)) (nomark _)))) (fun _ _ _ _ _ => (pv 13))) pa_nil)) pe_int (nomark _)) (pss_cons (ps_set (i := 14) nd rfl (.inl rfl) (pe_ix (r := rIxL K) ix_list (pv 8) (pe_op op_mod (pe_callTy call_int1 (by rfl) T.m_int (by decide +kernel) (pa_cons (pe_op op_fdiv (pe_ix (r := rIxL K) ix_list (pv 5) pe_int (fun _ _ => rfl)) pe_int) pa_nil)) (pv 6)) (fun _ _ => rfl)))
      (pss_one (ps_expr (pe_bm PySem.F.plainAttrs_list PySem.F.slot_list_append PySem.F.type_list_append mt_append (pv 9) (pa_cons (pe_tup (pa_cons (pe_ix (r := rIxL K) ix_list (pv 8) (pe_op op_mod (pe_callTy call_int1 (by rfl) T.m_int (by decide +kernel) (pa_cons (pe_ix (r := rIxL K) ix_list (pv 5) pe_int (fun _ _ => rfl)) pa_nil)) (pv 6)) (fun _ _ => rfl)) (pa_cons (pe_ix (r := rIxL K) ix_list (pv 1) pe_int (fun _ _ => rfl)) (pa_cons (pv 14) pa_nil)))) pa_nil))))) pss_nil)
      (pss_cons (ps_set (i := 15) nd rfl (.inl rfl) (pe_op op_mod (pe_callTy call_int1 (by rfl) T.m_int (by decide +kernel) (pa_cons (pe_ix (r := rIxL K) ix_list (pv 5) pe_int (fun _ _ => rfl)) pa_nil)) (pe_callB call_len (by rfl) T.m_len (by decide +kernel) (pa_cons (pv 9) pa_nil))))
      (pss_one (ps_ret (pe_lst (pa_cons (pv 8) (pa_cons (pe_op op_cat (pe_slice sl_list (pv 9) (po_some (pv 15)) po_none) (pe_slice sl_list (pv 9) po_none (po_some (pv 15)))) pa_nil))))))))))))))), ?_⟩
    have lenN : ∀ {G : Hp}, Same H G → LenV K (.ref n) G names.length := fun s => .inl ⟨_, .inl (.inl (s _ _ hn)), (List.length_map _).symm⟩
    refine ⟨.int mo, rfl, .int ex, rfl, ex, 1, rfl, rfl, szl rfl, fun p1 n1 => ?_⟩
    have s1 := same_upd (o := .lst [.int mo, .int ((ex : Int) + 1), .int 100, .int 8, .int 64]) n1
    refine ⟨.ref n, rfl, .ref n, names.length, rfl, lenN s1, (names.length : Int), 1, rfl, rfl, .int mo, rfl, szl rfl, fun p2 n2 => ?_⟩
    have s2 := s1.trans (same_upd (o := .lst [.int ((names.length : Int) - 1), .int mo]) n2)
    refine ⟨.int mo, rfl, p2, mo, _, rfl, rfl, upd_same, by omega, by omega, smallE (by show 2 * (mo : Int).toNat ≤ _; omega), fun p3 n3 => ?_⟩
    have emo : (mo : Int).toNat = mo := Int.toNat_natCast mo
    have eex : (ex : Int).toNat = ex := Int.toNat_natCast ex
    rw [emo]
    have s3 := same_upd (o := .lst (List.replicate mo [V.int ((names.length : Int) - 1), .int mo]).flatten) n3
    have e1 : (upd (upd (upd H p1 (.lst [.int mo, .int ((ex : Int) + 1), .int 100, .int 8, .int 64])) p2 (.lst [.int ((names.length : Int) - 1), .int mo])) p3 (.lst (List.replicate mo [V.int ((names.length : Int) - 1), .int mo]).flatten)) p1 = some (.lst [.int mo, .int ((ex : Int) + 1), .int 100, .int 8, .int 64]) := s3 _ _ (same_upd n2 _ _ upd_same)
    refine ⟨p1, p3, _, _, rfl, rfl, e1, upd_same, smallE (by rw [flat_len]; show 5 + 2 * mo ≤ _; omega), fun p4 n4 => ?_⟩
    have s4 := (s2.trans s3).trans (same_upd (o := .lst ([V.int mo, .int ((ex : Int) + 1), .int 100, .int 8, .int 64] ++ (List.replicate mo [V.int ((names.length : Int) - 1), .int mo]).flatten)) n4)
    have e4 : (upd (upd (upd (upd H p1 (.lst [.int mo, .int ((ex : Int) + 1), .int 100, .int 8, .int 64])) p2 (.lst [.int ((names.length : Int) - 1), .int mo])) p3 (.lst (List.replicate mo [V.int ((names.length : Int) - 1), .int mo]).flatten)) p4 (.lst ([V.int mo, .int ((ex : Int) + 1), .int 100, .int 8, .int 64] ++ (List.replicate mo [V.int ((names.length : Int) - 1), .int mo]).flatten))) p4 = some (.lst ([V.int mo, .int ((ex : Int) + 1), .int 100, .int 8, .int 64] ++ (List.replicate mo [V.int ((names.length : Int) - 1), .int mo]).flatten)) := upd_same
    generalize upd (upd (upd (upd H p1 (.lst [.int mo, .int ((ex : Int) + 1), .int 100, .int 8, .int 64])) p2 (.lst [.int ((names.length : Int) - 1), .int mo])) p3 (.lst (List.replicate mo [V.int ((names.length : Int) - 1), .int mo]).flatten)) p4 (.lst ([V.int mo, .int ((ex : Int) + 1), .int 100, .int 8, .int 64] ++ (List.replicate mo [V.int ((names.length : Int) - 1), .int mo]).flatten)) = G4 at s4 e4
    refine ⟨.int c, rfl, .ref p4, rfl, .int mo, rfl, .ref n, rfl, .ref n, names.length, rfl, lenN s4, (names.length : Int), 2, rfl, rfl, .int mo, rfl, szl rfl, fun p5 n5 => ?_⟩
    refine ⟨.int ex, rfl, p5, ex, _, rfl, rfl, upd_same, by omega, by omega, smallE (by show 3 * (ex : Int).toNat ≤ _; omega), fun p6 n6 => ?_⟩
    rw [eex]
    have s5 := same_upd (o := .lst [.int mo, .int ((names.length : Int) + 2), .int mo]) n5
    have s6 := same_upd (o := .lst (List.replicate ex [V.int mo, .int ((names.length : Int) + 2), .int mo]).flatten) n6
    refine ⟨p4, p6, _, _, rfl, rfl, s6 _ _ (s5 _ _ e4), upd_same, smallE (by rw [flat_len, List.length_append, flat_len]; show 5 + 2 * mo + 3 * ex ≤ _; omega), fun p7 n7 => ?_⟩
    have s7 := (s4.trans (s5.trans s6)).trans (same_upd (o := .lst (([V.int mo, .int ((ex : Int) + 1), .int 100, .int 8, .int 64] ++ (List.replicate mo [V.int ((names.length : Int) - 1), .int mo]).flatten) ++ (List.replicate ex [V.int mo, .int ((names.length : Int) + 2), .int mo]).flatten)) n7)
    have e47 := same_upd (o := .lst (([V.int mo, .int ((ex : Int) + 1), .int 100, .int 8, .int 64] ++ (List.replicate mo [V.int ((names.length : Int) - 1), .int mo]).flatten) ++ (List.replicate ex [V.int mo, .int ((names.length : Int) + 2), .int mo]).flatten)) n7 _ _ (s6 _ _ (s5 _ _ e4))
    have e7 : (upd (upd (upd G4 p5 (.lst [.int mo, .int ((names.length : Int) + 2), .int mo])) p6 (.lst (List.replicate ex [V.int mo, .int ((names.length : Int) + 2), .int mo]).flatten)) p7 (.lst (([V.int mo, .int ((ex : Int) + 1), .int 100, .int 8, .int 64] ++ (List.replicate mo [V.int ((names.length : Int) - 1), .int mo]).flatten) ++ (List.replicate ex [V.int mo, .int ((names.length : Int) + 2), .int mo]).flatten))) p7 = some (.lst ((szM names.length mo ex).map V.int)) := by
      rw [upd_same]
      unfold szM
      rw [List.map_append, List.map_append, List.map_flatten, List.map_flatten, List.map_replicate, List.map_replicate]; rfl
    generalize upd (upd (upd G4 p5 (.lst [.int mo, .int ((names.length : Int) + 2), .int mo])) p6 (.lst (List.replicate ex [V.int mo, .int ((names.length : Int) + 2), .int mo]).flatten)) p7 (.lst (([V.int mo, .int ((ex : Int) + 1), .int 100, .int 8, .int 64] ++ (List.replicate mo [V.int ((names.length : Int) - 1), .int mo]).flatten) ++ (List.replicate ex [V.int mo, .int ((names.length : Int) + 2), .int mo]).flatten)) = G7 at s7 e47 e7
    refine ⟨c, p7, szM names.length mo ex, rfl, .inl (.inl e7), by rw [szM_len]; omega, fun x hx => szM_good ln2 (by omega) mo1 (by omega) (by omega) hx, fun H1 R rs sm nR eR hrl hb => ?_⟩
    have sH : Same H H1 := s7.trans sm
    have e4H := sm _ _ e47
    have len4 : ([V.int mo, .int ((ex : Int) + 1), .int 100, .int 8, .int 64] ++ (List.replicate mo [V.int ((names.length : Int) - 1), .int mo]).flatten).length = 5 + 2 * mo := by
      rw [List.length_append, flat_len]; rfl
    obtain ⟨r0, _, g0, l0, u0⟩ := row_at hrl hb (j := 0) (t := (mo : Int)) rfl
    obtain ⟨r1, _, g1, l1, u1⟩ := row_at hrl hb (j := 1) (t := (ex : Int) + 1) rfl
    obtain ⟨r2, _, g2, l2, u2⟩ := row_at hrl hb (j := 2) (t := 100) rfl
    obtain ⟨r3, _, g3, l3, u3⟩ := row_at hrl hb (j := 3) (t := 8) rfl
    obtain ⟨r4, _, g4, l4, u4⟩ := row_at hrl hb (j := 4) (t := 64) rfl
    obtain ⟨ma, ema⟩ : ∃ ma : Nat, 1 + r0 = (ma : Int) := ⟨(1 + r0).toNat, by omega⟩
    -- many, stride
    refine ⟨.ref R, rfl, R, rs.map V.int, 0, .int r0, rfl, rfl, .inl (.inl eR), atI_nat (j := 0) g0, 1, r0, rfl, rfl, ?_⟩
    refine ⟨szl rfl, fun p8 n8 => ?_⟩
    have s8 := same_upd (o := .lst [.int 1, .int 3, .int 7, .int 9, .int 11, .int 13, .int 17, .int 19]) n8
    obtain ⟨k3, rfl⟩ : ∃ k3 : Nat, r3 = (k3 : Int) := ⟨r3.toNat, by omega⟩
    have hk3 : k3 < strides.length := by show k3 < 8; omega
    have hst : strides[k3] ∈ strides := List.getElem_mem hk3
    have gst : (strides.map V.int)[k3]? = some (.int strides[k3]) := by rw [List.getElem?_map, List.getElem?_eq_getElem hk3]; rfl
    refine ⟨.ref R, rfl, R, rs.map V.int, 3, .int k3, rfl, rfl, .inl (.inl (s8 _ _ eR)), atI_nat (j := 3) g3, p8, strides.map V.int, (k3 : Int), .int strides[k3], rfl, rfl, .inl (.inl upd_same), atI_nat gst, ?_⟩
    generalize strides[k3] = st at hst gst
    have s8' := sH.trans s8
    have eR8 := s8 _ _ eR
    have e48 := s8 _ _ e4H
    generalize upd H1 p8 (.lst [.int 1, .int 3, .int 7, .int 9, .int 11, .int 13, .int 17, .int 19]) = G8 at s8' eR8 e48
    have st20 : 0 < st ∧ st < 20 := by
      unfold strides at hst
      simp only [List.mem_cons, List.not_mem_nil, or_false] at hst
      omega
    -- labels
    refine ⟨.int (1 + r0), rfl, 1 + r0, rfl, by omega, by omega, fun LB nLB => ?_⟩
    have ema2 : (1 + r0).toNat = ma := by omega
    rw [ema2]
    refine lc_range (lo := 0) (n := ma) (fun i H' => Same G8 H' ∧ H' LB = some (.lst ((labs r2 st i).map V.int))) ⟨same_upd nLB, upd_same⟩ (fun i H' hi hP => ?_) (fun H' hP => ?_)
    · obtain ⟨S, eL⟩ := hP
      refine ⟨rfl, ?_⟩
      unfold tYes
      refine iteT ?_
      have e0 : (0 : Int) + (i : Nat) = (i : Nat) := by omega
      rw [e0]
      refine ⟨.ref R, rfl, R, rs.map V.int, 2, .int r2, rfl, rfl, .inl (.inl (S _ _ eR8)), atI_nat (j := 2) g2, .int st, rfl, .int (i : Nat), rfl, st, (i : Nat), rfl, rfl, .inl ⟨by omega, by omega⟩, r2, _, rfl, rfl, .inl ⟨_, rfl, _, 100, rfl, rfl, (show (0 : Int) < 100 by decide), _, eL, small (by rw [List.length_map, labs_len]; omega), same_set nLB S, ?_⟩⟩
      rw [upd_same, labs_succ, List.map_append]; rfl
    · obtain ⟨S9, eL9⟩ := hP
      have sL : Same H H' := s8'.trans S9
      have nLBH : H LB = none := s8'.free nLB
      have ndl := labs_nd (r := r2) hst (n := ma) (by omega)
      have inl : ∀ x ∈ labs r2 st ma, 0 ≤ x ∧ x ≤ 99 := fun x hx => labs_in hx
      have lenl := labs_len r2 st ma
      have eR9 := S9 _ _ eR8
      have e49 := S9 _ _ e48
      generalize labs r2 st ma = ls at eL9 ndl inl lenl
      have nlbn : LB ≠ n := (ne_of_none hn nLBH).symm
      have sL' := sL
      have hn9 := sL _ _ hn
      have lenL : (ls.map V.int).length = ma := by rw [List.length_map, lenl]
      have latx : ∀ (z : Int), 0 ≤ z → z < 1 + r0 → ∃ x, x ∈ ls ∧ atI (ls.map V.int) z = some (.int x) := fun z h1 h2 => by
        obtain ⟨k, rfl⟩ : ∃ k : Nat, z = (k : Int) := ⟨z.toNat, by omega⟩
        have hk : k < ls.length := by omega
        exact ⟨ls[k], List.getElem_mem hk, atI_nat (by rw [List.getElem?_map, List.getElem?_eq_getElem hk]; rfl)⟩
      have nat_ : ∀ (z : Int), 0 ≤ z → z < (names.length : Int) → ∃ x, x ∈ names ∧ atI (names.map V.str) z = some (.str x) := fun z h1 h2 => by
        obtain ⟨k, rfl⟩ : ∃ k : Nat, z = (k : Int) := ⟨z.toNat, by omega⟩
        have hk : k < names.length := by omega
        exact ⟨names[k], List.getElem_mem hk, atI_nat (by rw [List.getElem?_map, List.getElem?_eq_getElem hk]; rfl)⟩
      have rat : ∀ (z : Int) (k : Nat) (t : Int), z = (k : Int) → (szM names.length mo ex)[k]? = some t → ∃ r, atI (rs.map V.int) z = some (.int r) ∧ 0 ≤ r ∧ r < t := fun z k t e h => by
        obtain ⟨r, _, g, a, b⟩ := row_at hrl hb h
        rw [e]
        exact ⟨r, atI_nat g, a, b⟩
      refine ⟨szl rfl, fun S nS => ?_⟩
      have nSH : H S = none := sL.free nS
      have sS := same_upd (o := .lst []) nS
      refine ⟨.int (1 + r0), rfl, 1 + r0, rfl, by omega, by omega, ?_⟩
      rw [ema2]
      refine for_range (lo := 0) (n := ma) (fun i σ G => ∃ (y10 y11 : Option V) (as : List Addr) (ss : List KnA.Stp), σ = [some (.int c), some (.ref n), some (.int mo), some (.int ex), some (.ref p4), some (.ref R), some (.int (1 + r0)), some (.int st), some (.ref LB), some (.ref S), y10, y11, none, none, none, none] ∧
          Same H' G ∧ G S = some (.lst (as.map V.ref)) ∧ Stps G as ss ∧ ss.map (·.1) = ls.take i ∧ ∀ x ∈ ss, x.2.1 ∈ names ∧ x.2.2 ∈ ls)
        ⟨none, none, [], [], rfl, sS, upd_same, .nil, rfl, fun x hx => nomatch hx⟩ (fun i σ G hi hP => ?_) (fun σ G hP => ?_)
      · obtain ⟨y10, y11, as, ss, rfl, SG, eS, hst', hf, hg⟩ := hP
        have e0 : (0 : Int) + (i : Nat) = (i : Nat) := by omega
        rw [e0]
        have hi8 : i < mo := by omega
        obtain ⟨ra, ga, la0, ua⟩ := rat (5 + 2 * ((i : Nat) : Int)) (5 + 2 * i + 0) _ (by omega) ((szM_base (n := names.length) (ex := ex) hi8 (j := 0) (by omega)).trans rfl)
        obtain ⟨rb, gb, lb0, ub⟩ := rat (6 + 2 * ((i : Nat) : Int)) (5 + 2 * i + 1) _ (by omega) ((szM_base (n := names.length) (ex := ex) hi8 (j := 1) (by omega)).trans rfl)
        obtain ⟨wd, hwd, gwd⟩ := nat_ (1 + ra) (by omega) (by omega)
        have hil : i < ls.length := by omega
        have gl : ls[i]? = some ls[i] := List.getElem?_eq_getElem hil
        have gla : atI (ls.map V.int) ((i : Nat) : Int) = some (.int ls[i]) := atI_nat (by rw [List.getElem?_map, gl]; rfl)
        have h1 := Int.emod_nonneg rb (show 1 + r0 ≠ 0 by omega)
        have h2 := Int.emod_lt_of_pos rb (show 0 < 1 + r0 by omega)
        obtain ⟨tg, htg, gtg⟩ := latx (rb % (1 + r0)) h1 h2
        have eLG := SG _ _ eL9
        have eRG := SG _ _ eR9
        have enG := SG _ _ hn9
        refine ⟨.ref n, rfl, .ref R, rfl, .int (i : Nat), rfl, 2, (i : Nat), rfl, rfl, .inl ⟨by decide, by decide⟩, 5, _, rfl, rfl, R, rs.map V.int, _, .int ra, rfl, rfl, .inl (.inl eRG), ga, 1, ra, rfl, rfl, n, names.map V.str, _, .str wd, rfl, rfl, .inl (.inl enG), gwd, ?_⟩
        refine ⟨.ref S, rfl, .inl ⟨rfl, _, .inl (.inl eS)⟩, .ref LB, rfl, .int (i : Nat), rfl, LB, ls.map V.int, _, .int ls[i], rfl, rfl, .inl (.inl eLG), gla, .str wd, rfl, .ref LB, rfl, .ref R, rfl, .int (i : Nat), rfl, 2, (i : Nat), rfl, rfl, .inl ⟨by decide, by decide⟩, 6, _, rfl, rfl, R, rs.map V.int, _, .int rb, rfl, rfl, .inl (.inl eRG), gb,
          .inl ⟨rb, rfl, .int (1 + r0), rfl, rb, 1 + r0, rfl, rfl, (by omega : (0 : Int) < 1 + r0), LB, ls.map V.int, _, .int tg, rfl, rfl, .inl (.inl eLG), gtg, szl rfl, fun TT nT => ?_⟩⟩
        have sT := same_upd (o := .tup [.int ls[i], .str wd, .int tg]) nT
        have lss : ss.length ≤ i := by
          have := congrArg List.length hf
          rw [List.length_map, List.length_take] at this
          omega
        refine ⟨S, as.map V.ref, .ref TT, rfl, rfl, sT _ _ eS, small (by rw [List.length_map, hst'.length]; omega), ?_⟩
        refine ⟨_, _, as ++ [TT], ss ++ [(ls[i], wd, tg)], rfl, same_set nS (SG.trans sT), by rw [upd_same, List.map_append]; rfl, ?_, ?_, fun x hx => ?_⟩
        · exact Paired.mapP ((hst'.mono sT).snoc (show (upd G TT (.tup [.int ls[i], .str wd, .int tg])) TT = some (tup3 (ls[i], wd, tg)) from upd_same)) fun b _ e => (upd_ne (ne_of e (sT _ _ eS) (fun z => by cases z))).trans e
        · rw [List.map_append, hf, take_more gl]; rfl
        · rcases List.mem_append.mp hx with hx | hx
          · exact hg x hx
          · rw [List.mem_singleton.mp hx]; exact ⟨hwd, htg⟩
      · obtain ⟨y10, y11, as, ss, rfl, SG, eS, hst', hf, hg⟩ := hP
        have hfull : ss.map (·.1) = ls := by rw [hf, List.take_of_length_le (by omega)]
        have hlen0 : ss.length = ma := by
          have := congrArg List.length hfull
          rw [List.length_map] at this
          omega
        have ndss : (ss.map (·.1)).Nodup := by rw [hfull]; exact ndl
        have dr0 : Drawn ls names ss 1 := ⟨nodup_base ndss, fun x hx => ⟨by rw [← hfull]; exact List.mem_map.mpr ⟨x, hx, rfl⟩, hg x hx⟩, fun s => cnt_base ndss s⟩
        have all0 : ∀ x ∈ ls, ∃ w y, (x, w, y) ∈ ss := fun x hx => by
          rw [← hfull] at hx
          obtain ⟨u, hu, e⟩ := List.mem_map.mp hx
          exact ⟨u.2.1, u.2.2, by rw [← e]; exact hu⟩
        refine ⟨.ref R, rfl, R, rs.map V.int, 1, .int r1, rfl, rfl, .inl (.inl (SG _ _ eR9)), atI_nat (j := 1) g1, r1, rfl, by omega, by omega, ?_⟩
        refine for_range (lo := 0) (n := r1.toNat) (fun i σ G => ∃ (y10 y11 y12 y13 : Option V) (as : List Addr) (ss : List KnA.Stp), σ = [some (.int c), some (.ref n), some (.int mo), some (.int ex), some (.ref p4), some (.ref R), some (.int (1 + r0)), some (.int st), some (.ref LB), some (.ref S), y10, y11, y12, y13, none, none] ∧
          Same H' G ∧ G S = some (.lst (as.map V.ref)) ∧ Stps G as ss ∧ Drawn ls names ss (1 + i) ∧ (∀ x ∈ ls, ∃ w y, (x, w, y) ∈ ss) ∧ ss.length ≤ ma + i)
          ⟨_, _, _, _, as, ss, rfl, SG, eS, hst', dr0, all0, by omega⟩ (fun i σ G hi hP => ?_) (fun σ G hP => ?_)
        · obtain ⟨y10, y11, y12, y13, as, ss, rfl, SG, eS, hst', dr, al, lss⟩ := hP
          have e0 : (0 : Int) + (i : Nat) = (i : Nat) := by omega
          rw [e0]
          have hi6 : i < ex := by omega
          have eLG := SG _ _ eL9
          have eRG := SG _ _ eR9
          have enG := SG _ _ hn9
          have e4G := SG _ _ e49
          have lat : ∀ (j : Nat) (t : Int), ([(mo : Int), (names.length : Int) + 2, (mo : Int)] : List Int)[j]? = some t → ∃ r, atI (rs.map V.int) (((5 + 2 * mo : Nat) : Int) + 3 * ((i : Nat) : Int) + (j : Nat)) = some (.int r) ∧ 0 ≤ r := fun j t e => by
            have hj : j < 3 := (List.getElem?_eq_some_iff.mp e).1
            obtain ⟨r, a, b, _⟩ := rat (((5 + 2 * mo : Nat) : Int) + 3 * ((i : Nat) : Int) + (j : Nat)) (5 + 2 * mo + 3 * i + j) t (by omega) ((szM_more hi6 hj).trans e)
            exact ⟨r, a, b⟩
          obtain ⟨ru, gu, lu⟩ := lat 0 _ rfl
          obtain ⟨rw_, gw, lw⟩ := lat 1 _ rfl
          obtain ⟨rv, gv, lv⟩ := lat 2 _ rfl
          have gu' : atI (rs.map V.int) (((5 + 2 * mo : Nat) : Int) + 3 * ((i : Nat) : Int)) = some (.int ru) := by
            have z : ((5 + 2 * mo : Nat) : Int) + 3 * ((i : Nat) : Int) + ((0 : Nat) : Int) = ((5 + 2 * mo : Nat) : Int) + 3 * ((i : Nat) : Int) := by omega
            rw [z] at gu; exact gu
          obtain ⟨wd, hwd, gwd⟩ := nat_ (rw_ % (names.length : Int)) (Int.emod_nonneg _ (by omega)) (Int.emod_lt_of_pos _ (by omega))
          obtain ⟨xu, hxu, gxu⟩ := latx (ru % (1 + r0)) (Int.emod_nonneg _ (by omega)) (Int.emod_lt_of_pos _ (by omega))
          obtain ⟨xv, hxv, gxv⟩ := latx (rv % (1 + r0)) (Int.emod_nonneg _ (by omega)) (Int.emod_lt_of_pos _ (by omega))
          refine ⟨.ref p4, rfl, .ref p4, 5 + 2 * mo, rfl, .inl ⟨_, .inl (.inl e4G), len4.symm⟩, .int (i : Nat), rfl, 3, (i : Nat), rfl, rfl, .inl ⟨by decide, by decide⟩, ((5 + 2 * mo : Nat) : Int), _, rfl, rfl, ?_⟩
          refine ⟨.ref n, rfl, .ref R, rfl, .int (((5 + 2 * mo : Nat) : Int) + 3 * ((i : Nat) : Int)), rfl, _, 1, rfl, rfl, R, rs.map V.int, _, .int rw_, rfl, rfl, .inl (.inl eRG), gw, .inl ⟨rw_, rfl, .ref n, rfl, .ref n, names.length, rfl, lenN (sL.trans SG), rw_, (names.length : Int), rfl, rfl, (show (0 : Int) < (names.length : Int) by omega), n, names.map V.str, _, .str wd, rfl, rfl, .inl (.inl enG), gwd, ?_⟩⟩
          refine ⟨.ref LB, rfl, .ref R, rfl, .int (((5 + 2 * mo : Nat) : Int) + 3 * ((i : Nat) : Int)), rfl, R, rs.map V.int, _, .int ru, rfl, rfl, .inl (.inl eRG), gu', .inl ⟨ru, rfl, .int (1 + r0), rfl, ru, 1 + r0, rfl, rfl, (show (0 : Int) < 1 + r0 by omega), LB, ls.map V.int, _, .int xu, rfl, rfl, .inl (.inl eLG), gxu, .str wd, rfl, szl rfl, fun T1 nT1 => ?_⟩⟩
          have sT1 := same_upd (o := .tup [.int xu, .str wd]) nT1
          refine ⟨.ref T1, rfl, .ref LB, rfl, .ref R, rfl, .int (((5 + 2 * mo : Nat) : Int) + 3 * ((i : Nat) : Int)), rfl, _, 2, rfl, rfl, R, rs.map V.int, _, .int rv, rfl, rfl, .inl (.inl (sT1 _ _ eRG)), gv, .inl ⟨rv, rfl, .int (1 + r0), rfl, rv, 1 + r0, rfl, rfl, (show (0 : Int) < 1 + r0 by omega), LB, ls.map V.int, _, .int xv, rfl, rfl, .inl (.inl (sT1 _ _ eLG)), gxv, szl rfl, fun T2 nT2 => ?_⟩⟩
          have sT2 := same_upd (o := .tup [.int xv]) nT2
          refine ⟨T1, T2, [.int xu, .str wd], [.int xv], rfl, rfl, .inl (.inl (sT2 _ _ upd_same)), .inl (.inl upd_same), (fun z => by cases z), smallE (by show 2 + 1 ≤ 100000; decide), (fun z => by cases z), fun _ T3 nT3 => ?_⟩
          have sT3 := same_upd (o := .tup ([.int xu, .str wd] ++ [.int xv])) nT3
          have S3 := sT1.trans (sT2.trans sT3)
          have eT3 : (upd (upd (upd G T1 (.tup [.int xu, .str wd])) T2 (.tup [.int xv])) T3 (.tup ([.int xu, .str wd] ++ [.int xv]))) T3 = some (tup3 (xu, wd, xv)) := upd_same
          generalize upd (upd (upd G T1 (.tup [.int xu, .str wd])) T2 (.tup [.int xv])) T3 (.tup ([.int xu, .str wd] ++ [.int xv])) = G3 at S3 eT3
          have eS3 := S3 _ _ eS
          have hst3 := hst'.mono S3
          have names_ : ∀ x ∈ ss, nameB (.str x.2.1) = true := fun x hx => hnm _ (dr.good x hx).2.1
          refine ⟨.ref T3, rfl, .ref S, rfl, dat (xu, wd, xv), ss.map dat, .tup (.inl (.inl eT3)) (.cons (.int _) (.cons (.str _) (.cons (.int _) .nil))), .lst (.inl (.inl eS3)) (dps hst3), dat_shaped (x := (xu, wd, xv)) (hnm _ hwd), dats_shaped names_, _, rfl, ?_⟩
          show if (!((ss.map dat).any fun z => PyData.eqv z (dat (xu, wd, xv)))) = true then _ else _
          rw [dat_any]
          by_cases z : (xu, wd, xv) ∈ ss
          · rw [decide_eq_true z]
            exact iteF ⟨_, _, _, _, as, ss, rfl, SG.trans S3, eS3, hst3, dr.up (by omega), al, by omega⟩
          · rw [decide_eq_false z]
            refine iteT ⟨.ref S, rfl, .inl ⟨rfl, _, .inl (.inl eS3)⟩, .ref T3, rfl, S, as.map V.ref, .ref T3, rfl, rfl, eS3, small (by rw [List.length_map, hst3.length]; omega), ?_⟩
            refine ⟨_, _, _, _, as ++ [T3], ss ++ [(xu, wd, xv)], rfl, same_set nS (SG.trans S3), by rw [upd_same, List.map_append]; rfl, ?_, dr.push z ⟨hxu, hwd, hxv⟩, fun x hx => ?_, ?_⟩
            · exact Paired.mapP (hst3.snoc eT3) fun b _ e => (upd_ne (ne_of e eS3 (fun z => by cases z))).trans e
            · obtain ⟨w, y, hm⟩ := al x hx
              exact ⟨w, y, List.mem_append.mpr (.inl hm)⟩
            · rw [List.length_append]; show ss.length + 1 ≤ _; omega
        · obtain ⟨y10, y11, y12, y13, as, ss, rfl, SG, eS, hst', dr, al, lss⟩ := hP
          obtain ⟨w0, hw0, gw0⟩ := nat_ 0 (by omega) (by omega)
          have iw0 : names[0]? = some w0 := by
            have g : (names.map V.str)[0]? = some (.str names[0]) := by rw [List.getElem?_map, List.getElem?_eq_getElem (by omega)]; rfl
            rw [show (0 : Int) = ((0 : Nat) : Int) from rfl, atI_nat g] at gw0
            rw [List.getElem?_eq_getElem (by omega)]
            exact congrArg some (V.str.inj (Option.some.inj gw0))
          refine KnC.nx_if (fun σ2 G => ∃ (y10 y11 y12 y13 y14 : Option V) (as : List Addr) (ss : List KnA.Stp), σ2 = [some (.int c), some (.ref n), some (.int mo), some (.int ex), some (.ref p4), some (.ref R), some (.int (1 + r0)), some (.int st), some (.ref LB), some (.ref S), y10, y11, y12, y13, y14, none] ∧
            Same H' G ∧ G S = some (.lst (as.map V.ref)) ∧ Stps G as ss ∧ Drawn ls names ss 8 ∧ (∀ x ∈ ls, ∃ w y, (x, w, y) ∈ ss) ∧ ss.length ≤ ma + r1.toNat + 1 ∧ w0 ∈ ss.map (·.2.1)) (fun go => ?_) (fun σ2 G hT => ?_)
          · refine ⟨.ref S, rfl, S, rfl, ⟨_, .inl (.inl eS)⟩, fun D nD => ?_⟩
            refine lc_list (K := K) (xs := as.map V.ref) (fun i G' => Same G G' ∧ ∃ vs : List V, G' D = some (.lst vs) ∧ vs.length = ((ss.take i).filter fun x => decide (x.2.1 = w0)).length) ⟨same_upd nD, [], upd_same, rfl⟩ (fun i G' _ hP => .inl (.inl (hP.1 _ _ eS))) (fun i x G' hx hP => ?_) (fun G' hP => ?_)
            · obtain ⟨S1, vs, eD, lvs⟩ := hP
              obtain ⟨ai, u, rfl, gi, g, hai⟩ := ref_get (hst'.mono S1) hx
              have hi : i < ss.length := (List.getElem?_eq_some_iff.mp g).1
              refine ⟨rfl, .ref ai, rfl, ai, [.int u.1, .str u.2.1, .int u.2.2], 1, .str u.2.1, rfl, rfl, .inl (.inl hai), atI_nat (j := 1) rfl, .ref n, rfl, n, names.map V.str, 0, .str w0, rfl, rfl, .inl (.inl (S1 _ _ (SG _ _ hn9))), gw0, rfl, _, rfl, ?_⟩
              rw [str_dec]
              by_cases z : u.2.1 = w0
              · rw [decide_eq_true z]
                refine iteT ⟨.ref ai, rfl, vs, eD, small (by have := List.length_filter_le (fun x : KnA.Stp => decide (x.2.1 = w0)) (ss.take i); rw [List.length_take] at this; omega), same_set nD S1, vs ++ [.ref ai], upd_same, ?_⟩
                rw [List.length_append, lvs, take_more g, List.filter_append, List.length_append, List.filter_cons_of_pos (by simp [z])]; rfl
              · rw [decide_eq_false z]
                refine iteF ⟨S1, vs, eD, ?_⟩
                rw [lvs, take_more g, List.filter_append, List.length_append, List.filter_cons_of_neg (by simp [z])]; rfl
            · obtain ⟨S1, vs, eD, lvs⟩ := hP
              rw [List.length_map, hst'.length, List.take_length] at lvs
              refine ⟨.ref D, vs.length, rfl, .inl ⟨vs, .inl (.inl eD), rfl⟩, rfl, _, rfl, ?_⟩
              have stay := SG.trans S1
              by_cases z : vs.length = 0
              · have no : ∀ u ∈ ss, u.2.1 ≠ w0 := fun u hu e => by
                  have hm : u ∈ ss.filter fun x => decide (x.2.1 = w0) := List.mem_filter.mpr ⟨hu, decide_eq_true e⟩
                  have := List.length_pos_of_mem hm
                  omega
                rw [decide_eq_true (show V.int (vs.length : Nat) = V.int 0 by rw [z]; rfl)]
                obtain ⟨xu, hxu, gxu⟩ := latx (r4 / 8 % (1 + r0)) (Int.emod_nonneg _ (by omega)) (Int.emod_lt_of_pos _ (by omega))
                obtain ⟨xv, hxv, gxv⟩ := latx (r4 % (1 + r0)) (Int.emod_nonneg _ (by omega)) (Int.emod_lt_of_pos _ (by omega))
                have eLG := stay _ _ eL9
                have eRG := stay _ _ eR9
                have enG := stay _ _ hn9
                refine iteT ⟨.ref LB, rfl, .ref R, rfl, R, rs.map V.int, 4, .int r4, rfl, rfl, .inl (.inl eRG), atI_nat (j := 4) g4, r4, 8, rfl, rfl, ⟨by decide, by decide⟩, .inl ⟨_, rfl, .int (1 + r0), rfl, _, 1 + r0, rfl, rfl, (show (0 : Int) < 1 + r0 by omega), LB, ls.map V.int, _, .int xu, rfl, rfl, .inl (.inl eLG), gxu, ?_⟩⟩
                refine ⟨.ref S, rfl, .inl ⟨rfl, _, .inl (.inl (S1 _ _ eS))⟩, .ref LB, rfl, .ref R, rfl, R, rs.map V.int, 4, .int r4, rfl, rfl, .inl (.inl eRG), atI_nat (j := 4) g4, .inl ⟨r4, rfl, .int (1 + r0), rfl, r4, 1 + r0, rfl, rfl, (show (0 : Int) < 1 + r0 by omega), LB, ls.map V.int, _, .int xv, rfl, rfl, .inl (.inl eLG), gxv, .ref n, rfl, n, names.map V.str, 0, .str w0, rfl, rfl, .inl (.inl enG), gw0, .int xu, rfl, szl rfl, fun TT nT => ?_⟩⟩
                have sT := same_upd (o := .tup [.int xv, .str w0, .int xu]) nT
                refine ⟨S, as.map V.ref, .ref TT, rfl, rfl, sT _ _ (S1 _ _ eS), small (by rw [List.length_map, hst'.length]; omega), ?_⟩
                refine go _ _ ⟨_, _, _, _, _, as ++ [TT], ss ++ [(xv, w0, xu)], rfl, same_set nS (stay.trans sT), by rw [upd_same, List.map_append]; rfl, ?_, (dr.push (fun hm => no _ hm rfl) ⟨hxv, hw0, hxu⟩).up (by omega), fun x hx => ?_, ?_, ?_⟩
                · exact Paired.mapP ((hst'.mono (S1.trans sT)).snoc (show (upd G' TT (.tup [.int xv, .str w0, .int xu])) TT = some (tup3 (xv, w0, xu)) from upd_same)) fun b _ e => (upd_ne (ne_of e (sT _ _ (S1 _ _ eS)) (fun z => by cases z))).trans e
                · obtain ⟨w, y, hm⟩ := al x hx
                  exact ⟨w, y, List.mem_append.mpr (.inl hm)⟩
                · rw [List.length_append]; show ss.length + 1 ≤ _; omega
                · rw [List.map_append]; exact List.mem_append.mpr (.inr (List.mem_singleton.mpr rfl))
              · rw [decide_eq_false (show ¬ V.int (vs.length : Nat) = V.int 0 from fun e => z (by have := V.int.inj e; omega))]
                have some_ : ∃ u ∈ ss, u.2.1 = w0 := by
                  obtain ⟨u, hu⟩ := List.exists_mem_of_length_pos (l := ss.filter fun x => decide (x.2.1 = w0)) (by omega)
                  obtain ⟨h1, h2⟩ := List.mem_filter.mp hu
                  exact ⟨u, h1, of_decide_eq_true h2⟩
                obtain ⟨u, hu, eu⟩ := some_
                exact iteF (go _ _ ⟨_, _, _, _, _, as, ss, rfl, stay, S1 _ _ eS, hst'.mono S1, dr.up (by omega), al, by omega, List.mem_map.mpr ⟨u, hu, eu⟩⟩)
          · obtain ⟨y10, y11, y12, y13, y14, as, ss, rfl, SG, eS, hst', dr, al, lss, hw⟩ := hT
            have pos : 0 < ss.length := by
              obtain ⟨u, hu, _⟩ := List.mem_map.mp hw
              exact List.length_pos_of_mem hu
            have la : (as.map V.ref).length = ss.length := by rw [List.length_map, hst'.length]
            refine ⟨.ref R, rfl, R, rs.map V.int, 4, .int r4, rfl, rfl, .inl (.inl (SG _ _ eR9)), atI_nat (j := 4) g4, .inl ⟨r4, rfl, .ref S, rfl, .ref S, ss.length, rfl, .inl ⟨_, .inl (.inl eS), la.symm⟩, r4, (ss.length : Int), rfl, rfl, (show (0 : Int) < (ss.length : Int) by omega), ?_⟩⟩
            obtain ⟨tu, etu⟩ : ∃ tu : Nat, r4 % (ss.length : Int) = (tu : Int) := ⟨(r4 % (ss.length : Int)).toNat, by have := Int.emod_nonneg r4 (show (ss.length : Int) ≠ 0 by omega); omega⟩
            refine ⟨.ref LB, rfl, .ref S, rfl, _, rfl, _, rfl, S, as.map V.ref, rfl, .inl (.inl eS), fun A1 nA1 => ?_⟩
            rw [etu, cut_from]
            have sA1 := same_upd (o := .lst ((as.map V.ref).drop tu)) nA1
            refine ⟨.ref S, rfl, _, rfl, _, rfl, S, as.map V.ref, rfl, .inl (.inl (sA1 _ _ eS)), fun A2 nA2 => ?_⟩
            rw [etu, cut_to]
            have sA2 := same_upd (o := .lst ((as.map V.ref).take tu)) nA2
            refine ⟨A1, A2, _, _, rfl, rfl, sA2 _ _ upd_same, upd_same, smallE (by rw [List.length_drop, List.length_take]; omega), fun SL nSL => ⟨szl rfl, fun t nt => ?_⟩⟩
            have sSL := same_upd (o := .lst ((as.map V.ref).drop tu ++ (as.map V.ref).take tu)) nSL
            have st_ := same_upd (o := .lst [.ref LB, .ref SL]) nt
            have S12 := sA1.trans (sA2.trans sSL)
            have Sall := S12.trans st_
            have nSLH : H SL = none := (sL.trans (SG.trans (sA1.trans sA2))).free nSL
            have nls : LB ≠ SL := ne_of_none (sA2 _ _ (sA1 _ _ (SG _ _ eL9))) nSL
            refine q _ t LB SL ls (as.drop tu ++ as.take tu) (ss.drop tu ++ ss.take tu) (sL.trans (SG.trans Sall)) upd_same nLBH nSLH nls (Sall _ _ (SG _ _ eL9)) (by rw [st_ _ _ upd_same, List.map_append, List.map_drop, List.map_take]) (paired_app (paired_drop (hst'.mono Sall) tu) (paired_take (hst'.mono Sall) tu)) ?_
            have pm : (ss.drop tu ++ ss.take tu).Perm ss := by
              have := List.perm_append_comm (l₁ := ss.drop tu) (l₂ := ss.take tu)
              rwa [List.take_append_drop] at this
            refine ⟨fun z => by rw [z] at lenl; have : (0 : Nat) = ma := lenl; omega, by omega, fun x hx => stateB_of (inl x hx), dr.turn tu, fun x hx => ?_, ?_, fun x hx => ?_⟩
            · obtain ⟨w, y, hm⟩ := al x hx
              exact ⟨w, y, pm.mem_iff.mpr hm⟩
            · rw [pm.length_eq]; omega
            · rw [iw0] at hx
              cases hx
              exact (pm.map _).mem_iff.mpr hw

end
end Kn

set_option Elab.async false
set_option linter.all false
set_option maxRecDepth 100000
set_option maxHeartbeats 4000000
namespace Kn
open PySem PySem.Spec PyProof.Rows L2
open C8 (Cal pe_c pe_gc Mak pe_mk)
section
variable {P : Program} {w : World} {K : PySem.W.Frag} {mg : Str → Option Value} {base : Heap}
/-! ### things, with what their items are -/
theorem Val.there {K : PySem.W.Frag} {H G : Hp} {c : Addr} {o : HO} (h : Val K H (.ref c)) (s : Same H G) (e : G c = some o) : H c = some o := by
  cases h with
  | lst e' => rw [s _ _ e'] at e; rw [e', e]
  | tup e' => rw [s _ _ e'] at e; rw [e', e]
  | dK e' => rw [s _ _ e'] at e; rw [e', e]
structure Thing (K : PySem.W.Frag) (H : Hp) (v : V) : Prop where
  hv : Val K H v
  hz : ∀ z, v = .str z → z.cps.size ≤ 13
  hr : ∀ xs, rowOf H v = some xs → xs.length ≤ 1 ∧ ∀ x ∈ xs, Val K H x ∧ ∀ a ys, x = .ref a → H a ≠ some (.tup ys)
theorem Thing.mono {K : PySem.W.Frag} {H G : Hp} {v : V} (h : Thing K H v) (s : Same H G) : Thing K G v := by
  refine ⟨h.hv.mono s, h.hz, fun xs e => ?_⟩
  rw [rowOf_mono h.hv s] at e
  obtain ⟨l, hx⟩ := h.hr xs e
  refine ⟨l, fun x q => ⟨(hx x q).1.mono s, fun a ys ea ga => ?_⟩⟩
  subst ea
  exact (hx _ q).2 a ys rfl ((hx _ q).1.there s ga)
theorem Thing.val2 {K : PySem.W.Frag} {H : Hp} {v : V} (h : Thing K H v) : Val2 K H v :=
  ⟨h.hv, fun a xs e ha x hx => ((h.hr xs (by subst e; show itemsOf (H a) = _; rw [ha]; rfl)).2 x hx).1⟩
theorem Thing.items {K : PySem.W.Frag} {H : Hp} {v : V} (h : Thing K H v) {xs : List V} (e : rowOf H v = some xs) : xs.length ≤ 1 ∧ (∀ x ∈ xs, Val2 K H x) ∧ ∀ x ∈ xs, stepOf H x = none := by
  obtain ⟨l, hx⟩ := h.hr xs e
  refine ⟨l, fun x q => ⟨(hx x q).1, fun a ys ea ga => ((hx x q).2 a ys ea ga).elim⟩, fun x q => ?_⟩
  obtain ⟨v1, v2⟩ := hx x q
  cases x with
  | ref a =>
    show tupOf (H a) = none
    cases g : H a with
    | none => rfl
    | some o =>
      cases o with
      | tup ys => exact (v2 a ys rfl g).elim
      | _ => rfl
  | _ => rfl
theorem Thing.flat {K : PySem.W.Frag} {H : Hp} {v : V} (h : Val K H v) (z : ∀ z, v = .str z → z.cps.size ≤ 13) (r : rowOf H v = none) : Thing K H v := ⟨h, z, fun xs e => by rw [r] at e; cases e⟩
/-- the deep list -/
structure DeepAt (H : Hp) (p : Addr) (xs : List V) : Prop where
  at_ : H p = some (.lst xs)
  l : xs.length ≤ 1
  it : ∀ x ∈ xs, ∃ c ys, x = V.ref c ∧ H c = some (.lst ys)
theorem DeepAt.mono {H G : Hp} {p : Addr} {xs : List V} (h : DeepAt H p xs) (s : Same H G) : DeepAt G p xs := ⟨s _ _ h.at_, h.l, fun x hx => by
  obtain ⟨c, ys, e, g⟩ := h.it x hx
  exact ⟨c, ys, e, s _ _ g⟩⟩
theorem DeepAt.setL {H : Hp} {p L : Addr} {xs zs : List V} (h : DeepAt H p xs) (n : p ≠ L) : DeepAt (upd H L (.lst zs)) p xs := ⟨(upd_ne n).trans h.at_, h.l, fun x hx => by
  obtain ⟨c, ys, e, g⟩ := h.it x hx
  by_cases q : c = L
  · exact ⟨c, zs, e, by rw [q, upd_same]⟩
  · exact ⟨c, ys, e, (upd_ne q).trans g⟩⟩
theorem DeepAt.thing {K : PySem.W.Frag} {H : Hp} {p : Addr} {xs : List V} (h : DeepAt H p xs) : Thing K H (.ref p) := ⟨.lst h.at_, fun _ e => (by cases e), fun ys e => by
  have e' : itemsOf (H p) = some ys := e
  rw [h.at_] at e'
  cases e'
  refine ⟨h.l, fun x hx => ?_⟩
  obtain ⟨c, ys, rfl, g⟩ := h.it x hx
  exact ⟨.lst g, fun a zs ea ga => by cases ea; rw [g] at ga; cases ga⟩⟩
def sp__law_deep (_ : PySem.W.Frag) : Sp := fun vs H Q _ => ∃ m : Int, vs = [.int m] ∧ 0 ≤ m ∧ m < 100000 ∧ ∀ H' p xs, Same H H' → H p = none → DeepAt H' p xs → Q (.ref p) H'
def sp__law_thing (K : PySem.W.Frag) : Sp := fun vs H Q _ => ∃ d : Int, vs = [.int d] ∧ ∀ v H', Same H H' → Thing K H' v → Q v H'
theorem ok__law_deep {f : Addr} {C : Addr} {fd : FuncData} (T : Txt K mg C) (F : Fun K "_law_deep" "_law_deep" s__law_deep f fd)  : FnOk P w K mg base CX0 1 f fd ["_law_many"] (sp__law_deep K) := by
  have nd := sc__law_deep.nd
  refine F.ok sc__law_deep (fun vs H Q E h => ?_) (fun cdv A outer s H vs Q E hr h => ?_)
  · obtain ⟨m, rfl, _⟩ := h
    rfl
  · obtain ⟨m, rfl, m0, m1, q⟩ := h
    refine ⟨_, (pss_cons (ps_set (i := 1) nd rfl (.inl rfl) (pe_lst pa_nil))
      (pss_cons (ps_for PassesOwn.never rfl (pi_range1 (by rfl) T.m_range (pa_cons (pv 0) pa_nil)) (pg_name (i := 2) nd rfl (.inl rfl)) (pss_one (ps_set (i := 1) nd rfl (.inl rfl) (pe_lst (pa_cons (pv 1) pa_nil)))))
      (pss_one (ps_ret (pv 1))))), ?_⟩
    refine ⟨Nat.zero_le _, fun R nR => ⟨.int m, rfl, m, rfl, by omega, by omega, ?_⟩⟩
    refine for_range (lo := 0) (fun i σ H' => ∃ (p : Addr) (y : Option V) (xs : List V), σ = [some (.int m), some (.ref p), y] ∧ Same H H' ∧ H p = none ∧ DeepAt H' p xs)
      ⟨R, none, [], rfl, same_upd nR, nR, upd_same, Nat.zero_le _, fun x hx => nomatch hx⟩ (fun i σ H' hi hP => ?_) (fun σ H' hP => ?_)
    · obtain ⟨p, y, xs, rfl, sm, np, ep⟩ := hP
      exact ⟨.ref p, rfl, szl rfl, fun p2 n2 => ⟨p2, _, _, rfl, sm.trans (same_upd n2), sm.free n2, upd_same, Nat.le_refl _, fun x hx => ⟨p, xs, List.mem_singleton.mp hx, same_upd n2 _ _ ep.at_⟩⟩⟩
    · obtain ⟨p, y, xs, rfl, sm, np, ep⟩ := hP
      exact ⟨.ref p, rfl, q H' p xs sm np ep⟩
theorem thing_at {K : PySem.W.Frag} {H : Hp} {xs : List V} (h : ∀ v ∈ xs, Thing K H v) {m : Int} {n : Nat} (hn : n = xs.length) (h0 : 0 < n) : ∃ v, atI xs (m % (n : Int)) = some v ∧ Thing K H v := by
  have l : 0 ≤ m % (n : Int) := Int.emod_nonneg _ (by omega)
  have u : m % (n : Int) < (n : Int) := Int.emod_lt_of_pos _ (by omega)
  obtain ⟨j, hj⟩ : ∃ j : Nat, m % (n : Int) = (j : Int) := ⟨(m % (n : Int)).toNat, by omega⟩
  have hj2 : j < xs.length := by omega
  exact ⟨xs[j], by rw [hj]; exact atI_nat (List.getElem?_eq_getElem hj2), h _ (List.getElem_mem hj2)⟩
def things0 (p1 p2 p3 p4 p5 : Addr) : List V := [.non, .bl true, .bl false, .int (-1), .int 100, .int (10 ^ (40 : Int).toNat), .str "", .str "a b", .str "Abc", .str "abcdefghijklm", .ref p1, .ref p2, .ref p3, .ref p4, .ref p5, .str "a\n"]
theorem things_all {H5 : Hp} {p1 p2 p3 p4 p5 : Addr} (v1 : Thing K H5 (.ref p1)) (v2 : Thing K H5 (.ref p2)) (v3 : Thing K H5 (.ref p3)) (v4 : Thing K H5 (.ref p4)) (v5 : Thing K H5 (.ref p5)) : ∀ v ∈ things0 p1 p2 p3 p4 p5, Thing K H5 v := by
  have st : ∀ z : Str, z.cps.size ≤ 13 → Thing K H5 (.str z) := fun z hz => .flat (.str z (by omega)) (fun y e => by cases e; exact hz) rfl
  intro v hv
  simp only [things0, List.mem_cons, List.not_mem_nil, or_false] at hv
  rcases hv with rfl | rfl | rfl | rfl | rfl | rfl | rfl | rfl | rfl | rfl | rfl | rfl | rfl | rfl | rfl | rfl
  · exact .flat .non (fun _ e => by cases e) rfl
  · exact .flat (.bl _) (fun _ e => by cases e) rfl
  · exact .flat (.bl _) (fun _ e => by cases e) rfl
  · exact .flat (.int _) (fun _ e => by cases e) rfl
  · exact .flat (.int _) (fun _ e => by cases e) rfl
  · exact .flat (.int _) (fun _ e => by cases e) rfl
  · exact st _ (by decide)
  · exact st _ (by decide)
  · exact st _ (by decide)
  · exact st _ (by decide)
  · exact v1
  · exact v2
  · exact v3
  · exact v4
  · exact v5
  · exact st _ (by decide)
theorem thing_row {H : Hp} {p : Addr} {xs : List V} {b : Bool} (e : H p = some (rowO b xs)) (l : xs.length ≤ 1) (hx : ∀ x ∈ xs, ∃ z : Str, x = .str z ∧ z.cps.size ≤ 100) : Thing K H (.ref p) := by
  refine ⟨?_, fun _ e => (by cases e), fun ys e' => ?_⟩
  · cases b with
    | true => exact .lst e
    | false => exact .tup e
  · have e2 : itemsOf (H p) = some ys := e'
    rw [e] at e2
    have e3 : xs = ys := by cases b <;> exact Option.some.inj e2
    subst e3
    refine ⟨l, fun x hq => ?_⟩
    obtain ⟨z, rfl, hz⟩ := hx x hq
    exact ⟨.str z hz, fun a ys ea => (by cases ea)⟩
theorem ok__law_thing {f : Addr} {C : Addr} {fd : FuncData} (T : Txt K mg C) (F : Fun K "_law_thing" "_law_thing" s__law_thing f fd) (c__law_deep : Cal P w K mg base 1 "_law_deep" (sp__law_deep K) []) : FnOk P w K mg base CX0 2 f fd ["_law_digit"] (sp__law_thing K) := by
  have nd := sc__law_thing.nd
  refine F.ok sc__law_thing (fun vs H Q E h => ?_) (fun cdv A outer s H vs Q E hr h => ?_)
  · obtain ⟨m, rfl, _⟩ := h
    rfl
  · obtain ⟨m, rfl, q⟩ := h
    refine ⟨_, (pss_cons (ps_set (i := 1) nd rfl (.inl rfl) (pe_lst (pa_cons pe_non (pa_cons pe_bl (pa_cons pe_bl (pa_cons (pe_un un_neg pe_int) (pa_cons pe_int (pa_cons (pe_op op_pow pe_int pe_int) (pa_cons pe_str (pa_cons pe_str (pa_cons pe_str pa_nil)))))))))))
      (pss_cons (ps_set (i := 1) nd rfl (.inl rfl) (pe_op op_cat (pv 1) (pe_lst (pa_cons pe_str (pa_cons (pe_lst pa_nil) (pa_cons pe_dnewK (pa_cons (pe_tup pa_nil) (pa_cons (pe_lst (pa_cons pe_str pa_nil)) (pa_cons (pe_tup (pa_cons pe_str pa_nil)) (pa_cons pe_str pa_nil))))))))))
      (pss_cons (ps_expr (pe_bm PySem.F.plainAttrs_list PySem.F.slot_list_append PySem.F.type_list_append mt_append (pv 1) (pa_cons (pe_c c__law_deep hr (by omega) (by rfl) (pa_cons pe_int pa_nil)) pa_nil)))
      (pss_cons (ps_expr (pe_bm PySem.F.plainAttrs_list PySem.F.slot_list_append PySem.F.type_list_append mt_append (pv 1) (pa_cons (pe_disp (pps_cons pe_str pe_int pps_nil) (by rfl) (by rfl) (fun z => by cases z) (by decide)) pa_nil)))
      (pss_one (ps_ret (pe_ix (r := rIxL K) ix_list (pv 1) (pe_op op_mod (pe_callTy call_int1 (by rfl) T.m_int (by decide +kernel) (pa_cons (pv 0) pa_nil)) (pe_callB call_len (by rfl) T.m_len (by decide +kernel) (pa_cons (pv 1) pa_nil))) (fun _ _ => rfl)))))))), ?_⟩
    refine ⟨1, rfl, 10, 40, rfl, rfl, ⟨by decide, by decide, by decide⟩, szl rfl, ?_⟩
    intro p0 n0
    show gName 1 (.ref p0) _ (upd H p0 (.lst [.non, .bl true, .bl false, .int (-1), .int 100, .int (10 ^ (40 : Int).toNat), .str "", .str "a b", .str "Abc"])) _
    have s0 := same_upd (o := .lst [.non, .bl true, .bl false, .int (-1), .int 100, .int (10 ^ (40 : Int).toNat), .str "", .str "a b", .str "Abc"]) n0
    have g0 : (upd H p0 (.lst [.non, .bl true, .bl false, .int (-1), .int 100, .int (10 ^ (40 : Int).toNat), .str "", .str "a b", .str "Abc"])) p0 = some (.lst [.non, .bl true, .bl false, .int (-1), .int 100, .int (10 ^ (40 : Int).toNat), .str "", .str "a b", .str "Abc"]) := upd_same
    generalize upd H p0 (.lst [.non, .bl true, .bl false, .int (-1), .int 100, .int (10 ^ (40 : Int).toNat), .str "", .str "a b", .str "Abc"]) = H0 at s0 g0 ⊢
    refine ⟨.ref p0, rfl, szl rfl, fun p1 n1 => fun p2 n2 => ⟨szl rfl, fun p3 n3 => ⟨szl rfl, fun p4 n4 => ⟨szl rfl, fun p5 n5 => ⟨szl rfl, fun p6 n6 => ?_⟩⟩⟩⟩⟩
    have s1 := same_upd (o := .lst []) n1
    have s2 := same_upd (o := .dK []) n2
    have s3 := same_upd (o := .tup []) n3
    have s4 := same_upd (o := .lst [.str "a"]) n4
    have s5 := same_upd (o := .tup [.str "a"]) n5
    have one : ∀ x ∈ [V.str "a"], ∃ z : Str, x = .str z ∧ z.cps.size ≤ 100 := fun x hx => ⟨"a", List.mem_singleton.mp hx, by decide⟩
    have v1 : Thing K _ (.ref p1) := (((((thing_row (b := true) (xs := []) (H := upd H0 p1 (.lst [])) upd_same (Nat.zero_le _) fun x hx => nomatch hx).mono s2).mono s3).mono s4).mono s5)
    have v2 : Thing K _ (.ref p2) := ((((Thing.flat (K := K) (H := upd (upd H0 p1 (.lst [])) p2 (.dK [])) (.dK upd_same) (fun _ e => by cases e) (by show itemsOf _ = none; rw [upd_same]; rfl)).mono s3).mono s4).mono s5)
    have v3 : Thing K _ (.ref p3) := (((thing_row (b := false) (xs := []) (H := upd (upd (upd H0 p1 (.lst [])) p2 (.dK [])) p3 (.tup [])) upd_same (Nat.zero_le _) fun x hx => nomatch hx).mono s4).mono s5)
    have v4 : Thing K _ (.ref p4) := ((thing_row (b := true) (xs := [.str "a"]) (H := upd (upd (upd (upd H0 p1 (.lst [])) p2 (.dK [])) p3 (.tup [])) p4 (.lst [.str "a"])) upd_same (Nat.le_refl _) one).mono s5)
    have v5 : Thing K _ (.ref p5) := thing_row (b := false) (xs := [.str "a"]) (H := upd (upd (upd (upd (upd H0 p1 (.lst [])) p2 (.dK [])) p3 (.tup [])) p4 (.lst [.str "a"])) p5 (.tup [.str "a"])) upd_same (Nat.le_refl _) one
    have s05 : Same H0 _ := s1.trans (s2.trans (s3.trans (s4.trans s5)))
    have s15 : Same H _ := s0.trans s05
    have g5 := s05 _ _ g0
    generalize upd (upd (upd (upd (upd H0 p1 (.lst [])) p2 (.dK [])) p3 (.tup [])) p4 (.lst [.str "a"])) p5 (.tup [.str "a"]) = H5 at n6 s05 s15 g5 v1 v2 v3 v4 v5 ⊢
    have all0 := things_all v1 v2 v3 v4 v5
    have s6 := same_upd (o := .lst [.str "abcdefghijklm", .ref p1, .ref p2, .ref p3, .ref p4, .ref p5, .str "a\n"]) n6
    refine ⟨p0, p6, _, _, rfl, rfl, s6 _ _ g5, upd_same, smallE (by show 9 + 7 ≤ 100000; decide), ?_⟩
    intro L nL
    have nLH := (s15.trans s6).free nL
    have nL5 := s6.free nL
    have sL : Same H5 (upd (upd H5 p6 (.lst [.str "abcdefghijklm", .ref p1, .ref p2, .ref p3, .ref p4, .ref p5, .str "a\n"])) L (.lst (things0 p1 p2 p3 p4 p5))) := s6.trans (same_upd nL)
    have gL : (upd (upd H5 p6 (.lst [.str "abcdefghijklm", .ref p1, .ref p2, .ref p3, .ref p4, .ref p5, .str "a\n"])) L (.lst (things0 p1 p2 p3 p4 p5))) L = some (.lst (things0 p1 p2 p3 p4 p5)) := upd_same
    refine ⟨.ref L, rfl, .inl ⟨rfl, things0 p1 p2 p3 p4 p5, .inl (.inl upd_same)⟩, 1980, rfl, (by decide), (by decide), fun H6 pd xd sd nd6 ed => ?_⟩
    have eL := sd _ _ gL
    have npd : pd ≠ L := fun z => by subst z; exact absurd (nd6.symm.trans gL) (by intro h; cases h)
    have sm6 := sL.trans sd
    have l0 : (things0 p1 p2 p3 p4 p5).length = 16 := rfl
    clear gL
    generalize things0 p1 p2 p3 p4 p5 = xs0 at eL all0 l0
    refine ⟨L, xs0, .ref pd, rfl, rfl, eL, small (by omega), ?_⟩
    have ed7 := ed.setL (zs := xs0 ++ [V.ref pd]) npd
    have sm7 : Same H5 (upd H6 L (.lst (xs0 ++ [V.ref pd]))) := same_set nL5 sm6
    have eL7 : (upd H6 L (.lst (xs0 ++ [V.ref pd]))) L = some (.lst (xs0 ++ [V.ref pd])) := upd_same
    generalize upd H6 L (.lst (xs0 ++ [V.ref pd])) = H7 at ed7 sm7 eL7 ⊢
    -- things.append({'a': 1})
    refine ⟨.ref L, rfl, .inl ⟨rfl, _, .inl (.inl eL7)⟩, fun p8 n8 => ⟨upd_same, [(Sum.inr "a", .int 1)], rfl, (by decide), ?_⟩⟩
    have e8 : upd (upd H7 p8 (.dK [])) p8 (.dK (mergeK [] [(Sum.inr "a", .int 1)])) = upd H7 p8 (.dK (mergeK [] [(Sum.inr "a", .int 1)])) := upd_upd
    rw [e8]
    have s8 := same_upd (o := .dK (mergeK [] [(Sum.inr "a", .int 1)])) n8
    have np8 : p8 ≠ L := fun z => by rw [z, eL7] at n8; cases n8
    refine ⟨L, xs0 ++ [V.ref pd], .ref p8, rfl, rfl, s8 _ _ eL7, small (by rw [List.length_append, l0]; show 16 + 1 ≤ 100000; decide), ?_⟩
    have ed9 := (ed7.mono s8).setL (zs := xs0 ++ [V.ref pd] ++ [V.ref p8]) npd
    have sm9 : Same H5 (upd (upd H7 p8 (.dK (mergeK [] [(Sum.inr "a", .int 1)]))) L (.lst (xs0 ++ [V.ref pd] ++ [V.ref p8]))) := same_set nL5 (sm7.trans s8)
    have eL9 : (upd (upd H7 p8 (.dK (mergeK [] [(Sum.inr "a", .int 1)]))) L (.lst (xs0 ++ [V.ref pd] ++ [V.ref p8]))) L = some (.lst (xs0 ++ [V.ref pd] ++ [V.ref p8])) := upd_same
    have e89 : (upd (upd H7 p8 (.dK (mergeK [] [(Sum.inr "a", .int 1)]))) L (.lst (xs0 ++ [V.ref pd] ++ [V.ref p8]))) p8 = some (.dK (mergeK [] [(Sum.inr "a", .int 1)])) := (upd_ne np8).trans upd_same
    generalize upd (upd H7 p8 (.dK (mergeK [] [(Sum.inr "a", .int 1)]))) L (.lst (xs0 ++ [V.ref pd] ++ [V.ref p8])) = H9 at ed9 sm9 eL9 e89 ⊢
    have all3 : ∀ v ∈ xs0 ++ [V.ref pd] ++ [V.ref p8], Thing K H9 v := fun v hv => by
      rcases List.mem_append.mp hv with hv | hv
      · rcases List.mem_append.mp hv with hv | hv
        · exact (all0 v hv).mono sm9
        · rw [List.mem_singleton.mp hv]; exact ed9.thing
      · rw [List.mem_singleton.mp hv]
        exact .flat (.dK e89) (fun _ e => by cases e) (by show itemsOf (H9 p8) = none; rw [e89]; rfl)
    have l2 : (xs0 ++ [V.ref pd] ++ [V.ref p8]).length = 18 := by rw [List.length_append, List.length_append, l0]; rfl
    generalize xs0 ++ [V.ref pd] ++ [V.ref p8] = xs2 at all3 l2 eL9
    obtain ⟨v, hv, hV⟩ := thing_at all3 (m := m) rfl (by omega)
    exact ⟨.ref L, rfl, .int m, rfl, .inl ⟨m, rfl, .ref L, rfl, .ref L, xs2.length, rfl, .inl ⟨_, .inl (.inl eL9), rfl⟩, m, (xs2.length : Int), rfl, rfl, (show (0 : Int) < (xs2.length : Int) by omega), L, xs2, m % (xs2.length : Int), v, rfl, rfl, .inl (.inl eL9), hv, q v H9 (s15.trans sm9) hV⟩⟩

/-! ### an outcome is one -/
theorem stps_uniq {H : Hp} {as : List Addr} {ss ts : List KnA.Stp} (h : Stps H as ss) : Stps H as ts → ss = ts := by
  induction h generalizing ts with
  | nil => intro k; cases k; rfl
  | @cons a st _ _ e _ ih =>
    intro k
    cases k with
    | @cons _ st' _ _ e' k' =>
      have q : tup3 st = tup3 st' := Option.some.inj (e.symm.trans e')
      simp only [tup3, HO.tup.injEq, List.cons.injEq, V.int.injEq, V.str.injEq, and_true] at q
      obtain ⟨h1, h2, h3⟩ := q
      rw [ih k', show st = st' from Prod.ext h1 (Prod.ext h2 h3)]
theorem RowOk.uniq {H : Hp} {row : V} {b b' : Bool} {a a' : Addr} {as as' : List Addr} {ss ss' : List KnA.Stp} (r : RowOk H row b a as ss) (r' : RowOk H row b' a' as' ss') : ss = ss' := by
  have ea : a = a' := V.ref.inj (r.ev.symm.trans r'.ev)
  subst ea
  have eo : rowO b (as.map V.ref) = rowO b' (as'.map V.ref) := Option.some.inj (r.ha.symm.trans r'.ha)
  have em : as.map V.ref = as'.map V.ref := by
    cases b <;> cases b'
    · exact HO.tup.inj eo
    · cases eo
    · cases eo
    · exact HO.lst.inj eo
  have e2 : as = as' := by
    have inj : ∀ {l m : List Addr}, l.map V.ref = m.map V.ref → l = m := by
      intro l
      induction l with
      | nil => intro m h; cases m with
        | nil => rfl
        | cons x r => cases h
      | cons x r ih => intro m h; cases m with
        | nil => cases h
        | cons y s =>
          rw [List.map_cons, List.map_cons, List.cons.injEq] at h
          rw [V.ref.inj h.1, ih h.2]
    exact inj em
  subst e2
  exact stps_uniq r.st r'.st
theorem scan_good {H : Hp} : ∀ {as : List Addr} {ss : List KnA.Stp} (pre : List KnA.Stp) (i : Nat), Stps H as ss → (∀ x ∈ ss, GoodStep x) → (pre ++ ss).Nodup → (∀ s, cnt (pre ++ ss) s ≤ 8) → scan H (as.map V.ref) pre i = none
  | [], _, pre, i, h, _, _, _ => rfl
  | a :: as, _, pre, i, h, g, nd, c => by
    cases h with
    | @cons _ st _ ss e k =>
      have gs := g st List.mem_cons_self
      have e1 : stepOf H (.ref a) = some st := by
        show tupOf (H a) = some st
        rw [e]
        show (if (stateB (.int st.1) && (nameB (.str st.2.1) && stateB (.int st.2.2))) = true then some (st.1, st.2.1, st.2.2) else none) = some st
        rw [gs.s, gs.w, gs.t]
        rfl
      show (match stepOf H (.ref a) with | none => some i | some st => if st ∈ pre ∨ 8 ≤ cnt pre st.1 then some i else scan H (as.map V.ref) (pre ++ [st]) (i + 1)) = none
      rw [e1]
      show (if st ∈ pre ∨ 8 ≤ cnt pre st.1 then some i else scan H (as.map V.ref) (pre ++ [st]) (i + 1)) = none
      have nin : st ∉ pre := fun q => (List.nodup_append.mp nd).2.2 st q st List.mem_cons_self rfl
      have few : ¬ 8 ≤ cnt pre st.1 := fun q => by
        have h8 := c st.1
        have e2 : cnt (pre ++ st :: ss) st.1 = cnt pre st.1 + cnt (st :: ss) st.1 := by unfold cnt; rw [List.filter_append, List.length_append]
        have e3 : cnt (st :: ss) st.1 = cnt ss st.1 + 1 := by unfold cnt; rw [List.filter_cons_of_pos (by simp), List.length_cons]
        omega
      rw [if_neg (fun z => z.elim nin few)]
      have ea : pre ++ [st] ++ ss = pre ++ st :: ss := by simp
      exact scan_good (pre ++ [st]) (i + 1) k (fun x hx => g x (List.mem_cons_of_mem _ hx)) (by rw [ea]; exact nd) (by rw [ea]; exact c)
theorem RowOk.good {H : Hp} {row : V} {b : Bool} {a : Addr} {as : List Addr} {ss : List KnA.Stp} (r : RowOk H row b a as ss) : stepsBad H row = none := by
  have er : rowOf H row = some (as.map V.ref) := by
    rw [r.ev]
    show itemsOf (H a) = _
    rw [r.ha]
    cases b <;> rfl
  unfold stepsBad
  rw [er]
  show (if 1 ≤ (as.map V.ref).length ∧ (as.map V.ref).length ≤ 80 then (scan H (as.map V.ref) [] 0).map Int.ofNat else some (-1)) = none
  have l : (as.map V.ref).length = ss.length := by rw [List.length_map]; exact r.st.length
  rw [l, if_pos ⟨r.gs.lo, r.gs.hi⟩, scan_good [] 0 r.st r.gs.good r.gs.nd r.gs.few]
  rfl
theorem MOut.det {H : Hp} {v0 row : V} {fs : List (Str × Str)} {o o' : Out} (m : MOut H v0 row fs o) (m' : MOut H v0 row fs o') : o = o' := by
  have bt : ∀ {x : Bool}, x = false → x = true → False := fun h k => by rw [h] at k; cases k
  have bad : ∀ {i : Int} {b : Bool} {a : Addr} {as : List Addr} {ss : List KnA.Stp}, stepsBad H row = some i → RowOk H row b a as ss → False := fun e r => by rw [r.good] at e; cases e
  have ws : ∀ {b b' : Bool} {a a' : Addr} {as as' : List Addr} {ss ss' : List KnA.Stp} {w w' : List Str}, RowOk H row b a as ss → RowOk H row b' a' as' ss' → KnA.Words w (ss.map (·.2.1)) → KnA.Words w' (ss'.map (·.2.1)) → w = w' := fun r r' h h' => by
    have e := r.uniq r'
    subst e
    exact h.uniq h'
  cases m with
  | st h =>
    cases m' with
    | st _ => rfl
    | sp h' => exact (bt h h').elim
    | tm h' => exact (bt h h').elim
    | fa h' => exact (bt h h').elim
    | nl h' => exact (bt h h').elim
    | ok h' => exact (bt h h').elim
  | sp h e =>
    cases m' with
    | st h' => exact (bt h' h).elim
    | sp _ e' => rw [e] at e'; rw [Option.some.inj e']
    | tm _ r => exact (bad e r).elim
    | fa _ r => exact (bad e r).elim
    | nl _ r => exact (bad e r).elim
    | ok _ r => exact (bad e r).elim
  | tm h r w l =>
    cases m' with
    | st h' => exact (bt h' h).elim
    | sp _ e' => exact (bad e' r).elim
    | tm _ _ => rfl
    | fa _ r' w' l' => have := ws r r' w w'; subst this; omega
    | nl _ r' w' l' => have := ws r r' w w'; subst this; omega
    | ok _ r' w' l' => have := ws r r' w w'; subst this; omega
  | fa h r w l e =>
    cases m' with
    | st h' => exact (bt h' h).elim
    | sp _ e' => exact (bad e' r).elim
    | tm _ r' w' l' => have := ws r r' w w'; subst this; omega
    | fa _ r' w' l' e' => have := ws r r' w w'; subst this; rw [e] at e'; rw [Option.some.inj e']
    | nl _ r' w' l' e' => have := ws r r' w w'; subst this; rw [e] at e'; cases e'
    | ok _ r' w' l' e' => have := ws r r' w w'; subst this; rw [e] at e'; cases e'
  | nl h r w l e e0 hn no lo =>
    cases m' with
    | st h' => exact (bt h' h).elim
    | sp _ e' => exact (bad e' r).elim
    | tm _ r' w' l' => have := ws r r' w w'; subst this; omega
    | fa _ r' w' l' e' => have := ws r r' w w'; subst this; rw [e] at e'; cases e'
    | @nl _ _ _ _ _ _ n' _ r' w' l' e' e0' hn' no' lo' =>
      have es := r.uniq r'
      subst es
      have ei := V.int.inj (e0.symm.trans e0')
      subst ei
      rcases Int.lt_trichotomy _ n' with q | q | q
      · exact (lo' _ hn q no).elim
      · rw [q]
      · exact (lo _ hn' q no').elim
    | ok _ r' w' l' e' e0' live =>
      have es := r.uniq r'
      subst es
      have ei := V.int.inj (e0.symm.trans e0')
      subst ei
      exact (live _ hn no).elim
  | ok h r w l e e0 live =>
    cases m' with
    | st h' => exact (bt h' h).elim
    | sp _ e' => exact (bad e' r).elim
    | tm _ r' w' l' => have := ws r r' w w'; subst this; omega
    | fa _ r' w' l' e' => have := ws r r' w w'; subst this; rw [e] at e'; cases e'
    | nl _ r' w' l' e' e0' hn' no' lo' =>
      have es := r.uniq r'
      subst es
      have ei := V.int.inj (e0.symm.trans e0')
      subst ei
      exact (live _ hn' no').elim
    | ok _ _ => rfl

/-! ### rows that are spoiled -/
structure Itm (K : PySem.W.Frag) (H : Hp) (n : Nat) (x : V) : Prop where
  v : Val2 K H x
  b : ∀ a y z t, x = .ref a → H a = some (.tup [y, .str z, t]) → z.cps.size ≤ n
theorem Itm.mono {K : PySem.W.Frag} {H G : Hp} {m n : Nat} {x : V} (h : Itm K H m x) (s : Same H G) (l : m ≤ n) : Itm K G n x :=
  ⟨h.v.mono s, fun a y z t e g => by
    subst e
    exact Nat.le_trans (h.b a y z t rfl (h.v.1.there s g)) l⟩
theorem Thing.itm {K : PySem.W.Frag} {H : Hp} {v : V} (h : Thing K H v) (n : Nat) : Itm K H n v :=
  ⟨h.val2, fun a y z t e g => by
    subst e
    have l := (h.hr [y, .str z, t] (by show itemsOf (H a) = _; rw [g]; rfl)).1
    simp at l⟩
theorem itm_tup {K : PySem.W.Frag} {H : Hp} {n : Nat} {a : Addr} {x y z : V} (e : H a = some (.tup [x, y, z])) (hx : Val K H x) (hy : Val K H y) (hz : Val K H z) (hn : ∀ s, y = .str s → s.cps.size ≤ n) : Itm K H n (.ref a) :=
  ⟨⟨.tup e, fun b xs eb g t ht => by
    cases eb
    rw [e] at g
    cases g
    simp only [List.mem_cons, List.not_mem_nil, or_false] at ht
    rcases ht with rfl | rfl | rfl
    · exact hx
    · exact hy
    · exact hz⟩, fun b y' s t eb g => by
    cases eb
    rw [e] at g
    cases g
    exact hn s rfl⟩
theorem itm_lst {K : PySem.W.Frag} {H : Hp} {n : Nat} {a : Addr} {xs : List V} (e : H a = some (.lst xs)) : Itm K H n (.ref a) :=
  ⟨⟨.lst e, fun b xs eb g => by cases eb; rw [e] at g; cases g⟩, fun b y s t eb g => by cases eb; rw [e] at g; cases g⟩
theorem itm_odd {K : PySem.W.Frag} {H : Hp} {n : Nat} {a : Addr} {xs : List V} (e : H a = some (.tup xs)) (hx : ∀ x ∈ xs, Val K H x) (l : xs.length ≠ 3) : Itm K H n (.ref a) :=
  ⟨⟨.tup e, fun b ys eb g => by cases eb; rw [e] at g; cases g; exact hx⟩, fun b y s t eb g => by cases eb; rw [e] at g; cases g; exact (l rfl).elim⟩
theorem asgc_if {i j : Nat} {x y : V} {c : TT} {t u b : TS} {D : Ends} {ra : VK} {rb rc : L2.St → Hp → Prop} {σ : L2.St} {H : Hp} (T : L2.St → Hp → Prop) (h : (∀ σ2 H2, T σ2 H2 → b D σ2 H2) → tSeq (tIfS c t u) b D ((σ.set i (some x)).set j (some y)) H) (k : ∀ σ2 H2, T σ2 H2 → b D σ2 H2) :
    gName i x σ H (Ends.nx { nx := tSeq (tAsg (tC y) (gName j)) (tSeq (tIfS c t u) b) D, rt := ra, ct := rb, bk := rc }) := h k
def sp__law_spoiled (K : PySem.W.Frag) : Sp := fun vs H Q _ => ∃ (a : Addr) (xs : List V) (k pl d : Int) (n : Nat), vs = [.ref a, .int k, .int pl, .int d] ∧ H a = some (.lst xs) ∧ 0 < xs.length ∧ xs.length ≤ 1000 ∧ (∀ x ∈ xs, Itm K H n x) ∧ 13 ≤ n ∧ n ≤ 90 ∧
  ∀ H' b ys, Same H H' → H' b = some (.lst ys) → ys.length = xs.length → (∀ y ∈ ys, Itm K H' (n + 1) y) → Q (.ref b) H'
theorem ok__law_spoiled {f : Addr} {C : Addr} {fd : FuncData} (T : Txt K mg C) (F : Fun K "_law_spoiled" "_law_spoiled" s__law_spoiled f fd) (c__law_thing : Cal P w K mg base 2 "_law_thing" (sp__law_thing K) []) : FnOk P w K mg base CX0 3 f fd ["_law_rows", "_law_kind", "_law_place", "_law_digit"] (sp__law_spoiled K) := by
  have nd := sc__law_spoiled.nd
  refine F.ok sc__law_spoiled (fun vs H Q E h => ?_) (fun cdv A outer s H vs Q E hr h => ?_)
  · obtain ⟨a, xs, k, pl, d, n, rfl, _⟩ := h
    rfl
  · obtain ⟨a, xs, k, pl, d, n, rfl, ha, l0, l1, hx, n13, n90, q⟩ := h
    refine ⟨_, (pss_cons (ps_set (i := 4) nd rfl (.inl rfl) (pe_op op_mod (pe_callTy call_int1 (by rfl) T.m_int (by decide +kernel) (pa_cons (pv 2) pa_nil)) (pe_callB call_len (by rfl) T.m_len (by decide +kernel) (pa_cons (pv 0) pa_nil))))
      (pss_cons (ps_set (i := 5) nd rfl (.inl rfl) (pe_ix (r := rIxL K) ix_list (pv 0) (pv 4) (fun _ _ => rfl)))
      (pss_cons (ps_if (PW.pt (pw_or (pt_not (pt_val (pe_callB call_isi (by rfl) T.m_isinstance (by decide +kernel) (pa_cons (pv 5) (pa_cons (pe_bltn (v := .ty "tuple") (u := .type "tuple") (by rfl) T.m_tuple (by decide +kernel) rfl) pa_nil))))) (pw_or1 (pt_cmpR op_ne (pe_callB call_len (by rfl) T.m_len (by decide +kernel) (pa_cons (pv 5) pa_nil)) pe_int (nomark _))))) (pss_one (ps_ret (pv 0))) pss_nil)
      (pss_cons (ps_set (i := 6) nd rfl (.inl rfl) (pe_lst (pa_cons (pe_callTy call_list_of (by rfl) T.m_list (by decide +kernel) (pa_cons (pv 5) pa_nil)) (pa_cons (pe_slice sl_tup (pv 5) po_none (po_some pe_int)) (pa_cons (pe_op op_catT (pv 5) (pe_tup (pa_cons pe_int pa_nil))) (pa_cons (pe_tup (pa_cons pe_bl (pa_cons (pe_ix (r := rIxT K) ix_tup (pv 5) pe_int (fun _ _ => rfl)) (pa_cons (pe_ix (r := rIxT K) ix_tup (pv 5) pe_int (fun _ _ => rfl)) pa_nil)))) pa_nil))))))
      (pss_cons (ps_set (i := 6) nd rfl (.inl rfl) (pe_op op_cat (pv 6) (pe_lst (pa_cons (pe_tup (pa_cons pe_int (pa_cons (pe_ix (r := rIxT K) ix_tup (pv 5) pe_int (fun _ _ => rfl)) (pa_cons (pe_ix (r := rIxT K) ix_tup (pv 5) pe_int (fun _ _ => rfl)) pa_nil)))) (pa_cons (pe_tup (pa_cons (pe_ix (r := rIxT K) ix_tup (pv 5) pe_int (fun _ _ => rfl)) (pa_cons (pe_ix (r := rIxT K) ix_tup (pv 5) pe_int (fun _ _ => rfl)) (pa_cons (pe_un un_neg pe_int) pa_nil)))) pa_nil)))))
      (pss_cons (ps_set (i := 6) nd rfl (.inl rfl) (pe_op op_cat (pv 6) (pe_lst (pa_cons (pe_tup (pa_cons (pe_ix (r := rIxT K) ix_tup (pv 5) pe_int (fun _ _ => rfl)) (pa_cons (pe_c c__law_thing hr (by omega) (by rfl) (pa_cons (pv 3) pa_nil)) (pa_cons (pe_ix (r := rIxT K) ix_tup (pv 5) pe_int (fun _ _ => rfl)) pa_nil)))) (pa_cons (pe_c c__law_thing hr (by omega) (by rfl) (pa_cons (pv 3) pa_nil)) pa_nil)))))
      (pss_cons (ps_set (i := 7) nd rfl (.inl rfl) pe_str)
      (pss_cons (ps_if (pt_val (pe_callB call_isi (by rfl) T.m_isinstance (by decide +kernel) (pa_cons (pe_ix (r := rIxT K) ix_tup (pv 5) pe_int (fun _ _ => rfl)) (pa_cons (pe_bltn (v := .ty "str") (u := .type "str") (by rfl) T.m_str (by decide +kernel) rfl) pa_nil)))) (pss_one (ps_set (i := 7) nd rfl (.inl rfl) (pe_ix (r := rIxT K) ix_tup (pv 5) pe_int (fun _ _ => rfl)))) pss_nil)
      (pss_cons (ps_set (i := 6) nd rfl (.inl rfl) (pe_op op_cat (pv 6) (pe_lst (pa_cons (pe_ix (r := rIxL K) ix_list (pv 0) (pe_op op_mod (pe_callTy call_int1 (by rfl) T.m_int (by decide +kernel) (pa_cons (pv 3) pa_nil)) (pe_callB call_len (by rfl) T.m_len (by decide +kernel) (pa_cons (pv 0) pa_nil))) (fun _ _ => rfl)) (pa_cons (pe_tup (pa_cons (pe_ix (r := rIxT K) ix_tup (pv 5) pe_int (fun _ _ => rfl)) (pa_cons (pe_op op_add_str (pv 7) pe_str) (pa_cons (pe_ix (r := rIxT K) ix_tup (pv 5) pe_int (fun _ _ => rfl)) pa_nil)))) pa_nil)))))
      (pss_cons (ps_set (i := 6) nd rfl (.inl rfl) (pe_op op_cat (pv 6) (pe_lst (pa_cons (pe_tup (pa_cons (pe_ix (r := rIxT K) ix_tup (pv 5) pe_int (fun _ _ => rfl)) (pa_cons (pe_ix (r := rIxT K) ix_tup (pv 5) pe_int (fun _ _ => rfl)) (pa_cons pe_bl pa_nil)))) (pa_cons (pv 5) pa_nil)))))
      (pss_one (ps_ret (pe_op op_cat (pe_op op_cat (pe_slice sl_list (pv 0) po_none (po_some (pv 4))) (pe_lst (pa_cons (pe_ix (r := rIxL K) ix_list (pv 6) (pe_op op_mod (pe_callTy call_int1 (by rfl) T.m_int (by decide +kernel) (pa_cons (pv 1) pa_nil)) pe_int) (fun _ _ => rfl)) pa_nil))) (pe_slice sl_list (pv 0) (po_some (pe_op op_add (pv 4) pe_int)) po_none)))))))))))))), ?_⟩
    obtain ⟨j, hj⟩ : ∃ j : Nat, pl % (xs.length : Int) = (j : Int) := ⟨(pl % (xs.length : Int)).toNat, by have := Int.emod_nonneg pl (show (xs.length : Int) ≠ 0 by omega); omega⟩
    have hj2 : j < xs.length := by have := Int.emod_lt_of_pos pl (show 0 < (xs.length : Int) by omega); omega
    have gj : xs[j]? = some xs[j] := List.getElem?_eq_getElem hj2
    have ij := hx _ (List.getElem_mem hj2)
    generalize xs[j] = v at gj ij
    refine ⟨.int pl, rfl, .inl ⟨pl, rfl, .ref a, rfl, .ref a, xs.length, rfl, .inl ⟨_, .inl (.inl ha), rfl⟩, pl, (xs.length : Int), rfl, rfl, (show (0 : Int) < (xs.length : Int) by omega), ?_⟩⟩
    refine ⟨.ref a, rfl, _, rfl, a, xs, _, v, rfl, rfl, .inl (.inl ha), by rw [hj]; exact atI_nat gj, ?_⟩
    have back := q H a xs (Same.refl H) ha rfl fun y hy => (hx y hy).mono (Same.refl H) (by omega)
    have hv := ij.v.1
    cases hv with
    | non => exact ⟨.non, rfl, .non, .ty "tuple", _, _, false, rfl, .ty _, .base .non, kit_ty (show kitB "NoneType" "tuple" = some false by decide +kernel), _, rfl, iteT ⟨.ref a, rfl, back⟩⟩
    | bl c => exact ⟨.bl c, rfl, .bl c, .ty "tuple", _, _, false, rfl, .ty _, .base (.bl c), kit_ty (show kitB "bool" "tuple" = some false by decide +kernel), _, rfl, iteT ⟨.ref a, rfl, back⟩⟩
    | int c => exact ⟨.int c, rfl, .int c, .ty "tuple", _, _, false, rfl, .ty _, .base (.int c), kit_ty (show kitB "int" "tuple" = some false by decide +kernel), _, rfl, iteT ⟨.ref a, rfl, back⟩⟩
    | str c hc => exact ⟨.str c, rfl, .str c, .ty "tuple", _, _, false, rfl, .ty _, .base (.str c), kit_ty (show kitB "str" "tuple" = some false by decide +kernel), _, rfl, iteT ⟨.ref a, rfl, back⟩⟩
    | @lst c ys e => exact ⟨.ref c, rfl, .ref c, .ty "tuple", _, _, false, rfl, .ty _, .base (.lst e), kit_ty (show kitB "list" "tuple" = some false by decide +kernel), _, rfl, iteT ⟨.ref a, rfl, back⟩⟩
    | @dK c kvs e => exact ⟨.ref c, rfl, .ref c, .ty "tuple", _, _, false, rfl, .ty _, .base (.dK e), kit_ty (show kitB "dict" "tuple" = some false by decide +kernel), _, rfl, iteT ⟨.ref a, rfl, back⟩⟩
    | @tup c ys e =>
      refine ⟨.ref c, rfl, .ref c, .ty "tuple", _, _, true, rfl, .ty _, .base (.tup e), kit_ty (show kitB "tuple" "tuple" = some true by decide +kernel), _, rfl, ?_⟩
      refine iteF ⟨.ref c, rfl, .ref c, ys.length, rfl, .inr ⟨_, .inl (.inl e), rfl⟩, rfl, _, rfl, ?_⟩
      by_cases l3 : ys.length = 3
      · rw [decide_eq_true (show V.int (ys.length : Nat) = V.int 3 by rw [l3]; rfl)]
        obtain ⟨x, y, z, rfl⟩ : ∃ x y z, ys = [x, y, z] := by
          rcases ys with _ | ⟨x, _ | ⟨y, _ | ⟨z, _ | ⟨u, r⟩⟩⟩⟩
          · cases l3
          · cases l3
          · cases l3
          · exact ⟨x, y, z, rfl⟩
          · simp at l3
        have vx := ij.v.2 c _ rfl e x (by simp)
        have vy := ij.v.2 c _ rfl e y (by simp)
        have vz := ij.v.2 c _ rfl e z (by simp)
        have by_ : ∀ s, y = .str s → s.cps.size ≤ n := fun s q => ij.b c x s z rfl (by rw [← q]; exact e)
        have sq : ∀ {G : Hp}, Same H G → SqT K G c [x, y, z] := fun s => .inl (.inl (s _ _ e))
        refine iteF ?_
        -- the first four
        refine ⟨.ref c, rfl, c, _, rfl, .inr (sq (Same.refl H)), fun p0 n0 => ?_⟩
        have s_G0 := same_upd (o := .lst [x, y, z]) n0
        have e_p0 : (upd H p0 (.lst [x, y, z])) p0 = some (.lst [x, y, z]) := upd_same
        generalize upd H p0 (.lst [x, y, z]) = G0 at s_G0 e_p0 ⊢
        have S_G0 := s_G0
        refine ⟨.ref c, rfl, 2, rfl, c, _, rfl, sq S_G0, fun z => (by exact absurd z.2 (by show ¬ (2 = 3); decide)), fun p1 n1 => ?_⟩
        have s_G1 := same_upd (o := .tup (cutV [x, y, z] none (some 2))) n1
        have e_p1 : (upd G0 p1 (.tup (cutV [x, y, z] none (some 2)))) p1 = some (.tup (cutV [x, y, z] none (some 2))) := upd_same
        generalize upd G0 p1 (.tup (cutV [x, y, z] none (some 2))) = G1 at s_G1 e_p1 ⊢
        have e_p0 := s_G1 _ _ e_p0
        have S_G1 := S_G0.trans s_G1
        refine ⟨.ref c, rfl, szl rfl, fun p2 n2 => ?_⟩
        have s_G2 := same_upd (o := .tup [.int 0]) n2
        have e_p2 : (upd G1 p2 (.tup [.int 0])) p2 = some (.tup [.int 0]) := upd_same
        generalize upd G1 p2 (.tup [.int 0]) = G2 at s_G2 e_p2 ⊢
        have e_p0 := s_G2 _ _ e_p0
        have e_p1 := s_G2 _ _ e_p1
        have S_G2 := S_G1.trans s_G2
        refine ⟨c, p2, _, _, rfl, rfl, sq S_G2, .inl (.inl e_p2), (by simp), smallE (by show 3 + 1 ≤ 100000; decide), (fun z => by cases z), fun _ p3 n3 => ?_⟩
        have s_G3 := same_upd (o := .tup ([x, y, z] ++ [.int 0])) n3
        have e_p3 : (upd G2 p3 (.tup ([x, y, z] ++ [.int 0]))) p3 = some (.tup ([x, y, z] ++ [.int 0])) := upd_same
        generalize upd G2 p3 (.tup ([x, y, z] ++ [.int 0])) = G3 at s_G3 e_p3 ⊢
        have e_p0 := s_G3 _ _ e_p0
        have e_p1 := s_G3 _ _ e_p1
        have S_G3 := S_G2.trans s_G3
        refine ⟨.ref c, rfl, c, _, 1, y, rfl, rfl, sq S_G3, atI_nat (j := 1) rfl, .ref c, rfl, c, _, 2, z, rfl, rfl, sq S_G3, atI_nat (j := 2) rfl, szl rfl, fun p4 n4 => ?_⟩
        have s_G4 := same_upd (o := .tup [.bl true, y, z]) n4
        have e_p4 : (upd G3 p4 (.tup [.bl true, y, z])) p4 = some (.tup [.bl true, y, z]) := upd_same
        generalize upd G3 p4 (.tup [.bl true, y, z]) = G4 at s_G4 e_p4 ⊢
        have e_p0 := s_G4 _ _ e_p0
        have e_p1 := s_G4 _ _ e_p1
        have e_p3 := s_G4 _ _ e_p3
        have S_G4 := S_G3.trans s_G4
        refine ⟨szl rfl, fun w1 m1 => ?_⟩
        have s_G5 := same_upd (o := .lst [.ref p0, .ref p1, .ref p3, .ref p4]) m1
        have e_w1 : (upd G4 w1 (.lst [.ref p0, .ref p1, .ref p3, .ref p4])) w1 = some (.lst [.ref p0, .ref p1, .ref p3, .ref p4]) := upd_same
        generalize upd G4 w1 (.lst [.ref p0, .ref p1, .ref p3, .ref p4]) = G5 at s_G5 e_w1 ⊢
        have e_p0 := s_G5 _ _ e_p0
        have e_p1 := s_G5 _ _ e_p1
        have e_p3 := s_G5 _ _ e_p3
        have e_p4 := s_G5 _ _ e_p4
        have S_G5 := S_G4.trans s_G5
        -- two more
        refine ⟨.ref w1, rfl, .ref c, rfl, c, _, 1, y, rfl, rfl, sq S_G5, atI_nat (j := 1) rfl, .ref c, rfl, c, _, 2, z, rfl, rfl, sq S_G5, atI_nat (j := 2) rfl, szl rfl, fun p5 n5 => ?_⟩
        have s_G6 := same_upd (o := .tup [.int 100, y, z]) n5
        have e_p5 : (upd G5 p5 (.tup [.int 100, y, z])) p5 = some (.tup [.int 100, y, z]) := upd_same
        generalize upd G5 p5 (.tup [.int 100, y, z]) = G6 at s_G6 e_p5 ⊢
        have e_p0 := s_G6 _ _ e_p0
        have e_p1 := s_G6 _ _ e_p1
        have e_p3 := s_G6 _ _ e_p3
        have e_p4 := s_G6 _ _ e_p4
        have e_w1 := s_G6 _ _ e_w1
        have S_G6 := S_G5.trans s_G6
        refine ⟨.ref c, rfl, c, _, 0, x, rfl, rfl, sq S_G6, atI_nat (j := 0) rfl, .ref c, rfl, c, _, 1, y, rfl, rfl, sq S_G6, atI_nat (j := 1) rfl, 1, rfl, szl rfl, fun p6 n6 => ?_⟩
        have s_G7 := same_upd (o := .tup [x, y, .int (-1)]) n6
        have e_p6 : (upd G6 p6 (.tup [x, y, .int (-1)])) p6 = some (.tup [x, y, .int (-1)]) := upd_same
        generalize upd G6 p6 (.tup [x, y, .int (-1)]) = G7 at s_G7 e_p6 ⊢
        have e_p0 := s_G7 _ _ e_p0
        have e_p1 := s_G7 _ _ e_p1
        have e_p3 := s_G7 _ _ e_p3
        have e_p4 := s_G7 _ _ e_p4
        have e_w1 := s_G7 _ _ e_w1
        have e_p5 := s_G7 _ _ e_p5
        have S_G7 := S_G6.trans s_G7
        refine ⟨szl rfl, fun p7 n7 => ?_⟩
        have s_G8 := same_upd (o := .lst [.ref p5, .ref p6]) n7
        have e_p7 : (upd G7 p7 (.lst [.ref p5, .ref p6])) p7 = some (.lst [.ref p5, .ref p6]) := upd_same
        generalize upd G7 p7 (.lst [.ref p5, .ref p6]) = G8 at s_G8 e_p7 ⊢
        have e_p0 := s_G8 _ _ e_p0
        have e_p1 := s_G8 _ _ e_p1
        have e_p3 := s_G8 _ _ e_p3
        have e_p4 := s_G8 _ _ e_p4
        have e_w1 := s_G8 _ _ e_w1
        have e_p5 := s_G8 _ _ e_p5
        have e_p6 := s_G8 _ _ e_p6
        have S_G8 := S_G7.trans s_G8
        refine ⟨w1, p7, _, _, rfl, rfl, e_w1, e_p7, smallE (by show 4 + 2 ≤ 100000; decide), fun w2 m2 => ?_⟩
        have s_G9 := same_upd (o := .lst ([.ref p0, .ref p1, .ref p3, .ref p4] ++ [.ref p5, .ref p6])) m2
        have e_w2 : (upd G8 w2 (.lst ([.ref p0, .ref p1, .ref p3, .ref p4] ++ [.ref p5, .ref p6]))) w2 = some (.lst ([.ref p0, .ref p1, .ref p3, .ref p4] ++ [.ref p5, .ref p6])) := upd_same
        generalize upd G8 w2 (.lst ([.ref p0, .ref p1, .ref p3, .ref p4] ++ [.ref p5, .ref p6])) = G9 at s_G9 e_w2 ⊢
        have e_p0 := s_G9 _ _ e_p0
        have e_p1 := s_G9 _ _ e_p1
        have e_p3 := s_G9 _ _ e_p3
        have e_p4 := s_G9 _ _ e_p4
        have e_p5 := s_G9 _ _ e_p5
        have e_p6 := s_G9 _ _ e_p6
        have S_G9 := S_G8.trans s_G9
        have i1 : ∀ v ∈ [V.ref p0, .ref p1, .ref p3, .ref p4] ++ [V.ref p5, .ref p6], Itm K G9 (n + 1) v := by
          have vxm := vx.mono S_G9; have vym := vy.mono S_G9; have vzm := vz.mono S_G9
          have bn : ∀ s, y = .str s → s.cps.size ≤ n + 1 := fun s q => Nat.le_succ_of_le (by_ s q)
          intro v hv
          simp only [List.cons_append, List.nil_append, List.mem_cons, List.not_mem_nil, or_false] at hv
          rcases hv with rfl | rfl | rfl | rfl | rfl | rfl
          · exact itm_lst e_p0
          · exact itm_odd e_p1 (fun t ht => by
              have ht' : t = x ∨ t = y := by simpa [cutV, HT.sIx] using ht
              rcases ht' with rfl | rfl
              · exact vxm
              · exact vym) (by show (cutV [x, y, z] none (some 2)).length ≠ 3; simp [cutV, HT.sIx])
          · exact itm_odd e_p3 (fun t ht => by
              simp only [List.cons_append, List.nil_append, List.mem_cons, List.not_mem_nil, or_false] at ht
              rcases ht with rfl | rfl | rfl | rfl
              · exact vxm
              · exact vym
              · exact vzm
              · exact .int 0) (by show ¬ (4 = 3); decide)
          · exact itm_tup e_p4 (.bl true) vym vzm bn
          · exact itm_tup e_p5 (.int 100) vym vzm bn
          · exact itm_tup e_p6 vxm vym (.int (-1)) bn
        have lw1 : ([V.ref p0, .ref p1, .ref p3, .ref p4] ++ [V.ref p5, .ref p6]).length = 6 := rfl
        clear e_p0 e_p1 e_p3 e_p4 e_p5 e_p6
        generalize [V.ref p0, .ref p1, .ref p3, .ref p4] ++ [V.ref p5, .ref p6] = ws1 at e_w2 i1 lw1
        -- a thing in it, a thing for it
        refine ⟨.ref w2, rfl, .ref c, rfl, c, _, 0, x, rfl, rfl, sq S_G9, atI_nat (j := 0) rfl, .int d, rfl, d, rfl, fun t1 G10 s_G10 th1 => ?_⟩
        have S_G10 := S_G9.trans s_G10
        refine ⟨.ref c, rfl, c, _, 2, z, rfl, rfl, sq S_G10, atI_nat (j := 2) rfl, szl rfl, fun p8 n8 => ?_⟩
        have e_w2 := s_G10 _ _ e_w2
        have s_G11 := same_upd (o := .tup [x, t1, z]) n8
        have e_p8 : (upd G10 p8 (.tup [x, t1, z])) p8 = some (.tup [x, t1, z]) := upd_same
        generalize upd G10 p8 (.tup [x, t1, z]) = G11 at s_G11 e_p8 ⊢
        have e_w2 := s_G11 _ _ e_w2
        have S_G11 := S_G10.trans s_G11
        refine ⟨.int d, rfl, d, rfl, fun t2 G12 s_G12 th2 => ?_⟩
        have S_G12 := S_G11.trans s_G12
        have e_w2 := s_G12 _ _ e_w2
        have e_p8 := s_G12 _ _ e_p8
        refine ⟨szl rfl, fun p9 n9 => ?_⟩
        have s_G13 := same_upd (o := .lst [.ref p8, t2]) n9
        have e_p9 : (upd G12 p9 (.lst [.ref p8, t2])) p9 = some (.lst [.ref p8, t2]) := upd_same
        generalize upd G12 p9 (.lst [.ref p8, t2]) = G13 at s_G13 e_p9 ⊢
        have e_w2 := s_G13 _ _ e_w2
        have e_p8 := s_G13 _ _ e_p8
        have S_G13 := S_G12.trans s_G13
        refine ⟨w2, p9, _, _, rfl, rfl, e_w2, e_p9, smallE (by rw [lw1]; show 6 + 2 ≤ 100000; decide), fun w3 m3 => ?_⟩
        have s_G14 := same_upd (o := .lst (ws1 ++ [.ref p8, t2])) m3
        have e_w3 : (upd G13 w3 (.lst (ws1 ++ [.ref p8, t2]))) w3 = some (.lst (ws1 ++ [.ref p8, t2])) := upd_same
        generalize upd G13 w3 (.lst (ws1 ++ [.ref p8, t2])) = G14 at s_G14 e_w3 ⊢
        have e_p8 := s_G14 _ _ e_p8
        have S_G14 := S_G13.trans s_G14
        have i2 : ∀ v ∈ ws1 ++ [V.ref p8, t2], Itm K G14 (n + 1) v := by
          have a1 := (s_G10.trans (s_G11.trans (s_G12.trans (s_G13.trans s_G14))))
          intro v hv
          rcases List.mem_append.mp hv with hv | hv
          · exact (i1 v hv).mono a1 (Nat.le_refl _)
          · simp only [List.mem_cons, List.not_mem_nil, or_false] at hv
            rcases hv with rfl | rfl
            · have th1' := th1.mono (s_G11.trans (s_G12.trans (s_G13.trans s_G14)))
              exact itm_tup e_p8 (vx.mono S_G14) th1'.hv (vz.mono S_G14) fun s q => by have := th1.hz s q; omega
            · exact (th2.mono (s_G13.trans s_G14)).itm _
        have lw2 : (ws1 ++ [V.ref p8, t2]).length = 8 := by rw [List.length_append, lw1]; rfl
        clear e_p8
        generalize ws1 ++ [V.ref p8, t2] = ws2 at e_w3 i2 lw2
        -- the word
        refine asgc_if (fun σ2 G => ∃ wd : Str, σ2 = [some (.ref a), some (.int k), some (.int pl), some (.int d), some (.int (pl % (xs.length : Int))), some (.ref c), some (.ref w3), some (.str wd)] ∧ G14 = G ∧ wd.cps.size ≤ n) (fun go => ?_) (fun σ2 G hT => ?_)
        · obtain ⟨ty, ht, k1, _, _⟩ := (vy.mono S_G14).ty
          refine ⟨.ref c, rfl, c, _, 1, y, rfl, rfl, sq S_G14, atI_nat (j := 1) rfl, y, .ty "str", _, _, isS y, rfl, .ty _, ht, k1, _, rfl, ?_⟩
          cases y with
          | str yz =>
            refine iteT ⟨.ref c, rfl, c, _, 1, .str yz, rfl, rfl, sq S_G14, atI_nat (j := 1) rfl, go _ _ ⟨yz, rfl, rfl, by_ yz rfl⟩⟩
          | _ => exact iteF (go _ _ ⟨"b", rfl, rfl, by show 1 ≤ n; omega⟩)
        · obtain ⟨wd, rfl, rfl, wl⟩ := hT
          have ha14 := S_G14 _ _ ha
          obtain ⟨u, hu, iu⟩ : ∃ u, atI xs (d % (xs.length : Int)) = some u ∧ Itm K H n u := by
            have h1 := Int.emod_nonneg d (show (xs.length : Int) ≠ 0 by omega)
            have h2 := Int.emod_lt_of_pos d (show 0 < (xs.length : Int) by omega)
            obtain ⟨q', hq'⟩ : ∃ q' : Nat, d % (xs.length : Int) = (q' : Int) := ⟨(d % (xs.length : Int)).toNat, by omega⟩
            have hq2 : q' < xs.length := by omega
            exact ⟨xs[q'], by rw [hq']; exact atI_nat (List.getElem?_eq_getElem hq2), hx _ (List.getElem_mem hq2)⟩
          refine ⟨.ref w3, rfl, .ref a, rfl, .int d, rfl, .inl ⟨d, rfl, .ref a, rfl, .ref a, xs.length, rfl, .inl ⟨_, .inl (.inl ha14), rfl⟩, d, (xs.length : Int), rfl, rfl, (show (0 : Int) < (xs.length : Int) by omega), a, xs, _, u, rfl, rfl, .inl (.inl ha14), hu, ?_⟩⟩
          refine ⟨.ref c, rfl, c, _, 0, x, rfl, rfl, sq S_G14, atI_nat (j := 0) rfl, .str wd, rfl, wd, "A", rfl, rfl, ?_, .ref c, rfl, c, _, 2, z, rfl, rfl, sq S_G14, atI_nat (j := 2) rfl, szl rfl, fun q5 k5 => ?_⟩
          · show wd.cps.size + 1 ≤ sizeLine
            exact smallE (by omega)
          have s_G15 := same_upd (o := .tup [x, .str (wd ++ "A"), z]) k5
          have e_q5 : (upd G14 q5 (.tup [x, .str (wd ++ "A"), z])) q5 = some (.tup [x, .str (wd ++ "A"), z]) := upd_same
          generalize upd G14 q5 (.tup [x, .str (wd ++ "A"), z]) = G15 at s_G15 e_q5 ⊢
          have e_w3 := s_G15 _ _ e_w3
          have S_G15 := S_G14.trans s_G15
          refine ⟨szl rfl, fun q6 k6 => ?_⟩
          have s_G16 := same_upd (o := .lst [u, .ref q5]) k6
          have e_q6 : (upd G15 q6 (.lst [u, .ref q5])) q6 = some (.lst [u, .ref q5]) := upd_same
          generalize upd G15 q6 (.lst [u, .ref q5]) = G16 at s_G16 e_q6 ⊢
          have e_w3 := s_G16 _ _ e_w3
          have e_q5 := s_G16 _ _ e_q5
          have S_G16 := S_G15.trans s_G16
          refine ⟨w3, q6, _, _, rfl, rfl, e_w3, e_q6, smallE (by rw [lw2]; show 8 + 2 ≤ 100000; decide), fun w4 m4 => ?_⟩
          have s_G17 := same_upd (o := .lst (ws2 ++ [u, .ref q5])) m4
          have e_w4 : (upd G16 w4 (.lst (ws2 ++ [u, .ref q5]))) w4 = some (.lst (ws2 ++ [u, .ref q5])) := upd_same
          generalize upd G16 w4 (.lst (ws2 ++ [u, .ref q5])) = G17 at s_G17 e_w4 ⊢
          have e_q5 := s_G17 _ _ e_q5
          have S_G17 := S_G16.trans s_G17
          have i3 : ∀ v ∈ ws2 ++ [u, V.ref q5], Itm K G17 (n + 1) v := by
            intro v hv
            rcases List.mem_append.mp hv with hv | hv
            · exact (i2 v hv).mono (s_G15.trans (s_G16.trans s_G17)) (Nat.le_refl _)
            · simp only [List.mem_cons, List.not_mem_nil, or_false] at hv
              rcases hv with rfl | rfl
              · exact iu.mono S_G17 (Nat.le_succ _)
              · have hs : (wd ++ "A" : Str).cps.size = wd.cps.size + 1 := by
                  show (wd.cps ++ _).size = _
                  rw [Array.size_append]; rfl
                exact itm_tup e_q5 (vx.mono S_G17) (.str _ (by rw [hs]; omega)) (vz.mono S_G17) fun s q => by
                  have := V.str.inj q
                  subst this
                  rw [hs]; omega
          have lw3 : (ws2 ++ [u, V.ref q5]).length = 10 := by rw [List.length_append, lw2]; rfl
          clear e_q5
          generalize ws2 ++ [u, V.ref q5] = ws3 at e_w4 i3 lw3
          -- the last two
          refine ⟨.ref w4, rfl, .ref c, rfl, c, _, 0, x, rfl, rfl, sq S_G17, atI_nat (j := 0) rfl, .ref c, rfl, c, _, 1, y, rfl, rfl, sq S_G17, atI_nat (j := 1) rfl, szl rfl, fun q7 k7 => ?_⟩
          have s_G18 := same_upd (o := .tup [x, y, .bl false]) k7
          have e_q7 : (upd G17 q7 (.tup [x, y, .bl false])) q7 = some (.tup [x, y, .bl false]) := upd_same
          generalize upd G17 q7 (.tup [x, y, .bl false]) = G18 at s_G18 e_q7 ⊢
          have e_w4 := s_G18 _ _ e_w4
          have S_G18 := S_G17.trans s_G18
          refine ⟨.ref c, rfl, szl rfl, fun q8 k8 => ?_⟩
          have s_G19 := same_upd (o := .lst [.ref q7, .ref c]) k8
          have e_q8 : (upd G18 q8 (.lst [.ref q7, .ref c])) q8 = some (.lst [.ref q7, .ref c]) := upd_same
          generalize upd G18 q8 (.lst [.ref q7, .ref c]) = G19 at s_G19 e_q8 ⊢
          have e_w4 := s_G19 _ _ e_w4
          have e_q7 := s_G19 _ _ e_q7
          have S_G19 := S_G18.trans s_G19
          refine ⟨w4, q8, _, _, rfl, rfl, e_w4, e_q8, smallE (by rw [lw3]; show 10 + 2 ≤ 100000; decide), fun w5 m5 => ?_⟩
          have s_G20 := same_upd (o := .lst (ws3 ++ [.ref q7, .ref c])) m5
          have e_w5 : (upd G19 w5 (.lst (ws3 ++ [.ref q7, .ref c]))) w5 = some (.lst (ws3 ++ [.ref q7, .ref c])) := upd_same
          generalize upd G19 w5 (.lst (ws3 ++ [.ref q7, .ref c])) = G20 at s_G20 e_w5 ⊢
          have e_q7 := s_G20 _ _ e_q7
          have S_G20 := S_G19.trans s_G20
          have i4 : ∀ v ∈ ws3 ++ [V.ref q7, V.ref c], Itm K G20 (n + 1) v := by
            intro v hv
            rcases List.mem_append.mp hv with hv | hv
            · exact (i3 v hv).mono (s_G18.trans (s_G19.trans s_G20)) (Nat.le_refl _)
            · simp only [List.mem_cons, List.not_mem_nil, or_false] at hv
              rcases hv with rfl | rfl
              · exact itm_tup e_q7 (vx.mono S_G20) (vy.mono S_G20) (.bl false) fun s q => Nat.le_succ_of_le (by_ s q)
              · exact ij.mono S_G20 (Nat.le_succ _)
          have lw4 : (ws3 ++ [V.ref q7, V.ref c]).length = 12 := by rw [List.length_append, lw3]; rfl
          clear e_q7
          generalize ws3 ++ [V.ref q7, V.ref c] = ws4 at e_w5 i4 lw4
          -- the row
          have ha20 := S_G20 _ _ ha
          refine ⟨.ref a, rfl, .int (pl % (xs.length : Int)), rfl, pl % (xs.length : Int), rfl, a, xs, rfl, .inl (.inl ha20), fun r1 h1 => ?_⟩
          have s_G21 := same_upd (o := .lst (cutV xs none (some (pl % (xs.length : Int))))) h1
          have e_r1 : (upd G20 r1 (.lst (cutV xs none (some (pl % (xs.length : Int)))))) r1 = some (.lst (cutV xs none (some (pl % (xs.length : Int))))) := upd_same
          generalize upd G20 r1 (.lst (cutV xs none (some (pl % (xs.length : Int))))) = G21 at s_G21 e_r1 ⊢
          have e_w5 := s_G21 _ _ e_w5
          have S_G21 := S_G20.trans s_G21
          obtain ⟨v, hv, iv⟩ : ∃ v, atI ws4 (k % 12) = some v ∧ Itm K G20 (n + 1) v := by
            have h1 := Int.emod_nonneg k (show (12 : Int) ≠ 0 by decide)
            have h2 := Int.emod_lt_of_pos k (show (0 : Int) < 12 by decide)
            obtain ⟨q', hq'⟩ : ∃ q' : Nat, k % 12 = (q' : Int) := ⟨(k % 12).toNat, by omega⟩
            have hq2 : q' < ws4.length := by omega
            exact ⟨ws4[q'], by rw [hq']; exact atI_nat (List.getElem?_eq_getElem hq2), i4 _ (List.getElem_mem hq2)⟩
          refine ⟨.ref w5, rfl, .int k, rfl, .inl ⟨k, rfl, k, 12, rfl, rfl, (by show (0 : Int) < 12; decide), w5, ws4, _, v, rfl, rfl, .inl (.inl e_w5), hv, szl rfl, fun r2 h2 => ?_⟩⟩
          have s_G22 := same_upd (o := .lst [v]) h2
          have e_r2 : (upd G21 r2 (.lst [v])) r2 = some (.lst [v]) := upd_same
          generalize upd G21 r2 (.lst [v]) = G22 at s_G22 e_r2 ⊢
          have e_r1 := s_G22 _ _ e_r1
          have S_G22 := S_G21.trans s_G22
          have cl : (cutV xs none (some (pl % (xs.length : Int)))).length = j := by rw [hj, cut_to, List.length_take]; omega
          refine ⟨r1, r2, _, _, rfl, rfl, e_r1, e_r2, smallE (by rw [cl]; show j + 1 ≤ 100000; omega), fun r3 h3 => ?_⟩
          have s_G23 := same_upd (o := .lst (cutV xs none (some (pl % (xs.length : Int))) ++ [v])) h3
          have e_r3 : (upd G22 r3 (.lst (cutV xs none (some (pl % (xs.length : Int))) ++ [v]))) r3 = some (.lst (cutV xs none (some (pl % (xs.length : Int))) ++ [v])) := upd_same
          generalize upd G22 r3 (.lst (cutV xs none (some (pl % (xs.length : Int))) ++ [v])) = G23 at s_G23 e_r3 ⊢
          have S_G23 := S_G22.trans s_G23
          have ha23 := S_G23 _ _ ha
          refine ⟨.ref a, rfl, .int (pl % (xs.length : Int)), rfl, pl % (xs.length : Int), 1, rfl, rfl, pl % (xs.length : Int) + 1, rfl, a, xs, rfl, .inl (.inl ha23), fun r4 h4 => ?_⟩
          have s_G24 := same_upd (o := .lst (cutV xs (some (pl % (xs.length : Int) + 1)) none)) h4
          have e_r4 : (upd G23 r4 (.lst (cutV xs (some (pl % (xs.length : Int) + 1)) none))) r4 = some (.lst (cutV xs (some (pl % (xs.length : Int) + 1)) none)) := upd_same
          generalize upd G23 r4 (.lst (cutV xs (some (pl % (xs.length : Int) + 1)) none)) = G24 at s_G24 e_r4 ⊢
          have e_r3 := s_G24 _ _ e_r3
          have S_G24 := S_G23.trans s_G24
          have cf : cutV xs (some (pl % (xs.length : Int) + 1)) none = xs.drop (j + 1) := by rw [hj, show ((j : Int) + 1) = ((j + 1 : Nat) : Int) from rfl, cut_from]
          have ct : cutV xs none (some (pl % (xs.length : Int))) = xs.take j := by rw [hj, cut_to]
          rw [ct] at e_r3
          rw [cf] at e_r4
          refine ⟨r3, r4, _, _, rfl, rfl, e_r3, e_r4, smallE (by simp; omega), fun r5 h5 => ?_⟩
          have s5 := same_upd (o := .lst (xs.take j ++ [v] ++ xs.drop (j + 1))) h5
          refine q _ r5 _ (S_G24.trans s5) upd_same (by simp; omega) fun y hy => ?_
          rcases List.mem_append.mp hy with hy | hy
          · rcases List.mem_append.mp hy with hy | hy
            · exact (hx y (List.mem_of_mem_take hy)).mono (S_G24.trans s5) (Nat.le_succ _)
            · rw [List.mem_singleton.mp hy]
              exact iv.mono ((s_G21.trans (s_G22.trans (s_G23.trans s_G24))).trans s5) (Nat.le_refl _)
          · exact (hx y (List.mem_of_mem_drop hy)).mono (S_G24.trans s5) (Nat.le_succ _)
      · rw [decide_eq_false (show ¬ V.int (ys.length : Nat) = V.int 3 from fun z => l3 (by have := V.int.inj z; omega))]
        exact iteT ⟨.ref a, rfl, back⟩

end
end Kn

set_option Elab.async false
set_option linter.all false
set_option maxRecDepth 100000
set_option maxHeartbeats 4000000
namespace Kn
open PySem PySem.Spec PyProof.Rows L2
open C8 (Cal pe_c pe_gc Mak pe_mk)
section
variable {P : Program} {w : World} {K : PySem.W.Frag} {mg : Str → Option Value} {base : Heap}
def rsz : List Int := [8, 12, 64, 18, 12, 64, 18, 8]
/-- a step put on in the law -/
def Nice (H : Hp) (z : Str) (x : V) : Prop := ∃ (tp : Addr) (u t : Int), x = .ref tp ∧ H tp = some (.tup [.int u, .str z, .int t])
theorem Nice.set {H : Hp} {z : Str} {x : V} {D : Addr} {ys zs : List V} (h : Nice H z x) (e : H D = some (.lst ys)) : Nice (upd H D (.lst zs)) z x := by
  obtain ⟨tp, u, t, rfl, g⟩ := h
  refine ⟨tp, u, t, rfl, (upd_ne fun q => ?_).trans g⟩
  rw [q, e] at g
  cases g
theorem Nice.mono {H G : Hp} {z : Str} {x : V} (h : Nice H z x) (s : Same H G) : Nice G z x := by
  obtain ⟨tp, u, t, rfl, g⟩ := h
  exact ⟨tp, u, t, rfl, s _ _ g⟩
theorem Nice.itm {K : PySem.W.Frag} {H : Hp} {z : Str} {x : V} (h : Nice H z x) (l : z.cps.size ≤ 13) : Itm K H 13 x := by
  obtain ⟨tp, u, t, rfl, g⟩ := h
  exact itm_tup g (.int u) (.str z (by omega)) (.int t) fun s e => by cases e; exact l
def outS : Out → Str
  | .ok => "made"
  | .st => "BadState"
  | .sp _ => "BadSteps"
  | .tm => "TooMany"
  | .fa _ => "BadFaults"
  | .nl _ => "NotLive"
theorem out_head (v0 : V) (o : Out) : (outV v0 o)[0]? = some (.str (outS o)) := by cases o <;> rfl
theorem Val.own {K : PySem.W.Frag} {H : Hp} {v : V} (h : Val K H v) : KnQ.Own v := by cases h <;> trivial
theorem out_own {K : PySem.W.Frag} {H : Hp} {v0 : V} (h : Val K H v0) (o : Out) : ∀ v ∈ outV v0 o, KnQ.Own v := by
  intro v hv
  cases o <;> simp only [outV, List.mem_cons, List.not_mem_nil, or_false] at hv <;> rcases hv with rfl | rfl <;> first | trivial | exact h.own
/-- a row that can stand in the law -/
structure RowV (K : PySem.W.Frag) (H : Hp) (row : V) : Prop where
  v : Val K H row
  it : ∀ xs, rowOf H row = some xs → ∀ x ∈ xs, Val2 K H x
  l : ∀ xs, rowOf H row = some xs → xs.length ≤ 1000
  t : ∀ a xs, row = .ref a → H a = some (.tup xs) → ∀ x, xs[0]? = some x → stepOf H x = none
theorem RowV.mono {K : PySem.W.Frag} {H G : Hp} {row : V} (h : RowV K H row) (s : Same H G) : RowV K G row := by
  refine ⟨h.v.mono s, fun xs e x hx => ?_, fun xs e => ?_, fun a xs e g x hx => ?_⟩
  · rw [rowOf_mono h.v s] at e
    exact (h.it xs e x hx).mono s
  · rw [rowOf_mono h.v s] at e
    exact h.l xs e
  · subst e
    have g' := h.v.there s g
    rw [stepOf_mono (h.it xs (by show itemsOf (H a) = _; rw [g']; rfl) x (List.mem_of_getElem? hx)).1 s]
    exact h.t a xs rfl g' x hx
theorem row_lst {K : PySem.W.Frag} {H : Hp} {n : Nat} {a : Addr} {xs : List V} (e : H a = some (.lst xs)) (l : xs.length ≤ 1000) (hx : ∀ x ∈ xs, Itm K H n x) : RowV K H (.ref a) := by
  have er : ∀ ys, rowOf H (.ref a) = some ys → ys = xs := fun ys q => by
    have q' : itemsOf (H a) = some ys := q
    rw [e] at q'
    exact (Option.some.inj q').symm
  exact ⟨.lst e, fun ys q => by rw [er ys q]; exact fun x h => (hx x h).v, fun ys q => by rw [er ys q]; exact l, fun b ys eb g => by cases eb; rw [e] at g; cases g⟩
theorem Thing.row {K : PySem.W.Frag} {H : Hp} {v : V} (h : Thing K H v) : RowV K H v :=
  ⟨h.hv, fun xs e => (h.items e).2.1, fun xs e => Nat.le_trans (h.items e).1 (by decide), fun a xs e g x hx => by
    subst e
    exact (h.items (show rowOf H (.ref a) = some xs by show itemsOf (H a) = _; rw [g]; rfl)).2.2 x (List.mem_of_getElem? hx)⟩
theorem ok_law {f : Addr} {C : Addr} {fd : FuncData} (T : Txt K mg C) (F : Fun K "law" "law" s_law f fd) (c__law_names : Cal P w K mg base 3 "_law_names" (sp__law_names K) []) (c__law_cell : Cal P w K mg base 2 "_law_cell" (sp__law_cell K) []) (c__law_machine : Cal P w K mg base 3 "_law_machine" (sp__law_machine K) []) (c__law_row : Cal P w K mg base 2 "_law_row" (sp__law_row K) []) (c__law_spoiled : Cal P w K mg base 3 "_law_spoiled" (sp__law_spoiled K) []) (c__law_thing : Cal P w K mg base 2 "_law_thing" (sp__law_thing K) []) (c__law_made : Cal P w K mg base 7 "_law_made" (sp__law_made K) []) (c__law_due : Cal P w K mg base 4 "_law_due" (sp__law_due K) []) (c__law_exact : Cal P w K mg base 5 "_law_exact" (sp__law_exact K) []) : FnOk P w K mg base CX0 8 f fd ["_law_script"] (sp_law K) := by
  have nd := sc_law.nd
  refine F.ok sc_law (fun vs H Q E h => ?_) (fun cdv A outer s H vs Q E hr h => ?_)
  · obtain ⟨a, ns, rfl, _⟩ := h
    rfl
  · obtain ⟨a, ns, rfl, hS, hlen, q⟩ := h
    refine ⟨_, (pss_cons (ps_set (i := 1) nd rfl (.inr rfl) (pe_c c__law_names hr (by omega) (by rfl) (pa_cons (pe_c c__law_cell hr (by omega) (by rfl) (pa_cons (pv 0) (pa_cons pe_int pa_nil))) (pa_cons pe_int pa_nil))))
      (pss_cons (ps_asg (pe_c c__law_machine hr (by omega) (by rfl) (pa_cons (pe_c c__law_cell hr (by omega) (by rfl) (pa_cons (pv 0) (pa_cons pe_int pa_nil))) (pa_cons (pe_slice sl_list (pv 1) po_none (po_some pe_int)) (pa_cons pe_int (pa_cons pe_int pa_nil))))) (pg_lst (by rfl) (pgs_cons (pg_name (i := 2) nd rfl (.inr rfl)) (pgs_cons (pg_name (i := 3) nd rfl (.inl rfl)) pgs_nil))))
      (pss_cons (ps_for PassesOwn.never rfl (pi_range1 (by rfl) T.m_range (pa_cons pe_int pa_nil)) (pg_name (i := 4) nd rfl (.inl rfl)) (pss_cons (ps_set (i := 5) nd rfl (.inl rfl) (pe_c c__law_row hr (by omega) (by rfl) (pa_cons (pe_c c__law_cell hr (by omega) (by rfl) (pa_cons (pv 0) (pa_cons (pe_op op_add pe_int (pv 4)) pa_nil))) (pa_cons (pe_lst (pa_cons pe_int (pa_cons pe_int (pa_cons pe_int (pa_cons pe_int (pa_cons pe_int (pa_cons pe_int (pa_cons pe_int (pa_cons pe_int pa_nil))))))))) pa_nil))))
      (pss_cons (ps_set (i := 6) nd rfl (.inl rfl) (pe_callTy call_list_of (by rfl) T.m_list (by decide +kernel) (pa_cons (pv 3) pa_nil)))
      (pss_cons (ps_set (i := 7) nd rfl (.inl rfl) (pe_ix (r := rIxL K) ix_list (pv 2) (pe_op op_mod (pe_callTy call_int1 (by rfl) T.m_int (by decide +kernel) (pa_cons (pe_ix (r := rIxL K) ix_list (pv 5) pe_int (fun _ _ => rfl)) pa_nil)) (pe_callB call_len (by rfl) T.m_len (by decide +kernel) (pa_cons (pv 2) pa_nil))) (fun _ _ => rfl)))
      (pss_cons (ps_if (pt_cmpR op_eq (pe_ix (r := rIxL K) ix_list (pv 5) pe_int (fun _ _ => rfl)) pe_int (nomark _)) (pss_one (ps_set (i := 6) nd rfl (.inl rfl) (pe_op op_cat (pv 6) (pe_lc (own := [("_law_state", 9)]) (g := gName 9) (tt := tYes) rfl nd (pi_range1 (by rfl) T.m_range (pa_cons pe_int pa_nil)) (blkOk_by (N := ["_law_script", "_law_names_here", "_law_labels", "_law_steps", "_law_k", "_law_row_here", "_law_rows", "_law_start", "_law_faults", "_law_state"]) (sc := defScope s_law) (by decide +kernel)) (fun _ _ _ _ _ => (pg_name (i := 9) nd rfl (.inl rfl))) (fun _ _ _ _ _ => pts_nil) (fun _ _ _ _ _ => (pe_tup (pa_cons (pe_ix (r := rIxL K) ix_list (pv 2) pe_int (fun _ _ => rfl)) (pa_cons (pe_ix (r := rIxL K) ix_list (pv 1) pe_int (fun _ _ => rfl)) (pa_cons (pv 9) pa_nil))))))))) (pss_one (ps_if (pt_cmpR op_eq (pe_ix (r := rIxL K) ix_list (pv 5) pe_int (fun _ _ => rfl)) pe_int (nomark _)) (pss_one (ps_set (i := 6) nd rfl (.inl rfl) (pe_op op_cat (pv 6) (pe_lc (own := [("_law_state", 9)]) (g := gName 9) (tt := tYes) rfl nd (pi_range1 (by rfl) T.m_range (pa_cons (pe_op op_sub pe_int (pe_callB call_len (by rfl) T.m_len (by decide +kernel) (pa_cons (pv 6) pa_nil))) pa_nil)) (blkOk_by (N := ["_law_script", "_law_names_here", "_law_labels", "_law_steps", "_law_k", "_law_row_here", "_law_rows", "_law_start", "_law_faults", "_law_state"]) (sc := defScope s_law) (by decide +kernel)) (fun _ _ _ _ _ => (pg_name (i := 9) nd rfl (.inl rfl))) (fun _ _ _ _ _ => pts_nil) (fun _ _ _ _ _ => (pe_tup (pa_cons (pv 9) (pa_cons (pe_ix (r := rIxL K) ix_list (pv 1) pe_int (fun _ _ => rfl)) (pa_cons (pv 9) pa_nil))))))))) pss_nil)))
      (pss_cons (ps_set (i := 6) nd rfl (.inl rfl) (pe_c c__law_spoiled hr (by omega) (by rfl) (pa_cons (pv 6) (pa_cons (pe_ix (r := rIxL K) ix_list (pv 5) pe_int (fun _ _ => rfl)) (pa_cons (pe_ix (r := rIxL K) ix_list (pv 5) pe_int (fun _ _ => rfl)) (pa_cons (pe_ix (r := rIxL K) ix_list (pv 5) pe_int (fun _ _ => rfl)) pa_nil))))))
      (pss_cons (ps_if (pt_cmpR op_ne (pe_ix (r := rIxL K) ix_list (pv 5) pe_int (fun _ _ => rfl)) pe_int (nomark _)) (pss_one (ps_set (i := 6) nd rfl (.inl rfl) (pe_c c__law_spoiled hr (by omega) (by rfl) (pa_cons (pv 6) (pa_cons (pe_ix (r := rIxL K) ix_list (pv 5) pe_int (fun _ _ => rfl)) (pa_cons (pe_ix (r := rIxL K) ix_list (pv 5) pe_int (fun _ _ => rfl)) (pa_cons (pe_ix (r := rIxL K) ix_list (pv 5) pe_int (fun _ _ => rfl)) pa_nil))))))) pss_nil)
      (pss_cons (ps_if (pt_cmpR op_eq (pe_ix (r := rIxL K) ix_list (pv 5) pe_int (fun _ _ => rfl)) pe_int (nomark _)) (pss_one (ps_set (i := 7) nd rfl (.inl rfl) (pe_c c__law_thing hr (by omega) (by rfl) (pa_cons (pe_ix (r := rIxL K) ix_list (pv 5) pe_int (fun _ _ => rfl)) pa_nil)))) (pss_one (ps_if (pt_cmpR op_eq (pe_ix (r := rIxL K) ix_list (pv 5) pe_int (fun _ _ => rfl)) pe_int (nomark _)) (pss_one (ps_set (i := 6) nd rfl (.inl rfl) (pe_c c__law_thing hr (by omega) (by rfl) (pa_cons (pe_ix (r := rIxL K) ix_list (pv 5) pe_int (fun _ _ => rfl)) pa_nil)))) pss_nil)))
      (pss_cons (ps_set (i := 8) nd rfl (.inl rfl) (pe_disp (pps_cons (pe_ix (r := rIxL K) ix_list (pv 1) pe_int (fun _ _ => rfl)) (pe_ix (r := rIxL K) ix_list (pv 1) pe_int (fun _ _ => rfl)) pps_nil) (by rfl) (by rfl) (fun z => by cases z) (by decide)))
      (pss_cons (ps_if (pt_cmpR (KnQ.op_neOwn hr.units0) (pe_c c__law_made hr (by omega) (by rfl) (pa_cons (pv 7) (pa_cons (pv 6) (pa_cons (pv 8) pa_nil)))) (pe_c c__law_due hr (by omega) (by rfl) (pa_cons (pv 7) (pa_cons (pv 6) (pa_cons (pv 8) pa_nil)))) (nomark _)) (pss_one (ps_ret pe_bl)) pss_nil)
      (pss_one (ps_if (pt_not (pt_val (pe_c c__law_exact hr (by omega) (by rfl) (pa_cons (pe_ix (r := rIxL K) ix_list (pe_c c__law_made hr (by omega) (by rfl) (pa_cons (pv 7) (pa_cons (pv 6) (pa_cons pe_non pa_nil)))) pe_int (fun _ _ => rfl)) (pa_cons (pe_ix (r := rIxL K) ix_list (pe_c c__law_due hr (by omega) (by rfl) (pa_cons (pv 7) (pa_cons (pv 6) (pa_cons pe_non pa_nil)))) pe_int (fun _ _ => rfl)) pa_nil))))) (pss_one (ps_ret pe_bl)) pss_nil))))))))))))
      (pss_one (ps_ret pe_bl))))), ?_⟩
    refine ⟨.ref a, rfl, a, ns, 0, rfl, hS, fun c0 => ⟨c0, 8, rfl, by decide, fun H1 N zs s1 nN eN lz hz => ?_⟩⟩
    refine ⟨.ref a, rfl, a, ns, 1, rfl, s1.seq hS, fun c1 => ⟨.ref N, rfl, 6, rfl, N, zs.map V.str, rfl, .inl (.inl eN), fun N6 nN6 => ?_⟩⟩
    have s6 := same_upd (o := .lst (cutV (zs.map V.str) none (some 6))) nN6
    have e6 : (upd H1 N6 (.lst (cutV (zs.map V.str) none (some 6)))) N6 = some (.lst ((zs.take 6).map V.str)) := by
      rw [upd_same, show (some (6 : Int)) = some ((6 : Nat) : Int) from rfl, cut_to, List.map_take]
    generalize upd H1 N6 (.lst (cutV (zs.map V.str) none (some 6))) = H1' at s6 e6
    have s1' := s1.trans s6
    refine ⟨c1, N6, zs.take 6, 8, 6, rfl, e6, by rw [List.length_take]; omega, by rw [List.length_take]; omega, fun z h => hz z (List.mem_of_mem_take h), by decide, by decide, by decide, fun H2 t lb sl ls as ss s2 et nlb nsl nls elb esl hst dm => ?_⟩
    have hn6 : ∀ z ∈ zs.take 6, nameB (.str z) = true := fun z h => hz z (List.mem_of_mem_take h)
    have gs := dm.steps hn6
    have t2 := s1'.trans s2
    have eN2 := s2 _ _ (s6 _ _ eN)
    have hi80 := gs.hi
    have lo1 := gs.lo
    have hlb : 0 < ls.length := List.length_pos_iff.mpr dm.ne
    have few := dm.few
    refine ⟨t, _, rfl, .inl (.inl et), rfl, .ref lb, _, rfl, .ref sl, [], rfl, rfl, ?_⟩
    obtain ⟨z6, gz6, vz6⟩ : ∃ z, (zs.map V.str)[6]? = some (.str z) ∧ nameB (.str z) = true := ⟨zs[6]'(by omega), by rw [List.getElem?_map, List.getElem?_eq_getElem (by omega)]; rfl, hz _ (List.getElem_mem _)⟩
    obtain ⟨z0, gz0, vz0⟩ : ∃ z, (zs.map V.str)[0]? = some (.str z) ∧ nameB (.str z) = true := ⟨zs[0]'(by omega), by rw [List.getElem?_map, List.getElem?_eq_getElem (by omega)]; rfl, hz _ (List.getElem_mem _)⟩
    obtain ⟨z7, gz7, vz7⟩ : ∃ z, (zs.map V.str)[7]? = some (.str z) ∧ nameB (.str z) = true := ⟨zs[7]'(by omega), by rw [List.getElem?_map, List.getElem?_eq_getElem (by omega)]; rfl, hz _ (List.getElem_mem _)⟩
    have sz6 := (name_size vz6).2
    have sz0 := (name_size vz0).2
    have sz7 := (name_size vz7).2
    obtain ⟨b0, gb0⟩ : ∃ b, (ls.map V.int)[0]? = some (.int b) := ⟨ls[0]'hlb, by rw [List.getElem?_map, List.getElem?_eq_getElem hlb]; rfl⟩
    refine ⟨3, rfl, by decide, by decide, ?_⟩
    refine for_range (lo := 0) (n := 3) (fun i σ H' => ∃ y4 y5 y6 y7 y8 : Option V, σ = [some (.ref a), some (.ref N), some (.ref lb), some (.ref sl), y4, y5, y6, y7, y8, none] ∧ Same H2 H')
      ⟨none, none, none, none, none, rfl, Same.refl H2⟩ (fun i σ G hi hP => ?_) (fun σ G hP => ?_)
    · obtain ⟨y4, y5, y6, y7, y8, rfl, sG⟩ := hP
      have tG := t2.trans sG
      refine ⟨.ref a, rfl, .int (0 + (i : Int)), rfl, 2, (0 + (i : Int)), rfl, rfl, a, ns, 2 + i, by show [V.ref a, V.int (2 + (0 + (i : Int)))] = _; rw [show (2 + (0 + (i : Int))) = ((2 + i : Nat) : Int) by omega], tG.seq hS, fun ck => ⟨szl rfl, fun p np => ?_⟩⟩
      have sp := same_upd (o := .lst [.int 8, .int 12, .int 64, .int 18, .int 12, .int 64, .int 18, .int 8]) np
      refine ⟨ck, p, rsz, rfl, .inl (.inl upd_same), by decide, by decide, fun H3 R rs s3 nR eR hrl hb => ?_⟩
      have s23 := sG.trans (sp.trans s3)
      obtain ⟨r0, _, g0, l0, u0⟩ := row_at hrl hb (j := 0) (t := 8) rfl
      obtain ⟨r1, _, g1, l1, u1⟩ := row_at hrl hb (j := 1) (t := 12) rfl
      obtain ⟨r2, _, g2, l2, u2⟩ := row_at hrl hb (j := 2) (t := 64) rfl
      obtain ⟨r3, _, g3, l3, u3⟩ := row_at hrl hb (j := 3) (t := 18) rfl
      obtain ⟨r4, _, g4, l4, u4⟩ := row_at hrl hb (j := 4) (t := 12) rfl
      obtain ⟨r5, _, g5, l5, u5⟩ := row_at hrl hb (j := 5) (t := 64) rfl
      obtain ⟨r6, _, g6, l6, u6⟩ := row_at hrl hb (j := 6) (t := 18) rfl
      obtain ⟨r7, _, g7, l7, u7⟩ := row_at hrl hb (j := 7) (t := 8) rfl
      have elb3 := s23 _ _ elb
      have esl3 := s23 _ _ esl
      have hst3 := hst.mono s23
      have eN3 := s23 _ _ eN2
      refine ⟨.ref sl, rfl, sl, as.map V.ref, rfl, .inl (.inl (.inl esl3)), fun L0 nL0 => ?_⟩
      have sL0 := same_upd (o := .lst (as.map V.ref)) nL0
      have eL0 : (upd H3 L0 (.lst (as.map V.ref))) L0 = some (.lst (as.map V.ref)) := upd_same
      generalize upd H3 L0 (.lst (as.map V.ref)) = H4 at sL0 eL0 ⊢
      have s24 := s23.trans sL0
      obtain ⟨js, ejs⟩ : ∃ js : Nat, r7 % (ls.length : Int) = (js : Int) := ⟨(r7 % (ls.length : Int)).toNat, by have := Int.emod_nonneg r7 (show (ls.length : Int) ≠ 0 by omega); omega⟩
      have hjs : js < ls.length := by have := Int.emod_lt_of_pos r7 (show 0 < (ls.length : Int) by omega); omega
      have gls : (ls.map V.int)[js]? = some (.int ls[js]) := by rw [List.getElem?_map, List.getElem?_eq_getElem hjs]; rfl
      have elb4 := s24 _ _ elb
      have eN4 := s24 _ _ eN2
      have eR4 := sL0 _ _ eR
      refine ⟨.ref lb, rfl, .ref R, rfl, R, rs.map V.int, 7, .int r7, rfl, rfl, .inl (.inl eR4), atI_nat (j := 7) g7, .inl ⟨r7, rfl, .ref lb, rfl, .ref lb, ls.length, rfl, .inl ⟨_, .inl (.inl elb4), (List.length_map _).symm⟩, r7, (ls.length : Int), rfl, rfl, (show (0 : Int) < (ls.length : Int) by omega), lb, ls.map V.int, _, .int ls[js], rfl, rfl, .inl (.inl elb4), by rw [ejs]; exact atI_nat gls, ?_⟩⟩
      generalize ls[js] = s0
      have steps13 : ∀ x ∈ as.map V.ref, Itm K H4 13 x := fun x hx => by
        obtain ⟨k, hk, ek⟩ := List.mem_iff_getElem.mp hx
        obtain ⟨ai, st, rfl, gi, g, hai⟩ := ref_get (hst.mono s24) (List.getElem?_eq_some_iff.mpr ⟨hk, ek⟩)
        have := (name_size (gs.good st (List.mem_of_getElem? g)).w).2
        exact itm_tup hai (.int _) (.str _ (by omega)) (.int _) fun z e => by cases e; omega
      have las : as.length = ss.length := hst.length
      -- steps put on
      refine KnC.asg_if (fun σ2 G5 => ∃ (L : Addr) (xs : List V), σ2 = [some (.ref a), some (.ref N), some (.ref lb), some (.ref sl), some (.int (0 + (i : Int))), some (.ref R), some (.ref L), some (.int s0), y8, none] ∧ Same H4 G5 ∧ G5 L = some (.lst xs) ∧ 0 < xs.length ∧ xs.length ≤ 200 ∧ ∀ x ∈ xs, Itm K G5 13 x) (fun go => ?_) (fun σ2 G5 hT => ?_)
      · refine ⟨.ref R, rfl, R, rs.map V.int, 0, .int r0, rfl, rfl, .inl (.inl eR4), atI_nat (j := 0) g0, rfl, _, rfl, ite2 (fun e => ?_) (fun e => ?_)⟩
        · refine ⟨.ref L0, rfl, 9, rfl, by decide, by decide, fun LB nLB => ?_⟩
          refine lc_range (lo := 0) (n := (9 : Int).toNat) (fun j H' => Same H4 H' ∧ ∃ xs : List V, H' LB = some (.lst xs) ∧ xs.length = j ∧ ∀ x ∈ xs, Nice H' z6 x) ⟨same_upd nLB, [], upd_same, rfl, fun x hx => nomatch hx⟩ (fun j H' hj hP => ?_) (fun H' hP => ?_)
          · obtain ⟨S, xs, eX, lX, hX⟩ := hP
            refine ⟨rfl, ?_⟩
            unfold tYes
            refine iteT ?_
            refine ⟨.ref lb, rfl, lb, ls.map V.int, 0, .int b0, rfl, rfl, .inl (.inl (S _ _ elb4)), atI_nat (j := 0) gb0, .ref N, rfl, N, zs.map V.str, 6, .str z6, rfl, rfl, .inl (.inl (S _ _ eN4)), atI_nat (j := 6) gz6, .int (0 + (j : Int)), rfl, szl rfl, fun tp ntp => ?_⟩
            have st := same_upd (o := .tup [.int b0, .str z6, .int (0 + (j : Int))]) ntp
            have et : (upd H' tp (.tup [.int b0, .str z6, .int (0 + (j : Int))])) tp = some (.tup [.int b0, .str z6, .int (0 + (j : Int))]) := upd_same
            generalize upd H' tp (.tup [.int b0, .str z6, .int (0 + (j : Int))]) = H6 at st et ⊢
            have eX6 := st _ _ eX
            refine ⟨xs, eX6, small (by omega), same_set nLB (S.trans st), xs ++ [.ref tp], upd_same, by rw [List.length_append, lX]; rfl, fun x hx => ?_⟩
            rcases List.mem_append.mp hx with hx | hx
            · exact ((hX x hx).mono st).set eX6
            · rw [List.mem_singleton.mp hx]
              exact Nice.set ⟨tp, b0, 0 + (j : Int), rfl, et⟩ eX6
          · obtain ⟨S, xs, eX, lX, hX⟩ := hP
            have lX' : xs.length ≤ 80 := by omega
            refine ⟨L0, LB, _, _, rfl, rfl, S _ _ eL0, eX, smallE (by rw [List.length_map]; omega), fun L1 nL1 => ?_⟩
            have s7 := same_upd (o := .lst (as.map V.ref ++ xs)) nL1
            refine go _ _ ⟨L1, as.map V.ref ++ xs, rfl, S.trans s7, upd_same, by rw [List.length_append, List.length_map]; omega, by rw [List.length_append, List.length_map]; omega, fun x hx => ?_⟩
            rcases List.mem_append.mp hx with hx | hx
            · exact (steps13 x hx).mono (S.trans s7) (Nat.le_refl _)
            · exact ((hX x hx).mono s7).itm (by omega)
        · refine ⟨.ref R, rfl, R, rs.map V.int, 0, .int r0, rfl, rfl, .inl (.inl eR4), atI_nat (j := 0) g0, rfl, _, rfl, ite2 (fun e => ?_) (fun e => ?_)⟩
          · have l81 : (81 - (ss.length : Int)).toNat ≤ 80 := by omega
            refine ⟨.ref L0, rfl, .ref L0, rfl, .ref L0, ss.length, rfl, .inl ⟨_, .inl (.inl eL0), by rw [List.length_map]; exact las.symm⟩, 81, (ss.length : Int), rfl, rfl, 81 - (ss.length : Int), rfl, by omega, by omega, fun LB nLB => ?_⟩
            refine lc_range (lo := 0) (n := (81 - (ss.length : Int) : Int).toNat) (fun j H' => Same H4 H' ∧ ∃ xs : List V, H' LB = some (.lst xs) ∧ xs.length = j ∧ ∀ x ∈ xs, Nice H' z6 x) ⟨same_upd nLB, [], upd_same, rfl, fun x hx => nomatch hx⟩ (fun j H' hj hP => ?_) (fun H' hP => ?_)
            · obtain ⟨S, xs, eX, lX, hX⟩ := hP
              refine ⟨rfl, ?_⟩
              unfold tYes
              refine iteT ?_
              refine ⟨_, rfl, .ref N, rfl, N, zs.map V.str, 6, .str z6, rfl, rfl, .inl (.inl (S _ _ eN4)), atI_nat (j := 6) gz6, .int (0 + (j : Int)), rfl, szl rfl, fun tp ntp => ?_⟩
              have st := same_upd (o := .tup [.int (0 + (j : Int)), .str z6, .int (0 + (j : Int))]) ntp
              have et : (upd H' tp (.tup [.int (0 + (j : Int)), .str z6, .int (0 + (j : Int))])) tp = some (.tup [.int (0 + (j : Int)), .str z6, .int (0 + (j : Int))]) := upd_same
              generalize upd H' tp (.tup [.int (0 + (j : Int)), .str z6, .int (0 + (j : Int))]) = H6 at st et ⊢
              have eX6 := st _ _ eX
              refine ⟨xs, eX6, small (by omega), same_set nLB (S.trans st), xs ++ [.ref tp], upd_same, by rw [List.length_append, lX]; rfl, fun x hx => ?_⟩
              rcases List.mem_append.mp hx with hx | hx
              · exact ((hX x hx).mono st).set eX6
              · rw [List.mem_singleton.mp hx]
                exact Nice.set ⟨tp, (0 + (j : Int)), 0 + (j : Int), rfl, et⟩ eX6
            · obtain ⟨S, xs, eX, lX, hX⟩ := hP
              have lX' : xs.length ≤ 80 := by omega
              refine ⟨L0, LB, _, _, rfl, rfl, S _ _ eL0, eX, smallE (by rw [List.length_map]; omega), fun L1 nL1 => ?_⟩
              have s7 := same_upd (o := .lst (as.map V.ref ++ xs)) nL1
              refine go _ _ ⟨L1, as.map V.ref ++ xs, rfl, S.trans s7, upd_same, by rw [List.length_append, List.length_map]; omega, by rw [List.length_append, List.length_map]; omega, fun x hx => ?_⟩
              rcases List.mem_append.mp hx with hx | hx
              · exact (steps13 x hx).mono (S.trans s7) (Nat.le_refl _)
              · exact ((hX x hx).mono s7).itm (by omega)
          · exact go _ _ ⟨L0, _, rfl, Same.refl _, eL0, by rw [List.length_map]; omega, by rw [List.length_map]; omega, steps13⟩
      · obtain ⟨L, xs, rfl, s45, eL, lx0, lx, hx⟩ := hT
        have at_ : ∀ {G : Hp}, Same H4 G → SqL K G R (rs.map V.int) := fun s => .inl (.inl (s _ _ eR4))
        -- the first spoil
        refine ⟨.ref L, rfl, .ref R, rfl, R, rs.map V.int, 1, .int r1, rfl, rfl, at_ s45, atI_nat (j := 1) g1, .ref R, rfl, R, rs.map V.int, 2, .int r2, rfl, rfl, at_ s45, atI_nat (j := 2) g2, .ref R, rfl, R, rs.map V.int, 3, .int r3, rfl, rfl, at_ s45, atI_nat (j := 3) g3, ?_⟩
        refine ⟨L, xs, r1, r2, r3, 13, rfl, eL, lx0, by omega, hx, by decide, by decide, fun G6 L2 xs2 s56 eL2 lx2 hx2 => ?_⟩
        have s46 := s45.trans s56
        -- the second one
        refine KnC.asg_if (fun σ2 G7 => ∃ (L : Addr) (xs : List V), σ2 = [some (.ref a), some (.ref N), some (.ref lb), some (.ref sl), some (.int (0 + (i : Int))), some (.ref R), some (.ref L), some (.int s0), y8, none] ∧ Same H4 G7 ∧ G7 L = some (.lst xs) ∧ xs.length ≤ 200 ∧ ∀ x ∈ xs, Itm K G7 15 x) (fun go => ?_) (fun σ2 G7 hT => ?_)
        · refine ⟨.ref R, rfl, R, rs.map V.int, 0, .int r0, rfl, rfl, at_ s46, atI_nat (j := 0) g0, rfl, _, rfl, ite2 (fun e => ?_) (fun e => ?_)⟩
          · refine ⟨.ref L2, rfl, .ref R, rfl, R, rs.map V.int, 4, .int r4, rfl, rfl, at_ s46, atI_nat (j := 4) g4, .ref R, rfl, R, rs.map V.int, 5, .int r5, rfl, rfl, at_ s46, atI_nat (j := 5) g5, .ref R, rfl, R, rs.map V.int, 6, .int r6, rfl, rfl, at_ s46, atI_nat (j := 6) g6, ?_⟩
            refine ⟨L2, xs2, r4, r5, r6, 14, rfl, eL2, by omega, by omega, hx2, by decide, by decide, fun G7 L3 xs3 s67 eL3 lx3 hx3 => ?_⟩
            exact go _ _ ⟨L3, xs3, rfl, s46.trans s67, eL3, by omega, hx3⟩
          · exact go _ _ ⟨L2, xs2, rfl, s46, eL2, by omega, fun x h => (hx2 x h).mono (Same.refl _) (by decide)⟩
        · obtain ⟨L, xs, rfl, s47, eL, lx, hx⟩ := hT
          have rowL := row_lst eL (by omega) hx
          -- a thing for the start or for the row
          refine KnC.if_then (fun σ2 G8 => ∃ (row v0 : V), σ2 = [some (.ref a), some (.ref N), some (.ref lb), some (.ref sl), some (.int (0 + (i : Int))), some (.ref R), some row, some v0, y8, none] ∧ Same H4 G8 ∧ RowV K G8 row ∧ Val K G8 v0) (fun go => ?_) (fun σ2 G8 hT => ?_)
          · refine ⟨.ref R, rfl, R, rs.map V.int, 0, .int r0, rfl, rfl, at_ s47, atI_nat (j := 0) g0, rfl, _, rfl, ite2 (fun e => ?_) (fun e => ?_)⟩
            · refine ⟨.ref R, rfl, R, rs.map V.int, 3, .int r3, rfl, rfl, at_ s47, atI_nat (j := 3) g3, r3, rfl, fun v G8 s78 tv => ?_⟩
              exact go _ _ ⟨.ref L, v, rfl, s47.trans s78, rowL.mono s78, tv.hv⟩
            · refine ⟨.ref R, rfl, R, rs.map V.int, 0, .int r0, rfl, rfl, at_ s47, atI_nat (j := 0) g0, rfl, _, rfl, ite2 (fun e => ?_) (fun e => ?_)⟩
              · refine ⟨.ref R, rfl, R, rs.map V.int, 6, .int r6, rfl, rfl, at_ s47, atI_nat (j := 6) g6, r6, rfl, fun v G8 s78 tv => ?_⟩
                exact go _ _ ⟨v, .int s0, rfl, s47.trans s78, tv.row, .int s0⟩
              · exact go _ _ ⟨.ref L, .int s0, rfl, s47, rowL, .int s0⟩
          · obtain ⟨row, v0, rfl, s48, hrow, hv0⟩ := hT
            -- the faults
            refine fun FD nFD => ?_
            have sF := same_upd (o := .dK []) nFD
            have eN8 := s48 _ _ eN4
            refine ⟨.ref N, rfl, N, zs.map V.str, 0, .str z0, rfl, rfl, .inl (.inl (sF _ _ eN8)), atI_nat (j := 0) gz0, .ref N, rfl, N, zs.map V.str, 7, .str z7, rfl, rfl, .inl (.inl (sF _ _ eN8)), atI_nat (j := 7) gz7, upd_same, [(.inr z0, .str z7)], rfl, Nat.le_of_ble_eq_true rfl, ?_⟩
            rw [upd_upd]
            have S : Same G8 (upd G8 FD (.dK (mergeK [] [((.inr z0 : Key), V.str z7)]))) := same_upd nFD
            have eFD : (upd G8 FD (.dK (mergeK [] [((.inr z0 : Key), V.str z7)]))) FD = some (.dK (fkv [(z0, z7)])) := upd_same
            generalize upd G8 FD (.dK (mergeK [] [((.inr z0 : Key), V.str z7)])) = G9 at S eFD
            have s49 := s48.trans S
            have hrow9 := hrow.mono S
            have hv9 := hv0.mono S
            have fa : FArg G9 (.ref FD) [(z0, z7)] := .inr ⟨FD, rfl, eFD⟩
            have fsz : ∀ p ∈ [(z0, z7)], p.1.cps.size ≤ 100 ∧ p.2.cps.size ≤ 100 := fun p hp => by rw [List.mem_singleton.mp hp]; exact ⟨by show z0.cps.size ≤ 100; omega, by show z7.cps.size ≤ 100; omega⟩
            -- with the faults
            refine ⟨v0, rfl, row, rfl, .ref FD, rfl, v0, row, .ref FD, [(z0, z7)], rfl, hv9, hrow9.v, hrow9.it, fa, fsz, Nat.le_of_ble_eq_true rfl, fun o1 m1 G10 l1 s910 n1 e1 => ?_⟩
            have hrow10 := hrow9.mono s910
            refine ⟨v0, rfl, row, rfl, .ref FD, rfl, v0, row, .ref FD, [(z0, z7)], rfl, hv9.mono s910, hrow10.v, hrow10.it, hrow10.l, hrow10.t, fa.mono s910, by simp, fsz, Nat.le_of_ble_eq_true rfl, fun o2 G11 l2 m2 s1011 n2 e2 => ?_⟩
            have eo := m1.det (m2.back hrow9.v hrow9.it s910)
            subst eo
            refine ⟨l1, l2, outV v0 o1, rfl, rfl, s1011 _ _ e1, e2, out_own hv9 o1, _, rfl, iteF ?_⟩
            have s911 := s910.trans s1011
            have hrow11 := hrow9.mono s911
            have hv11 := hv9.mono s911
            -- without faults
            refine ⟨v0, rfl, row, rfl, v0, row, .non, [], rfl, hv11, hrow11.v, hrow11.it, .inl ⟨rfl, rfl⟩, (fun p hp => nomatch hp), by decide, fun o3 m3 G12 l3 s12 n3 e3 => ?_⟩
            have hrow12 := hrow11.mono s12
            refine ⟨l3, _, 0, .str (outS o3), rfl, rfl, .inl (.inl e3), atI_nat (j := 0) (out_head v0 o3), ?_⟩
            refine ⟨v0, rfl, row, rfl, v0, row, .non, [], rfl, hv11.mono s12, hrow12.v, hrow12.it, hrow12.l, hrow12.t, .inl ⟨rfl, rfl⟩, by simp, (fun p hp => nomatch hp), by decide, fun o4 G13 l4 m4 s13 n4 e4 => ?_⟩
            have eo := m3.det (m4.back hrow11.v hrow11.it s12)
            subst eo
            refine ⟨l4, _, 0, .str (outS o3), rfl, rfl, .inl (.inl e4), atI_nat (j := 0) (out_head v0 o3), ?_⟩
            refine ⟨.str (outS o3), .str (outS o3), rfl, .inl (.str _), fun G14 s14 => ⟨_, rfl, iteF ?_⟩⟩
            exact ⟨_, _, _, _, _, rfl, ((sG.trans (sp.trans s3)).trans sL0).trans (s49.trans (s911.trans (s12.trans (s13.trans s14))))⟩
    · exact q G

end
end Kn

set_option Elab.async false
set_option linter.all false
set_option maxRecDepth 100000
set_option maxHeartbeats 4000000
namespace Kn
open PySem PySem.Spec PyProof.Rows L2
open C8 (Cal pe_c pe_gc Mak pe_mk)
abbrev s_BadState_init : Stmt := inClass (topS 3) 0
theorem sc_BadState_init : FnScope ["self", "value"] ["self", "value"] (defScope s_BadState_init) := ⟨rfl, rfl, rfl, by decide +kernel, rfl, by decide +kernel, by decide +kernel⟩
abbrev s_BadSteps_init : Stmt := inClass (topS 4) 0
theorem sc_BadSteps_init : FnScope ["self", "at"] ["self", "at"] (defScope s_BadSteps_init) := ⟨rfl, rfl, rfl, by decide +kernel, rfl, by decide +kernel, by decide +kernel⟩
abbrev s_BadFaults_init : Stmt := inClass (topS 5) 0
theorem sc_BadFaults_init : FnScope ["self", "word"] ["self", "word"] (defScope s_BadFaults_init) := ⟨rfl, rfl, rfl, by decide +kernel, rfl, by decide +kernel, by decide +kernel⟩
abbrev s_NotLive_init : Stmt := inClass (topS 6) 0
theorem sc_NotLive_init : FnScope ["self", "state"] ["self", "state"] (defScope s_NotLive_init) := ⟨rfl, rfl, rfl, by decide +kernel, rfl, by decide +kernel, by decide +kernel⟩
abbrev s_TooMany_init : Stmt := inClass (topS 7) 0
theorem sc_TooMany_init : FnScope ["self", "limit"] ["self", "limit"] (defScope s_TooMany_init) := ⟨rfl, rfl, rfl, by decide +kernel, rfl, by decide +kernel, by decide +kernel⟩
section
variable {P : Program} {w : World} {K : PySem.W.Frag} {mg : Str → Option Value} {base : Heap}
theorem ok_BadState_init {f C C0 : Addr} {mc : Value} {fd : FuncData} (g0 : mg "KnowError" = some (.ref C0)) (B : KnX.BaseC K C0 mc) (ox : OexC K C) (no : PySem.W.findIn K (.ref C) "value" = some none) (F : Fun K "__init__" "BadState.__init__" s_BadState_init f fd) : FnOk P w K mg base CX0 1 f fd ["self", "value"] (KnX.spErr C "value" K) := by
  have nd := sc_BadState_init.nd
  refine F.ok sc_BadState_init (fun vs H Q E h => ?_) (fun cdv A outer s H vs Q E hr h => ?_)
  · obtain ⟨a, y, rfl, _⟩ := h
    rfl
  · obtain ⟨a, y, rfl, ha, q⟩ := h
    refine ⟨_, (pss_cons (ps_expr (KnX.pe_baseinit (by rfl) g0 B (pa_cons (pv 0) (pa_cons pe_str pa_nil)))) (pss_one (ps_ost (pv 0) (pv 1)))), ?_⟩
    exact ⟨.ref a, rfl, a, C, [.str _], rfl, Nat.le_of_ble_eq_true rfl, ox, ha, y, rfl, .ref a, rfl, a, C, rfl, ox, no, .inl ⟨ha, fun dx nd ne => q dx nd ne⟩⟩
theorem ok_BadSteps_init {f C C0 : Addr} {mc : Value} {fd : FuncData} (g0 : mg "KnowError" = some (.ref C0)) (B : KnX.BaseC K C0 mc) (ox : OexC K C) (no : PySem.W.findIn K (.ref C) "at" = some none) (F : Fun K "__init__" "BadSteps.__init__" s_BadSteps_init f fd) : FnOk P w K mg base CX0 1 f fd ["self", "at"] (KnX.spErr C "at" K) := by
  have nd := sc_BadSteps_init.nd
  refine F.ok sc_BadSteps_init (fun vs H Q E h => ?_) (fun cdv A outer s H vs Q E hr h => ?_)
  · obtain ⟨a, y, rfl, _⟩ := h
    rfl
  · obtain ⟨a, y, rfl, ha, q⟩ := h
    refine ⟨_, (pss_cons (ps_expr (KnX.pe_baseinit (by rfl) g0 B (pa_cons (pv 0) (pa_cons pe_str pa_nil)))) (pss_one (ps_ost (pv 0) (pv 1)))), ?_⟩
    exact ⟨.ref a, rfl, a, C, [.str _], rfl, Nat.le_of_ble_eq_true rfl, ox, ha, y, rfl, .ref a, rfl, a, C, rfl, ox, no, .inl ⟨ha, fun dx nd ne => q dx nd ne⟩⟩
theorem ok_BadFaults_init {f C C0 : Addr} {mc : Value} {fd : FuncData} (g0 : mg "KnowError" = some (.ref C0)) (B : KnX.BaseC K C0 mc) (ox : OexC K C) (no : PySem.W.findIn K (.ref C) "word" = some none) (F : Fun K "__init__" "BadFaults.__init__" s_BadFaults_init f fd) : FnOk P w K mg base CX0 1 f fd ["self", "word"] (KnX.spErr C "word" K) := by
  have nd := sc_BadFaults_init.nd
  refine F.ok sc_BadFaults_init (fun vs H Q E h => ?_) (fun cdv A outer s H vs Q E hr h => ?_)
  · obtain ⟨a, y, rfl, _⟩ := h
    rfl
  · obtain ⟨a, y, rfl, ha, q⟩ := h
    refine ⟨_, (pss_cons (ps_expr (KnX.pe_baseinit (by rfl) g0 B (pa_cons (pv 0) (pa_cons pe_str pa_nil)))) (pss_one (ps_ost (pv 0) (pv 1)))), ?_⟩
    exact ⟨.ref a, rfl, a, C, [.str _], rfl, Nat.le_of_ble_eq_true rfl, ox, ha, y, rfl, .ref a, rfl, a, C, rfl, ox, no, .inl ⟨ha, fun dx nd ne => q dx nd ne⟩⟩
theorem ok_NotLive_init {f C C0 : Addr} {mc : Value} {fd : FuncData} (g0 : mg "KnowError" = some (.ref C0)) (B : KnX.BaseC K C0 mc) (ox : OexC K C) (no : PySem.W.findIn K (.ref C) "state" = some none) (F : Fun K "__init__" "NotLive.__init__" s_NotLive_init f fd) : FnOk P w K mg base CX0 1 f fd ["self", "state"] (KnX.spErr C "state" K) := by
  have nd := sc_NotLive_init.nd
  refine F.ok sc_NotLive_init (fun vs H Q E h => ?_) (fun cdv A outer s H vs Q E hr h => ?_)
  · obtain ⟨a, y, rfl, _⟩ := h
    rfl
  · obtain ⟨a, y, rfl, ha, q⟩ := h
    refine ⟨_, (pss_cons (ps_expr (KnX.pe_baseinit (by rfl) g0 B (pa_cons (pv 0) (pa_cons pe_str pa_nil)))) (pss_one (ps_ost (pv 0) (pv 1)))), ?_⟩
    exact ⟨.ref a, rfl, a, C, [.str _], rfl, Nat.le_of_ble_eq_true rfl, ox, ha, y, rfl, .ref a, rfl, a, C, rfl, ox, no, .inl ⟨ha, fun dx nd ne => q dx nd ne⟩⟩
theorem ok_TooMany_init {f C C0 : Addr} {mc : Value} {fd : FuncData} (g0 : mg "KnowError" = some (.ref C0)) (B : KnX.BaseC K C0 mc) (ox : OexC K C) (no : PySem.W.findIn K (.ref C) "limit" = some none) (F : Fun K "__init__" "TooMany.__init__" s_TooMany_init f fd) : FnOk P w K mg base CX0 1 f fd ["self", "limit"] (KnX.spErr C "limit" K) := by
  have nd := sc_TooMany_init.nd
  refine F.ok sc_TooMany_init (fun vs H Q E h => ?_) (fun cdv A outer s H vs Q E hr h => ?_)
  · obtain ⟨a, y, rfl, _⟩ := h
    rfl
  · obtain ⟨a, y, rfl, ha, q⟩ := h
    refine ⟨_, (pss_cons (ps_expr (KnX.pe_baseinit (by rfl) g0 B (pa_cons (pv 0) (pa_cons pe_str pa_nil)))) (pss_one (ps_ost (pv 0) (pv 1)))), ?_⟩
    exact ⟨.ref a, rfl, a, C, [.str _], rfl, Nat.le_of_ble_eq_true rfl, ox, ha, y, rfl, .ref a, rfl, a, C, rfl, ox, no, .inl ⟨ha, fun dx nd ne => q dx nd ne⟩⟩
end
theorem exm_mk {K : PySem.W.Frag} {A B : Addr} {b : Bool} (eB : PySem.W.subIn K (.ref B) (.type "BaseException") = some true) (iB : PySem.W.isClsIn K B = true) (tB : PySem.W.typeIn K (.ref B) = some (.type "type")) (s : PySem.W.subIn K (.ref A) (.ref B) = some b) : PySem.W.exmOne K (.ref A) (.ref B) = some b := by
  have i2 : (PySem.W.clsIn K B).isSome = true := iB
  unfold PySem.W.exmOne
  rw [if_pos (by rw [eB]; rfl)]
  show (if ((PySem.W.clsIn K B).isSome && PySem.W.typeIn K (.ref B) == some (.type "type")) = true then PySem.W.subIn K (.ref A) (.ref B) else none) = some b
  rw [if_pos (by rw [i2, tB]; rfl), s]
theorem all_mk {l : PySem.W.OpenLaw} {w : World} {K : PySem.W.Frag} {h : Heap} {mg : Str → Option Value} {fa : Addr} (X : K.In h) (G : h.Ns mainGlobals mg) (hfa : mg "law" = some (.ref fa))
    {t17 : Addr} {tc17 : Value} {td17 : Option Addr} {tn17 : Nat} {ts17 : Array (Option Value)}
    {od0 an0 : Option Addr} {sl0 : Array (Option Value)} {oc0 kV0 dc0 pm0 cd0 ct0 : Value} {f0 : Addr}
    {od1 an1 : Option Addr} {sl1 : Array (Option Value)} {oc1 kV1 dc1 pm1 cd1 ct1 : Value} {f1 : Addr}
    {od2 an2 : Option Addr} {sl2 : Array (Option Value)} {oc2 kV2 dc2 pm2 cd2 ct2 : Value} {f2 : Addr}
    {od3 an3 : Option Addr} {sl3 : Array (Option Value)} {oc3 kV3 dc3 pm3 cd3 ct3 : Value} {f3 : Addr}
    {od4 an4 : Option Addr} {sl4 : Array (Option Value)} {oc4 kV4 dc4 pm4 cd4 ct4 : Value} {f4 : Addr}
    {od5 an5 : Option Addr} {sl5 : Array (Option Value)} {oc5 kV5 dc5 pm5 cd5 ct5 : Value} {f5 : Addr}
    {od6 an6 : Option Addr} {sl6 : Array (Option Value)} {oc6 kV6 dc6 pm6 cd6 ct6 : Value} {f6 : Addr}
    {od7 an7 : Option Addr} {sl7 : Array (Option Value)} {oc7 kV7 dc7 pm7 cd7 ct7 : Value} {f7 : Addr}
    {od8 an8 : Option Addr} {sl8 : Array (Option Value)} {oc8 kV8 dc8 pm8 cd8 ct8 : Value} {f8 : Addr}
    {od9 an9 : Option Addr} {sl9 : Array (Option Value)} {oc9 kV9 dc9 pm9 cd9 ct9 : Value} {f9 : Addr}
    {od10 an10 : Option Addr} {sl10 : Array (Option Value)} {oc10 kV10 dc10 pm10 cd10 ct10 : Value} {f10 : Addr}
    {od11 an11 : Option Addr} {sl11 : Array (Option Value)} {oc11 kV11 dc11 pm11 cd11 ct11 : Value} {f11 : Addr}
    {od12 an12 : Option Addr} {sl12 : Array (Option Value)} {oc12 kV12 dc12 pm12 cd12 ct12 : Value} {f12 : Addr}
    {od13 an13 : Option Addr} {sl13 : Array (Option Value)} {oc13 kV13 dc13 pm13 cd13 ct13 : Value} {f13 : Addr}
    {od14 an14 : Option Addr} {sl14 : Array (Option Value)} {oc14 kV14 dc14 pm14 cd14 ct14 : Value} {f14 : Addr}
    {od15 an15 : Option Addr} {sl15 : Array (Option Value)} {oc15 kV15 dc15 pm15 cd15 ct15 : Value} {f15 : Addr}
    {od16 an16 : Option Addr} {sl16 : Array (Option Value)} {oc16 kV16 dc16 pm16 cd16 ct16 : Value} {f16 : Addr}
    {od17 an17 : Option Addr} {sl17 : Array (Option Value)} {oc17 kV17 dc17 pm17 cd17 ct17 : Value} {f17 : Addr}
    {od18 an18 : Option Addr} {sl18 : Array (Option Value)} {oc18 kV18 dc18 pm18 cd18 ct18 : Value} {f18 : Addr}
    {od19 an19 : Option Addr} {sl19 : Array (Option Value)} {oc19 kV19 dc19 pm19 cd19 ct19 : Value} {f19 : Addr}
    {od20 an20 : Option Addr} {sl20 : Array (Option Value)} {oc20 kV20 dc20 pm20 cd20 ct20 : Value} {f20 : Addr}
    {od21 an21 : Option Addr} {sl21 : Array (Option Value)} {oc21 kV21 dc21 pm21 cd21 ct21 : Value} {f21 : Addr}
    {od22 an22 : Option Addr} {sl22 : Array (Option Value)} {oc22 kV22 dc22 pm22 cd22 ct22 : Value} {f22 : Addr}
    {od23 an23 : Option Addr} {sl23 : Array (Option Value)} {oc23 kV23 dc23 pm23 cd23 ct23 : Value} {f23 : Addr}
    {od24 an24 : Option Addr} {sl24 : Array (Option Value)} {oc24 kV24 dc24 pm24 cd24 ct24 : Value} {f24 : Addr}
    {od25 an25 : Option Addr} {sl25 : Array (Option Value)} {oc25 kV25 dc25 pm25 cd25 ct25 : Value} {f25 : Addr}
    {od26 an26 : Option Addr} {sl26 : Array (Option Value)} {oc26 kV26 dc26 pm26 cd26 ct26 : Value} {f26 : Addr}
    {od27 an27 : Option Addr} {sl27 : Array (Option Value)} {oc27 kV27 dc27 pm27 cd27 ct27 : Value} {f27 : Addr}
    {C : Addr} (aC : PySem.W.nsIn K mainGlobals "Machine" = some (some (.ref C)))
    {C0 : Addr} (aK : PySem.W.nsIn K mainGlobals "KnowError" = some (some (.ref C0))) (rdK : PySem.W.readsIn K C0 (.type "type") = true) (gaK : PySem.W.specialIn K (.ref C0) "__getattribute__" = some (some (.builtin "type.__getattribute__"))) (atK : PySem.W.findCls K (.ref C0) (.type "type") "__init__" = some (.val (.builtin "ValueError.__init__")))
    (iha : PySem.W.findIn K (.ref C) "__class__" = some (some (.builtin "object.__class__"))) (ihn : PySem.W.specialIn K (.builtin "object.__class__") "__get__" = some (some (.builtin "getset_descriptor.__get__"))) (ihtk : PySem.W.takesIn K (.builtin "object.__class__") = some true) (ihm : PySem.W.mroIn K C (.type "object") = some true)
    {cBadState iBadState : Addr} {nmBadState qBadState : Str} {NBadState : Addr} {bsBadState : List Value} {snBadState : List Str} {subBadState : List Value} {abBadState : Bool} {colBadState : Option Bool} {ddBadState : Option Addr} {k0BadState k1BadState k2BadState k3BadState k5BadState : Option Value} {odBadState anBadState : Option Addr} {slBadState : Array (Option Value)} {ocBadState kVBadState dcBadState pmBadState cdBadState ctBadState : Value}
    (aBadState : PySem.W.nsIn K mainGlobals "BadState" = some (some (.ref cBadState)))
    (xBadState : K.lookup cBadState = some (excClassObj nmBadState qBadState cBadState NBadState bsBadState [.ref C0, .type "ValueError", .type "Exception", .type "BaseException", .type "object"] true snBadState subBadState abBadState colBadState ddBadState k0BadState k1BadState k2BadState k3BadState k5BadState "ValueError.__new__"))
    (saBadState : PySem.W.findIn K (.ref cBadState) "__setattr__" = some (some (.builtin "object.__setattr__"))) (gaBadState : PySem.W.findIn K (.ref cBadState) "__getattribute__" = some (some (.builtin "BaseException.__getattribute__"))) (ggBadState : PySem.W.findIn K (.ref cBadState) "__getattr__" = some none) (nbBadState : PySem.W.findIn K (.ref cBadState) "value" = some none)
    (aiBadState : PySem.W.findIn K (.ref cBadState) "__init__" = some (some (.ref iBadState))) (tiBadState : PySem.W.typeIn K (.ref iBadState) = some (.type "function"))
    (liBadState : K.lookup iBadState = some ⟨ocBadState, odBadState, .func (PySem.W.fnOf "__init__" "BadState.__init__" (defArgs s_BadState_init) (defBody s_BadState_init) (defScope s_BadState_init) .none kVBadState dcBadState pmBadState anBadState cdBadState ctBadState), slBadState⟩) (diBadState : PySem.W.codeIn K cdBadState "BadState.__init__" = true) (kiBadState : PySem.W.keepIn K (.ref iBadState) = true)
    (kCBadState : PySem.W.keepIn K (.ref cBadState) = true) (eCBadState : PySem.W.subIn K (.ref cBadState) (.type "BaseException") = some true) (tCBadState : PySem.W.typeIn K (.ref cBadState) = some (.type "type")) (hCBadState : PySem.W.hasDictIn K cBadState = true) (iCBadState : PySem.W.isClsIn K cBadState = true)
    {cBadSteps iBadSteps : Addr} {nmBadSteps qBadSteps : Str} {NBadSteps : Addr} {bsBadSteps : List Value} {snBadSteps : List Str} {subBadSteps : List Value} {abBadSteps : Bool} {colBadSteps : Option Bool} {ddBadSteps : Option Addr} {k0BadSteps k1BadSteps k2BadSteps k3BadSteps k5BadSteps : Option Value} {odBadSteps anBadSteps : Option Addr} {slBadSteps : Array (Option Value)} {ocBadSteps kVBadSteps dcBadSteps pmBadSteps cdBadSteps ctBadSteps : Value}
    (aBadSteps : PySem.W.nsIn K mainGlobals "BadSteps" = some (some (.ref cBadSteps)))
    (xBadSteps : K.lookup cBadSteps = some (excClassObj nmBadSteps qBadSteps cBadSteps NBadSteps bsBadSteps [.ref C0, .type "ValueError", .type "Exception", .type "BaseException", .type "object"] true snBadSteps subBadSteps abBadSteps colBadSteps ddBadSteps k0BadSteps k1BadSteps k2BadSteps k3BadSteps k5BadSteps "ValueError.__new__"))
    (saBadSteps : PySem.W.findIn K (.ref cBadSteps) "__setattr__" = some (some (.builtin "object.__setattr__"))) (gaBadSteps : PySem.W.findIn K (.ref cBadSteps) "__getattribute__" = some (some (.builtin "BaseException.__getattribute__"))) (ggBadSteps : PySem.W.findIn K (.ref cBadSteps) "__getattr__" = some none) (nbBadSteps : PySem.W.findIn K (.ref cBadSteps) "at" = some none)
    (aiBadSteps : PySem.W.findIn K (.ref cBadSteps) "__init__" = some (some (.ref iBadSteps))) (tiBadSteps : PySem.W.typeIn K (.ref iBadSteps) = some (.type "function"))
    (liBadSteps : K.lookup iBadSteps = some ⟨ocBadSteps, odBadSteps, .func (PySem.W.fnOf "__init__" "BadSteps.__init__" (defArgs s_BadSteps_init) (defBody s_BadSteps_init) (defScope s_BadSteps_init) .none kVBadSteps dcBadSteps pmBadSteps anBadSteps cdBadSteps ctBadSteps), slBadSteps⟩) (diBadSteps : PySem.W.codeIn K cdBadSteps "BadSteps.__init__" = true) (kiBadSteps : PySem.W.keepIn K (.ref iBadSteps) = true)
    (kCBadSteps : PySem.W.keepIn K (.ref cBadSteps) = true) (eCBadSteps : PySem.W.subIn K (.ref cBadSteps) (.type "BaseException") = some true) (tCBadSteps : PySem.W.typeIn K (.ref cBadSteps) = some (.type "type")) (hCBadSteps : PySem.W.hasDictIn K cBadSteps = true) (iCBadSteps : PySem.W.isClsIn K cBadSteps = true)
    {cBadFaults iBadFaults : Addr} {nmBadFaults qBadFaults : Str} {NBadFaults : Addr} {bsBadFaults : List Value} {snBadFaults : List Str} {subBadFaults : List Value} {abBadFaults : Bool} {colBadFaults : Option Bool} {ddBadFaults : Option Addr} {k0BadFaults k1BadFaults k2BadFaults k3BadFaults k5BadFaults : Option Value} {odBadFaults anBadFaults : Option Addr} {slBadFaults : Array (Option Value)} {ocBadFaults kVBadFaults dcBadFaults pmBadFaults cdBadFaults ctBadFaults : Value}
    (aBadFaults : PySem.W.nsIn K mainGlobals "BadFaults" = some (some (.ref cBadFaults)))
    (xBadFaults : K.lookup cBadFaults = some (excClassObj nmBadFaults qBadFaults cBadFaults NBadFaults bsBadFaults [.ref C0, .type "ValueError", .type "Exception", .type "BaseException", .type "object"] true snBadFaults subBadFaults abBadFaults colBadFaults ddBadFaults k0BadFaults k1BadFaults k2BadFaults k3BadFaults k5BadFaults "ValueError.__new__"))
    (saBadFaults : PySem.W.findIn K (.ref cBadFaults) "__setattr__" = some (some (.builtin "object.__setattr__"))) (gaBadFaults : PySem.W.findIn K (.ref cBadFaults) "__getattribute__" = some (some (.builtin "BaseException.__getattribute__"))) (ggBadFaults : PySem.W.findIn K (.ref cBadFaults) "__getattr__" = some none) (nbBadFaults : PySem.W.findIn K (.ref cBadFaults) "word" = some none)
    (aiBadFaults : PySem.W.findIn K (.ref cBadFaults) "__init__" = some (some (.ref iBadFaults))) (tiBadFaults : PySem.W.typeIn K (.ref iBadFaults) = some (.type "function"))
    (liBadFaults : K.lookup iBadFaults = some ⟨ocBadFaults, odBadFaults, .func (PySem.W.fnOf "__init__" "BadFaults.__init__" (defArgs s_BadFaults_init) (defBody s_BadFaults_init) (defScope s_BadFaults_init) .none kVBadFaults dcBadFaults pmBadFaults anBadFaults cdBadFaults ctBadFaults), slBadFaults⟩) (diBadFaults : PySem.W.codeIn K cdBadFaults "BadFaults.__init__" = true) (kiBadFaults : PySem.W.keepIn K (.ref iBadFaults) = true)
    (kCBadFaults : PySem.W.keepIn K (.ref cBadFaults) = true) (eCBadFaults : PySem.W.subIn K (.ref cBadFaults) (.type "BaseException") = some true) (tCBadFaults : PySem.W.typeIn K (.ref cBadFaults) = some (.type "type")) (hCBadFaults : PySem.W.hasDictIn K cBadFaults = true) (iCBadFaults : PySem.W.isClsIn K cBadFaults = true)
    {cNotLive iNotLive : Addr} {nmNotLive qNotLive : Str} {NNotLive : Addr} {bsNotLive : List Value} {snNotLive : List Str} {subNotLive : List Value} {abNotLive : Bool} {colNotLive : Option Bool} {ddNotLive : Option Addr} {k0NotLive k1NotLive k2NotLive k3NotLive k5NotLive : Option Value} {odNotLive anNotLive : Option Addr} {slNotLive : Array (Option Value)} {ocNotLive kVNotLive dcNotLive pmNotLive cdNotLive ctNotLive : Value}
    (aNotLive : PySem.W.nsIn K mainGlobals "NotLive" = some (some (.ref cNotLive)))
    (xNotLive : K.lookup cNotLive = some (excClassObj nmNotLive qNotLive cNotLive NNotLive bsNotLive [.ref C0, .type "ValueError", .type "Exception", .type "BaseException", .type "object"] true snNotLive subNotLive abNotLive colNotLive ddNotLive k0NotLive k1NotLive k2NotLive k3NotLive k5NotLive "ValueError.__new__"))
    (saNotLive : PySem.W.findIn K (.ref cNotLive) "__setattr__" = some (some (.builtin "object.__setattr__"))) (gaNotLive : PySem.W.findIn K (.ref cNotLive) "__getattribute__" = some (some (.builtin "BaseException.__getattribute__"))) (ggNotLive : PySem.W.findIn K (.ref cNotLive) "__getattr__" = some none) (nbNotLive : PySem.W.findIn K (.ref cNotLive) "state" = some none)
    (aiNotLive : PySem.W.findIn K (.ref cNotLive) "__init__" = some (some (.ref iNotLive))) (tiNotLive : PySem.W.typeIn K (.ref iNotLive) = some (.type "function"))
    (liNotLive : K.lookup iNotLive = some ⟨ocNotLive, odNotLive, .func (PySem.W.fnOf "__init__" "NotLive.__init__" (defArgs s_NotLive_init) (defBody s_NotLive_init) (defScope s_NotLive_init) .none kVNotLive dcNotLive pmNotLive anNotLive cdNotLive ctNotLive), slNotLive⟩) (diNotLive : PySem.W.codeIn K cdNotLive "NotLive.__init__" = true) (kiNotLive : PySem.W.keepIn K (.ref iNotLive) = true)
    (kCNotLive : PySem.W.keepIn K (.ref cNotLive) = true) (eCNotLive : PySem.W.subIn K (.ref cNotLive) (.type "BaseException") = some true) (tCNotLive : PySem.W.typeIn K (.ref cNotLive) = some (.type "type")) (hCNotLive : PySem.W.hasDictIn K cNotLive = true) (iCNotLive : PySem.W.isClsIn K cNotLive = true)
    {cTooMany iTooMany : Addr} {nmTooMany qTooMany : Str} {NTooMany : Addr} {bsTooMany : List Value} {snTooMany : List Str} {subTooMany : List Value} {abTooMany : Bool} {colTooMany : Option Bool} {ddTooMany : Option Addr} {k0TooMany k1TooMany k2TooMany k3TooMany k5TooMany : Option Value} {odTooMany anTooMany : Option Addr} {slTooMany : Array (Option Value)} {ocTooMany kVTooMany dcTooMany pmTooMany cdTooMany ctTooMany : Value}
    (aTooMany : PySem.W.nsIn K mainGlobals "TooMany" = some (some (.ref cTooMany)))
    (xTooMany : K.lookup cTooMany = some (excClassObj nmTooMany qTooMany cTooMany NTooMany bsTooMany [.ref C0, .type "ValueError", .type "Exception", .type "BaseException", .type "object"] true snTooMany subTooMany abTooMany colTooMany ddTooMany k0TooMany k1TooMany k2TooMany k3TooMany k5TooMany "ValueError.__new__"))
    (saTooMany : PySem.W.findIn K (.ref cTooMany) "__setattr__" = some (some (.builtin "object.__setattr__"))) (gaTooMany : PySem.W.findIn K (.ref cTooMany) "__getattribute__" = some (some (.builtin "BaseException.__getattribute__"))) (ggTooMany : PySem.W.findIn K (.ref cTooMany) "__getattr__" = some none) (nbTooMany : PySem.W.findIn K (.ref cTooMany) "limit" = some none)
    (aiTooMany : PySem.W.findIn K (.ref cTooMany) "__init__" = some (some (.ref iTooMany))) (tiTooMany : PySem.W.typeIn K (.ref iTooMany) = some (.type "function"))
    (liTooMany : K.lookup iTooMany = some ⟨ocTooMany, odTooMany, .func (PySem.W.fnOf "__init__" "TooMany.__init__" (defArgs s_TooMany_init) (defBody s_TooMany_init) (defScope s_TooMany_init) .none kVTooMany dcTooMany pmTooMany anTooMany cdTooMany ctTooMany), slTooMany⟩) (diTooMany : PySem.W.codeIn K cdTooMany "TooMany.__init__" = true) (kiTooMany : PySem.W.keepIn K (.ref iTooMany) = true)
    (kCTooMany : PySem.W.keepIn K (.ref cTooMany) = true) (eCTooMany : PySem.W.subIn K (.ref cTooMany) (.type "BaseException") = some true) (tCTooMany : PySem.W.typeIn K (.ref cTooMany) = some (.type "type")) (hCTooMany : PySem.W.hasDictIn K cTooMany = true) (iCTooMany : PySem.W.isClsIn K cTooMany = true)
    (sBadStateBadState : PySem.W.subIn K (.ref cBadState) (.ref cBadState) = some true)
    (sBadStateBadSteps : PySem.W.subIn K (.ref cBadState) (.ref cBadSteps) = some false)
    (sBadStateBadFaults : PySem.W.subIn K (.ref cBadState) (.ref cBadFaults) = some false)
    (sBadStateNotLive : PySem.W.subIn K (.ref cBadState) (.ref cNotLive) = some false)
    (sBadStateTooMany : PySem.W.subIn K (.ref cBadState) (.ref cTooMany) = some false)
    (sBadStepsBadState : PySem.W.subIn K (.ref cBadSteps) (.ref cBadState) = some false)
    (sBadStepsBadSteps : PySem.W.subIn K (.ref cBadSteps) (.ref cBadSteps) = some true)
    (sBadStepsBadFaults : PySem.W.subIn K (.ref cBadSteps) (.ref cBadFaults) = some false)
    (sBadStepsNotLive : PySem.W.subIn K (.ref cBadSteps) (.ref cNotLive) = some false)
    (sBadStepsTooMany : PySem.W.subIn K (.ref cBadSteps) (.ref cTooMany) = some false)
    (sBadFaultsBadState : PySem.W.subIn K (.ref cBadFaults) (.ref cBadState) = some false)
    (sBadFaultsBadSteps : PySem.W.subIn K (.ref cBadFaults) (.ref cBadSteps) = some false)
    (sBadFaultsBadFaults : PySem.W.subIn K (.ref cBadFaults) (.ref cBadFaults) = some true)
    (sBadFaultsNotLive : PySem.W.subIn K (.ref cBadFaults) (.ref cNotLive) = some false)
    (sBadFaultsTooMany : PySem.W.subIn K (.ref cBadFaults) (.ref cTooMany) = some false)
    (sNotLiveBadState : PySem.W.subIn K (.ref cNotLive) (.ref cBadState) = some false)
    (sNotLiveBadSteps : PySem.W.subIn K (.ref cNotLive) (.ref cBadSteps) = some false)
    (sNotLiveBadFaults : PySem.W.subIn K (.ref cNotLive) (.ref cBadFaults) = some false)
    (sNotLiveNotLive : PySem.W.subIn K (.ref cNotLive) (.ref cNotLive) = some true)
    (sNotLiveTooMany : PySem.W.subIn K (.ref cNotLive) (.ref cTooMany) = some false)
    (sTooManyBadState : PySem.W.subIn K (.ref cTooMany) (.ref cBadState) = some false)
    (sTooManyBadSteps : PySem.W.subIn K (.ref cTooMany) (.ref cBadSteps) = some false)
    (sTooManyBadFaults : PySem.W.subIn K (.ref cTooMany) (.ref cBadFaults) = some false)
    (sTooManyNotLive : PySem.W.subIn K (.ref cTooMany) (.ref cNotLive) = some false)
    (sTooManyTooMany : PySem.W.subIn K (.ref cTooMany) (.ref cTooMany) = some true)
    (a0 : PySem.W.nsIn K mainGlobals "_law_mix" = some (some (.ref f0)))
    (l0 : K.lookup f0 = some ⟨oc0, od0, .func (PySem.W.fnOf "_law_mix" "_law_mix" (defArgs s__law_mix) (defBody s__law_mix) (defScope s__law_mix) .none kV0 dc0 pm0 an0 cd0 ct0), sl0⟩) (d0 : PySem.W.codeIn K cd0 "_law_mix" = true) (k0 : PySem.W.keepIn K (.ref f0) = true)
    (a1 : PySem.W.nsIn K mainGlobals "_law_row" = some (some (.ref f1)))
    (l1 : K.lookup f1 = some ⟨oc1, od1, .func (PySem.W.fnOf "_law_row" "_law_row" (defArgs s__law_row) (defBody s__law_row) (defScope s__law_row) .none kV1 dc1 pm1 an1 cd1 ct1), sl1⟩) (d1 : PySem.W.codeIn K cd1 "_law_row" = true) (k1 : PySem.W.keepIn K (.ref f1) = true)
    (a2 : PySem.W.nsIn K mainGlobals "_law_names" = some (some (.ref f2)))
    (l2 : K.lookup f2 = some ⟨oc2, od2, .func (PySem.W.fnOf "_law_names" "_law_names" (defArgs s__law_names) (defBody s__law_names) (defScope s__law_names) .none kV2 dc2 pm2 an2 cd2 ct2), sl2⟩) (d2 : PySem.W.codeIn K cd2 "_law_names" = true) (k2 : PySem.W.keepIn K (.ref f2) = true)
    (a3 : PySem.W.nsIn K mainGlobals "_law_cell" = some (some (.ref f3)))
    (l3 : K.lookup f3 = some ⟨oc3, od3, .func (PySem.W.fnOf "_law_cell" "_law_cell" (defArgs s__law_cell) (defBody s__law_cell) (defScope s__law_cell) .none kV3 dc3 pm3 an3 cd3 ct3), sl3⟩) (d3 : PySem.W.codeIn K cd3 "_law_cell" = true) (k3 : PySem.W.keepIn K (.ref f3) = true)
    (a4 : PySem.W.nsIn K mainGlobals "_law_machine" = some (some (.ref f4)))
    (l4 : K.lookup f4 = some ⟨oc4, od4, .func (PySem.W.fnOf "_law_machine" "_law_machine" (defArgs s__law_machine) (defBody s__law_machine) (defScope s__law_machine) .none kV4 dc4 pm4 an4 cd4 ct4), sl4⟩) (d4 : PySem.W.codeIn K cd4 "_law_machine" = true) (k4 : PySem.W.keepIn K (.ref f4) = true)
    (a5 : PySem.W.nsIn K mainGlobals "_law_deep" = some (some (.ref f5)))
    (l5 : K.lookup f5 = some ⟨oc5, od5, .func (PySem.W.fnOf "_law_deep" "_law_deep" (defArgs s__law_deep) (defBody s__law_deep) (defScope s__law_deep) .none kV5 dc5 pm5 an5 cd5 ct5), sl5⟩) (d5 : PySem.W.codeIn K cd5 "_law_deep" = true) (k5 : PySem.W.keepIn K (.ref f5) = true)
    (a6 : PySem.W.nsIn K mainGlobals "_law_thing" = some (some (.ref f6)))
    (l6 : K.lookup f6 = some ⟨oc6, od6, .func (PySem.W.fnOf "_law_thing" "_law_thing" (defArgs s__law_thing) (defBody s__law_thing) (defScope s__law_thing) .none kV6 dc6 pm6 an6 cd6 ct6), sl6⟩) (d6 : PySem.W.codeIn K cd6 "_law_thing" = true) (k6 : PySem.W.keepIn K (.ref f6) = true)
    (a7 : PySem.W.nsIn K mainGlobals "_law_spoiled" = some (some (.ref f7)))
    (l7 : K.lookup f7 = some ⟨oc7, od7, .func (PySem.W.fnOf "_law_spoiled" "_law_spoiled" (defArgs s__law_spoiled) (defBody s__law_spoiled) (defScope s__law_spoiled) .none kV7 dc7 pm7 an7 cd7 ct7), sl7⟩) (d7 : PySem.W.codeIn K cd7 "_law_spoiled" = true) (k7 : PySem.W.keepIn K (.ref f7) = true)
    (a8 : PySem.W.nsIn K mainGlobals "is_whole" = some (some (.ref f8)))
    (l8 : K.lookup f8 = some ⟨oc8, od8, .func (PySem.W.fnOf "is_whole" "is_whole" (defArgs s_is_whole) (defBody s_is_whole) (defScope s_is_whole) .none kV8 dc8 pm8 an8 cd8 ct8), sl8⟩) (d8 : PySem.W.codeIn K cd8 "is_whole" = true) (k8 : PySem.W.keepIn K (.ref f8) = true)
    (a9 : PySem.W.nsIn K mainGlobals "is_state" = some (some (.ref f9)))
    (l9 : K.lookup f9 = some ⟨oc9, od9, .func (PySem.W.fnOf "is_state" "is_state" (defArgs s_is_state) (defBody s_is_state) (defScope s_is_state) .none kV9 dc9 pm9 an9 cd9 ct9), sl9⟩) (d9 : PySem.W.codeIn K cd9 "is_state" = true) (k9 : PySem.W.keepIn K (.ref f9) = true)
    (a10 : PySem.W.nsIn K mainGlobals "is_row" = some (some (.ref f10)))
    (l10 : K.lookup f10 = some ⟨oc10, od10, .func (PySem.W.fnOf "is_row" "is_row" (defArgs s_is_row) (defBody s_is_row) (defScope s_is_row) .none kV10 dc10 pm10 an10 cd10 ct10), sl10⟩) (d10 : PySem.W.codeIn K cd10 "is_row" = true) (k10 : PySem.W.keepIn K (.ref f10) = true)
    (a11 : PySem.W.nsIn K mainGlobals "is_name" = some (some (.ref f11)))
    (l11 : K.lookup f11 = some ⟨oc11, od11, .func (PySem.W.fnOf "is_name" "is_name" (defArgs s_is_name) (defBody s_is_name) (defScope s_is_name) .none kV11 dc11 pm11 an11 cd11 ct11), sl11⟩) (d11 : PySem.W.codeIn K cd11 "is_name" = true) (k11 : PySem.W.keepIn K (.ref f11) = true)
    (a12 : PySem.W.nsIn K mainGlobals "is_step" = some (some (.ref f12)))
    (l12 : K.lookup f12 = some ⟨oc12, od12, .func (PySem.W.fnOf "is_step" "is_step" (defArgs s_is_step) (defBody s_is_step) (defScope s_is_step) .none kV12 dc12 pm12 an12 cd12 ct12), sl12⟩) (d12 : PySem.W.codeIn K cd12 "is_step" = true) (k12 : PySem.W.keepIn K (.ref f12) = true)
    (a13 : PySem.W.nsIn K mainGlobals "check_steps" = some (some (.ref f13)))
    (l13 : K.lookup f13 = some ⟨oc13, od13, .func (PySem.W.fnOf "check_steps" "check_steps" (defArgs s_check_steps) (defBody s_check_steps) (defScope s_check_steps) .none kV13 dc13 pm13 an13 cd13 ct13), sl13⟩) (d13 : PySem.W.codeIn K cd13 "check_steps" = true) (k13 : PySem.W.keepIn K (.ref f13) = true)
    (a14 : PySem.W.nsIn K mainGlobals "check_faults" = some (some (.ref f14)))
    (l14 : K.lookup f14 = some ⟨oc14, od14, .func (PySem.W.fnOf "check_faults" "check_faults" (defArgs s_check_faults) (defBody s_check_faults) (defScope s_check_faults) .none kV14 dc14 pm14 an14 cd14 ct14), sl14⟩) (d14 : PySem.W.codeIn K cd14 "check_faults" = true) (k14 : PySem.W.keepIn K (.ref f14) = true)
    (a15 : PySem.W.nsIn K mainGlobals "moves_by_state" = some (some (.ref f15)))
    (l15 : K.lookup f15 = some ⟨oc15, od15, .func (PySem.W.fnOf "moves_by_state" "moves_by_state" (defArgs s_moves_by_state) (defBody s_moves_by_state) (defScope s_moves_by_state) .none kV15 dc15 pm15 an15 cd15 ct15), sl15⟩) (d15 : PySem.W.codeIn K cd15 "moves_by_state" = true) (k15 : PySem.W.keepIn K (.ref f15) = true)
    (a16 : PySem.W.nsIn K mainGlobals "reached_states" = some (some (.ref f16)))
    (l16 : K.lookup f16 = some ⟨oc16, od16, .func (PySem.W.fnOf "reached_states" "reached_states" (defArgs s_reached_states) (defBody s_reached_states) (defScope s_reached_states) .none kV16 dc16 pm16 an16 cd16 ct16), sl16⟩) (d16 : PySem.W.codeIn K cd16 "reached_states" = true) (k16 : PySem.W.keepIn K (.ref f16) = true)
    (a17 : PySem.W.findIn K (.ref C) "__init__" = some (some (.ref f17))) (i17 : PySem.W.isFn K (.ref f17) = true)
    (l17 : K.lookup f17 = some ⟨oc17, od17, .func (PySem.W.fnOf "__init__" "Machine.__init__" (defArgs s_Machine_init) (defBody s_Machine_init) (defScope s_Machine_init) (.ref t17) kV17 dc17 pm17 an17 cd17 ct17), sl17⟩) (d17 : PySem.W.codeIn K cd17 "Machine.__init__" = true) (k17 : PySem.W.keepIn K (.ref f17) = true)
    (tl17 : K.lookup t17 = some ⟨tc17, td17, .seq #[.none] tn17, ts17⟩)
    (a18 : PySem.W.nsIn K mainGlobals "_law_made" = some (some (.ref f18)))
    (l18 : K.lookup f18 = some ⟨oc18, od18, .func (PySem.W.fnOf "_law_made" "_law_made" (defArgs s__law_made) (defBody s__law_made) (defScope s__law_made) .none kV18 dc18 pm18 an18 cd18 ct18), sl18⟩) (d18 : PySem.W.codeIn K cd18 "_law_made" = true) (k18 : PySem.W.keepIn K (.ref f18) = true)
    (a19 : PySem.W.nsIn K mainGlobals "_law_is_integer" = some (some (.ref f19)))
    (l19 : K.lookup f19 = some ⟨oc19, od19, .func (PySem.W.fnOf "_law_is_integer" "_law_is_integer" (defArgs s__law_is_integer) (defBody s__law_is_integer) (defScope s__law_is_integer) .none kV19 dc19 pm19 an19 cd19 ct19), sl19⟩) (d19 : PySem.W.codeIn K cd19 "_law_is_integer" = true) (k19 : PySem.W.keepIn K (.ref f19) = true)
    (a20 : PySem.W.nsIn K mainGlobals "_law_is_state" = some (some (.ref f20)))
    (l20 : K.lookup f20 = some ⟨oc20, od20, .func (PySem.W.fnOf "_law_is_state" "_law_is_state" (defArgs s__law_is_state) (defBody s__law_is_state) (defScope s__law_is_state) .none kV20 dc20 pm20 an20 cd20 ct20), sl20⟩) (d20 : PySem.W.codeIn K cd20 "_law_is_state" = true) (k20 : PySem.W.keepIn K (.ref f20) = true)
    (a21 : PySem.W.nsIn K mainGlobals "_law_is_name" = some (some (.ref f21)))
    (l21 : K.lookup f21 = some ⟨oc21, od21, .func (PySem.W.fnOf "_law_is_name" "_law_is_name" (defArgs s__law_is_name) (defBody s__law_is_name) (defScope s__law_is_name) .none kV21 dc21 pm21 an21 cd21 ct21), sl21⟩) (d21 : PySem.W.codeIn K cd21 "_law_is_name" = true) (k21 : PySem.W.keepIn K (.ref f21) = true)
    (a22 : PySem.W.nsIn K mainGlobals "_law_bad_step" = some (some (.ref f22)))
    (l22 : K.lookup f22 = some ⟨oc22, od22, .func (PySem.W.fnOf "_law_bad_step" "_law_bad_step" (defArgs s__law_bad_step) (defBody s__law_bad_step) (defScope s__law_bad_step) .none kV22 dc22 pm22 an22 cd22 ct22), sl22⟩) (d22 : PySem.W.codeIn K cd22 "_law_bad_step" = true) (k22 : PySem.W.keepIn K (.ref f22) = true)
    (a23 : PySem.W.nsIn K mainGlobals "_law_bad_fault" = some (some (.ref f23)))
    (l23 : K.lookup f23 = some ⟨oc23, od23, .func (PySem.W.fnOf "_law_bad_fault" "_law_bad_fault" (defArgs s__law_bad_fault) (defBody s__law_bad_fault) (defScope s__law_bad_fault) .none kV23 dc23 pm23 an23 cd23 ct23), sl23⟩) (d23 : PySem.W.codeIn K cd23 "_law_bad_fault" = true) (k23 : PySem.W.keepIn K (.ref f23) = true)
    (a24 : PySem.W.nsIn K mainGlobals "_law_reached" = some (some (.ref f24)))
    (l24 : K.lookup f24 = some ⟨oc24, od24, .func (PySem.W.fnOf "_law_reached" "_law_reached" (defArgs s__law_reached) (defBody s__law_reached) (defScope s__law_reached) .none kV24 dc24 pm24 an24 cd24 ct24), sl24⟩) (d24 : PySem.W.codeIn K cd24 "_law_reached" = true) (k24 : PySem.W.keepIn K (.ref f24) = true)
    (a25 : PySem.W.nsIn K mainGlobals "_law_due" = some (some (.ref f25)))
    (l25 : K.lookup f25 = some ⟨oc25, od25, .func (PySem.W.fnOf "_law_due" "_law_due" (defArgs s__law_due) (defBody s__law_due) (defScope s__law_due) .none kV25 dc25 pm25 an25 cd25 ct25), sl25⟩) (d25 : PySem.W.codeIn K cd25 "_law_due" = true) (k25 : PySem.W.keepIn K (.ref f25) = true)
    (a26 : PySem.W.nsIn K mainGlobals "_law_exact" = some (some (.ref f26)))
    (l26 : K.lookup f26 = some ⟨oc26, od26, .func (PySem.W.fnOf "_law_exact" "_law_exact" (defArgs s__law_exact) (defBody s__law_exact) (defScope s__law_exact) .none kV26 dc26 pm26 an26 cd26 ct26), sl26⟩) (d26 : PySem.W.codeIn K cd26 "_law_exact" = true) (k26 : PySem.W.keepIn K (.ref f26) = true)
    (a27 : PySem.W.nsIn K mainGlobals "law" = some (some (.ref f27)))
    (l27 : K.lookup f27 = some ⟨oc27, od27, .func (PySem.W.fnOf "law" "law" (defArgs s_law) (defBody s_law) (defScope s_law) .none kV27 dc27 pm27 an27 cd27 ct27), sl27⟩) (d27 : PySem.W.codeIn K cd27 "law" = true) (k27 : PySem.W.keepIn K (.ref f27) = true)
    (pg : PySem.W.plainGet K C Str.empty = true) (hd : PySem.W.hasDictIn K C = true) (po : PySem.W.plainOver K C = true) (sa : PySem.W.findIn K (.ref C) "__setattr__" = some (some (.builtin "object.__setattr__"))) (mk : PySem.W.makesIn K C = true) (kc : PySem.W.keepIn K (.ref C) = true)
    (n__start : PySem.W.findIn K (.ref C) "_start" = some none)
    (n__steps : PySem.W.findIn K (.ref C) "_steps" = some none)
    (n__words : PySem.W.findIn K (.ref C) "_words" = some none)
    (n__faults : PySem.W.findIn K (.ref C) "_faults" = some none)
    (n__states : PySem.W.findIn K (.ref C) "_states" = some none)
    (z_all : PySem.W.nsIn K mainGlobals "all" = some none)
    (z_bool : PySem.W.nsIn K mainGlobals "bool" = some none)
    (z_dict : PySem.W.nsIn K mainGlobals "dict" = some none)
    (z_enumerate : PySem.W.nsIn K mainGlobals "enumerate" = some none)
    (z_int : PySem.W.nsIn K mainGlobals "int" = some none)
    (z_isinstance : PySem.W.nsIn K mainGlobals "isinstance" = some none)
    (z_len : PySem.W.nsIn K mainGlobals "len" = some none)
    (z_list : PySem.W.nsIn K mainGlobals "list" = some none)
    (z_range : PySem.W.nsIn K mainGlobals "range" = some none)
    (z_set : PySem.W.nsIn K mainGlobals "set" = some none)
    (z_sorted : PySem.W.nsIn K mainGlobals "sorted" = some none)
    (z_str : PySem.W.nsIn K mainGlobals "str" = some none)
    (z_tuple : PySem.W.nsIn K mainGlobals "tuple" = some none)
    {u_GREATEST_STATE : Value} (g_GREATEST_STATE : PySem.W.nsIn K mainGlobals "GREATEST_STATE" = some (some u_GREATEST_STATE)) (r_GREATEST_STATE : RelV (.int 99) u_GREATEST_STATE)
    {u_LONGEST_NAME : Value} (g_LONGEST_NAME : PySem.W.nsIn K mainGlobals "LONGEST_NAME" = some (some u_LONGEST_NAME)) (r_LONGEST_NAME : RelV (.int 12) u_LONGEST_NAME)
    {u_LETTERS : Value} (g_LETTERS : PySem.W.nsIn K mainGlobals "LETTERS" = some (some u_LETTERS)) (r_LETTERS : RelV (.str "abcdefghijklmnopqrstuvwxyz") u_LETTERS)
    {u_MOST_STEPS : Value} (g_MOST_STEPS : PySem.W.nsIn K mainGlobals "MOST_STEPS" = some (some u_MOST_STEPS)) (r_MOST_STEPS : RelV (.int 80) u_MOST_STEPS)
    {u_MOST_LEAVING : Value} (g_MOST_LEAVING : PySem.W.nsIn K mainGlobals "MOST_LEAVING" = some (some u_MOST_LEAVING)) (r_MOST_LEAVING : RelV (.int 8) u_MOST_LEAVING)
    {u_MOST_FAULTS : Value} (g_MOST_FAULTS : PySem.W.nsIn K mainGlobals "MOST_FAULTS" = some (some u_MOST_FAULTS)) (r_MOST_FAULTS : RelV (.int 3) u_MOST_FAULTS)
    {u_MOST_WORDS : Value} (g_MOST_WORDS : PySem.W.nsIn K mainGlobals "MOST_WORDS" = some (some u_MOST_WORDS)) (r_MOST_WORDS : RelV (.int 14) u_MOST_WORDS) :
    ∃ fd : FuncData, (∀ (s : Shared) (v : Value), BindsTo s fd ⟨[v], []⟩ [("_law_script", v)]) ∧ ∀ base : Heap, K.In base → base.Ns mainGlobals mg → FnOk l.prog w K mg base CX0 8 fa fd ["_law_script"] (sp_law K) := by
  have e := hfa.symm.trans (PySem.W.mg_of X G a27)
  cases e
  have T : Txt K mg C := ⟨PySem.W.mg_none_of X G z_all, PySem.W.mg_none_of X G z_bool, PySem.W.mg_none_of X G z_dict, PySem.W.mg_none_of X G z_enumerate, PySem.W.mg_none_of X G z_int, PySem.W.mg_none_of X G z_isinstance, PySem.W.mg_none_of X G z_len, PySem.W.mg_none_of X G z_list, PySem.W.mg_none_of X G z_range, PySem.W.mg_none_of X G z_set, PySem.W.mg_none_of X G z_sorted, PySem.W.mg_none_of X G z_str, PySem.W.mg_none_of X G z_tuple, ⟨_, PySem.W.mg_of X G g_GREATEST_STATE, r_GREATEST_STATE⟩, ⟨_, PySem.W.mg_of X G g_LONGEST_NAME, r_LONGEST_NAME⟩, ⟨_, PySem.W.mg_of X G g_LETTERS, r_LETTERS⟩, ⟨_, PySem.W.mg_of X G g_MOST_STEPS, r_MOST_STEPS⟩, ⟨_, PySem.W.mg_of X G g_MOST_LEAVING, r_MOST_LEAVING⟩, ⟨_, PySem.W.mg_of X G g_MOST_FAULTS, r_MOST_FAULTS⟩, ⟨_, PySem.W.mg_of X G g_MOST_WORDS, r_MOST_WORDS⟩, ⟨pg, hd, po, sa⟩, n__start, n__steps, n__words, n__faults, n__states⟩
  have oxBadState : OexC K cBadState := ⟨⟨nmBadState, qBadState, NBadState, bsBadState, _, snBadState, subBadState, abBadState, colBadState, ddBadState, k0BadState, k1BadState, k2BadState, k3BadState, k5BadState, xBadState, rfl⟩, saBadState, eCBadState, tCBadState, kCBadState⟩
  have oxBadSteps : OexC K cBadSteps := ⟨⟨nmBadSteps, qBadSteps, NBadSteps, bsBadSteps, _, snBadSteps, subBadSteps, abBadSteps, colBadSteps, ddBadSteps, k0BadSteps, k1BadSteps, k2BadSteps, k3BadSteps, k5BadSteps, xBadSteps, rfl⟩, saBadSteps, eCBadSteps, tCBadSteps, kCBadSteps⟩
  have oxBadFaults : OexC K cBadFaults := ⟨⟨nmBadFaults, qBadFaults, NBadFaults, bsBadFaults, _, snBadFaults, subBadFaults, abBadFaults, colBadFaults, ddBadFaults, k0BadFaults, k1BadFaults, k2BadFaults, k3BadFaults, k5BadFaults, xBadFaults, rfl⟩, saBadFaults, eCBadFaults, tCBadFaults, kCBadFaults⟩
  have oxNotLive : OexC K cNotLive := ⟨⟨nmNotLive, qNotLive, NNotLive, bsNotLive, _, snNotLive, subNotLive, abNotLive, colNotLive, ddNotLive, k0NotLive, k1NotLive, k2NotLive, k3NotLive, k5NotLive, xNotLive, rfl⟩, saNotLive, eCNotLive, tCNotLive, kCNotLive⟩
  have oxTooMany : OexC K cTooMany := ⟨⟨nmTooMany, qTooMany, NTooMany, bsTooMany, _, snTooMany, subTooMany, abTooMany, colTooMany, ddTooMany, k0TooMany, k1TooMany, k2TooMany, k3TooMany, k5TooMany, xTooMany, rfl⟩, saTooMany, eCTooMany, tCTooMany, kCTooMany⟩
  have BC : KnX.BaseC K C0 (.type "type") := ⟨⟨rdK, gaK⟩, atK⟩
  let ce : Es := ⟨cBadState, cBadSteps, cBadFaults, cNotLive, cTooMany⟩
  have hsame : ∀ A ∈ [ce.st, ce.sp, ce.fa, ce.nl, ce.tm], PySem.W.exmOne K (.ref A) (.ref A) = some true := by
    intro A hA
    simp only [List.mem_cons, List.not_mem_nil, or_false] at hA
    rcases hA with rfl | rfl | rfl | rfl | rfl
    · exact exm_mk eCBadState iCBadState tCBadState sBadStateBadState
    · exact exm_mk eCBadSteps iCBadSteps tCBadSteps sBadStepsBadSteps
    · exact exm_mk eCBadFaults iCBadFaults tCBadFaults sBadFaultsBadFaults
    · exact exm_mk eCNotLive iCNotLive tCNotLive sNotLiveNotLive
    · exact exm_mk eCTooMany iCTooMany tCTooMany sTooManyTooMany
  have hdif : ∀ A ∈ [ce.st, ce.sp, ce.fa, ce.nl, ce.tm], ∀ B ∈ [ce.st, ce.sp, ce.fa, ce.nl, ce.tm], A ≠ B → PySem.W.exmOne K (.ref A) (.ref B) = some false := by
    intro A hA B hB hne
    simp only [List.mem_cons, List.not_mem_nil, or_false] at hA hB
    rcases hA with rfl | rfl | rfl | rfl | rfl <;> rcases hB with rfl | rfl | rfl | rfl | rfl
    · exact absurd rfl hne
    · exact exm_mk eCBadSteps iCBadSteps tCBadSteps sBadStateBadSteps
    · exact exm_mk eCBadFaults iCBadFaults tCBadFaults sBadStateBadFaults
    · exact exm_mk eCNotLive iCNotLive tCNotLive sBadStateNotLive
    · exact exm_mk eCTooMany iCTooMany tCTooMany sBadStateTooMany
    · exact exm_mk eCBadState iCBadState tCBadState sBadStepsBadState
    · exact absurd rfl hne
    · exact exm_mk eCBadFaults iCBadFaults tCBadFaults sBadStepsBadFaults
    · exact exm_mk eCNotLive iCNotLive tCNotLive sBadStepsNotLive
    · exact exm_mk eCTooMany iCTooMany tCTooMany sBadStepsTooMany
    · exact exm_mk eCBadState iCBadState tCBadState sBadFaultsBadState
    · exact exm_mk eCBadSteps iCBadSteps tCBadSteps sBadFaultsBadSteps
    · exact absurd rfl hne
    · exact exm_mk eCNotLive iCNotLive tCNotLive sBadFaultsNotLive
    · exact exm_mk eCTooMany iCTooMany tCTooMany sBadFaultsTooMany
    · exact exm_mk eCBadState iCBadState tCBadState sNotLiveBadState
    · exact exm_mk eCBadSteps iCBadSteps tCBadSteps sNotLiveBadSteps
    · exact exm_mk eCBadFaults iCBadFaults tCBadFaults sNotLiveBadFaults
    · exact absurd rfl hne
    · exact exm_mk eCTooMany iCTooMany tCTooMany sNotLiveTooMany
    · exact exm_mk eCBadState iCBadState tCBadState sTooManyBadState
    · exact exm_mk eCBadSteps iCBadSteps tCBadSteps sTooManyBadSteps
    · exact exm_mk eCBadFaults iCBadFaults tCBadFaults sTooManyBadFaults
    · exact exm_mk eCNotLive iCNotLive tCNotLive sTooManyNotLive
    · exact absurd rfl hne
  have TE : TxE K mg C ce := ⟨PySem.W.mg_of X G aC, ⟨⟨pg, hd, po, sa⟩, iha, ihn, ihtk, ihm, by unfold PySem.W.kitOne; rw [if_pos (by simp)]⟩, PySem.W.mg_of X G aBadState, PySem.W.mg_of X G aBadSteps, PySem.W.mg_of X G aBadFaults, PySem.W.mg_of X G aNotLive, PySem.W.mg_of X G aTooMany, ⟨gaBadState, ggBadState, eCBadState, hCBadState⟩, ⟨gaBadSteps, ggBadSteps, eCBadSteps, hCBadSteps⟩, ⟨gaBadFaults, ggBadFaults, eCBadFaults, hCBadFaults⟩, ⟨gaNotLive, ggNotLive, eCNotLive, hCNotLive⟩, ⟨gaTooMany, ggTooMany, eCTooMany, hCTooMany⟩, nbBadState, nbBadSteps, nbBadFaults, nbNotLive, nbTooMany, hsame, hdif, (fun e => by have e2 : cBadState = cBadSteps := e; have t := sBadStateBadSteps; rw [e2, sBadStepsBadSteps] at t; cases t), (fun e => by have e2 : cBadState = cBadFaults := e; have t := sBadStateBadFaults; rw [e2, sBadFaultsBadFaults] at t; cases t), (fun e => by have e2 : cBadState = cNotLive := e; have t := sBadStateNotLive; rw [e2, sNotLiveNotLive] at t; cases t), (fun e => by have e2 : cBadState = cTooMany := e; have t := sBadStateTooMany; rw [e2, sTooManyTooMany] at t; cases t), (fun e => by have e2 : cBadSteps = cBadFaults := e; have t := sBadStepsBadFaults; rw [e2, sBadFaultsBadFaults] at t; cases t), (fun e => by have e2 : cBadSteps = cNotLive := e; have t := sBadStepsNotLive; rw [e2, sNotLiveNotLive] at t; cases t), (fun e => by have e2 : cBadSteps = cTooMany := e; have t := sBadStepsTooMany; rw [e2, sTooManyTooMany] at t; cases t), (fun e => by have e2 : cBadFaults = cNotLive := e; have t := sBadFaultsNotLive; rw [e2, sNotLiveNotLive] at t; cases t), (fun e => by have e2 : cBadFaults = cTooMany := e; have t := sBadFaultsTooMany; rw [e2, sTooManyTooMany] at t; cases t), (fun e => by have e2 : cNotLive = cTooMany := e; have t := sNotLiveTooMany; rw [e2, sTooManyTooMany] at t; cases t)⟩
  have F0 := fun_mk (st := s__law_mix) l0 d0 k0
  have b0 := L2.Fun.binds F0 (ps := ["_law_cell_here", "_law_k"]) fun _ _ _ _ _ _ us hl => match us, hl with | [_, _], _ => rfl
  have F1 := fun_mk (st := s__law_row) l1 d1 k1
  have b1 := L2.Fun.binds F1 (ps := ["_law_cell_here", "_law_sizes"]) fun _ _ _ _ _ _ us hl => match us, hl with | [_, _], _ => rfl
  have F2 := fun_mk (st := s__law_names) l2 d2 k2
  have b2 := L2.Fun.binds F2 (ps := ["_law_cell_here", "_law_many"]) fun _ _ _ _ _ _ us hl => match us, hl with | [_, _], _ => rfl
  have F3 := fun_mk (st := s__law_cell) l3 d3 k3
  have b3 := L2.Fun.binds F3 (ps := ["_law_script", "_law_k"]) fun _ _ _ _ _ _ us hl => match us, hl with | [_, _], _ => rfl
  have F4 := fun_mk (st := s__law_machine) l4 d4 k4
  have b4 := L2.Fun.binds F4 (ps := ["_law_cell_here", "_law_names_here", "_law_most", "_law_extra"]) fun _ _ _ _ _ _ us hl => match us, hl with | [_, _, _, _], _ => rfl
  have F5 := fun_mk (st := s__law_deep) l5 d5 k5
  have b5 := L2.Fun.binds F5 (ps := ["_law_many"]) fun _ _ _ _ _ _ us hl => match us, hl with | [_], _ => rfl
  have F6 := fun_mk (st := s__law_thing) l6 d6 k6
  have b6 := L2.Fun.binds F6 (ps := ["_law_digit"]) fun _ _ _ _ _ _ us hl => match us, hl with | [_], _ => rfl
  have F7 := fun_mk (st := s__law_spoiled) l7 d7 k7
  have b7 := L2.Fun.binds F7 (ps := ["_law_rows", "_law_kind", "_law_place", "_law_digit"]) fun _ _ _ _ _ _ us hl => match us, hl with | [_, _, _, _], _ => rfl
  have F8 := fun_mk (st := s_is_whole) l8 d8 k8
  have b8 := L2.Fun.binds F8 (ps := ["value"]) fun _ _ _ _ _ _ us hl => match us, hl with | [_], _ => rfl
  have F9 := fun_mk (st := s_is_state) l9 d9 k9
  have b9 := L2.Fun.binds F9 (ps := ["value"]) fun _ _ _ _ _ _ us hl => match us, hl with | [_], _ => rfl
  have F10 := fun_mk (st := s_is_row) l10 d10 k10
  have b10 := L2.Fun.binds F10 (ps := ["value"]) fun _ _ _ _ _ _ us hl => match us, hl with | [_], _ => rfl
  have F11 := fun_mk (st := s_is_name) l11 d11 k11
  have b11 := L2.Fun.binds F11 (ps := ["value"]) fun _ _ _ _ _ _ us hl => match us, hl with | [_], _ => rfl
  have F12 := fun_mk (st := s_is_step) l12 d12 k12
  have b12 := L2.Fun.binds F12 (ps := ["value"]) fun _ _ _ _ _ _ us hl => match us, hl with | [_], _ => rfl
  have F13 := fun_mk (st := s_check_steps) l13 d13 k13
  have b13 := L2.Fun.binds F13 (ps := ["steps"]) fun _ _ _ _ _ _ us hl => match us, hl with | [_], _ => rfl
  have F14 := fun_mk (st := s_check_faults) l14 d14 k14
  have b14 := L2.Fun.binds F14 (ps := ["faults", "words"]) fun _ _ _ _ _ _ us hl => match us, hl with | [_, _], _ => rfl
  have F15 := fun_mk (st := s_moves_by_state) l15 d15 k15
  have b15 := L2.Fun.binds F15 (ps := ["steps"]) fun _ _ _ _ _ _ us hl => match us, hl with | [_], _ => rfl
  have F16 := fun_mk (st := s_reached_states) l16 d16 k16
  have b16 := L2.Fun.binds F16 (ps := ["start", "leaving"]) fun _ _ _ _ _ _ us hl => match us, hl with | [_, _], _ => rfl
  have F17 : KnD.FunX K "__init__" "Machine.__init__" s_Machine_init f17 _ := ⟨⟨_, _, _, _, _, _, _, _, _, _, rfl, l17, d17⟩⟩
  have b17 := KnD.binds_full (st := s_Machine_init) (ps := ["self", "start", "steps", "faults"]) (dvs := [.non]) (its := [.none]) l17 d17 k17 tl17 rfl (.cons rfl .nil) (by simp) fun _ _ _ _ _ _ _ us its h1 h2 => match us, its, h1, h2 with | [_, _, _, _], [_], _, _ => ⟨_, rfl, rfl⟩
  have F18 := fun_mk (st := s__law_made) l18 d18 k18
  have b18 := L2.Fun.binds F18 (ps := ["_law_start", "_law_rows", "_law_faults"]) fun _ _ _ _ _ _ us hl => match us, hl with | [_, _, _], _ => rfl
  have F19 := fun_mk (st := s__law_is_integer) l19 d19 k19
  have b19 := L2.Fun.binds F19 (ps := ["_law_thing_here"]) fun _ _ _ _ _ _ us hl => match us, hl with | [_], _ => rfl
  have F20 := fun_mk (st := s__law_is_state) l20 d20 k20
  have b20 := L2.Fun.binds F20 (ps := ["_law_thing_here"]) fun _ _ _ _ _ _ us hl => match us, hl with | [_], _ => rfl
  have F21 := fun_mk (st := s__law_is_name) l21 d21 k21
  have b21 := L2.Fun.binds F21 (ps := ["_law_thing_here"]) fun _ _ _ _ _ _ us hl => match us, hl with | [_], _ => rfl
  have F22 := fun_mk (st := s__law_bad_step) l22 d22 k22
  have b22 := L2.Fun.binds F22 (ps := ["_law_rows"]) fun _ _ _ _ _ _ us hl => match us, hl with | [_], _ => rfl
  have F23 := fun_mk (st := s__law_bad_fault) l23 d23 k23
  have b23 := L2.Fun.binds F23 (ps := ["_law_rows", "_law_faults"]) fun _ _ _ _ _ _ us hl => match us, hl with | [_, _], _ => rfl
  have F24 := fun_mk (st := s__law_reached) l24 d24 k24
  have b24 := L2.Fun.binds F24 (ps := ["_law_start", "_law_steps"]) fun _ _ _ _ _ _ us hl => match us, hl with | [_, _], _ => rfl
  have F25 := fun_mk (st := s__law_due) l25 d25 k25
  have b25 := L2.Fun.binds F25 (ps := ["_law_start", "_law_rows", "_law_faults"]) fun _ _ _ _ _ _ us hl => match us, hl with | [_, _, _], _ => rfl
  have F26 := fun_mk (st := s__law_exact) l26 d26 k26
  have b26 := L2.Fun.binds F26 (ps := ["_law_told", "_law_due_here"]) fun _ _ _ _ _ _ us hl => match us, hl with | [_, _], _ => rfl
  have F27 := fun_mk (st := s_law) l27 d27 k27
  have FBadState := fun_mk (st := s_BadState_init) liBadState diBadState kiBadState
  have bBadState := L2.Fun.binds FBadState (ps := ["self", "value"]) fun _ _ _ _ _ _ us hl => match us, hl with | [_, _], _ => rfl
  have FBadSteps := fun_mk (st := s_BadSteps_init) liBadSteps diBadSteps kiBadSteps
  have bBadSteps := L2.Fun.binds FBadSteps (ps := ["self", "at"]) fun _ _ _ _ _ _ us hl => match us, hl with | [_, _], _ => rfl
  have FBadFaults := fun_mk (st := s_BadFaults_init) liBadFaults diBadFaults kiBadFaults
  have bBadFaults := L2.Fun.binds FBadFaults (ps := ["self", "word"]) fun _ _ _ _ _ _ us hl => match us, hl with | [_, _], _ => rfl
  have FNotLive := fun_mk (st := s_NotLive_init) liNotLive diNotLive kiNotLive
  have bNotLive := L2.Fun.binds FNotLive (ps := ["self", "state"]) fun _ _ _ _ _ _ us hl => match us, hl with | [_, _], _ => rfl
  have FTooMany := fun_mk (st := s_TooMany_init) liTooMany diTooMany kiTooMany
  have bTooMany := L2.Fun.binds FTooMany (ps := ["self", "limit"]) fun _ _ _ _ _ _ us hl => match us, hl with | [_, _], _ => rfl
  refine ⟨PySem.W.fnOf "law" "law" (defArgs s_law) (defBody s_law) (defScope s_law) .none kV27 dc27 pm27 an27 cd27 ct27, fun s v => .of_eq rfl, fun base _ _ => ?_⟩
  have c_BadState : KnX.Err l.prog w K mg base 1 "BadState" cBadState "value" := ⟨iBadState, _, _, ⟨PySem.W.mg_of X G aBadState, oxBadState, aiBadState, tiBadState, nbBadState⟩, ok_BadState_init (PySem.W.mg_of X G aK) BC oxBadState nbBadState FBadState, bBadState⟩
  have c_BadSteps : KnX.Err l.prog w K mg base 1 "BadSteps" cBadSteps "at" := ⟨iBadSteps, _, _, ⟨PySem.W.mg_of X G aBadSteps, oxBadSteps, aiBadSteps, tiBadSteps, nbBadSteps⟩, ok_BadSteps_init (PySem.W.mg_of X G aK) BC oxBadSteps nbBadSteps FBadSteps, bBadSteps⟩
  have c_BadFaults : KnX.Err l.prog w K mg base 1 "BadFaults" cBadFaults "word" := ⟨iBadFaults, _, _, ⟨PySem.W.mg_of X G aBadFaults, oxBadFaults, aiBadFaults, tiBadFaults, nbBadFaults⟩, ok_BadFaults_init (PySem.W.mg_of X G aK) BC oxBadFaults nbBadFaults FBadFaults, bBadFaults⟩
  have c_NotLive : KnX.Err l.prog w K mg base 1 "NotLive" cNotLive "state" := ⟨iNotLive, _, _, ⟨PySem.W.mg_of X G aNotLive, oxNotLive, aiNotLive, tiNotLive, nbNotLive⟩, ok_NotLive_init (PySem.W.mg_of X G aK) BC oxNotLive nbNotLive FNotLive, bNotLive⟩
  have c_TooMany : KnX.Err l.prog w K mg base 1 "TooMany" cTooMany "limit" := ⟨iTooMany, _, _, ⟨PySem.W.mg_of X G aTooMany, oxTooMany, aiTooMany, tiTooMany, nbTooMany⟩, ok_TooMany_init (PySem.W.mg_of X G aK) BC oxTooMany nbTooMany FTooMany, bTooMany⟩
  have c__law_mix : Cal l.prog w K mg base 1 "_law_mix" (sp__law_mix K) [] := ⟨_, _, _, _, ok__law_mix T F0 , PySem.W.mg_of X G a0, F0.kp, b0, .nil⟩
  have c__law_row : Cal l.prog w K mg base 2 "_law_row" (sp__law_row K) [] := ⟨_, _, _, _, ok__law_row T F1 c__law_mix, PySem.W.mg_of X G a1, F1.kp, b1, .nil⟩
  have c__law_names : Cal l.prog w K mg base 3 "_law_names" (sp__law_names K) [] := ⟨_, _, _, _, ok__law_names T F2 c__law_row, PySem.W.mg_of X G a2, F2.kp, b2, .nil⟩
  have c__law_cell : Cal l.prog w K mg base 2 "_law_cell" (sp__law_cell K) [] := ⟨_, _, _, _, ok__law_cell T F3 c__law_mix, PySem.W.mg_of X G a3, F3.kp, b3, .nil⟩
  have c__law_machine : Cal l.prog w K mg base 3 "_law_machine" (sp__law_machine K) [] := ⟨_, _, _, _, ok__law_machine T F4 c__law_row, PySem.W.mg_of X G a4, F4.kp, b4, .nil⟩
  have c__law_deep : Cal l.prog w K mg base 1 "_law_deep" (sp__law_deep K) [] := ⟨_, _, _, _, ok__law_deep T F5 , PySem.W.mg_of X G a5, F5.kp, b5, .nil⟩
  have c__law_thing : Cal l.prog w K mg base 2 "_law_thing" (sp__law_thing K) [] := ⟨_, _, _, _, ok__law_thing T F6 c__law_deep, PySem.W.mg_of X G a6, F6.kp, b6, .nil⟩
  have c__law_spoiled : Cal l.prog w K mg base 3 "_law_spoiled" (sp__law_spoiled K) [] := ⟨_, _, _, _, ok__law_spoiled T F7 c__law_thing, PySem.W.mg_of X G a7, F7.kp, b7, .nil⟩
  have c_is_whole : Cal l.prog w K mg base 1 "is_whole" (sp_is_whole K) [] := ⟨_, _, _, _, ok_is_whole T F8 , PySem.W.mg_of X G a8, F8.kp, b8, .nil⟩
  have c_is_state : Cal l.prog w K mg base 2 "is_state" (sp_is_state K) [] := ⟨_, _, _, _, ok_is_state T F9 c_is_whole, PySem.W.mg_of X G a9, F9.kp, b9, .nil⟩
  have c_is_row : Cal l.prog w K mg base 1 "is_row" (sp_is_row K) [] := ⟨_, _, _, _, ok_is_row T F10 , PySem.W.mg_of X G a10, F10.kp, b10, .nil⟩
  have c_is_name : Cal l.prog w K mg base 1 "is_name" (sp_is_name K) [] := ⟨_, _, _, _, ok_is_name T F11 , PySem.W.mg_of X G a11, F11.kp, b11, .nil⟩
  have c_is_step : Cal l.prog w K mg base 3 "is_step" (sp_is_step K) [] := ⟨_, _, _, _, ok_is_step T F12 c_is_state c_is_name, PySem.W.mg_of X G a12, F12.kp, b12, .nil⟩
  have c_check_steps : KnX.CalX l.prog w K mg base 4 "check_steps" (sx_check_steps K ce) := ⟨_, _, _, ok_check_steps (ce := ce) T F13 c_BadSteps c_is_row c_is_step, PySem.W.mg_of X G a13, F13.kp, b13⟩
  have c_check_faults : KnX.CalX l.prog w K mg base 3 "check_faults" (sx_check_faults K ce) := ⟨_, _, _, ok_check_faults (ce := ce) T F14 c_BadFaults c_is_name, PySem.W.mg_of X G a14, F14.kp, b14⟩
  have c_moves_by_state : Cal l.prog w K mg base 1 "moves_by_state" (sp_moves_by_state K) [] := ⟨_, _, _, _, ok_moves_by_state T F15 , PySem.W.mg_of X G a15, F15.kp, b15, .nil⟩
  have c_reached_states : Cal l.prog w K mg base 1 "reached_states" (sp_reached_states K) [] := ⟨_, _, _, _, ok_reached_states T F16 , PySem.W.mg_of X G a16, F16.kp, b16, .nil⟩
  have c_Machine_init : KnX.MakX l.prog w K mg base 5 "Machine" C (sx_Machine_init K C ce) := ⟨_, _, _, ⟨mk, a17, i17, kc⟩, ok_Machine_init (ce := ce) T F17 c_BadState c_TooMany c_NotLive c_is_state c_check_steps c_check_faults c_moves_by_state c_reached_states, PySem.W.mg_of X G aC, b17⟩
  have c__law_made : Cal l.prog w K mg base 7 "_law_made" (sp__law_made K) [] := ⟨_, _, _, _, ok__law_made (ce := ce) T F18 TE c_Machine_init, PySem.W.mg_of X G a18, F18.kp, b18, .nil⟩
  have c__law_is_integer : Cal l.prog w K mg base 1 "_law_is_integer" (sp__law_is_integer K) [] := ⟨_, _, _, _, ok__law_is_integer T F19 , PySem.W.mg_of X G a19, F19.kp, b19, .nil⟩
  have c__law_is_state : Cal l.prog w K mg base 2 "_law_is_state" (sp__law_is_state K) [] := ⟨_, _, _, _, ok__law_is_state T F20 c__law_is_integer, PySem.W.mg_of X G a20, F20.kp, b20, .nil⟩
  have c__law_is_name : Cal l.prog w K mg base 1 "_law_is_name" (sp__law_is_name K) [] := ⟨_, _, _, _, ok__law_is_name T F21 , PySem.W.mg_of X G a21, F21.kp, b21, .nil⟩
  have c__law_bad_step : Cal l.prog w K mg base 3 "_law_bad_step" (sp__law_bad_step K) [] := ⟨_, _, _, _, ok__law_bad_step T F22 c__law_is_state c__law_is_name, PySem.W.mg_of X G a22, F22.kp, b22, .nil⟩
  have c__law_bad_fault : Cal l.prog w K mg base 2 "_law_bad_fault" (sp__law_bad_fault K) [] := ⟨_, _, _, _, ok__law_bad_fault T F23 c__law_is_name, PySem.W.mg_of X G a23, F23.kp, b23, .nil⟩
  have c__law_reached : Cal l.prog w K mg base 1 "_law_reached" (sp__law_reached K) [] := ⟨_, _, _, _, ok__law_reached T F24 , PySem.W.mg_of X G a24, F24.kp, b24, .nil⟩
  have c__law_due : Cal l.prog w K mg base 4 "_law_due" (sp__law_due K) [] := ⟨_, _, _, _, ok__law_due T F25 c__law_is_state c__law_bad_step c__law_bad_fault c__law_reached, PySem.W.mg_of X G a25, F25.kp, b25, .nil⟩
  have ce0 : Cal l.prog w K mg base 1 "_law_exact" (spEx 0 K) [] := ⟨_, _, _, _, ok_ex0 F26, PySem.W.mg_of X G a26, F26.kp, b26, .nil⟩
  have ce1 : Cal l.prog w K mg base 2 "_law_exact" (spEx 1 K) [] := ⟨_, _, _, _, ok_exs T F26 0 c__law_is_integer ce0, PySem.W.mg_of X G a26, F26.kp, b26, .nil⟩
  have ce2 : Cal l.prog w K mg base 3 "_law_exact" (spEx 2 K) [] := ⟨_, _, _, _, ok_exs T F26 1 c__law_is_integer ce1, PySem.W.mg_of X G a26, F26.kp, b26, .nil⟩
  have ce3 : Cal l.prog w K mg base 4 "_law_exact" (spEx 3 K) [] := ⟨_, _, _, _, ok_exs T F26 2 c__law_is_integer ce2, PySem.W.mg_of X G a26, F26.kp, b26, .nil⟩
  have c__law_exact : Cal l.prog w K mg base 5 "_law_exact" (sp__law_exact K) [] := ⟨_, _, _, _, ok_exs T F26 3 c__law_is_integer ce3, PySem.W.mg_of X G a26, F26.kp, b26, .nil⟩
  exact ok_law T F27 c__law_names c__law_cell c__law_machine c__law_row c__law_spoiled c__law_thing c__law_made c__law_due c__law_exact
end Kn
open PySem PySem.W PyProof.Rows
set_option maxHeartbeats 0 in
theorem PySem.Challenge.cw_knownlate_k03_refused_steps_holds : PySem.Challenge.rw_knownlate_k03_refused_steps.Holds := by
  w_on; o_law; k_head; (case hw => w_witness2)
  k_fill
  refine L2.walk_of (l := PySem.Challenge.rw_knownlate_k03_refused_steps) (n := 63) (k := 8) (x := "_law_script") (CX := fun _ => L2.CX0) (sp := fun w => Kn.sp_law _) rfl (by decide) rfl ⟨rfl, by decide, by decide⟩ (fun w h Y => PySem.W.kIn_of Y) ?F (fun _ _ a ns hl _ hS => ⟨a, ns, rfl, hS, hl, fun _ => rfl⟩) (fun _ _ _ _ _ h => h)
  case F =>
    intro w mg fa h KX G hmg
    refine' Kn.all_mk KX G hmg ?aC ?aK ?rdK ?gaK ?atK ?iha ?ihn ?ihtk ?ihm ?aBadState ?xBadState ?saBadState ?gaBadState ?ggBadState ?nbBadState ?aiBadState ?tiBadState ?liBadState ?diBadState ?kiBadState ?kCBadState ?eCBadState ?tCBadState ?hCBadState ?iCBadState ?aBadSteps ?xBadSteps ?saBadSteps ?gaBadSteps ?ggBadSteps ?nbBadSteps ?aiBadSteps ?tiBadSteps ?liBadSteps ?diBadSteps ?kiBadSteps ?kCBadSteps ?eCBadSteps ?tCBadSteps ?hCBadSteps ?iCBadSteps ?aBadFaults ?xBadFaults ?saBadFaults ?gaBadFaults ?ggBadFaults ?nbBadFaults ?aiBadFaults ?tiBadFaults ?liBadFaults ?diBadFaults ?kiBadFaults ?kCBadFaults ?eCBadFaults ?tCBadFaults ?hCBadFaults ?iCBadFaults ?aNotLive ?xNotLive ?saNotLive ?gaNotLive ?ggNotLive ?nbNotLive ?aiNotLive ?tiNotLive ?liNotLive ?diNotLive ?kiNotLive ?kCNotLive ?eCNotLive ?tCNotLive ?hCNotLive ?iCNotLive ?aTooMany ?xTooMany ?saTooMany ?gaTooMany ?ggTooMany ?nbTooMany ?aiTooMany ?tiTooMany ?liTooMany ?diTooMany ?kiTooMany ?kCTooMany ?eCTooMany ?tCTooMany ?hCTooMany ?iCTooMany ?sBadStateBadState ?sBadStateBadSteps ?sBadStateBadFaults ?sBadStateNotLive ?sBadStateTooMany ?sBadStepsBadState ?sBadStepsBadSteps ?sBadStepsBadFaults ?sBadStepsNotLive ?sBadStepsTooMany ?sBadFaultsBadState ?sBadFaultsBadSteps ?sBadFaultsBadFaults ?sBadFaultsNotLive ?sBadFaultsTooMany ?sNotLiveBadState ?sNotLiveBadSteps ?sNotLiveBadFaults ?sNotLiveNotLive ?sNotLiveTooMany ?sTooManyBadState ?sTooManyBadSteps ?sTooManyBadFaults ?sTooManyNotLive ?sTooManyTooMany ?a0 ?l0 ?d0 ?k0 ?a1 ?l1 ?d1 ?k1 ?a2 ?l2 ?d2 ?k2 ?a3 ?l3 ?d3 ?k3 ?a4 ?l4 ?d4 ?k4 ?a5 ?l5 ?d5 ?k5 ?a6 ?l6 ?d6 ?k6 ?a7 ?l7 ?d7 ?k7 ?a8 ?l8 ?d8 ?k8 ?a9 ?l9 ?d9 ?k9 ?a10 ?l10 ?d10 ?k10 ?a11 ?l11 ?d11 ?k11 ?a12 ?l12 ?d12 ?k12 ?a13 ?l13 ?d13 ?k13 ?a14 ?l14 ?d14 ?k14 ?a15 ?l15 ?d15 ?k15 ?a16 ?l16 ?d16 ?k16 ?a17 ?i17 ?l17 ?d17 ?k17 ?tl17 ?a18 ?l18 ?d18 ?k18 ?a19 ?l19 ?d19 ?k19 ?a20 ?l20 ?d20 ?k20 ?a21 ?l21 ?d21 ?k21 ?a22 ?l22 ?d22 ?k22 ?a23 ?l23 ?d23 ?k23 ?a24 ?l24 ?d24 ?k24 ?a25 ?l25 ?d25 ?k25 ?a26 ?l26 ?d26 ?k26 ?a27 ?l27 ?d27 ?k27 ?pg ?hd ?po ?sa ?mk ?kc ?n__start ?n__steps ?n__words ?n__faults ?n__states ?z_all ?z_bool ?z_dict ?z_enumerate ?z_int ?z_isinstance ?z_len ?z_list ?z_range ?z_set ?z_sorted ?z_str ?z_tuple ?g_GREATEST_STATE ?r_GREATEST_STATE ?g_LONGEST_NAME ?r_LONGEST_NAME ?g_LETTERS ?r_LETTERS ?g_MOST_STEPS ?r_MOST_STEPS ?g_MOST_LEAVING ?r_MOST_LEAVING ?g_MOST_FAULTS ?r_MOST_FAULTS ?g_MOST_WORDS ?r_MOST_WORDS
    (case aC => k_is); (case aK => k_is); (case rdK => k_is); (case gaK => k_is); (case atK => k_is); (case iha => k_is); (case ihn => k_is); (case ihtk => k_is); (case ihm => k_is); (case aBadState => k_is); (case xBadState => k_is); (case saBadState => k_is); (case gaBadState => k_is); (case ggBadState => k_is); (case nbBadState => k_is); (case aiBadState => k_is); (case tiBadState => k_is); (case liBadState => k_is); (case diBadState => k_is); (case kiBadState => k_is); (case kCBadState => k_is); (case eCBadState => k_is); (case tCBadState => k_is); (case hCBadState => k_is); (case iCBadState => k_is); (case aBadSteps => k_is); (case xBadSteps => k_is); (case saBadSteps => k_is); (case gaBadSteps => k_is); (case ggBadSteps => k_is); (case nbBadSteps => k_is); (case aiBadSteps => k_is); (case tiBadSteps => k_is); (case liBadSteps => k_is); (case diBadSteps => k_is); (case kiBadSteps => k_is); (case kCBadSteps => k_is); (case eCBadSteps => k_is); (case tCBadSteps => k_is); (case hCBadSteps => k_is); (case iCBadSteps => k_is); (case aBadFaults => k_is); (case xBadFaults => k_is); (case saBadFaults => k_is); (case gaBadFaults => k_is); (case ggBadFaults => k_is); (case nbBadFaults => k_is); (case aiBadFaults => k_is); (case tiBadFaults => k_is); (case liBadFaults => k_is); (case diBadFaults => k_is); (case kiBadFaults => k_is); (case kCBadFaults => k_is); (case eCBadFaults => k_is); (case tCBadFaults => k_is); (case hCBadFaults => k_is); (case iCBadFaults => k_is); (case aNotLive => k_is); (case xNotLive => k_is); (case saNotLive => k_is); (case gaNotLive => k_is); (case ggNotLive => k_is); (case nbNotLive => k_is); (case aiNotLive => k_is); (case tiNotLive => k_is); (case liNotLive => k_is); (case diNotLive => k_is); (case kiNotLive => k_is); (case kCNotLive => k_is); (case eCNotLive => k_is); (case tCNotLive => k_is); (case hCNotLive => k_is); (case iCNotLive => k_is); (case aTooMany => k_is); (case xTooMany => k_is); (case saTooMany => k_is); (case gaTooMany => k_is); (case ggTooMany => k_is); (case nbTooMany => k_is); (case aiTooMany => k_is); (case tiTooMany => k_is); (case liTooMany => k_is); (case diTooMany => k_is); (case kiTooMany => k_is); (case kCTooMany => k_is); (case eCTooMany => k_is); (case tCTooMany => k_is); (case hCTooMany => k_is); (case iCTooMany => k_is); (case sBadStateBadState => k_is); (case sBadStateBadSteps => k_is); (case sBadStateBadFaults => k_is); (case sBadStateNotLive => k_is); (case sBadStateTooMany => k_is); (case sBadStepsBadState => k_is); (case sBadStepsBadSteps => k_is); (case sBadStepsBadFaults => k_is); (case sBadStepsNotLive => k_is); (case sBadStepsTooMany => k_is); (case sBadFaultsBadState => k_is); (case sBadFaultsBadSteps => k_is); (case sBadFaultsBadFaults => k_is); (case sBadFaultsNotLive => k_is); (case sBadFaultsTooMany => k_is); (case sNotLiveBadState => k_is); (case sNotLiveBadSteps => k_is); (case sNotLiveBadFaults => k_is); (case sNotLiveNotLive => k_is); (case sNotLiveTooMany => k_is); (case sTooManyBadState => k_is); (case sTooManyBadSteps => k_is); (case sTooManyBadFaults => k_is); (case sTooManyNotLive => k_is); (case sTooManyTooMany => k_is); (case a0 => k_is); (case l0 => k_is); (case d0 => k_is); (case k0 => k_is); (case a1 => k_is); (case l1 => k_is); (case d1 => k_is); (case k1 => k_is); (case a2 => k_is); (case l2 => k_is); (case d2 => k_is); (case k2 => k_is); (case a3 => k_is); (case l3 => k_is); (case d3 => k_is); (case k3 => k_is); (case a4 => k_is); (case l4 => k_is); (case d4 => k_is); (case k4 => k_is); (case a5 => k_is); (case l5 => k_is); (case d5 => k_is); (case k5 => k_is); (case a6 => k_is); (case l6 => k_is); (case d6 => k_is); (case k6 => k_is); (case a7 => k_is); (case l7 => k_is); (case d7 => k_is); (case k7 => k_is); (case a8 => k_is); (case l8 => k_is); (case d8 => k_is); (case k8 => k_is); (case a9 => k_is); (case l9 => k_is); (case d9 => k_is); (case k9 => k_is); (case a10 => k_is); (case l10 => k_is); (case d10 => k_is); (case k10 => k_is); (case a11 => k_is); (case l11 => k_is); (case d11 => k_is); (case k11 => k_is); (case a12 => k_is); (case l12 => k_is); (case d12 => k_is); (case k12 => k_is); (case a13 => k_is); (case l13 => k_is); (case d13 => k_is); (case k13 => k_is); (case a14 => k_is); (case l14 => k_is); (case d14 => k_is); (case k14 => k_is); (case a15 => k_is); (case l15 => k_is); (case d15 => k_is); (case k15 => k_is); (case a16 => k_is); (case l16 => k_is); (case d16 => k_is); (case k16 => k_is); (case a17 => k_is); (case i17 => k_is); (case l17 => k_is); (case d17 => k_is); (case k17 => k_is); (case tl17 => k_is); (case a18 => k_is); (case l18 => k_is); (case d18 => k_is); (case k18 => k_is); (case a19 => k_is); (case l19 => k_is); (case d19 => k_is); (case k19 => k_is); (case a20 => k_is); (case l20 => k_is); (case d20 => k_is); (case k20 => k_is); (case a21 => k_is); (case l21 => k_is); (case d21 => k_is); (case k21 => k_is); (case a22 => k_is); (case l22 => k_is); (case d22 => k_is); (case k22 => k_is); (case a23 => k_is); (case l23 => k_is); (case d23 => k_is); (case k23 => k_is); (case a24 => k_is); (case l24 => k_is); (case d24 => k_is); (case k24 => k_is); (case a25 => k_is); (case l25 => k_is); (case d25 => k_is); (case k25 => k_is); (case a26 => k_is); (case l26 => k_is); (case d26 => k_is); (case k26 => k_is); (case a27 => k_is); (case l27 => k_is); (case d27 => k_is); (case k27 => k_is); (case pg => k_is); (case hd => k_is); (case po => k_is); (case sa => k_is); (case mk => k_is); (case kc => k_is); (case n__start => k_is); (case n__steps => k_is); (case n__words => k_is); (case n__faults => k_is); (case n__states => k_is); (case z_all => k_is); (case z_bool => k_is); (case z_dict => k_is); (case z_enumerate => k_is); (case z_int => k_is); (case z_isinstance => k_is); (case z_len => k_is); (case z_list => k_is); (case z_range => k_is); (case z_set => k_is); (case z_sorted => k_is); (case z_str => k_is); (case z_tuple => k_is); (case g_GREATEST_STATE => k_is); (case r_GREATEST_STATE => exact ⟨_, rfl⟩); (case g_LONGEST_NAME => k_is); (case r_LONGEST_NAME => exact ⟨_, rfl⟩); (case g_LETTERS => k_is); (case r_LETTERS => exact ⟨_, rfl⟩); (case g_MOST_STEPS => k_is); (case r_MOST_STEPS => exact ⟨_, rfl⟩); (case g_MOST_LEAVING => k_is); (case r_MOST_LEAVING => exact ⟨_, rfl⟩); (case g_MOST_FAULTS => k_is); (case r_MOST_FAULTS => exact ⟨_, rfl⟩); (case g_MOST_WORDS => k_is); (case r_MOST_WORDS => exact ⟨_, rfl⟩)

