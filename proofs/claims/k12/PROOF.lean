import PyProof.Rows.All
import Wide.All
import OpenK.AllK
import Wide.FinOn
import HandS.ForMost
import HandS.IsInst
import HandS.Codes
import HandS.Set
import HandS.SetBool
import HandS.SetKeys
import PyProof.Rows.SortShellAny
import HandS.More
import HandS.Comp
import PyProof.Rows.SetFrom
import KE.GoesMore
import KE.GoesEnum
import HandS.DictComp
import KE.KDictList
import HandS.Property
import PyProof.DictUpdate
import PyProof.FactsDict
import HandS.Dict
import PyProof.EvalArms
import HandS.Defaults
import KE.KOpsOwn
import HandS.List
import HandS.Words
import HandS.ForExc
import HandS.SortInts
import HandS.Deep
import HandS.TryOnly
import HandS.Finally
import PySem.Challenge.RW_knownlate_k12_joining_watches
set_option Elab.async false
set_option linter.all false
set_option maxRecDepth 100000
set_option maxHeartbeats 4000000
namespace Kn
open PySem PySem.Spec PyProof.Rows L2
/-! ### heaps -/
theorem same_upd {H : Hp} {p : Addr} {o : HO} (h : H p = none) : Same H (upd H p o) := fun b x e => by
  rw [upd_ne (ne_of_none e h)]
  exact e
theorem same_set {H0 H : Hp} {p : Addr} {o : HO} (h : H0 p = none) (s : Same H0 H) : Same H0 (upd H p o) := fun b x e => by
  rw [upd_ne (ne_of_none e h)]
  exact s b x e
theorem Same.none {H H' : Hp} {p : Addr} (s : Same H H') (h : H' p = none) : H p = none := s.free h
theorem seqLt {K : PySem.W.Frag} {H H' : Hp} {a : Addr} {xs : List V} (e : Same H H') (h : SqT K H a xs) : SqT K H' a xs := by
  rcases h with (h | ⟨o, h⟩) | h
  · exact .inl (.inl (e _ _ h))
  · exact .inl (.inr ⟨o, e _ _ h⟩)
  · exact .inr h
theorem take_more {α : Type} {l : List α} {i : Nat} {x : α} (h : l[i]? = some x) : l.take (i + 1) = l.take i ++ [x] := by
  rw [List.take_add_one, h]; rfl
theorem small {n : Nat} (h : n ≤ 100000) : n < sizeLine := Nat.lt_of_le_of_lt h (by decide)
theorem smallE {n : Nat} (h : n ≤ 100000) : n ≤ sizeLine := Nat.le_of_lt (small h)
/-- a comprehension over a text's signs -/
theorem lc_text {x : Str} {g : TG} {tt : TT} {te : TE} {vs : List Nat} {σ : L2.St} {H1 : Hp} {D : Addr} {Qd : Hp → Prop} (Pv : Nat → Hp → Prop) (h0 : Pv 0 (upd H1 D (.lst [])))
    (hs : ∀ i c H, x.cps.toList[i]? = some c → Pv i H → g (.str ⟨#[c]⟩) (wipe σ vs) H fun σ2 H2 => wipe σ2 vs = wipe σ vs ∧ tt σ2 H2 fun b H3 =>
      if b = true then te σ2 H3 fun y H4 => ∃ acc, H4 D = some (.lst acc) ∧ acc.length < sizeLine ∧ Pv (i + 1) (upd H4 D (.lst (acc ++ [y]))) else Pv (i + 1) H3) (hd : ∀ H, Pv x.cps.toList.length H → Qd H) :
    ∃ W : Nat → Nat → Hp → Prop, (∃ m, W 0 m (upd H1 D (.lst []))) ∧ ∀ i m H, W i m H →
      ((Its x).stop i H ∧ Qd H) ∨ ((Its x).go i H ∧ ∃ Nx : Hp → Prop, (∀ H', Nx H' → ∃ m', m' < m ∧ W (i + 1) m' H') ∧ ∀ v H', (Its x).yld i H v H' → g v (wipe σ vs) H' fun σ2 H2 => wipe σ2 vs = wipe σ vs ∧ tt σ2 H2 fun b H3 =>
        if b = true then te σ2 H3 fun y H4 => ∃ acc, H4 D = some (.lst acc) ∧ acc.length < sizeLine ∧ Nx (upd H4 D (.lst (acc ++ [y]))) else Nx H3) := by
  refine ⟨fun i m H => m = x.cps.size - i ∧ i ≤ x.cps.size ∧ Pv i H, ⟨x.cps.size, by simp, Nat.zero_le _, h0⟩, ?_⟩
  rintro i m H ⟨rfl, hi, p⟩
  by_cases hlt : i < x.cps.size
  · refine .inr ⟨hlt, Pv (i + 1), fun H' p' => ⟨x.cps.size - (i + 1), by omega, rfl, hlt, p'⟩, fun v H' y => ?_⟩
    obtain ⟨rfl, c, hc, rfl⟩ := y
    exact hs i c _ (by simpa using hc) p
  · have e : i = x.cps.size := by omega
    subst e
    exact .inl ⟨Nat.le_refl _, hd H (by simpa using p)⟩
end Kn

set_option Elab.async false
set_option linter.all false
set_option maxRecDepth 100000
set_option maxHeartbeats 4000000
/-! Sets whose members are told in a list: made, filled, told as a sorted list; set comprehensions of ints and texts. -/
namespace KnS
open PySem PySem.Spec PyProof.Rows L2
section
variable {κ : Type} [DecidableEq κ] {P : Program} {w : World} {knd : PySem.KeyKind P w κ}
/-- one entry of a table, of the key k -/
def Ent (knd : PySem.KeyKind P w κ) (k : κ) (e : Int × Value) : Prop := knd.is k e.2 = true ∧ e.1 = knd.hash k ∧ e.2.scannable = true
theorem paired_perm {α β : Type} {F : α → β → Prop} {l m : List β} (p : l.Perm m) : ∀ {ks : List α}, Paired F ks l → ∃ ks', ks'.Perm ks ∧ Paired F ks' m := by
  induction p with
  | nil => intro ks h; exact ⟨ks, .refl _, h⟩
  | cons x _ ih =>
    intro ks h
    cases h with
    | cons r t =>
      obtain ⟨ks', q, t'⟩ := ih t
      exact ⟨_, .cons _ q, .cons r t'⟩
  | swap x y l =>
    intro ks h
    cases h with
    | cons r t =>
      cases t with
      | cons r' t' => exact ⟨_, .swap _ _ _, .cons r' (.cons r t')⟩
  | trans _ _ ih1 ih2 =>
    intro ks h
    obtain ⟨k1, q1, h1⟩ := ih1 h
    obtain ⟨k2, q2, h2⟩ := ih2 h1
    exact ⟨k2, q2.trans q1, h2⟩
theorem ents_elems {ks : List κ} {l : List (Int × Value)} (h : Paired (Ent knd) ks l) : ElemsOf knd l := by
  induction h with
  | nil => exact fun e he => nomatch he
  | cons r _ ih =>
    intro e he
    rcases List.mem_cons.mp he with z | z
    · rw [z]; exact ⟨⟨_, r.1, r.2.1⟩, r.2.2⟩
    · exact ih e z
theorem ents_find {ks : List κ} {l : List (Int × Value)} (h : Paired (Ent knd) ks l) {k : κ} : (∃ e ∈ l, knd.is k e.2 = true) ↔ k ∈ ks := by
  induction h with
  | nil => exact ⟨fun ⟨e, he, _⟩ => (nomatch he), fun z => nomatch z⟩
  | @cons k' e ks l r _ ih =>
    constructor
    · rintro ⟨e', he, q⟩
      rcases List.mem_cons.mp he with z | z
      · rw [z] at q
        rw [knd.inj e.2 k k' q r.1]
        exact List.mem_cons_self
      · exact List.mem_cons_of_mem _ (ih.mp ⟨e', z, q⟩)
    · intro z
      rcases List.mem_cons.mp z with z | z
      · exact ⟨e, List.mem_cons_self, z ▸ r.1⟩
      · obtain ⟨e', he, q⟩ := ih.mpr z
        exact ⟨e', List.mem_cons_of_mem _ he, q⟩
end
/-- the set at a holds just the keys ks, each once; its table can be walked -/
def Holds (P : Program) (w : World) (h : Heap) (a : Addr) (ks : List Key) : Prop :=
  ∃ o es ep t ls, (h.get? a = some o ∧ o.ExactSet ∧ o.data = .set es ep t) ∧ (Paired (Ent (mixKind P w)) ls es.toList ∧ ls.Perm ks ∧ ks.Nodup) ∧
    (es.size < scanBound ∧ t.fits es.size = true) ∧ Ris t.place.toList ∧ (w.params.followText "set-order" = true ∨ t.led = true)
/-- .. as a tracked thing -/
def SetL (P : Program) (w : World) (a : Addr) (ks : List Key) : HO := .ext fun h => Holds P w h a ks
def hasL (ks : List Key) (k : Key) : Bool := ks.any fun j => decide (j = k)
theorem hasL_iff {ks : List Key} {k : Key} : hasL ks k = true ↔ k ∈ ks := by
  unfold hasL
  rw [List.any_eq_true]
  exact ⟨fun ⟨j, hj, e⟩ => of_decide_eq_true e ▸ hj, fun h => ⟨k, h, decide_eq_true rfl⟩⟩
def addL (ks : List Key) (k : Key) : List Key := if hasL ks k = true then ks else ks ++ [k]
section
variable {P : Program} {w : World} {A : Around} {E : Value → Shared → Prop} {s : Shared} {a : Addr} {ks : List Key}
theorem Holds.keep {h h' : Heap} (R : Holds P w h a ks) (k : ∀ o, h.get? a = some o → h'.get? a = some o) : Holds P w h' a ks :=
  let ⟨o, es, ep, t, ls, ⟨ho, r⟩, q⟩ := R; ⟨o, es, ep, t, ls, ⟨k o ho, r⟩, q⟩
theorem Holds.there {h : Heap} (R : Holds P w h a ks) : ∃ o, h.get? a = some o ∧ o.cls = .type "set" := let ⟨o, _, _, _, _, ⟨ho, hx, _⟩, _⟩ := R; ⟨o, ho, hx.1⟩
theorem Holds.new {H : Hp} {h : Heap} (R : Holds P w h a ks) : ObjOk P w H h a (SetL P w a ks) :=
  ⟨R, let ⟨o, ho, _⟩ := R.there; ⟨o, ho⟩, fun _ _ p k => p.keep k⟩
theorem mem_addL {k x : Key} : x ∈ addL ks k ↔ x ∈ ks ∨ x = k := by
  unfold addL
  by_cases z : k ∈ ks
  · rw [if_pos (hasL_iff.mpr z)]
    exact ⟨.inl, fun y => y.elim id fun e => e ▸ z⟩
  · rw [if_neg fun q => z (hasL_iff.mp q), List.mem_append, List.mem_singleton]
theorem stored {h : Heap} {o : Obj} {es es' : Array (Int × Value)} {ep : Nat} {t t' : SetTable} (ho : h.get? a = some o) (hd : o.data = .set es ep t) :
    (h.update a (Obj.putSet es' t')).get? a = some { o with data := .set es' (ep + 1) t' } :=
  (Heap.get?_update_self (Obj.putSet es' t') ho (by rw [putSet_of es' t' hd] <;> rfl)).trans (by rw [putSet_of es' t' hd])
/-- what an add does behind its search, where the key is new -/
theorem laid {k : Key} {x : Value} (hk : (mixKind P w).is k x = true) (hsc : x.scannable = true) {o : Obj} {es : Array (Int × Value)} {ep : Nat} {t : SetTable} {ls : List Key}
    (ho : s.heap.get? a = some o) (hx : o.ExactSet) (hd : o.data = .set es ep t) (pe : Paired (Ent (mixKind P w)) ls es.toList) (pm : ls.Perm ks) (nd : ks.Nodup) (room : es.size + 1 < scanBound)
    {es1 : Array (Int × Value)} {t1 : SetTable} (p1 : es1.toList.Perm (es.push ((mixKind P w).hash k, x)).toList) (f1 : t1.fits es1.size = true) (r1 : Ris t1.place.toList) (l1 : w.params.followText "set-order" = true ∨ t1.led = true) (hnk : k ∉ ks) :
    es1.size < scanBound ∧ Holds P w (s.heap.update a (Obj.putSet es1 t1)) a (ks ++ [k]) := by
  have z1 : es1.size = es.size + 1 := by
    have q := p1.length_eq
    rw [Array.length_toList, Array.length_toList, Array.size_push] at q
    exact q
  have pe' : Paired (Ent (mixKind P w)) (ls ++ [k]) (es.push ((mixKind P w).hash k, x)).toList := by
    rw [Array.toList_push]
    exact pe.snoc ⟨hk, rfl, hsc⟩
  obtain ⟨ls1, q1, pe1⟩ := paired_perm p1.symm pe'
  have nd1 : (ks ++ [k]).Nodup := List.nodup_append.mpr ⟨nd, List.nodup_cons.mpr ⟨(fun z => nomatch z), List.nodup_nil⟩, fun u hu v hv e => hnk (by rw [← List.mem_singleton.mp hv, ← e]; exact hu)⟩
  exact ⟨by omega, _, es1, _, t1, ls1, ⟨stored ho hd, hx, rfl⟩, ⟨pe1, q1.trans (pm.append_right [k]), nd1⟩, ⟨by omega, f1⟩, r1, l1⟩
/-- .. and a table that is laid anew -/
theorem relaid {o : Obj} {es1 es2 : Array (Int × Value)} {ep : Nat} {t1 t2 : SetTable} {h : Heap} (R : Holds P w h a ks) (ho : h.get? a = some o) (hd : o.data = .set es1 ep t1)
    (p2 : es2.toList.Perm es1.toList) (f2 : t2.fits es2.size = true) (r2 : Ris t2.place.toList) (l2 : t1.led = true → t2.led = true) : Holds P w (h.update a (Obj.putSet es2 t2)) a ks := by
  obtain ⟨o', es, ep', t, ls, ⟨ho', hx, hd'⟩, ⟨pe, pm, nd⟩, ⟨hb, _⟩, _, hl⟩ := R
  obtain rfl : o = o' := Option.some.inj (ho.symm.trans ho')
  rw [hd] at hd'
  cases hd'
  obtain ⟨ls2, q2, pe2⟩ := paired_perm p2.symm pe
  have z : es2.size = es1.size := by
    have q := p2.length_eq
    rw [Array.length_toList, Array.length_toList] at q
    exact q
  exact ⟨_, es2, _, t2, ls2, ⟨stored ho hd, hx, rfl⟩, ⟨pe2, q2.trans pm, nd⟩, ⟨z ▸ hb, f2⟩, r2, hl.imp id l2⟩
theorem Holds.size {h : Heap} (R : Holds P w h a ks) {o : Obj} {es : Array (Int × Value)} {ep : Nat} {t : SetTable} (ho : h.get? a = some o) (hd : o.data = .set es ep t) : es.size = ks.length := by
  obtain ⟨o', es', ep', t', ls, ⟨ho', _, hd'⟩, ⟨pe, pm, _⟩, _⟩ := R
  obtain rfl : o = o' := Option.some.inj (ho.symm.trans ho')
  rw [hd] at hd'
  cases hd'
  rw [← Array.length_toList, ← pe.length, pm.length_eq]
theorem add_scan {k : Key} {x : Value} (hk : (mixKind P w).is k x = true) (hsc : x.scannable = true) (R : Holds P w s.heap a ks) (room : ks.length + 1 < scanBound) {Q : Bool → Shared → Prop}
    (hQ : ∀ b h', Heap.SameBut a s.heap h' → Holds P w h' a (addL ks k) → Q b { s with heap := h' }) : wpAny (model P w) A (setAddHashed a x ((mixKind P w).hash k)) Q E s := by
  have R0 := R
  obtain ⟨o, es, ep, t, ls, ⟨ho, hx, hd⟩, ⟨pe, pm, nd⟩, ⟨hb, hf⟩, hr, hl⟩ := R
  have el := ents_elems pe
  have sz := R0.size ho hd
  have fd : (∃ e ∈ es.toList, (mixKind P w).is k e.2 = true) ↔ k ∈ ks := (ents_find pe).trans pm.mem_iff
  unfold setAddHashed setAddHashedIn
  refine wpAny_holding (wpAny_bind (wpAny_setState_of ho hd hf ?_))
  show wpAny _ _ (if byScan x es = true then _ else _) _ _ _
  rw [byScan_of hsc hb el]
  refine wpAny_bind (wpAny_bind (wpAny_rule (wpAny_bind (wpAny_setScan_of hk ho hd hf el ?_))))
  cases ix : es.toList.findIdx? (fun e => (mixKind P w).is k e.2) with
  | some j =>
    obtain ⟨hj, pj, _⟩ := List.findIdx?_eq_some_iff_getElem.mp ix
    have hin : k ∈ ks := fd.mp ⟨_, List.getElem_mem hj, pj⟩
    refine wpAny_pure (wpAny_pure (hQ _ s.heap (Heap.SameBut.refl a s.heap) ?_))
    rw [addL, if_pos (hasL_iff.mpr hin)]
    exact R0
  | none =>
    have hnk : k ∉ ks := fun z => by
      obtain ⟨e, he, q⟩ := fd.mpr z
      have := List.findIdx?_eq_none_iff.mp ix e he
      rw [q] at this
      cases this
    have p1 := layNew_perm t es ((mixKind P w).hash k) x
    have f1 := layNew_fits t es ((mixKind P w).hash k) x
    have r1 := layNew_ris t es ((mixKind P w).hash k) x hr
    have l1 := layNew_led t es ((mixKind P w).hash k) x
    dsimp only
    generalize layNew t es ((mixKind P w).hash k) x = Z at p1 f1 r1 l1 ⊢
    obtain ⟨es1, t1, was, gave⟩ := Z
    dsimp only at p1 f1 r1 l1 ⊢
    have gate : ∀ (b : Bool) {s' : Shared} {Q' : Unit → Shared → Prop}, Q' () s' → wpAny (model P w) A (match b with | true => rule "set.scan.the-table-gave-way" | false => pure ()) Q' E s' := fun b => by
      cases b
      · exact fun q => wpAny_pure q
      · exact fun q => wpAny_rule q
    have e1 : addL ks k = ks ++ [k] := if_neg fun q => hnk (hasL_iff.mp q)
    have more : ∀ {g : Bool → Sem Unit} (_ : ∀ (b : Bool) (s' : Shared) (Q' : Unit → Shared → Prop), Q' () s' → wpAny (model P w) A (g b) Q' E s') (t2 : SetTable), t2.fits es1.size = true → Ris t2.place.toList → t2.led = t1.led →
        wpAny (model P w) A (do
          storeSet a es1 t2
          if (!was && t2.tooFull) = true then do
            g (relayAll t2 es1 (SetTable.grown es1.size)).2.2
            storeSet a (relayAll t2 es1 (SetTable.grown es1.size)).1 (relayAll t2 es1 (SetTable.grown es1.size)).2.1
            pure (some true)
          else pure (some true)) (fun r s' => ∃ h', s' = { s with heap := h' } ∧ r = some true ∧ Heap.SameBut a s.heap h' ∧ Holds P w h' a (addL ks k)) E s := by
      intro g hg t2 f2 r2 l2
      obtain ⟨b1, H1⟩ := laid hk hsc ho hx hd pe pm nd (by omega) p1 f2 r2 (hl.imp id fun q => by rw [l2, l1]; exact q) hnk
      rw [e1]
      refine wpAny_bind (wpAny_storeSet_of ho hd ?_ (fits_of_scanBound b1))
      have sb := Heap.SameBut.update s.heap a (Obj.putSet es1 t2)
      by_cases full : (!was && t2.tooFull) = true
      · rw [if_pos full]
        refine wpAny_bind (hg _ _ _ (wpAny_bind (wpAny_storeSet_of (stored ho hd) rfl ?_ ?_)))
        · refine wpAny_pure ⟨_, rfl, rfl, sb.trans (Heap.SameBut.update _ a _), relaid H1 (stored ho hd) rfl (relayAll_perm _ _ _) (relayAll_fits _ _ _) (relayAll_ris _ _ _) fun q => ?_⟩
          rw [relayAll_led]
          exact q
        · have q := (relayAll_perm t2 es1 (SetTable.grown es1.size)).length_eq
          rw [Array.length_toList, Array.length_toList] at q
          rw [q]
          exact fits_of_scanBound b1
      · rw [if_neg full]
        exact wpAny_pure ⟨_, rfl, rfl, sb, H1⟩
    refine wpAny_bind (gate gave ?_)
    have go : ∀ v : Bool, wpAny (model P w) A (do
          storeSet a es1 (if v = true then t1 else { t1 with plain := false })
          if (!was && (if v = true then t1 else { t1 with plain := false }).tooFull) = true then do
            (match (relayAll (if v = true then t1 else { t1 with plain := false }) es1 (SetTable.grown es1.size)).2.2 with | true => rule "set.scan.the-table-gave-way" | false => pure ())
            storeSet a (relayAll (if v = true then t1 else { t1 with plain := false }) es1 (SetTable.grown es1.size)).1 (relayAll (if v = true then t1 else { t1 with plain := false }) es1 (SetTable.grown es1.size)).2.1
            pure (some true)
          else pure (some true)) (fun r s' => ∃ h', s' = { s with heap := h' } ∧ r = some true ∧ Heap.SameBut a s.heap h' ∧ Holds P w h' a (addL ks k)) E s := fun v => by
      cases v
      · exact more (g := fun b => match b with | true => rule "set.scan.the-table-gave-way" | false => pure ()) (fun b s' Q' q => gate b q) { t1 with plain := false } (SetTable.fits_plain_off f1) r1 rfl
      · exact more (g := fun b => match b with | true => rule "set.scan.the-table-gave-way" | false => pure ()) (fun b s' Q' q => gate b q) t1 f1 r1 rfl
    have fin : ∀ (r : Option Bool) (s' : Shared), (∃ h', s' = { s with heap := h' } ∧ r = some true ∧ Heap.SameBut a s.heap h' ∧ Holds P w h' a (addL ks k)) → ∃ h', r = some true ∧ s' = { s with heap := h' } ∧ Q true s' := by
      rintro r s' ⟨h', rfl, rfl, sb, H'⟩
      exact ⟨h', rfl, rfl, hQ true h' sb H'⟩
    by_cases pl : t1.plain = true
    · rw [if_pos pl]
      refine wpAny_bind ?_
      rw [hashByValue_scannable 8 hsc]
      refine wpAny_pure (wpAny_mono (go _) (fun r s' q => ?_) fun _ _ z => z)
      obtain ⟨h', rfl, rfl, q⟩ := fin r s' q
      exact wpAny_pure q
    · rw [if_neg pl]
      refine wpAny_bind (wpAny_pure (wpAny_mono (go true) (fun r s' q => ?_) fun _ _ z => z))
      obtain ⟨h', rfl, rfl, q⟩ := fin r s' q
      exact wpAny_pure q

/-- set.add, called -/
theorem add_call {k : Key} {x : Value} (hk : (mixKind P w).is k x = true) (hsc : x.scannable = true) (R : Holds P w s.heap a ks) (room : ks.length + 1 < scanBound) {Q : Value → Shared → Prop}
    (hQ : ∀ h', Heap.SameBut a s.heap h' → Holds P w h' a (addL ks k) → Q .none { s with heap := h', toks := s.toks + 1 }) : wpAny (model P w) A (call (.builtin "set.add") [.ref a, x]) Q E s := by
  refine wpAny_call_entry F.slot_set_add (show s.TypeIs (.ref a) "set" from R.there) F.entry_set_add ?_ (F.args_set_add_2 _ _)
  unfold Builtin.«set.add» Builtin.Frozenset.oneOther
  simp only [List.isEmpty_nil, bind_assoc]
  unfold Builtin.Frozenset.addrOf setAdd
  refine wpAny_bind (wpAny_pure (wpAny_bind (wpAny_pure (wpAny_bind (wpAny_holding (wpAny_bind ((mixKind P w).pyHash hk ?_)))))))
  refine add_scan (s := { s with toks := s.toks + 1 }) hk hsc R room fun b h' sb r => ?_
  exact (show wpAny _ _ (ret Value.none) _ _ _ from wpAny_pure ⟨_, rfl, hQ h' sb r⟩)
theorem fresh_set (h : Heap) : Holds P w (h.push { cls := .type "set", dict := none, data := .set #[] 0 (.fresh 0 0 (!w.params.followText "set-order")) }) h.objs.size [] := by
  refine ⟨_, #[], 0, _, [], ⟨Heap.get?_push_size _ rfl, ⟨rfl, rfl, rfl⟩, rfl⟩, ⟨.nil, .refl _, List.nodup_nil⟩, ⟨by decide, by rfl⟩, List.Pairwise.nil, ?_⟩
  cases q : w.params.followText "set-order" with
  | true => exact .inl rfl
  | false => exact .inr rfl
end
/-! ### sorted(a set of texts) -/
theorem strs_of_paired {P : Program} {w : World} : ∀ {ks : List Key} {vs : List Value}, Paired (fun k v => (mixKind P w).is k v = true) ks vs → ∀ {xs : List Str}, ks.Perm (xs.map Sum.inr) → ∃ zs, zs.Perm xs ∧ StrsAre vs zs := by
  intro ks vs h xs p
  have all : ∀ k ∈ ks, ∃ x, k = Sum.inr x := fun k hk => by
    obtain ⟨x, _, e⟩ := List.mem_map.mp (p.mem_iff.mp hk)
    exact ⟨x, e.symm⟩
  have q := p.filterMap (fun k : Key => match k with | .inr x => some x | .inl _ => none)
  have e : (xs.map Sum.inr : List Key).filterMap (fun k : Key => match k with | .inr x => some x | .inl _ => none) = xs := by
    rw [List.filterMap_map]
    exact List.filterMap_some
  rw [e] at q
  refine ⟨_, q, ?_⟩
  clear p q e
  induction h with
  | nil => exact .nil
  | @cons k v ks vs r _ ih =>
    obtain ⟨x, rfl⟩ := all k List.mem_cons_self
    rcases keyIs_shape (show keyIs (.inr x) v = true from r) with ⟨_, _, z, _⟩ | ⟨y, t, z, rfl⟩
    · cases z
    · cases z
      exact .cons _ _ (ih fun k hk => all k (List.mem_cons_of_mem _ hk))
theorem paired_snd {P : Program} {w : World} {ks : List Key} {es : List (Int × Value)} (h : Paired (Ent (mixKind P w)) ks es) : Paired (fun k v => (mixKind P w).is k v = true) ks (es.map (·.2)) := by
  induction h with
  | nil => exact .nil
  | cons r _ ih => exact .cons r.1 ih
section
variable {P : Program} {w : World} {A : Around} {E : Value → Shared → Prop} {s : Shared} {a : Addr}
theorem sorted_call {xs : List Str} {Q : Value → Shared → Prop} (R : Holds P w s.heap a (xs.map Sum.inr)) (hh : A.handled = none)
    (hQ : ∀ s' p (out : Array Value) (c : Nat) (ys : List Str), (∀ b o, s.heap.get? b = some o → s'.heap.get? b = some o) → s'.gens = s.gens ∧ s'.os = s.os → s.heap.objs.size ≤ p →
      s'.heap.get? p = some (seqObj "list" out c) → StrsAre out.toList ys → ys.Perm xs → sortedS ys = true → Q (.ref p) s') : wpAny (model P w) A (call (.builtin "sorted") [.ref a]) Q E s := by
  obtain ⟨o, es, ep, t, ls, ⟨ho, hx, hd⟩, ⟨pe, pm, nd⟩, ⟨hb, hf⟩, hr, hl⟩ := R
  refine Calls.call_function_entry kind_sorted plain_sorted entry_sorted (args_sorted1 _) ?_
  unfold Builtin.«sorted»
  refine wpAny_bind (m := checkCount "sorted" 1 1 _) (wpAny_pure (wpAny_bind (collect_set (A := A.in1) hh ⟨o, ho, hx.1, hd⟩ hf hb hr hl fun s1 vs k1 hz g1 o1 pv => ?_)))
  obtain ⟨ls', q', pe'⟩ := paired_perm pv.symm (paired_snd pe)
  obtain ⟨zs, pz, hS⟩ := strs_of_paired pe' (q'.trans pm)
  have hsz : vs.length ≤ sizeLine := by
    rw [pv.length_eq, List.length_map, Array.length_toList]
    exact fits_of_scanBound hb
  refine wpAny_bind (wpAny_newList ?_ hsz)
  have hoL : (s1.heap.push (seqObj "list" vs.toArray 0)).get? s1.heap.objs.size = some (seqObj "list" vs.toArray 0) := Heap.get?_push_size _ rfl
  refine wpAny_bind (wpAny_holding (wpAny_call_entry slot_list_sort ⟨_, hoL, rfl⟩ entry_list_sort (list_sort_treeKAny strKind_oneLt hoL hS.keysOf (fun v₁ v₂ rest e => keyKind_strs (by rw [← e]; exact hS)) hsz fun st' hp hs => ?_) (args_list_sort _)))
  obtain ⟨ys, y1, y2, y3⟩ := sorted_out_str hS hp hs
  obtain ⟨c, hc⟩ := sortedHeap_at (vs := vs) (out := (arrOf st').map (·.2)) hoL
  refine ⟨_, rfl, wpAny_pure ⟨_, rfl, hQ _ _ _ c ys (fun b u e => ?_) ⟨g1, o1⟩ hz hc y1 (y2.trans pz) y3⟩⟩
  have q := k1 b u e
  have hlt := Heap.lt_size q
  refine (sortedHeap_old (Nat.ne_of_lt hlt) ?_).trans (Heap.get?_push_of_some _ q)
  rw [size_push']
  exact Nat.lt_succ_of_lt hlt
end
section
variable {X : Cx} {pins : List (Addr × Obj)} {σ : L2.St} {H : Hp} {s : Shared}
theorem held {a : Addr} {ks : List Key} (I : Inv X pins σ H s) (h : H a = some (SetL X.prog X.w a ks)) : Holds X.prog X.w s.heap a ks := (I.hok a _ h).1
theorem key_rel {k : Key} {u : Value} (r : RelV (kV k) u) (P : Program) (w : World) : (mixKind P w).is k u = true ∧ u.scannable = true := by
  cases k with
  | inl i => obtain ⟨t, rfl⟩ := r; exact ⟨mixKind_int P w i t, rfl⟩
  | inr x => obtain ⟨t, rfl⟩ := r; exact ⟨mixKind_str P w x t, rfl⟩
theorem add_inv {a : Addr} {ks : List Key} {k : Key} {u : Value} {A : Around} {E : Value → Shared → Prop} {Q : Value → Shared → Prop} (I : Inv X pins σ H s) (h : H a = some (SetL X.prog X.w a ks)) (r : RelV (kV k) u) (room : ks.length + 1 < scanBound)
    (hQ : ∀ s', Inv X pins σ (upd H a (SetL X.prog X.w a (addL ks k))) s' → Q .none s') : wpAny (model X.prog X.w) A (call (.builtin "set.add") [.ref a, u]) Q E s := by
  obtain ⟨r1, r2⟩ := key_rel r X.prog X.w
  refine add_call r1 r2 (held I h) room fun h' sb R => hQ _ ?_
  exact I.write (e := a) (t' := s.toks + 1) (by rw [h]; trivial) (.inl rfl) (fun b o hb ho => (sb.2 b hb).trans ho) (let ⟨o, ho, _⟩ := R.there; ⟨o, ho⟩) R.new
/-- sorted(found), found a set of texts -/
def rSortedL (P : Program) (w : World) : List V → Hp → VK → Prop := fun vs H Q => ∃ (a : Addr) (xs : List Str), vs = [.ref a] ∧ H a = some (SetL P w a (xs.map Sum.inr)) ∧
  ∀ (ys : List Str) (p : Addr), ys.Perm xs → sortedS ys = true → H p = none → Q (.ref p) (upd H p (.lst (ys.map V.str)))
theorem cr_sortedL (hc : X.calm = true) : CallR X (.builtin "sorted") (rSortedL X.prog X.w) := by
  intro pins s σ H vs us Q I r h
  obtain ⟨a, xs, rfl, ha, q⟩ := h
  rw [Vals.ref1 r]
  have R := held I ha
  have bound : xs.length ≤ sizeLine := by
    obtain ⟨o, es, ep, t, ls, ⟨ho, hx, hd⟩, ⟨pe, pm, nd⟩, ⟨hb, hf⟩, _⟩ := R
    have := pm.length_eq
    rw [pe.length, Array.length_toList, List.length_map] at this
    rw [← this]
    exact fits_of_scanBound hb
  refine sorted_call R (I.ok.hd hc) fun s' p out c ys k go hp hg hi hperm hs => ?_
  have hn : H p = none := I.hok.fresh hp
  have hlen : (ys.map V.str).length ≤ sizeLine := by rw [List.length_map, hperm.length_eq]; exact bound
  have J : Inv X pins σ (upd H p (.lst (ys.map V.str))) s' := I.call' (ch := []) go.2 (Un.laid k hp hn) (I.hok.laid k hp ⟨hlen, out.toList, c, vals_of_strs hi, hg⟩) (by rw [go.1]; exact I.bare) (fun _ z => nomatch z)
  exact ⟨.ref p, _, J, rfl, q ys p hperm hs hn⟩
end
end KnS

set_option Elab.async false
set_option linter.all false
set_option maxRecDepth 100000
set_option maxHeartbeats 4000000
/-! {elt for target in iter if ..}, elt an int or a text. -/
namespace KnS
open PySem PySem.Spec PyProof.Rows L2
section
variable {X : Cx}
abbrev set0 (w : World) : Obj := { cls := .type "set", dict := none, data := .set #[] 0 (.fresh 0 0 (!w.params.followText "set-order")) }
/-- what a turn may reach, and how a comprehension into a set reads -/
def tScL (P : Program) (w : World) (wi : TI) (g : TG) (tt : TT) (te : TE) (vs : List Nat) : TE := fun σ H Q => wi σ H fun J H1 => ∀ D, H1 D = none →
  ∃ W : Nat → Nat → Hp → Prop, (∃ m, W 0 m (upd H1 D (SetL P w D []))) ∧ ∀ i m H, W i m H → (J.stop i H ∧ Q (.ref D) H) ∨
    (J.go i H ∧ ∃ Nx : Hp → Prop, (∀ H', Nx H' → ∃ m', m' < m ∧ W (i + 1) m' H') ∧
      ∀ x H', J.yld i H x H' → g x (wipe σ vs) H' fun σ2 H2 => wipe σ2 vs = wipe σ vs ∧ tt σ2 H2 fun b H3 =>
        if b = true then te σ2 H3 fun y H4 => ∃ (k : Key) (ks : List Key), y = kV k ∧ H4 D = some (SetL P w D ks) ∧ ks.length + 1 < scanBound ∧ Nx (upd H4 D (SetL P w D (addL ks k))) else Nx H3)
theorem scL {elt tg iter : Expr} {ifs : List Expr} {scope : Scope} {own : List (Str × Nat)} {pos : Pos} {wi : TI} {g : TG} {tt : TT} {te : TE}
    (hc : X.calm = true) (hN : X.N.Nodup) (hi : PI X tg iter wi) (ok : BlkOk X.N X.env.scope scope own)
    (hg : ∀ (s : Shared) (H : Hp) (C : Addr) (cl : List (Str × Addr)) (fp : List Addr), PG (X.blk s H scope (compEnvC scope cl C X.env) fp) tg g)
    (ht : ∀ (s : Shared) (H : Hp) (C : Addr) (cl : List (Str × Addr)) (fp : List Addr), PTs (X.blk s H scope (compEnvC scope cl C X.env) fp) ifs tt)
    (he : ∀ (s : Shared) (H : Hp) (C : Addr) (cl : List (Str × Addr)) (fp : List Addr), PE (X.blk s H scope (compEnvC scope cl C X.env) fp) elt te)
    (hs : ∀ x, foldedSetIterable iter X.env x = pure x := by intro _; rfl) :
    PE X (.SetComp elt [⟨tg, iter, ifs, 0⟩] scope pos) (tScL X.prog X.w wi g tt te (own.map (·.2))) := by
  refine ⟨fun pins s σ H Q I h => ?_⟩
  rw [PpSet.eval_SetComp]
  have captured : ∀ y ∈ scope.names, y.2 = .free → ∃ c, X.env.cells.lookup y.1 = some c := fun y hy e =>
    (ok.free y hy e).elim (fun k => I.ok.has _ (.inl k)) fun k => I.ok.has _ (.inr k)
  refine wpAny_comprehension_free (use := none) rfl hs (closure_ok captured) ok.kind (fun y hy e => by rw [ok.uniq y hy, e]) ?_
  refine thn (hi.run pins s σ H _ I h) fun xv s1 hx => thn hx fun itv s2 ⟨it, fp, tn, J, H2, eit, I2, T, st2, f2, q⟩ => ?_
  subst eit
  refine PpSet.newSet_ok (newEnv_comp ?_)
  generalize hD : s2.heap.objs.size = D
  have freeD : H2 D = none := I2.hok.fresh (Nat.le_of_eq hD)
  obtain ⟨W, ⟨m0, w0⟩, turn⟩ := q D freeD
  -- the new set stands
  generalize h3 : s2.heap.push (set0 X.w) = hp3
  have keep3 : ∀ b o, s2.heap.get? b = some o → hp3.get? b = some o := fun b o e => h3 ▸ Heap.get?_push_of_some _ e
  have size3 : hp3.objs.size = s2.heap.objs.size + 1 := by rw [← h3, Heap.size_push]
  have I3 : Inv X pins σ (upd H2 D (SetL X.prog X.w D [])) { s2 with heap := hp3 } := by
    refine I2.laid (t' := s2.toks) keep3 (Nat.le_of_eq hD) (Holds.new ?_)
    rw [← h3, ← hD]
    exact fresh_set _
  have inFp : ∀ b ∈ fp, b < s2.heap.objs.size := fun b hb => let ⟨_, e, _⟩ := T.obj _ _ st2 b hb; Heap.lt_size e
  have f3 : ∀ b ∈ fp, FpOk X pins (upd H2 D (SetL X.prog X.w D [])) b ∧ b < hp3.objs.size := fun b hb =>
    ⟨⟨(upd_ne (by rw [← hD]; exact Nat.ne_of_lt (inFp b hb))).trans (f2 b hb).1, (f2 b hb).2⟩, by rw [size3]; exact Nat.lt_succ_of_lt (inFp b hb)⟩
  have st3 : tn 0 hp3 := T.keep _ _ _ st2 fun b _ => keep3 b
  generalize hH3 : upd H2 D (SetL X.prog X.w D []) = H3 at I3 f3 w0
  generalize hs3 : ({ s2 with heap := hp3 } : Shared) = s3 at I3
  have e3 : s3.heap = hp3 := by rw [← hs3]
  have I4 := block_start I3 ok hN (fun b hb => ⟨(f3 b hb).1, by rw [e3]; exact (f3 b hb).2⟩)
  have clear0 : ∀ b ∈ fp, H3 b = none := fun b hb => (f3 b hb).1.1
  show codeAny _ _ (.compStart (.SetComp elt [⟨tg, iter, ifs, 0⟩] scope pos) 0 (.ref it) (.ref D) (compEnvC scope (cellsFrom (s3.heap.objs.size + 1) scope.names (cloFrom X.env.cells scope.names [])) s3.heap.objs.size X.env))
    (compPost (model X.prog X.w) X.A X.xe none (EP X pins σ Q) (.ref D) s3.heap.objs.size) { s3 with heap := pushCells (s3.heap.push { cls := .type "dict", data := .dict #[] }) scope.names }
  have pg := hg s3 H3 s3.heap.objs.size (cellsFrom (s3.heap.objs.size + 1) scope.names (cloFrom X.env.cells scope.names [])) fp
  have pt := ht s3 H3 s3.heap.objs.size (cellsFrom (s3.heap.objs.size + 1) scope.names (cloFrom X.env.cells scope.names [])) fp
  have pe := he s3 H3 s3.heap.objs.size (cellsFrom (s3.heap.objs.size + 1) scope.names (cloFrom X.env.cells scope.names [])) fp
  have home : (compEnvC scope (cellsFrom (s3.heap.objs.size + 1) scope.names (cloFrom X.env.cells scope.names [])) s3.heap.objs.size X.env).locals = s3.heap.objs.size := rfl
  generalize compEnvC scope (cellsFrom (s3.heap.objs.size + 1) scope.names (cloFrom X.env.cells scope.names [])) s3.heap.objs.size X.env = ce at I4 pg pt pe home ⊢
  have st4 : tn 0 ({ s3 with heap := pushCells (s3.heap.push { cls := .type "dict", data := .dict #[] }) scope.names } : Shared).heap := by
    refine T.keep _ _ _ st3 fun b _ o e => pushCells_keeps _ _ _ _ (Heap.get?_push_of_some _ ?_)
    rw [e3]
    exact e
  generalize ({ s3 with heap := pushCells (s3.heap.push { cls := .type "dict", data := .dict #[] }) scope.names } : Shared) = s4 at I4 ⊢ st4
  have own0 : ∀ {σ' : L2.St} {H' : Hp} {s' : Shared}, Inv (X.blk s3 H3 scope ce fp) [] σ' H' s' → (∀ b ∈ fp, H' b = none) → ∀ b ∈ fp, FpOk (X.blk s3 H3 scope ce fp) [] H' b := fun I' cl b hb =>
    ⟨cl b hb, (I'.ok.exf b hb).1, I'.ok.exfs b hb, .inl hb, (fun x c e => (I'.ok.exf b hb).2 x c e), fun p hp => by cases List.mem_append.mp hp <;> rename_i z <;> exact absurd z List.not_mem_nil⟩
  have loop : codeAny (model X.prog X.w) X.A (.compLoop (.SetComp elt [⟨tg, iter, ifs, 0⟩] scope pos) 0 (.ref it) (.ref D) ce) (compPost (model X.prog X.w) X.A X.xe none (EP X pins σ Q) (.ref D) s3.heap.objs.size) s4 := by
    refine PpSet.compLoopS_any (fun n s' => ∃ i H', (Inv (X.blk s3 H3 scope ce fp) [] (wipe σ (own.map (·.2))) H' s' ∧ tn i s'.heap) ∧ (∀ b ∈ fp, H' b = none) ∧ W i n H') ?_ m0 ⟨0, H3, ⟨I4, st4⟩, clear0, w0⟩
    rintro n s5 ⟨i, H5, ⟨I5, st5⟩, cl5, w5⟩
    rcases turn i n H5 w5 with ⟨stop, fine⟩ | ⟨go, Nx, hNx, step⟩
    · refine thnF (T.done (X.blk s3 H3 scope ce fp) rfl rfl rfl hc i [] s5 _ H5 (fun _ _ => False) I5 (own0 I5 cl5) st5 stop) fun r s6 ⟨er, I6⟩ => ?_
      subst er
      have I7 : Inv X pins σ H5 s6 := I3.call' (ch := fp) I6.os I6.base I6.hok I6.bare fun b hb =>
        let f := (f3 b hb).1.2; ⟨f.2.2.1, f.1, f.2.2.2.1, f.2.2.2.2⟩
      have free5 : H5 s3.heap.objs.size = none := home ▸ I6.free
      obtain ⟨m, hn, _⟩ := I6.loc
      obtain ⟨_, k1, k2, k3, k4, k5⟩ := I3.fpOk (Nat.le_refl _) free5
      exact ⟨m, home ▸ hn, fun h'' sb => ⟨.ref D, H5, I7.turned (t' := s6.toks) (fun b o hb e => (sb.2 b hb).trans e) free5 k1 k3 k4 k5, rfl, fine⟩⟩
    · refine thnF (T.item (X.blk s3 H3 scope ce fp) rfl rfl rfl hc i [] s5 _ H5 (fun _ _ => False) I5 (own0 I5 cl5) st5 go) fun r s6 ⟨u, er, h6⟩ => ?_
      subst er
      refine thnF h6 fun _ s7 ⟨x, H7, I7, r7, y7, st7, cl7⟩ => ?_
      refine thnF (pg.run _ s7 _ H7 x u _ (I7.pinned (own0 I7 cl7) (T.obj _ _ st7)) r7 (step x H7 y7)) fun _ s8 ⟨σ8, H8, I8, same8, q8⟩ => thnF (pt.run _ s8 σ8 H8 _ I8 q8) fun b s9 ⟨H9, I9, q9⟩ => ?_
      have closed : ∀ {s' : Shared} {H' : Hp}, Inv (X.blk s3 H3 scope ce fp) ([] ++ pinsAt fp s7.heap) σ8 H' s' → Nx H' → ∃ m, m < n ∧ ∃ i H', (Inv (X.blk s3 H3 scope ce fp) [] (wipe σ (own.map (·.2))) H' s' ∧ tn i s'.heap) ∧ (∀ b ∈ fp, H' b = none) ∧ W i m H' := fun {s' H'} I' nx => by
        obtain ⟨m', less, w'⟩ := hNx H' nx
        have pinned : ∀ b ∈ fp, ∀ o, s7.heap.get? b = some o → s'.heap.get? b = some o ∧ H' b = none := fun b hb o e =>
          have z := I'.pin (b, o) (List.mem_append_right _ (List.mem_append_right _ (mem_pinsAt hb e)))
          ⟨z.1, z.2.1⟩
        have len8 : (wipe σ (own.map (·.2))).length = σ8.length := (congrArg List.length same8).symm.trans (wipe_length _ _)
        refine ⟨m', less, i + 1, H', ⟨(I'.unpinned (pins := [])).weak len8 fun j v e => ?_, T.keep _ _ _ st7 fun b hb o e => (pinned b hb o e).1⟩, fun b hb => ?_, w'⟩
        · exact (wipe_some (same8 ▸ e)).1
        · obtain ⟨o, e, _⟩ := T.obj _ _ st7 b hb
          exact (pinned b hb o e).2
      cases b with
      | false => exact closed I9 q9
      | true =>
        refine thnF (pe.run _ s9 σ8 H9 _ I9 q9) fun z s10 ⟨yv, H10, I10, r10, k, ks, ey, eD, room, nx⟩ => ?_
        subst ey
        exact add_inv (X := X.blk s3 H3 scope ce fp) I10 eD r10 room fun s11 I11 => closed I11 nx
  exact PpSet.codeAny_compStart_set loop (T.self X.A 0 _ _ _ st4 loop)
end
end KnS

set_option Elab.async false
set_option linter.all false
set_option maxRecDepth 100000
set_option maxHeartbeats 4000000
/-! set(a list of ints and texts). -/
namespace KnS
open PySem PySem.Spec PyProof.Rows L2
def allL (ks : List Key) : List Key := ks.foldl addL []
theorem mem_foldL {x : Key} : ∀ {l acc : List Key}, x ∈ l.foldl addL acc ↔ x ∈ acc ∨ x ∈ l := by
  intro l
  induction l with
  | nil => intro acc; exact ⟨.inl, fun h => h.elim id (fun z => nomatch z)⟩
  | cons y l ih =>
    intro acc
    rw [List.foldl_cons, ih, mem_addL, List.mem_cons]
    constructor
    · rintro ((h | h) | h)
      · exact .inl h
      · exact .inr (.inl h)
      · exact .inr (.inr h)
    · rintro (h | h | h)
      · exact .inl (.inl h)
      · exact .inl (.inr h)
      · exact .inr h
theorem mem_allL {x : Key} {l : List Key} : x ∈ allL l ↔ x ∈ l := mem_foldL.trans ⟨fun h => h.elim (fun z => nomatch z) id, .inr⟩
theorem addL_nodup {ks : List Key} {k : Key} (h : ks.Nodup) : (addL ks k).Nodup := by
  unfold addL
  by_cases z : hasL ks k = true
  · rw [if_pos z]; exact h
  · rw [if_neg z]
    exact List.nodup_append.mpr ⟨h, List.nodup_cons.mpr ⟨(fun z => nomatch z), List.nodup_nil⟩, fun u hu v hv e => z (hasL_iff.mpr (by rw [← List.mem_singleton.mp hv, ← e]; exact hu))⟩
theorem foldL_nodup : ∀ {l acc : List Key}, acc.Nodup → (l.foldl addL acc).Nodup
  | [], _, h => h
  | k :: l, _, h => foldL_nodup (l := l) (addL_nodup h)
theorem addL_length (ks : List Key) (k : Key) : (addL ks k).length ≤ ks.length + 1 := by
  unfold addL
  by_cases z : hasL ks k = true
  · rw [if_pos z]; omega
  · rw [if_neg z, List.length_append]; exact Nat.le_refl _
theorem foldL_length : ∀ (l acc : List Key), (l.foldl addL acc).length ≤ acc.length + l.length
  | [], _ => Nat.le_refl _
  | k :: l, acc => by
    have h1 := foldL_length l (addL acc k)
    have h2 := addL_length acc k
    rw [List.foldl_cons, List.length_cons]
    omega
section
variable {P : Program} {w : World} {A : Around} {E : Value → Shared → Prop} {s : Shared}
/-- set.__new__(set, a): a new empty set, led where the order is not by the text -/
theorem new_set (a : Value) {Q₁ : Value → Shared → Prop} (h : Q₁ (.ref s.heap.objs.size) { s with heap := s.heap.push { cls := .type "set", dict := none, data := .set #[] 0 (.fresh 0 0 (!w.params.followText "set-order")) } }) :
    codeAny (model P w) A (.call (.builtin "set.__new__") ⟨[.type "set", a], []⟩) (wants Q₁ E) s := by
  refine codeAny_of_tree (show wpAny _ A.in1 (do checkBuiltinCall "set.__new__" ⟨[.type "set", a], []⟩; again (.builtin "set.__new__" ⟨[.type "set", a], []⟩)) _ _ s from ?_)
  refine wpAny_bind (wpAny_of_eq (F.newCall_set_1 a) (wpAny_pure ⟨plainId_quiet F.plain_set_new _, codeAny_builtin F.entry_set_new ?_⟩))
  rw [Around.under_plainId F.plain_set_new _]
  unfold Builtin.«set.__new__» Builtin.Frozenset.newClass
  have hsub := sub_set_self
  obtain ⟨hp, g, d, tk, os⟩ := s
  dsimp only
  wp_walk
  refine wpAny_askSetting (wpAny_pure ?_)
  dsimp only
  simp only [newObj]
  exact wpAny_bind (wpAny_alloc (wpAny_pure (wpAny_pure h)))
/-- the loop of set(v) -/
theorem update_loop {I S : Addr} {fp wr : List Addr} {G : Array GenState → Array GenState → Prop} {ks : List Key} {Pv : Nat → Value → Prop} {St : Nat → Shared → Prop} {R : Result → Shared → Prop}
    (W : WalksS P w A.in1 I fp wr G ks.length Pv St) (hSf : S ∉ fp) (hval : ∀ i v k, Pv i v → ks[i]? = some k → (mixKind P w).is k v = true ∧ v.scannable = true) (room : ks.length + 1 < scanBound) :
    ∀ (k i : Nat) (s : Shared), ks.length - i = k → i ≤ ks.length → St i s → Holds P w s.heap S (allL (ks.take i)) →
      (∀ s', Moved (S :: wr) G s s' → Holds P w s'.heap S (allL ks) → R (.ok (.ret .none)) s') → codeAny (model P w) A (.builtin "set.update.loop" ⟨[.ref S, .ref I], []⟩) R s := by
  have hSw : S ∉ wr := fun h => hSf (W.sub _ h)
  have more : ∀ b ∈ wr, b ∈ S :: wr := fun b hb => List.mem_cons_of_mem _ hb
  intro k
  induction k with
  | zero =>
    intro i s hk hi hst hS hR
    obtain rfl : i = ks.length := by omega
    refine codeAny_builtin PyProof.Rows.F.entry_set_update_loop ?_
    rw [Around.under_plainId PyProof.Rows.F.plain_set_update_loop _]
    show wpAny _ A.in1 (pyNext (.ref I) >>= _) _ _ s
    refine wpAny_bind (W.done s _ _ hst fun s' hm => (show wpAny _ A.in1 (ret Value.none) _ _ s' from wpAny_pure (hR s' (hm.mono more) ?_)))
    rw [List.take_length] at hS
    exact hS.keep fun o ho => hm.heap S o hSw ho
  | succ k ih =>
    intro i s hk hi hst hS hR
    have lt : i < ks.length := by omega
    have at_ : ks[i]? = some ks[i] := List.getElem?_eq_getElem lt
    refine codeAny_builtin PyProof.Rows.F.entry_set_update_loop ?_
    rw [Around.under_plainId PyProof.Rows.F.plain_set_update_loop _]
    show wpAny _ A.in1 (pyNext (.ref I) >>= _) _ _ s
    refine wpAny_bind (W.item i s _ _ lt hst fun v s' hP hst' hm => ?_)
    obtain ⟨v1, v2⟩ := hval i v _ hP at_
    have hS' : Holds P w s'.heap S (allL (ks.take i)) := hS.keep fun o ho => hm.heap S o hSw ho
    have len : (allL (ks.take i)).length + 1 < scanBound := by
      have h1 := foldL_length (ks.take i) []
      rw [List.length_take] at h1
      have h2 : ([] : List Key).length = 0 := rfl
      unfold allL
      omega
    show wpAny _ A.in1 (holding [v] (setAdd S v) >>= _) _ _ s'
    refine wpAny_bind (wpAny_holding ?_)
    unfold setAdd
    refine wpAny_holding (wpAny_bind ((mixKind P w).pyHash v1 ?_))
    refine add_scan (s := { s' with toks := s'.toks + 1 }) v1 v2 hS' len fun b h' hsb hS2 => ?_
    have e2 : allL (ks.take (i + 1)) = addL (allL (ks.take i)) ks[i] := by
      unfold allL
      rw [List.take_add_one, at_, List.foldl_append]
      rfl
    refine wpAny_pure ⟨plainId_quiet PyProof.Rows.F.plain_set_update_loop _, ih (i + 1) _ (by omega) lt (W.frame _ s' _ _ hst' (Nat.le_succ _) fun b hb o e => ?_) (by rw [e2]; exact hS2) fun s'' hm'' hS'' => ?_⟩
    · exact (hsb.2 b fun h => hSf (h ▸ hb)).trans e
    · refine hR s'' (Moved.trans W.gtrans ((hm.mono more).then_heap (Nat.le_succ _) fun b o hb e => ?_) hm'') hS''
      exact (hsb.2 b fun h => hb (h ▸ List.mem_cons_self)).trans e

set_option maxHeartbeats 3200000 in
theorem set_call {l : Addr} {items : List Value} {ks : List Key} {Q : Value → Shared → Prop} (hh : A.handled = none) (hl : s.heap.IsList l items.toArray) (hk : Paired (fun k v => (mixKind P w).is k v = true ∧ v.scannable = true) ks items) (room : ks.length + 1 < scanBound)
    (h : ∀ (h' : Heap) (tk : Nat), Holds P w h' s.heap.objs.size (allL ks) → (∀ b o, b < s.heap.objs.size → s.heap.get? b = some o → h'.get? b = some o) → Q (.ref s.heap.objs.size) { s with heap := h', toks := tk }) :
    wpAny (model P w) A (call (.type "set") [.ref l]) Q E s := by
  have ⟨c, tl, hmro⟩ := PySem.F.called_set.mro
  have made := PySem.F.called_set.made
  have sub := PySem.F.called_set.sub
  refine wpAny_call (codeAny_of_tree (show wpAny _ _ (callAny (.type "set") _) _ _ _ from wpAny_pure ⟨Code.quiet_builtin _ (by decide +kernel), codeAny_builtin PySem.F.entry_type_call ?_⟩))
  rw [Around.under_plain (weight_type_call_type "set" [.ref l] []) rfl]
  have u1 := PySem.F.called_set.notType
  have u2 := PySem.F.called_set.canCreate
  have u3 := PySem.F.typeCall_set_1 (.ref l)
  repeat (any_goals (first | assumption | wp_step))
  have R0 := fresh_set (P := P) (w := w) s.heap
  have made0 := new_set (P := P) (w := w) (A := A.in1) (s := s) (.ref l) (E := E) (Q₁ := fun obj s₁ => obj = .ref s.heap.objs.size ∧ s₁ = { s with heap := s.heap.push { cls := .type "set", dict := none, data := .set #[] 0 (.fresh 0 0 (!w.params.followText "set-order")) } }) ⟨rfl, rfl⟩
  generalize (!w.params.followText "set-order") = led at made0 R0
  refine codeAny_mono made0 fun r s₁ hr => ?_
  match r, hr with
  | .error e, hr => exact hr
  | .ok .next, hr => exact hr.elim
  | .ok .brk, hr => exact hr.elim
  | .ok .cont, hr => exact hr.elim
  | .ok (.ret obj), hr =>
    obtain ⟨rfl, rfl⟩ := hr
    have hS : (s.heap.push { cls := .type "set", dict := none, data := .set #[] 0 (.fresh 0 0 led) }).get? s.heap.objs.size = some { cls := .type "set", dict := none, data := .set #[] 0 (.fresh 0 0 led) } := Heap.get?_push_size _ rfl
    have hT : Shared.TypeIs { s with heap := s.heap.push { cls := .type "set", dict := none, data := .set #[] 0 (.fresh 0 0 led) } } (.ref s.heap.objs.size) "set" := ⟨_, hS, rfl⟩
    have i1 := PySem.F.called_set.init.lookup
    have i2 := PySem.F.called_set.init.bind (.ref s.heap.objs.size)
    repeat (any_goals (first | assumption | wp_step))
    refine codeAny_mono (codeAny_call_builtin (R := wants (fun r s₂ => r = .none ∧ ∃ h' tk, s₂ = { s with heap := h', toks := tk } ∧ Holds P w h' s.heap.objs.size (allL ks) ∧ ∀ b o, b < s.heap.objs.size → s.heap.get? b = some o → h'.get? b = some o) E)
      PySem.F.called_set.init.plain PySem.F.entry_set_init (check_set_init_1 hT ?_)) fun r₂ s₂ hr₂ => ?_
    · have hlS : l < s.heap.objs.size := let ⟨o, e, _⟩ := hl; Heap.lt_size e
      have hl1 : (s.heap.push { cls := .type "set", dict := none, data := .set #[] 0 (.fresh 0 0 led) }).IsList l items.toArray := hl.at fun o e => Heap.get?_push_of_some _ e
      obtain ⟨⟨ocls, odict, odata, oslots⟩, hol, hcl, nl, hdl⟩ := hl1
      simp only at hcl hdl
      subst hcl hdl
      have n1 := PySem.F.sub_list_set
      have n2 := PySem.F.sub_list_frozenset
      have n3 : (Value.type "list" == Value.type "dict") = false := by decide
      unfold Builtin.«set.__init__» noKeywords Builtin.Frozenset.updateFrom
      generalize hPI : pyIter = PI
      wp_walk
      subst hPI
      have hl2 : (s.heap.push { cls := .type "set", dict := none, data := .set #[] 0 (.fresh 0 0 led) }).IsList l items.toArray := ⟨_, hol, rfl, nl, rfl⟩
      refine wpAny_pyIter_list hl2 ?_
      refine wpAny_bind (wpAny_runValue ?_)
      have zz : (s.heap.push { cls := .type "set", dict := none, data := .set #[] 0 (.fresh 0 0 led) }).objs.size = s.heap.objs.size + 1 := Heap.size_push ..
      have hneI : l ≠ (s.heap.push { cls := .type "set", dict := none, data := .set #[] 0 (.fresh 0 0 led) }).objs.size := by rw [zz]; exact Nat.ne_of_lt (Nat.lt_succ_of_lt hlS)
      have len : ks.length = items.toArray.size := hk.length.trans List.size_toArray.symm
      have W := (Walks.list (prog := P) (w := w) (A := A.in1.in1.in1) (by simpa using hh) (s.heap.push { cls := .type "set", dict := none, data := .set #[] 0 (.fresh 0 0 led) }).objs.size l hneI items.toArray).toS
      rw [← len] at W
      refine update_loop W (fun z => ?_) (fun i v k hv hki => ?_) room (ks.length - 0) 0 _ rfl (Nat.zero_le _) ⟨⟨_, Heap.get?_push_size _ rfl, rfl, rfl⟩, hl2.at fun o e => Heap.get?_push_of_some _ e⟩ ?_ fun s' hm hS' => ?_
      · rcases List.mem_cons.mp z with z | z
        · rw [zz] at z
          exact Nat.ne_of_lt (Nat.lt_succ_self _) z
        · exact Nat.ne_of_lt hlS (List.mem_singleton.mp z).symm
      · rw [List.getElem?_toArray] at hv
        have : ∀ {ks : List Key} {its : List Value} {i : Nat}, Paired (fun k v => (mixKind P w).is k v = true ∧ v.scannable = true) ks its → ks[i]? = some k → its[i]? = some v → (mixKind P w).is k v = true ∧ v.scannable = true := by
          intro ks its i hp
          induction hp generalizing i with
          | nil => intro z; cases z
          | cons r _ ih =>
            cases i with
            | zero => intro a b; cases a; cases b; exact r
            | succ i => exact fun a b => ih (i := i) a b
        exact this hk hki hv
      · exact R0.keep fun o e => Heap.get?_push_of_some _ e
      · obtain ⟨h', g', d', tk', os'⟩ := s'
        obtain rfl : g' = s.gens := hm.gens
        obtain rfl : d' = s.drawn := hm.drawn
        obtain rfl : os' = s.os := hm.os
        refine wpAny_pure (show wpAny _ _ (ret Value.none) _ _ _ from wpAny_pure ⟨rfl, h', tk', rfl, hS', fun b o hb e => ?_⟩)
        refine hm.heap b o (fun z => ?_) (Heap.get?_push_of_some _ (Heap.get?_push_of_some _ e))
        rcases List.mem_cons.mp z with z | z
        · exact Nat.ne_of_lt hb z
        · have e1 := List.mem_singleton.mp z
          rw [zz] at e1
          exact Nat.ne_of_lt (Nat.lt_succ_of_lt hb) e1
    · match r₂, hr₂ with
      | .error e, hr₂ => exact hr₂
      | .ok .next, hr₂ => exact hr₂.elim
      | .ok .brk, hr₂ => exact hr₂.elim
      | .ok .cont, hr₂ => exact hr₂.elim
      | .ok (.ret r), hr₂ =>
        obtain ⟨rfl, h', tk, rfl, hS', hk'⟩ := hr₂
        repeat (any_goals (first | assumption | wp_step))
        exact h _ _ hS' hk'
end
section
variable {X : Cx}
/-- set(xs), xs a list of ints and texts -/
def rSetOf (K : PySem.W.Frag) (P : Program) (w : World) : List V → Hp → VK → Prop := fun vs H Q => ∃ (a : Addr) (ks : List Key), vs = [.ref a] ∧ SqL K H a (ks.map kV) ∧ ks.length + 1 < scanBound ∧ ∀ p, H p = none → Q (.ref p) (upd H p (SetL P w p (allL ks)))
theorem cr_setOf (hc : X.calm = true) : CallR X (.type "set") (rSetOf X.K X.prog X.w) := by
  intro pins s σ H vs us Q I r h
  obtain ⟨a, ks, rfl, hs, room, q⟩ := h
  rw [Vals.ref1 r]
  obtain ⟨its, rv, pl, hz⟩ := I.list hs
  have hk : ∀ {ks : List Key} {its : List Value}, Vals (ks.map kV) its → Paired (fun k v => (mixKind X.prog X.w).is k v = true ∧ v.scannable = true) ks its := by
    intro ks
    induction ks with
    | nil => intro its hp; cases hp; exact .nil
    | cons k ks ih =>
      intro its hp
      cases hp with
      | cons r t => exact .cons (key_rel r X.prog X.w) (ih t)
  refine set_call (I.ok.hd hc) pl.isList (hk rv) room fun h' tk R k => ?_
  have J : Inv X pins σ (upd H s.heap.objs.size (SetL X.prog X.w s.heap.objs.size (allL ks))) { s with heap := h', toks := tk } :=
    I.laid (t' := tk) (fun b o e => k b o (Heap.lt_size e) e) (Nat.le_refl _) R.new
  exact ⟨.ref _, _, J, rfl, q _ (I.hok.fresh (Nat.le_refl _))⟩
end
end KnS

set_option Elab.async false
set_option linter.all false
set_option maxRecDepth 100000
set_option maxHeartbeats 4000000
/-! What is walked may be a list or a tuple: the for loop over it, and over enumerate of it. -/
namespace KnE
open PySem PySem.Spec PyProof.Rows L2
/-- a list (true) or a tuple (false) -/
def Sq (K : PySem.W.Frag) (b : Bool) (H : Hp) (a : Addr) (xs : List V) : Prop := match b with | true => SqL K H a xs | false => SqT K H a xs
def ItS (K : PySem.W.Frag) (b : Bool) (a : Addr) : It := match b with | true => Itl K a | false => Itt K a
def iSeq (K : PySem.W.Frag) (te : TE) : TI := fun σ H R => te σ H fun x H1 => ∃ a b, x = .ref a ∧ (∃ xs, Sq K b H1 a xs) ∧ R (ItS K b a) H1
section
variable {X : Cx} {tg : Expr}
theorem pi_seq {e : Expr} {te : TE} (he : PE X e te) : PI X tg e (iSeq X.K te) := by
  refine ⟨fun pins s σ H R I h => thn (he.run pins s σ H _ I h) fun v s1 ⟨x, H1, I1, r1, a, b, ex, ⟨xs, hq⟩, q⟩ => ?_⟩
  subst ex
  cases r1
  cases b with
  | true =>
    obtain ⟨its, rv, p, hz⟩ := I1.list hq
    exact wpAny_pyIter_list p.isList (pi_one (tk := s1.toks) I1 _ (turn_list a _) ⟨_, Heap.get?_push_size _ rfl, rfl, rfl⟩ q)
  | false =>
    obtain ⟨its, rv, p, hz⟩ := I1.tuple hq
    exact wpAny_pyIter_tuple (show s1.heap.IsTuple a its.toArray from p) (pi_one (tk := s1.toks) I1 _ (turn_tuple a _) ⟨_, Heap.get?_push_size _ rfl, rfl, rfl⟩ q)
end
theorem Sq.inj {X : Cx} {pins : List (Addr × Obj)} {σ : L2.St} {H : Hp} {s : Shared} {b : Bool} {a : Addr} {xs ys : List V} (I : Inv X pins σ H s) (h : Sq X.K b H a xs) (h' : Sq X.K b H a ys) : xs = ys := by
  cases b with
  | true => exact I.list_inj h h'
  | false => exact I.tuple_inj h h'
/-- the for loop over a list or tuple that the body leaves as it is -/
theorem for_seq {K : PySem.W.Frag} {b : Bool} {a : Addr} {xs : List V} {g : TG} {tb : TS} {D : Ends} {σ : L2.St} {H : Hp} (Pv : Nat → L2.St → Hp → Prop) (h0 : Pv 0 σ H) (hl : ∀ i σ H, i ≤ xs.length → Pv i σ H → Sq K b H a xs)
    (hs : ∀ i x σ H, xs[i]? = some x → Pv i σ H → g x σ H fun σ2 H2 => tb { D with nx := Pv (i + 1), ct := Pv (i + 1), bk := D.nx } σ2 H2) (hd : ∀ σ H, Pv xs.length σ H → D.nx σ H) :
    ∃ W : Nat → Nat → L2.St → Hp → Prop, (∃ m, W 0 m σ H) ∧ ∀ i m σ H, W i m σ H →
      ((ItS K b a).stop i H ∧ D.nx σ H) ∨ ((ItS K b a).go i H ∧ ∃ N : L2.St → Hp → Prop, (∀ σ' H', N σ' H' → ∃ m', m' < m ∧ W (i + 1) m' σ' H') ∧
        ∀ x H', (ItS K b a).yld i H x H' → g x σ H' fun σ2 H2 => tb { D with nx := N, ct := N, bk := D.nx } σ2 H2) := by
  cases b with
  | true => exact for_list (K := K) (a := a) (xs := xs) Pv h0 hl hs hd
  | false => exact for_tup (K := K) (a := a) (xs := xs) Pv h0 hl hs hd
/-! ### enumerate -/
def Liv (b : Bool) (h : Heap) (a : Addr) (its : List Value) : Prop := match b with | true => h.IsList a its.toArray | false => h.IsTuple a its.toArray
def iterAt (b : Bool) (h : Heap) (it a : Addr) (i : Nat) : Prop := match b with | true => h.IsListIter it a i | false => h.IsTupleIter it a i
/-- (0, x0), (1, x1), .., each a new tuple -/
def ItN (K : PySem.W.Frag) (b : Bool) (a : Addr) : It where
  go := fun i H => ∃ (xs : List V) (x : V), Sq K b H a xs ∧ xs[i]? = some x
  yld := fun i H v H' => ∃ T x, v = .ref T ∧ H T = none ∧ H' = upd H T (.tup [.int (i : Nat), x]) ∧ ∀ xs, Sq K b H a xs → xs[i]? = some x
  stop := fun i H => ∃ xs : List V, Sq K b H a xs ∧ xs.length = i
theorem iterAt.mono {b : Bool} {h h' : Heap} {it a : Addr} {i : Nat} (x : iterAt b h it a i) (k : ∀ o, h.get? it = some o → h'.get? it = some o) : iterAt b h' it a i := by
  cases b with
  | true => exact Heap.IsListIter.at x k
  | false => exact Heap.IsTupleIter.at x k
theorem iterAt.plain {b : Bool} {h : Heap} {it a : Addr} {i : Nat} (x : iterAt b h it a i) : ∃ o, h.get? it = some o ∧ ∀ v, o.data ≠ .cell v := by
  cases b with
  | true => obtain ⟨o, e, _, d⟩ := x; exact ⟨o, e, fun v z => by rw [d] at z; cases z⟩
  | false => obtain ⟨o, e, _, d⟩ := x; exact ⟨o, e, fun v z => by rw [d] at z; cases z⟩
section
variable {P : Program} {w : World} {A : Around} {E : Value → Shared → Prop} {s : Shared}
/-- one more of an enumeration, of either kind -/
theorem enum_item {b : Bool} {e it a : Addr} {i : Nat} {its : List Value} {u old : Value} {Q : Option Value → Shared → Prop} (hh : A.handled = none) (he : IsEnum s.heap e it i old) (hit : iterAt b s.heap it a i)
    (hp : Liv b s.heap a its) (hu : its[i]? = some u) (hne : e ≠ it) (hae : a ≠ e) (hai : a ≠ it)
    (hQ : ∀ h' tk, IsEnumOut h' e it ((i : Int) + 1) u s.heap.objs.size → iterAt b h' it a (i + 1) → h'.get? s.heap.objs.size = some { cls := .type "tuple", data := .seq #[.int i tk, u] } →
      (∀ b o, b ≠ e → b ≠ it → s.heap.get? b = some o → h'.get? b = some o) → Q (some (.ref s.heap.objs.size)) { s with heap := h', toks := tk + 1 }) : wpAny (model P w) A (pyNext (.ref e)) Q E s := by
  have hlt : i < its.toArray.size := by
    rw [List.size_toArray]
    exact (List.getElem?_eq_some_iff.mp hu).1
  have hef : e ∉ [it, a] := fun z => by
    rcases List.mem_cons.mp z with z | z
    · exact hne z
    · exact hae (List.mem_singleton.mp z).symm
  have same : ∀ {x : Value}, its.toArray[i]? = some x → x = u := fun {x} z => by
    rw [List.getElem?_toArray, hu] at z
    exact (Option.some.inj z).symm
  cases b with
  | true =>
    refine wpAny_pyNext_enum_itemD (Draws.list (A := A.in1) hh it a hai its.toArray) he ⟨hit, hp⟩ hlt hne hef fun x h' tk hP ho hs' hT hsz hk => ?_
    rw [same hP] at ho hT
    exact hQ h' tk ho hs'.1 hT hk
  | false =>
    refine wpAny_pyNext_enum_itemD (Draws.tuple (A := A.in1) hh it a hai its.toArray) he ⟨hit, hp⟩ hlt hne hef fun x h' tk hP ho hs' hT hsz hk => ?_
    rw [same hP] at ho hT
    exact hQ h' tk ho hs'.1 hT hk
theorem enum_end {b : Bool} {e it a : Addr} {i : Nat} {its : List Value} {old : Value} {Q : Option Value → Shared → Prop} (hh : A.handled = none) (he : IsEnum s.heap e it i old) (hit : iterAt b s.heap it a i)
    (hp : Liv b s.heap a its) (hi : i = its.length) (hai : a ≠ it)
    (hQ : ∀ h', Heap.ExtBut it s.heap h' → Q none { s with heap := h' }) : wpAny (model P w) A (pyNext (.ref e)) Q E s := by
  subst hi
  have z : its.toArray.size = its.length := List.size_toArray
  cases b with
  | true => exact wpAny_pyNext_enum_endD (Draws.list (A := A.in1) hh it a hai its.toArray) he ⟨z ▸ hit, hp⟩ hQ
  | false => exact wpAny_pyNext_enum_endD (Draws.tuple (A := A.in1) hh it a hai its.toArray) he ⟨z ▸ hit, hp⟩ hQ
end
theorem sq_lives {X : Cx} {pins : List (Addr × Obj)} {σ : L2.St} {H : Hp} {s : Shared} {b : Bool} {a : Addr} {xs : List V} (I : Inv X pins σ H s) (h : Sq X.K b H a xs) :
    ∃ its : List Value, Vals xs its ∧ Liv b s.heap a its := by
  cases b with
  | true => obtain ⟨its, rv, p, _⟩ := I.list h; exact ⟨its, rv, p.isList⟩
  | false => obtain ⟨its, rv, p, _⟩ := I.tuple h; exact ⟨its, rv, p⟩
theorem lives_ne {b : Bool} {h : Heap} {a : Addr} {its : List Value} {e : Addr} {o : Obj} {n : String} (p : Liv b h a its) (he : h.get? e = some o) (hc : o.cls = .type n) (n1 : n ≠ "list") (n2 : n ≠ "tuple") : a ≠ e := by
  rintro rfl
  cases b with
  | true => obtain ⟨o', e', c', _⟩ := p; rw [he] at e'; cases e'; rw [hc] at c'; cases c'; exact n1 rfl
  | false => obtain ⟨o', e', c', _⟩ := p; rw [he] at e'; cases e'; rw [hc] at c'; cases c'; exact n2 rfl
theorem iterAt.cls {b : Bool} {h : Heap} {it a : Addr} {i : Nat} (x : iterAt b h it a i) : ∃ o n, h.get? it = some o ∧ o.cls = .type n ∧ n ≠ "list" ∧ n ≠ "tuple" := by
  cases b with
  | true => obtain ⟨o, e, c, _⟩ := x; exact ⟨o, _, e, c, by decide, by decide⟩
  | false => obtain ⟨o, e, c, _⟩ := x; exact ⟨o, _, e, c, by decide, by decide⟩
theorem turn_en {P : Program} {w : World} {K : PySem.W.Frag} {elts : List Expr} {kk : Nat} {tpos : Pos} (b : Bool) (a e it : Addr) :
    Turn P w K (.Tuple elts kk tpos) (ItN K b a) [e, it] e (fun i h => (∃ old, IsEnum h e it ((i : Nat) : Int) old) ∧ iterAt b h it a i ∧ e ≠ it) where
  mem := List.mem_cons_self
  obj := fun i h ⟨⟨old, he⟩, hi, _⟩ c hc => by
    rcases List.mem_cons.mp hc with z | z
    · rw [z]; exact ⟨_, he, fun v q => nomatch q⟩
    · rw [List.mem_singleton.mp z]; exact hi.plain
  keep := fun i h h' ⟨⟨old, he⟩, hi, hne⟩ k => ⟨⟨old, k e List.mem_cons_self _ he⟩, hi.mono fun o q => k it (List.mem_cons_of_mem _ List.mem_cons_self) o q, hne⟩
  self := fun A i s Q E ⟨⟨_, he⟩, _⟩ h => wpAny_pyIter_enum he h
  done := by
    intro X hP hw hK hc i pins s σ H E I hf ⟨⟨old, he⟩, hit, hne⟩ ⟨xs, hq, hx⟩
    subst hP hw hK
    obtain ⟨its, rv, p⟩ := sq_lives I hq
    obtain ⟨oi, ni, hoi, ci, ni1, ni2⟩ := hit.cls
    obtain ⟨f0, f1, f2, f3, f4, f5⟩ := hf it (List.mem_cons_of_mem _ List.mem_cons_self)
    refine enum_end (I.ok.hd hc) he hit p (hx.symm.trans rv.length) (lives_ne p hoi ci ni1 ni2) fun h' eb => ?_
    exact ⟨rfl, I.turned (t' := s.toks) (fun c o hb q => eb c o hb q) f0 f1 f3 f4 f5⟩
  item := by
    intro X hP hw hK hc i pins s σ H E I hf ⟨⟨old, he⟩, hit, hne⟩ ⟨xs, x, hq, hx⟩
    subst hP hw hK
    obtain ⟨its, rv, p⟩ := sq_lives I hq
    obtain ⟨u, hu, ru⟩ := rv.get hx
    have he0 := he
    have hel : e < s.heap.objs.size := Heap.lt_size he
    obtain ⟨oi, ni, hoi, ci, ni1, ni2⟩ := hit.cls
    have hil : it < s.heap.objs.size := Heap.lt_size hoi
    refine enum_item (I.ok.hd hc) he hit p hu hne (lives_ne p he0 rfl (by decide) (by decide)) (lives_ne p hoi ci ni1 ni2) fun h' tk ho hit' hT hk => ?_
    refine ⟨_, rfl, wpAny_letOwnedTupleGo_enum (s := { s with heap := h', toks := tk + 1 }) ho fun h'' he' sb => ?_⟩
    have hT2 := (sb.2 s.heap.objs.size (Nat.ne_of_gt hel)).trans hT
    have I1 : Inv X pins σ (upd H s.heap.objs.size (.tup [.int (i : Nat), x])) { s with heap := h'', toks := tk + 1 } :=
      I.turnedNew (ch := [e, it]) (fun c ob hb q => (sb.2 c fun z => hb (z ▸ List.mem_cons_self)).trans (hk c ob (fun z => hb (z ▸ List.mem_cons_self)) (fun z => hb (z ▸ List.mem_cons_of_mem _ List.mem_cons_self)) q)) hf (Nat.le_refl _)
        (show ObjOk X.prog X.w _ h'' _ (.tup [.int (i : Nat), x]) from ⟨by show 2 ≤ sizeLine; decide, [.int i tk, u], .cons ⟨_, rfl⟩ (.cons ru .nil), _, hT2, rfl, _, rfl⟩)
    refine ⟨.ref s.heap.objs.size, _, I1, rfl, ⟨_, x, rfl, I.hok.fresh (Nat.le_refl _), rfl, fun ys hy => by rw [hy.inj I hq]; exact hx⟩, ⟨⟨u, ?_⟩, hit'.mono fun o q => (sb.2 it hne.symm).trans q, hne⟩, fun c hcm => ?_⟩
    · have e1 : ((i + 1 : Nat) : Int) = (i : Int) + 1 := by omega
      rw [e1]
      exact he'
    · rcases List.mem_cons.mp hcm with z | z
      · rw [z, upd_ne (Nat.ne_of_lt hel)]
        exact (hf e List.mem_cons_self).1
      · rw [List.mem_singleton.mp z, upd_ne (Nat.ne_of_lt hil)]
        exact (hf it (List.mem_cons_of_mem _ List.mem_cons_self)).1

/-! ### enumerate(v), its making -/
set_option maxHeartbeats 1000000 in
theorem new_enum {v : Value} {o : Obj} {Hv : Heap → Prop} (B : Begins v o Hv) : Meets (Builtin.«enumerate.__new__» ⟨[.type "enumerate", v], []⟩) (fun _ R s => Hv s.heap ∧
      R (.ok (.ret (.ref (s.heap.push o).objs.size))) { s with heap := (s.heap.push o).push { cls := .type "enumerate", data := .fields #[.none, .bool false, .ref s.heap.objs.size, rawInt 0, .none, .none] } }) :=
  .of_wp fun prog w A R s ⟨h1, h⟩ => by
    obtain ⟨hp, g, d, tk, os⟩ := s
    have hsub := sub_enumerate
    have q1 : ∀ {A' : Around} {E : Value → Shared → Prop} {Q : Value → Shared → Prop}, Q (.ref hp.objs.size) ⟨hp.push o, g, d, tk, os⟩ → wpAny (model prog w) A' (pyIter v) Q E ⟨hp, g, d, tk, os⟩ := B.iter prog w _ _ ⟨hp, g, d, tk, os⟩ _ h1
    wp_walk using q1
    refine wpAny_stack_any fun st => wpAny_pure ?_
    split
    · rename_i c _ _ _ _ _
      cases (c == Value.type "enumerate") <;> (wp_walk using q1; exact ⟨_, rfl, h⟩)
    · wp_walk using q1
      exact ⟨_, rfl, h⟩
section
variable {P : Program} {w : World} {A : Around} {E : Value → Shared → Prop} {s : Shared}
theorem enum_made {v : Value} {o : Obj} {Hv : Heap → Prop} {Q : Value → Shared → Prop} (B : Begins v o Hv) (h1 : Hv s.heap)
    (h : ∀ h', IsEnum h' (s.heap.objs.size + 1) s.heap.objs.size 0 .none → h'.get? s.heap.objs.size = some o → (∀ b o, s.heap.get? b = some o → h'.get? b = some o) → Q (.ref (s.heap.objs.size + 1)) { s with heap := h' }) :
    wpAny (model P w) A (call (.type "enumerate") [v]) Q E s := by
  refine callType_new F.called_enumerate (by decide) (F.typeCall_enumerate_1 _) (F.newCall_enumerate_1 _) (fun obj => F.args_object_init_2 obj _) F.entry_enumerate_new (new_enum B) ⟨h1, ?_⟩
  have hz : (s.heap.push o).objs.size = s.heap.objs.size + 1 := Heap.size_push ..
  have he := Heap.get?_push_size (s.heap.push o) (o := { cls := .type "enumerate", data := .fields #[.none, .bool false, .ref s.heap.objs.size, rawInt 0, .none, .none] }) rfl
  show _ ∧ _
  rw [hz] at he ⊢
  exact ⟨⟨_, he, rfl⟩, h _ he (Heap.get?_push_of_some _ (Heap.get?_push_size _ B.free)) fun b o x => Heap.get?_push_of_some _ (Heap.get?_push_of_some _ x)⟩
end
def iEnS (K : PySem.W.Frag) (ta : TA) : TI := fun σ H R => ta σ H fun vs H1 => ∃ a b xs, vs = [.ref a] ∧ Sq K b H1 a xs ∧ R (ItN K b a) H1
theorem pi_en {X : Cx} {e : Expr} {ta : TA} {p pos tpos : Pos} {elts : List Expr} {kk : Nat} (hg : Gl X "enumerate") (hm : X.mg "enumerate" = none) (ha : PA X [e] ta) (hs : starEach [e] X.env = [(false, eval e X.env)] := by rfl) :
    PI X (.Tuple elts kk tpos) (.Call (.Name "enumerate" p) [e] [] pos) (iEnS X.K ta) := by
  refine ⟨fun pins s σ H R I h => Call_ (ld_blt I hg hm boot_enumerate (PyProof.Rows.callWith_type1 (thn (ha.run pos pins s σ H _ I h) fun us s1 ⟨vs, H1, I1, r1, a, b, xs, ex, hq, q⟩ => ?_) hs rfl))⟩
  subst ex
  cases r1 with
  | cons r rr =>
    cases rr
    cases r
    obtain ⟨its, rv, p'⟩ := sq_lives I1 hq
    have fin : ∀ (h' : Heap), IsEnum h' (s1.heap.objs.size + 1) s1.heap.objs.size 0 .none → iterAt b h' s1.heap.objs.size a 0 → (∀ c o, s1.heap.get? c = some o → h'.get? c = some o) →
        wpAny (model X.prog X.w) X.A (pyIter (.ref (s1.heap.objs.size + 1))) (PIE X pins σ (.Tuple elts kk tpos) R) X.xe { s1 with heap := h' } := fun h' he hit hk => by
      refine wpAny_pyIter_enum (s := { s1 with heap := h' }) he ⟨s1.heap.objs.size + 1, [s1.heap.objs.size + 1, s1.heap.objs.size], _, _, H1, rfl, I1.kept (t' := s1.toks) hk, turn_en b a (s1.heap.objs.size + 1) s1.heap.objs.size, ⟨⟨.none, he⟩, hit, Nat.succ_ne_self _⟩, fun c hc => ?_, q⟩
      have hle : s1.heap.objs.size ≤ c := by
        rcases List.mem_cons.mp hc with z | z
        · rw [z]; exact Nat.le_add_right _ _
        · rw [List.mem_singleton.mp z]; exact Nat.le_refl _
      exact I1.fpOk hle (I1.hok.fresh hle)
    cases b with
    | true => exact enum_made (begins_list a its.toArray) p' fun h' he ho hk => fin h' he ⟨_, ho, rfl, rfl⟩ hk
    | false => exact enum_made (begins_tuple a its.toArray) p' fun h' he ho hk => fin h' he ⟨_, ho, rfl, rfl⟩ hk
theorem for_en {K : PySem.W.Frag} {b : Bool} {a : Addr} {xs : List V} {g : TG} {tb : TS} {D : Ends} {σ : L2.St} {H : Hp} (Pv : Nat → L2.St → Hp → Prop) (h0 : Pv 0 σ H) (hl : ∀ i σ H, i ≤ xs.length → Pv i σ H → Sq K b H a xs)
    (hs : ∀ (i : Nat) (x : V) (T : Addr) (σ : L2.St) (H : Hp), xs[i]? = some x → H T = none → Pv i σ H → g (.ref T) σ (upd H T (.tup [.int (i : Nat), x])) fun σ2 H2 => tb { D with nx := Pv (i + 1), ct := Pv (i + 1), bk := D.nx } σ2 H2) (hd : ∀ σ H, Pv xs.length σ H → D.nx σ H) :
    ∃ W : Nat → Nat → L2.St → Hp → Prop, (∃ m, W 0 m σ H) ∧ ∀ i m σ H, W i m σ H →
      ((ItN K b a).stop i H ∧ D.nx σ H) ∨ ((ItN K b a).go i H ∧ ∃ N : L2.St → Hp → Prop, (∀ σ' H', N σ' H' → ∃ m', m' < m ∧ W (i + 1) m' σ' H') ∧
        ∀ x H', (ItN K b a).yld i H x H' → g x σ H' fun σ2 H2 => tb { D with nx := N, ct := N, bk := D.nx } σ2 H2) := by
  refine ⟨fun i m σ H => m = xs.length - i ∧ i ≤ xs.length ∧ Pv i σ H, ⟨xs.length, rfl, Nat.zero_le _, h0⟩, fun i m σ H ⟨em, hi, p⟩ => ?_⟩
  have q := hl i σ H hi p
  rcases Nat.lt_or_eq_of_le hi with lt | e
  · refine .inr ⟨⟨xs, xs[i], q, List.getElem?_eq_getElem lt⟩, Pv (i + 1), fun σ' H' p' => ⟨xs.length - (i + 1), by omega, rfl, lt, p'⟩, fun v H' ⟨T, x, ev, nT, eH, at_⟩ => ?_⟩
    subst ev eH
    exact hs i x T σ H (at_ xs q) nT p
  · subst e
    exact .inl ⟨⟨xs, q, rfl⟩, hd σ H p⟩
end KnE

set_option Elab.async false
set_option linter.all false
set_option maxRecDepth 100000
set_option maxHeartbeats 4000000
/-! What a walk of a comprehension asks: into a set over a list or a tuple, into a dict over a list. -/
namespace KnC
open PySem PySem.Spec PyProof.Rows L2
theorem sc_seq {P : Program} {w : World} {K : PySem.W.Frag} {b : Bool} {a : Addr} {xs : List V} {g : TG} {tt : TT} {te : TE} {vs : List Nat} {σ : L2.St} {H1 : Hp} {D : Addr} {Qd : Hp → Prop} (Pv : Nat → Hp → Prop) (h0 : Pv 0 (upd H1 D (KnS.SetL P w D []))) (hl : ∀ i H, i ≤ xs.length → Pv i H → KnE.Sq K b H a xs)
    (hs : ∀ i x H, xs[i]? = some x → Pv i H → g x (wipe σ vs) H fun σ2 H2 => wipe σ2 vs = wipe σ vs ∧ tt σ2 H2 fun c H3 =>
      if c = true then te σ2 H3 fun y H4 => ∃ (k : Key) (ks : List Key), y = kV k ∧ H4 D = some (KnS.SetL P w D ks) ∧ ks.length + 1 < scanBound ∧ Pv (i + 1) (upd H4 D (KnS.SetL P w D (KnS.addL ks k))) else Pv (i + 1) H3) (hd : ∀ H, Pv xs.length H → Qd H) :
    ∃ W : Nat → Nat → Hp → Prop, (∃ m, W 0 m (upd H1 D (KnS.SetL P w D []))) ∧ ∀ i m H, W i m H → ((KnE.ItS K b a).stop i H ∧ Qd H) ∨
      ((KnE.ItS K b a).go i H ∧ ∃ Nx : Hp → Prop, (∀ H', Nx H' → ∃ m', m' < m ∧ W (i + 1) m' H') ∧ ∀ x H', (KnE.ItS K b a).yld i H x H' → g x (wipe σ vs) H' fun σ2 H2 => wipe σ2 vs = wipe σ vs ∧ tt σ2 H2 fun c H3 =>
        if c = true then te σ2 H3 fun y H4 => ∃ (k : Key) (ks : List Key), y = kV k ∧ H4 D = some (KnS.SetL P w D ks) ∧ ks.length + 1 < scanBound ∧ Nx (upd H4 D (KnS.SetL P w D (KnS.addL ks k))) else Nx H3) := by
  refine ⟨fun i m H => m = xs.length - i ∧ i ≤ xs.length ∧ Pv i H, ⟨xs.length, by simp, Nat.zero_le _, h0⟩, ?_⟩
  rintro i m H ⟨rfl, hi, p⟩
  have q := hl i H hi p
  cases b with
  | true =>
    by_cases hlt : i < xs.length
    · refine .inr ⟨⟨xs, xs[i], q, by simp [hlt]⟩, Pv (i + 1), fun H' p' => ⟨xs.length - (i + 1), by omega, rfl, hlt, p'⟩, fun x H' y => ?_⟩
      obtain ⟨e, y⟩ := y
      subst e
      exact hs i x _ (y xs q) p
    · have e : i = xs.length := by omega
      subst e
      exact .inl ⟨⟨xs, q, Nat.le_refl _⟩, hd H p⟩
  | false =>
    by_cases hlt : i < xs.length
    · refine .inr ⟨⟨xs, xs[i], q, by simp [hlt]⟩, Pv (i + 1), fun H' p' => ⟨xs.length - (i + 1), by omega, rfl, hlt, p'⟩, fun x H' y => ?_⟩
      obtain ⟨e, y⟩ := y
      subst e
      exact hs i x _ (y xs q) p
    · have e : i = xs.length := by omega
      subst e
      exact .inl ⟨⟨xs, q, Nat.le_refl _⟩, hd H p⟩
theorem dc_list {K : PySem.W.Frag} {a : Addr} {xs : List V} {g : TG} {tt : TT} {tk tv : TE} {vs : List Nat} {σ : L2.St} {H1 : Hp} {D : Addr} {Qd : Hp → Prop} (Pv : Nat → Hp → Prop) (h0 : Pv 0 (upd H1 D (.dK []))) (hl : ∀ i H, i ≤ xs.length → Pv i H → SqL K H a xs)
    (hs : ∀ i x H, xs[i]? = some x → Pv i H → g x (wipe σ vs) H fun σ2 H2 => wipe σ2 vs = wipe σ vs ∧ tt σ2 H2 fun b H3 =>
      if b = true then tk σ2 H3 fun y H4 => tv σ2 H4 fun z H5 => ∃ kvs k, y = kV k ∧ H5 D = some (.dK kvs) ∧ kvs.length < sizeLine ∧ Pv (i + 1) (upd H5 D (.dK (putK kvs k z))) else Pv (i + 1) H3) (hd : ∀ H, Pv xs.length H → Qd H) :
    ∃ W : Nat → Nat → Hp → Prop, (∃ m, W 0 m (upd H1 D (.dK []))) ∧ ∀ i m H, W i m H →
      ((Itl K a).stop i H ∧ Qd H) ∨ ((Itl K a).go i H ∧ ∃ Nx : Hp → Prop, (∀ H', Nx H' → ∃ m', m' < m ∧ W (i + 1) m' H') ∧ ∀ x H', (Itl K a).yld i H x H' → g x (wipe σ vs) H' fun σ2 H2 => wipe σ2 vs = wipe σ vs ∧ tt σ2 H2 fun b H3 =>
        if b = true then tk σ2 H3 fun y H4 => tv σ2 H4 fun z H5 => ∃ kvs k, y = kV k ∧ H5 D = some (.dK kvs) ∧ kvs.length < sizeLine ∧ Nx (upd H5 D (.dK (putK kvs k z))) else Nx H3) := by
  refine ⟨fun i m H => m = xs.length - i ∧ i ≤ xs.length ∧ Pv i H, ⟨xs.length, by simp, Nat.zero_le _, h0⟩, ?_⟩
  rintro i m H ⟨rfl, hi, p⟩
  have q := hl i H hi p
  by_cases hlt : i < xs.length
  · refine .inr ⟨⟨xs, xs[i], q, by simp [hlt]⟩, Pv (i + 1), fun H' p' => ⟨xs.length - (i + 1), by omega, rfl, hlt, p'⟩, fun x H' y => ?_⟩
    obtain ⟨e, y⟩ := y
    subst e
    exact hs i x _ (y xs q) p
  · have e : i = xs.length := by omega
    subst e
    exact .inl ⟨⟨xs, q, Nat.le_refl _⟩, hd H p⟩
/-- a list comprehension over a dict's keys -/
theorem lc_keys {d : Addr} {o : Obj} {kvs : List (Key × V)} {g : TG} {tt : TT} {te : TE} {vs : List Nat} {σ : L2.St} {H1 : Hp} {D : Addr} {Qd : Hp → Prop} (Pv : Nat → Hp → Prop) (h0 : Pv 0 (upd H1 D (.lst []))) (hl : ∀ i H, i ≤ kvs.length → Pv i H → H d = some (.frz o (.dK kvs)))
    (hs : ∀ i k v H, kvs[i]? = some (k, v) → Pv i H → g (kV k) (wipe σ vs) H fun σ2 H2 => wipe σ2 vs = wipe σ vs ∧ tt σ2 H2 fun b H3 =>
      if b = true then te σ2 H3 fun y H4 => ∃ acc, H4 D = some (.lst acc) ∧ acc.length < sizeLine ∧ Pv (i + 1) (upd H4 D (.lst (acc ++ [y]))) else Pv (i + 1) H3) (hd : ∀ H, Pv kvs.length H → Qd H) :
    ∃ W : Nat → Nat → Hp → Prop, (∃ m, W 0 m (upd H1 D (.lst []))) ∧ ∀ i m H, W i m H →
      ((Itk d o kvs).stop i H ∧ Qd H) ∨ ((Itk d o kvs).go i H ∧ ∃ Nx : Hp → Prop, (∀ H', Nx H' → ∃ m', m' < m ∧ W (i + 1) m' H') ∧ ∀ x H', (Itk d o kvs).yld i H x H' → g x (wipe σ vs) H' fun σ2 H2 => wipe σ2 vs = wipe σ vs ∧ tt σ2 H2 fun b H3 =>
        if b = true then te σ2 H3 fun y H4 => ∃ acc, H4 D = some (.lst acc) ∧ acc.length < sizeLine ∧ Nx (upd H4 D (.lst (acc ++ [y]))) else Nx H3) := by
  refine ⟨fun i m H => m = kvs.length - i ∧ i ≤ kvs.length ∧ Pv i H, ⟨kvs.length, by simp, Nat.zero_le _, h0⟩, ?_⟩
  rintro i m H ⟨rfl, hi, p⟩
  have q := hl i H hi p
  by_cases hlt : i < kvs.length
  · refine .inr ⟨⟨q, hlt⟩, Pv (i + 1), fun H' p' => ⟨kvs.length - (i + 1), by omega, rfl, hlt, p'⟩, fun x H' y => ?_⟩
    obtain ⟨e, k, v, ek, ex⟩ := y
    subst e ex
    exact hs i k v _ ek p
  · have e : i = kvs.length := by omega
    subst e
    exact .inl ⟨⟨q, Nat.le_refl _⟩, hd H p⟩
/-- texts as keys -/
theorem addL_strs {xs : List Str} {x : Str} : KnS.addL (xs.map Sum.inr) (Sum.inr x) = ((if x ∈ xs then xs else xs ++ [x]).map Sum.inr : List Key) := by
  unfold KnS.addL
  by_cases z : x ∈ xs
  · rw [if_pos z, if_pos (KnS.hasL_iff.mpr (List.mem_map.mpr ⟨x, z, rfl⟩))]
  · rw [if_neg z, if_neg (fun q => z (by obtain ⟨y, hy, e⟩ := List.mem_map.mp (KnS.hasL_iff.mp q); cases e; exact hy)), List.map_append]; rfl
/-- a list or a tuple by a place -/
def rIx (K : PySem.W.Frag) : R2 := fun x y H Q => rIxL K x y H Q ∨ rIxT K x y H Q
theorem ix_seq {X : Cx} {K : PySem.W.Frag} (h1 : IxR X (rIxL K)) (h2 : IxR X (rIxT K)) : IxR X (rIx K) := by
  intro value slice pins s σ H x y v u Q I rx ry h hs
  rcases h with h | h
  · exact h1 value slice pins s σ H x y v u Q I rx ry h hs
  · exact h2 value slice pins s σ H x y v u Q I rx ry h hs
/-- a branch, and what comes behind both its ways -/
theorem if_then {c : TT} {t u b : TS} {D : Ends} {σ : L2.St} {H : Hp} (T : L2.St → Hp → Prop) (h : (∀ σ2 H2, T σ2 H2 → b D σ2 H2) → tSeq (tIfS c t u) b D σ H) (k : ∀ σ2 H2, T σ2 H2 → b D σ2 H2) : tSeq (tIfS c t u) b D σ H := h k
theorem asg_if {i : Nat} {x : V} {c : TT} {t u b : TS} {D : Ends} {ra : VK} {rb rc : L2.St → Hp → Prop} {σ : L2.St} {H : Hp} (T : L2.St → Hp → Prop) (h : (∀ σ2 H2, T σ2 H2 → b D σ2 H2) → tSeq (tIfS c t u) b D (σ.set i (some x)) H) (k : ∀ σ2 H2, T σ2 H2 → b D σ2 H2) : gName i x σ H (Ends.nx { nx := tSeq (tIfS c t u) b D, rt := ra, ct := rb, bk := rc }) := h k
theorem nx_if {c : TT} {t u b : TS} {D : Ends} {ra : VK} {rb rc : L2.St → Hp → Prop} {σ : L2.St} {H : Hp} (T : L2.St → Hp → Prop) (h : (∀ σ2 H2, T σ2 H2 → b D σ2 H2) → tSeq (tIfS c t u) b D σ H) (k : ∀ σ2 H2, T σ2 H2 → b D σ2 H2) : Ends.nx { nx := tSeq (tIfS c t u) b D, rt := ra, ct := rb, bk := rc } σ H := h k
theorem un65 {k : Nat} {A : Around} (r : Room k A) : A.units + 65 < cLine := by have := r.un; omega
end KnC

set_option Elab.async false
set_option linter.all false
set_option maxRecDepth 100000
set_option maxHeartbeats 4000000
/-! list(d.values()). -/
namespace KnM
open PySem PySem.Spec PyProof.Rows L2
def tListVals (td : TE) : TE := fun σ H Q => td σ H fun x H1 => ∃ d kvs, x = .ref d ∧ Rd H1 d (.dK kvs) ∧ ∀ p, H1 p = none → Q (.ref p) (upd H1 p (.lst (kvs.map (·.2))))
theorem vals_kv {kvs : List (Key × V)} {vs : List (Key × Value)} (r : KV kvs vs) : Vals (kvs.map (·.2)) (vs.map (·.2)) := by
  unfold KV at r
  induction r with
  | nil => exact .nil
  | cons h _ ih => exact .cons h.2 ih
section
variable {X : Cx} {e : Expr} {td : TE} {p pos apos cpos : Pos}
theorem pe_listVals (hc : X.calm = true) (hg : Gl X "list") (hm : X.mg "list" = none) (he : PE X e td) (hbase : attributeBase e "values" X.env (eval e X.env) = eval e X.env := by rfl) (hline : (apos.endLine == cpos.line) = true := by rfl)
    (hs : starEach [.Call (.Attribute e "values" apos) [] [] cpos] X.env = (false, eval (.Call (.Attribute e "values" apos) [] [] cpos) X.env) :: starEach [] X.env := by rfl) :
    PE X (.Call (.Name "list" p) [.Call (.Attribute e "values" apos) [] [] cpos] [] pos) (tListVals td) := by
  refine ⟨fun pins s σ H Q I h => Call_ (ld_blt I hg hm boot_list ?_)⟩
  refine PyProof.Rows.callWith_type1 (PyProof.Rows.args_cons ?_ hs) hs rfl
  refine wpAny_Call_method (T := "dict") (id := "dict.values") hbase rfl hline F.plainAttrs_dict F.slot_dict_values F.type_dict_values (thn (he.run pins s σ H _ I h) fun u s1 ⟨x, H1, I1, rx, d, kvs, ex, hd, q⟩ => ?_)
  subst ex
  obtain rfl : u = Value.ref d := rx
  obtain ⟨z, lo, vs, rel, dd⟩ := dk_rd I1.hok hd
  obtain ⟨ep, hat⟩ := dd.dictAt
  refine ⟨dd.typeIs, dd.mapOf.noDict, ?_⟩
  show wpAny _ _ (callWith cpos (.builtin "dict.values") [.ref d] [] []) _ X.xe s1
  refine method_meetsIn F.slot_dict_values F.entry_dict_values rfl (PySem.evalArgs_none ⟨rfl, dd.typeIs, F.args_dict_values_1 _, _, meets_dict_values (mixKind X.prog X.w) d lo, ⟨vs, dd⟩, ?_⟩)
  refine PyProof.Rows.args_nil ?_
  generalize hh : s1.heap.push { cls := .type "dict_values", data := .fields #[.ref d] } = h2
  have k2 : ∀ b o, s1.heap.get? b = some o → h2.get? b = some o := fun b o e => hh ▸ Heap.get?_push_of_some _ e
  have view : h2.IsValuesView s1.heap.objs.size d := by
    rw [← hh]
    exact ⟨_, Heap.get?_push_size _ rfl, rfl, rfl⟩
  have hat2 : h2.DictAt (mixKind X.prog X.w) d vs ep := hh ▸ hat.push _
  have I2 : Inv X pins σ H1 { s1 with heap := h2 } := I1.kept (t' := s1.toks) k2
  refine PySem.W.kdl_call (s := { s1 with heap := h2 }) (PySem.W.kdl_values (knd := mixKind X.prog X.w) (kvs := vs) (ep := ep) (r := s1.heap.objs.size)) (I1.ok.hd hc) ⟨view, hat2⟩ (by rw [← rel.length]; exact z) fun h' tk acc c' hk hD hacc => ?_
  have e1 : acc.toList = vs.map (·.2) := PySem.W.kdl_vals_eq _ (by rw [Array.length_toList]; exact hacc.1) fun j v e => hacc.2 j v (by rw [← Array.getElem?_toList]; exact e)
  refine ⟨.ref h2.objs.size, upd H1 h2.objs.size (.lst (kvs.map (·.2))), I2.laid (t' := tk) hk (Nat.le_refl _) (show ObjOk X.prog X.w _ _ _ (.lst (kvs.map (·.2))) from ⟨by rw [List.length_map]; exact z, acc.toList, c', by rw [e1]; exact vals_kv rel, by rw [Array.toArray_toList]; exact hD⟩), rfl, q _ (I2.hok.fresh (Nat.le_refl _))⟩
end
end KnM

set_option Elab.async false
set_option linter.all false
set_option maxRecDepth 100000
set_option maxHeartbeats 4000000
/-! A property by its promise. -/
namespace KnP
open PySem PySem.Spec PyProof.Rows L2
structure Prp (P : Program) (w : World) (K : PySem.W.Frag) (mg : Str → Option Value) (base : Heap) (k : Nat) (C : Addr) (f : Str) (sp : Sp) : Prop where
  ex : ∃ (p g : Addr) (fd : FuncData) (ps : List Str), PropOf K C f p g ∧ FnOk P w K mg base CX0 k g fd ps sp ∧ Binds K fd ps []
theorem pe_prp {X : Cx} {k j : Nat} {C : Addr} {f : Str} {sp : Sp} {e : Expr} {ta : TE} {pos : Pos} (cl : Cls X.K C) (c : Prp X.prog X.w X.K X.mg X.base k C f sp) (hr : Room j X.A) (hk : k + 1 ≤ j) (he : PE X e ta)
    (hab : attributeBase e f X.env (eval e X.env) = eval e X.env := by rfl) : PE X (.Attribute e f pos) (tProp C sp [] E0 ta) := by
  obtain ⟨p, g, fd, ps, hp, F, b⟩ := c.ex
  exact pe_prop he cl hp F (hr.mono hk) b .nil pass0 hab
end KnP

set_option Elab.async false
set_option linter.all false
set_option maxRecDepth 100000
set_option maxHeartbeats 4000000
/-! Own special methods by their promises. -/
namespace KnW
open PySem PySem.Spec PyProof.Rows L2
structure Own (P : Program) (w : World) (K : PySem.W.Frag) (mg : Str → Option Value) (base : Heap) (k : Nat) (C : Addr) (m : Str) (sp : Sp) : Prop where
  ex : ∃ (f : Addr) (fd : FuncData) (ps : List Str), PySem.W.findIn K (.ref C) m = some (some (.ref f)) ∧ PySem.W.isFn K (.ref f) = true ∧ PySem.W.fnIn K f = true ∧ FnOk P w K mg base CX0 k f fd ps sp ∧ Binds K fd ps []
section
variable {X : Cx} {k j : Nat} {C : Addr} {sp : Sp} {a b : Expr} {ta tb : TE} {pos : Pos}
/-- a def run one frame below -/
theorem run_in1 {CX : CXT} {f : Addr} {fd : FuncData} {ps : List Str} {E : XK} {pins : List (Addr × Obj)} {σ : L2.St} {H : Hp} {s : Shared} {Q : VK} {us : List Value} {vs : List V} (F : FnOk X.prog X.w X.K X.mg X.base CX k f fd ps sp) (hr : Room (k + 1) X.A) (hb : Binds X.K fd ps []) (hx : Passes CX X E)
    (I : Inv X pins σ H s) (r : Vals vs us) (h : sp vs H Q E) : wpAny (model X.prog X.w) X.A.in1 (call (.ref f) us) (EP X pins σ Q) X.xe s := by
  have hl : us.length = ps.length := by rw [← r.length]; exact F.len _ _ _ _ h
  have hb' := hb s us I.kIn (by simpa using hl)
  rw [List.append_nil] at hb'
  refine wpAny_call (codeAny_mono (F.run X.A.in1 X.stack s H ⟨us, []⟩ us vs Q E hr.in1 I.env0.in1 hb' r h) fun r s' hq => ?_)
  cases r with
  | error e => exact hx pins σ H s e s' I hq
  | ok fl =>
    cases fl with
    | ret u => exact I.after hq
    | next => exact False.elim hq
    | brk => exact False.elim hq
    | cont => exact False.elim hq
/-- o[i] by an own __getitem__ -/
def rOwn (C : Addr) (sp : Sp) : R2 := fun x y H Q => ∃ a dx fs, x = .ref a ∧ H a = some (.ins C dx fs) ∧ sp [.ref a, y] H Q E0
theorem pe_get (c : Own X.prog X.w X.K X.mg X.base k C "__getitem__" sp) (hr : Room j X.A) (hk : k + 1 ≤ j) (ha : PE X a ta) (hb : PE X b tb)
    (hs : ∀ v u, subscripted b true v u = runValue (.builtin "lifetime.subscript" ⟨[v, u], []⟩) := by exact fun _ _ => rfl) : PE X (.Subscript a b pos) (tOp (rOwn C sp) ta tb) := by
  obtain ⟨f, fd, ps, h1, h2, h3, F, bb⟩ := c.ex
  refine ⟨fun pins s σ H Q I h => ?_⟩
  refine Subscript_ (binT ha hb I h fun v u s2 x y H2 I2 rx ry q => ?_)
  obtain ⟨o, dx, fs, rfl, eo, q⟩ := q
  cases rx
  obtain ⟨mA, O, _⟩ := ins_get I2.hok eo
  obtain ⟨od, J, _⟩ := O.look
  obtain ⟨m, hF⟩ := I2.fr
  exact PySem.W.sub_K hF I2.ok.mod.kin J h1 h3 h2 (run_in1 (vs := [.ref o, y]) F (hr.mono hk) bb pass0 I2 (.cons rfl (.cons ry .nil)) q) (hs _ _)
/-- two instances of the class compared by its own __eq__, which answers a bool -/
def rOwnEq (C : Addr) (sp : Sp) : R2 := fun x y H Q => ∃ a b dx dy fs gs, x = .ref a ∧ y = .ref b ∧ H a = some (.ins C dx fs) ∧ H b = some (.ins C dy gs) ∧ sp [.ref a, .ref b] H (fun v H' => ∃ c, v = .bl c ∧ Q (.bl c) H') E0
theorem op_ownEq (c : Own X.prog X.w X.K X.mg X.base k C "__eq__" sp) (hr : Room j X.A) (hk : k ≤ j) : OpR X (compareOp .Eq) (rOwnEq C sp) := by
  obtain ⟨f, fd, ps, h1, h2, h3, F, bb⟩ := c.ex
  intro pins s σ H x y v u Q I rx ry hq
  obtain ⟨a, b, dx, dy, fs, gs, rfl, rfl, ha, hb, q⟩ := hq
  cases rx
  cases ry
  obtain ⟨mA, J, _⟩ := ins_get I.hok ha
  obtain ⟨mB, J', _⟩ := ins_get I.hok hb
  obtain ⟨od, J, _⟩ := J.look
  obtain ⟨od', J', _⟩ := J'.look
  obtain ⟨m, hF⟩ := I.fr
  show wpAny (model X.prog X.w) X.A (richCompare .Eq (.ref a) (.ref b)) (EP X pins σ Q) X.xe s
  refine PySem.W.cmp_K (op := .Eq) (tb := .ref C) hr.units0 hF I.ok.mod.kin J J'.type (by simp [PySem.W.notFirst]) h1 h2 ?_
  have r2 : Vals [V.ref a, V.ref b] [Value.ref a, Value.ref b] := .cons rfl (.cons rfl .nil)
  refine wpAny_mono (run_fn (vs := [.ref a, .ref b]) (us := [.ref a, .ref b]) (dvs := []) (ds := []) F (hr.mono hk) bb .nil pass0 I r2 q) (fun r s' hv => ?_) fun _ _ e => e
  obtain ⟨z, H', I', rz, c, ez, q2⟩ := hv
  subst ez
  cases rz
  exact ⟨.bl c, H', I', rfl, q2⟩
end
end KnW

set_option Elab.async false
set_option linter.all false
set_option maxRecDepth 100000
set_option maxHeartbeats 4000000
/-! A dict put into another one, as a display with ** does it: from what the library says of one store. -/
namespace KnG
open PySem PySem.Spec PyProof.Rows L2
section parts
variable {M : Model} {Γ : PySem.Ctx} {p : Pos} {u : Shared} {a : Addr}
/-- which part of a dict is looked at makes no difference to a promise -/
theorem part_upd (f : Array DictEntry → Array DictEntry) (c : Option Value) (R : Unit → Pos → Shared → Prop) (B : Value → Pos → Shared → Prop) : Sem.wp M Γ (updateDict a f c) R B p u = Sem.wp M Γ (updateDict a f) R B p u := by
  simp only [updateDict, loadPart, updatePart, Sem.wp_bind', Sem.wp_load, Sem.wp_pure]
  refine propext (exists_congr fun o => and_congr_right fun _ => ?_)
  cases o.data <;> simp only [Sem.wp_bind', Sem.wp_load, Sem.wp_update, Sem.wp_pure]
theorem part_keys (f : Array DictEntry → Array DictEntry) (c : Option Value) (R : Unit → Pos → Shared → Prop) (B : Value → Pos → Shared → Prop) : Sem.wp M Γ (updateDictKeys a f c) R B p u = Sem.wp M Γ (updateDictKeys a f) R B p u := by
  simp only [updateDictKeys, lookBehind, loadPart, updatePart, Sem.wp_bind', Sem.wp_load, Sem.wp_pure]
  refine propext (exists_congr fun o => and_congr_right fun _ => ?_)
  cases o.data <;> simp only [Sem.wp_bind', Sem.wp_load, Sem.wp_update, Sem.wp_pure]
end parts
section
variable {M : Model} {A : Around} {B : Value → Shared → Prop} {u : Shared}
/-- what holds of a store by d[k] = v holds of one by a display -/
theorem put_of_set {d : Addr} {hh : Int} {key v : Value} {R : Unit → Shared → Prop} (h : wpAny M A (dictSetHashed d key hh v) R B u) : wpAny M A (dictPut d hh key v) R B u := fun Γ p hΓ => by
  have g := h Γ p hΓ
  unfold dictSetHashed at g
  unfold dictPut
  rw [Sem.wp_holding, Sem.wp_bind'] at g
  rw [Sem.wp_bind']
  refine Sem.wp_mono M Γ _ (fun r p' s' e => ?_) (fun _ _ _ e => e) p u g
  cases r with
  | none =>
    have e2 : Sem.wp M Γ (updateDictKeys d (·.push ⟨hh, key, v⟩) (keyPart key)) (fun x _ s => R x s) (fun x _ s => B x s) p' s' := by simpa [rule] using e
    rwa [part_keys] at e2
  | some i =>
    have e2 : Sem.wp M Γ (updateDict d (·.modify i fun e => { e with val := v }) (keyPart key)) (fun x _ s => R () s) (fun x _ s => B x s) p' s' := by simpa [rule, point] using e
    rwa [part_upd] at e2
end
section
variable {prog : Program} {w : World} {K : Type} [DecidableEq K] {knd : KeyKind prog w K} {A : Around} {B : Value → Shared → Prop}
/-- one dict's entries, put into another one from place i on -/
theorem put_rest {d o : Addr} {ob : Obj} {ents : Array DictEntry} {epc : Nat} {base more : List (K × Value)} (apart : d ≠ o) (dat : ob.data = .dict ents epc) (hk : KeysOf knd ents) (hp : Pairs knd ents.toList more)
    (fit : base.length + more.length ≤ sizeLine) : ∀ (n i : Nat) (u : Shared) (R : PUnit → Shared → Prop), i + n = ents.size → u.heap.get? o = some ob → u.heap.DictOf knd d (merged base (more.take i)) →
      (∀ g, g.get? o = some ob → g.DictOf knd d (merged base more) → Heap.SameBut d u.heap g → R PUnit.unit { u with heap := g }) →
      wpAny (model prog w) A (forIn (List.range' i n) PUnit.unit fun i (_ : PUnit) => (do
          let l' ← dictEntries o
          match l'[i]? with
            | some e => do
              holding [e.key, e.val] (dictPut d e.hash e.key e.val)
              let t ← dictEpoch o
              if (t != epc) = true then do
                  (unsupported "dict.changed-during-merge" : Sem PUnit)
                  pure (ForInStep.yield PUnit.unit)
                else pure (ForInStep.yield PUnit.unit)
            | _ => do
              (unsupported "dict.changed-during-merge" : Sem PUnit)
              pure (ForInStep.yield PUnit.unit) : Sem (ForInStep PUnit))) R B u := by
  have size_eq : ents.size = more.length := by
    have := hp.length
    rw [Array.length_toList] at this
    exact this.symm ▸ rfl
  intro n
  induction n with
  | zero =>
    intro i u R e1 e2 e3 e4
    have : more.take i = more := List.take_of_length_le (by omega)
    rw [this] at e3
    exact wpAny_pure (e4 _ e2 e3 (Heap.SameBut.refl _ _))
  | succ n ih =>
    intro i u R e1 e2 e3 e4
    have lt : i < ents.size := by omega
    have lm : i < more.length := by omega
    have gm : more[i]? = some (more[i].1, more[i].2) := List.getElem?_eq_getElem lm
    have ge : ents.toList[i]? = some ents[i] := by rw [Array.getElem?_toList]; exact Array.getElem?_eq_getElem lt
    have two := hp.get? ge gm
    obtain ⟨kk, kis, kh⟩ := hk _ (Array.getElem_mem lt)
    have same : kk = more[i].1 := knd.inj _ _ _ kis two.1
    have room := merged_length_le base (more.take i)
    have cut := List.length_take_le i more
    rw [List.range'_succ, List.forIn_cons]
    refine wpAny_bind (wpAny_bind (wpAny_dictEntries e2 dat ?_))
    rw [Array.getElem?_eq_getElem lt]
    dsimp only
    rw [kh, same, two.2]
    refine wpAny_bind (wpAny_holding (put_of_set (wpAny_dictSetHashed_pairs (k := more[i].1) two.1 e3 (fun g f1 f2 => ?_) (by omega))))
    have still : g.get? o = some ob := (f2.2 o apart.symm).trans e2
    refine wpAny_bind (wpAny_dictEpoch still dat ?_)
    simp only [bne_self_eq_false, Bool.false_eq_true, if_false]
    refine wpAny_pure (ih (i + 1) _ R (by omega) still ?_ fun g2 f3 f4 f5 => e4 g2 f3 f4 (f2.trans f5))
    rw [merged_take_succ base more i _ gm]
    exact f1
/-- one plain dict merged into another one, whose keys are no objects -/
theorem mergeMapping_dict {d o : Addr} {base more : List (K × Value)} {u : Shared} {R : Unit → Shared → Prop} (flat : ∀ k v, knd.is k v = true → ∀ a, v ≠ .ref a) (apart : d ≠ o) (own : (o == sysModules) = false)
    (at1 : u.heap.DictOf knd d base) (at2 : u.heap.DictOf knd o more) (go : ∀ g, g.DictOf knd d (merged base more) → g.DictOf knd o more → Heap.SameBut d u.heap g → R () { u with heap := g })
    (fit : base.length + more.length ≤ sizeLine) : wpAny (model prog w) A (mergeMapping d (.ref o) false) R B u := by
  have tail : ∀ (ob : Obj) (ents : Array DictEntry) (epc : Nat), u.heap.get? o = some ob → ob.ExactDict → ob.data = .dict ents epc → KeysOf knd ents → Pairs knd ents.toList more → (more.map (·.1)).Nodup → _ := fun ob ents epc c1 c2 c3 c4 c5 c6 =>
    put_rest (B := B) (A := A) (base := base) apart c3 c4 c5 fit ents.size 0 u R (Nat.zero_add _) c1 (by simpa [merged] using at1) fun g f1 f2 f3 => go g f2 ⟨ob, ents, epc, f1, c2, c3, c4, c5, c6⟩ f3
  have kind := at2.typeIs
  obtain ⟨ob, ents, epc, c1, c2, c3, c4, c5, c6⟩ := at2
  obtain ⟨ob1, ents1, epc1, b1, _, b3, _⟩ := at1
  have t := tail ob ents epc c1 c2 c3 c4 c5 c6
  unfold mergeMapping
  refine wpAny_bind ?_
  refine wpAny_isInstance (T := "dict") kind PySem.F.sub_dict_dict ?_
  rw [if_pos rfl]
  refine wpAny_bind (wpAny_specialOf kind F.slot_dict_iter.lookup (wpAny_bind (wpAny_pure ?_)))
  have yes : (some (Value.builtin "dict.__iter__") == some (Value.builtin "dict.__iter__")) = true := by decide +kernel
  rw [yes]
  simp only [own, Bool.false_eq_true, if_false]
  have scan : ∀ (l : List DictEntry), (∀ e ∈ l, ∀ a, e.key ≠ .ref a) → ∀ (R2 : PUnit → Shared → Prop) (f : DictEntry → PUnit → Sem (ForInStep PUnit)), (∀ e, (∀ a, e.key ≠ .ref a) → f e PUnit.unit = pure (ForInStep.yield PUnit.unit)) → R2 PUnit.unit u →
      wpAny (model prog w) A (forIn l PUnit.unit f) R2 B u := by
    intro l
    induction l with
    | nil => intro _ R2 f _ hR; exact wpAny_pure hR
    | cons e r ih =>
      intro hl R2 f hf hR
      rw [List.forIn_cons, hf e (hl e List.mem_cons_self)]
      exact wpAny_bind (wpAny_pure (ih (fun x hx => hl x (List.mem_cons_of_mem _ hx)) R2 f hf hR))
  have noref : ∀ e ∈ ents.toList, ∀ a, e.key ≠ .ref a := fun e he => by
    obtain ⟨k, kis, _⟩ := c4 e (Array.mem_toList_iff.mp he)
    exact flat k e.key kis
  refine wpAny_bind (wpAny_dictEntries b1 b3 ?_)
  split
  · refine wpAny_bind (wpAny_dictEntries c1 c3 (wpAny_bind ?_))
    rw [← Array.forIn_toList]
    refine scan _ noref _ _ (fun e he => ?_) ?_
    · cases q : e.key with
      | ref a => exact (he a q).elim
      | _ => rfl
    · refine wpAny_bind (wpAny_dictEntries c1 c3 (wpAny_bind (wpAny_dictEpoch c1 c3 (wpAny_bind ?_))))
      rw [List.range_eq_range']
      exact wpAny_mono t (fun _ _ h => wpAny_pure h) fun _ _ e => e
  · refine wpAny_bind (wpAny_dictEntries c1 c3 (wpAny_bind (wpAny_dictEpoch c1 c3 (wpAny_bind ?_))))
    rw [List.range_eq_range']
    exact wpAny_mono t (fun _ _ h => wpAny_pure h) fun _ _ e => e
end
end KnG

set_option Elab.async false
set_option linter.all false
set_option maxRecDepth 100000
set_option maxHeartbeats 4000000
/-! `{**a, **b}` of two dicts; an own operator of two instances of a class; o[i] = v by an own __setitem__. -/
namespace KnG
open PySem PySem.Spec PyProof.Rows L2
def mergeFold (a b : List (Key × V)) : List (Key × V) := b.foldl (fun acc kv => putK acc kv.1 kv.2) a
def tStar (d : Addr) (kvs : List (Key × V)) (t : TE) (σ : L2.St) (H : Hp) (Q : List (Key × V) → Hp → Prop) : Prop :=
  t σ H fun x H1 => ∃ a k1, x = .ref a ∧ a ≠ d ∧ H1 a = some (.dK k1) ∧ H1 d = some (.dK kvs) ∧ kvs.length + k1.length ≤ sizeLine ∧ Q (mergeFold kvs k1) (upd H1 d (.dK (mergeFold kvs k1)))
def tStars2 (t1 t2 : TE) : TE := fun σ H Q => ∀ d, H d = none → tStar d [] t1 σ (upd H d (.dK [])) fun k1 H1 => tStar d k1 t2 σ H1 fun _ H2 => Q (.ref d) H2
theorem mix_noref {P : Program} {w : World} (k : Key) (v : Value) (h : (mixKind P w).is k v = true) (a : Addr) : v ≠ .ref a := by
  intro e
  subst e
  cases k <;> exact nomatch h
section
variable {X : Cx} {e1 e2 : Expr} {t1 t2 : TE} {pos : Pos}
theorem star_step {α : Type} {z : α} {e : Expr} {t : TE} (he : PE X e t) {pins : List (Addr × Obj)} {σ : L2.St} {H : Hp} {s : Shared} {d : Addr} {kvs : List (Key × V)} {Q : List (Key × V) → Hp → Prop} {G : α → Shared → Prop} {E2 : Value → Value → Sem Unit} {E3 : Value → Sem Unit} {E1 : Value → Value → Sem Unit}
    (I : Inv X pins σ H s) (h : tStar d kvs t σ H Q) (hG : ∀ k1 H' s', Inv X pins σ H' s' → Q k1 H' → G z s') :
    wpAny (model X.prog X.w) X.A (do
      let m ← holding [.ref d] (do let x ← eval e X.env; standAt pos; pure x)
      (((holding [.ref d, m] (mergeMapping d m false)).onRaise fun x => E1 m x).tryCatch fun y => E2 m y).onRaise fun x => E3 x
      pure z) G X.xe s := by
  refine wpAny_bind (wpAny_holding (wpAny_bind (thn (he.run pins s σ H _ I h) fun u s1 ⟨x, H1, I1, rx, a, k1, ex, ne, ha, hd, sz, q⟩ => ?_)))
  refine wpAny_bind (wpAny_standAt (wpAny_pure ?_))
  subst ex
  cases rx
  obtain ⟨za, hsa, va, rela, da⟩ := dk_of I1.hok ha
  obtain ⟨zd, hsd, vd, reld, dd⟩ := dk_of I1.hok hd
  refine wpAny_bind (wpAny_onRaise (wpAny_tryCatch (wpAny_onRaise (wpAny_holding (mergeMapping_dict mix_noref ne.symm hsa dd da (fun h' hd' _ hs' => ?_) (by rw [← reld.length, ← rela.length]; exact sz))))))
  refine wpAny_pure (hG _ _ _ ?_ q)
  have hl : (mergeK kvs k1).length ≤ sizeLine := by
    have e := (KV.merge rela reld).length
    have e2 := merged_length_le vd va
    have e3 := reld.length
    have e4 := rela.length
    omega
  exact d_write I1 (by rw [hd]; exact True.intro) hs' (let ⟨q, _, _, hq, _⟩ := hd'; ⟨q, hq⟩) (dk_new hl hsd (KV.merge rela reld) hd')
theorem pe_stars2 (h1 : PE X e1 t1) (h2 : PE X e2 t2) : PE X (.Dict [none, none] [e1, e2] pos) (tStars2 t1 t2) := by
  refine ⟨fun pins s σ H Q I h => ?_⟩
  rw [arm_eval_Dict]
  refine wpAny_bind (wpAny_standAt ?_)
  show wpAny _ _ (dictDisplay [(none, do let x ← eval e1 X.env; standAt pos; pure x), (none, do let x ← eval e2 X.env; standAt pos; pure x)]) _ _ _
  unfold dictDisplay
  refine wpAny_bind ?_
  rw [List.forIn_cons]
  refine wpAny_bind ?_
  dsimp only
  refine wpAny_bind ?_
  rw [if_pos List.isEmpty_nil]
  refine wpAny_pure ?_
  dsimp only
  refine wpAny_bind (wpAny_alloc ?_)
  have I0 : Inv X pins σ (upd H s.heap.objs.size (.dK [])) { s with heap := s.heap.push { cls := .type "dict", data := .dict #[] } } := I.laid (a := s.heap.objs.size) (o := .dK []) (t' := s.toks) (fun _ _ q => Heap.get?_push_of_some _ q) (Nat.le_refl _) (dk_empty s.heap I.big)
  refine star_step h1 I0 (h _ (I.hok.fresh (Nat.le_refl _))) fun k1 H1 s1 I1 q1 => ?_
  dsimp only
  rw [List.forIn_cons]
  refine wpAny_bind ?_
  dsimp only
  refine wpAny_bind ?_
  rw [if_pos List.isEmpty_nil]
  refine wpAny_pure ?_
  dsimp only
  refine wpAny_bind (wpAny_pure ?_)
  refine star_step h2 I1 q1 fun k2 H2 s2 I2 q2 => ?_
  dsimp only
  rw [List.forIn_nil]
  refine wpAny_pure ?_
  dsimp only
  refine wpAny_bind ?_
  rw [if_pos List.isEmpty_nil]
  refine wpAny_pure ?_
  exact wpAny_pure ⟨.ref _, _, I2, rfl, q2⟩
end
end KnG

set_option Elab.async false
set_option linter.all false
set_option maxRecDepth 100000
set_option maxHeartbeats 4000000
/-! An own operator of two instances of a class; o[i] = v by an own __setitem__; a class made without arguments, by a default. -/
namespace KnW
open PySem PySem.Spec PyProof.Rows L2
section
variable {X : Cx} {k j : Nat} {C : Addr} {sp : Sp} {a b : Expr} {ta tb : TE} {pos : Pos}
/-- a + b by the class's own method, which answers a reference -/
def rOwnBin (C : Addr) (sp : Sp) : R2 := fun x y H Q => ∃ a b dx dy fs gs, x = .ref a ∧ y = .ref b ∧ H a = some (.ins C dx fs) ∧ H b = some (.ins C dy gs) ∧ sp [.ref a, .ref b] H (fun v H' => ∃ c, v = .ref c ∧ Q (.ref c) H') E0
theorem op_ownBin {op : Operator} {m : Str} (c : Own X.prog X.w X.K X.mg X.base k C m sp) (hm : m = PySem.dunder op.info.2) (sf : PySem.W.selfFirst X.K C = true) (hr : Room j X.A) (hk : k ≤ j) : OpR X (binaryOp op) (rOwnBin C sp) := by
  subst hm
  obtain ⟨f, fd, ps, h1, h2, h3, F, bb⟩ := c.ex
  intro pins s σ H x y v u Q I rx ry hq
  obtain ⟨a, b, dx, dy, fs, gs, rfl, rfl, ha, hb, q⟩ := hq
  cases rx
  cases ry
  obtain ⟨mA, J, _⟩ := ins_get I.hok ha
  obtain ⟨mB, J', _⟩ := ins_get I.hok hb
  obtain ⟨od, J, _⟩ := J.look
  obtain ⟨od', J', _⟩ := J'.look
  obtain ⟨m, hF⟩ := I.fr
  show wpAny (model X.prog X.w) X.A (binaryOp op (.ref a) (.ref b)) (EP X pins σ Q) X.xe s
  refine PySem.W.binop_K (op := op) hF I.ok.mod.kin J J'.type sf h1 h2 ?_
  have r2 : Vals [V.ref a, V.ref b] [Value.ref a, Value.ref b] := .cons rfl (.cons rfl .nil)
  refine wpAny_mono (run_fn (vs := [.ref a, .ref b]) (us := [.ref a, .ref b]) (dvs := []) (ds := []) F (hr.mono hk) bb .nil pass0 I r2 q) (fun r s' hv => ?_) fun _ _ e => e
  obtain ⟨z, H', I', rz, c, ez, q2⟩ := hv
  subst ez
  cases rz
  exact ⟨.ref c, H', I', rfl, q2⟩
/-- a |= b by the class's own in-place method, which answers a reference -/
def rOwnIn (C : Addr) (sp : Sp) : R2 := fun x y H Q => ∃ a dx fs, x = .ref a ∧ H a = some (.ins C dx fs) ∧ sp [.ref a, y] H (fun v H' => ∃ c, v = .ref c ∧ Q (.ref c) H') E0
theorem op_ownIn {op : Operator} {m : Str} (c : Own X.prog X.w X.K X.mg X.base k C m sp) (hm : m = PySem.dunderI op.info.2) (sf : PySem.W.selfFirst X.K C = true) (hr : Room j X.A) (hk : k ≤ j) : OpR X (inplaceOp op) (rOwnIn C sp) := by
  subst hm
  obtain ⟨f, fd, ps, h1, h2, h3, F, bb⟩ := c.ex
  intro pins s σ H x y v u Q I rx ry hq
  obtain ⟨a, dx, fs, rfl, ha, q⟩ := hq
  cases rx
  obtain ⟨mA, J, _⟩ := ins_get I.hok ha
  obtain ⟨od, J, _⟩ := J.look
  obtain ⟨m, hF⟩ := I.fr
  refine PySem.W.ksp_inplace (op := op) hF I.ok.mod.kin J sf h1 h2 ?_
  have r2 : Vals [V.ref a, y] [Value.ref a, u] := .cons rfl (.cons ry .nil)
  refine wpAny_mono (run_fn (vs := [.ref a, y]) (us := [.ref a, u]) (dvs := []) (ds := []) F (hr.mono hk) bb .nil pass0 I r2 q) (fun r s' hv => ?_) fun _ _ e => e
  obtain ⟨z, H', I', rz, w', ez, q2⟩ := hv
  subst ez
  cases rz
  exact ⟨.ref w', H', I', rfl, q2⟩
/-- o[i] = v by an own __setitem__ -/
def rSetOwn (C : Addr) (sp : Sp) : V → V → V → Hp → (Hp → Prop) → Prop := fun o i v H Q => ∃ a dx fs, o = .ref a ∧ H a = some (.ins C dx fs) ∧ sp [.ref a, i, v] H (fun _ H' => Q H') E0
theorem set_own (c : Own X.prog X.w X.K X.mg X.base k C "__setitem__" sp) (nq : PySem.W.noSeq X.K C = true) (hr : Room j X.A) (hk : k ≤ j) : PSet X (rSetOwn C sp) := by
  obtain ⟨f, fd, ps, h1, h2, h3, F, bb⟩ := c.ex
  intro pins s σ H o i v ov iv u Q I ro ri rv hq
  obtain ⟨a, dx, fs, rfl, ha, q⟩ := hq
  cases ro
  obtain ⟨mA, J, _⟩ := ins_get I.hok ha
  obtain ⟨od, J, _⟩ := J.look
  obtain ⟨m, hF⟩ := I.fr
  refine PySem.W.ksp_setItem hF I.ok.mod.kin J nq h1 h2 ?_
  have r3 : Vals [V.ref a, i, v] [Value.ref a, iv, u] := .cons rfl (.cons ri (.cons rv .nil))
  refine wpAny_mono (run_fn (vs := [.ref a, i, v]) (us := [.ref a, iv, u]) (dvs := []) (ds := []) F (hr.mono hk) bb .nil pass0 I r3 q) (fun r s' hv => ?_) fun _ _ e => e
  obtain ⟨z, H', I', rz, q2⟩ := hv
  exact ⟨H', I', q2⟩
theorem pe_mk0 {x : Str} {dvs : List V} {p : Pos} (c : C8.Mak X.prog X.w X.K X.mg X.base k x C sp dvs) (hr : Room j X.A) (hk : k + 1 ≤ j) (hg : Gl X x) (hdb : (x == ("__debug__" : Str)) = false := by decide) :
    PE X (.Call (.Name x p) [] [] pos) (tMake C sp dvs E0 tNil) := by
  obtain ⟨f, fd, ps, ds, M, F, hm, b, d⟩ := c.ex
  exact pe_make0 M F (hr.mono hk) hg hm b d pass0 hdb
end
theorem binds_less {K : PySem.W.Frag} {x qual : Str} {st : Stmt} {f T : Addr} {oc : Value} {od an : Option Addr} {osl : Array (Option Value)} {kV doc pm cdv ct : Value} {to : Obj} {tn : Nat} {its : List Value} {dvs : List V} {ps : List Str} (n : Nat)
    (l : K.lookup f = some ⟨oc, od, .func (PySem.W.fnOf x qual (defArgs st) (defBody st) (defScope st) (.ref T) kV doc pm an cdv ct), osl⟩) (c : PySem.W.codeIn K cdv qual = true) (k : PySem.W.keepIn K (.ref f) = true)
    (lT : K.lookup T = some to) (oT : to.data = .seq its.toArray tn) (rT : Vals dvs its) (hd : dvs ≠ []) (hn : n + dvs.length = ps.length)
    (h : ∀ (T : Addr) (kV doc pm : Value) (an : Option Addr) (cdv ct : Value) (us its : List Value), us.length = n → its.length = dvs.length →
      ∃ k, bindArgs (PySem.W.fnOf x qual (defArgs st) (defBody st) (defScope st) (.ref T) kV doc pm an cdv ct) ⟨us, []⟩ = seqItems? (.ref T) >>= k ∧ k (some its.toArray) = pure (ps.zip (us ++ its))) : ∃ ds, Vals dvs ds ∧ Binds K (PySem.W.fnOf x qual (defArgs st) (defBody st) (defScope st) (.ref T) kV doc pm an cdv ct) ps ds := by
  have F : FunD K x qual (defArgs st) (defBody st) (defScope st) dvs [] f (PySem.W.fnOf x qual (defArgs st) (defBody st) (defScope st) (.ref T) kV doc pm an cdv ct) :=
    ⟨⟨oc, od, .ref T, kV, doc, pm, an, cdv, ct, osl, rfl, l, c, .inr ⟨hd, T, to, its, tn, rfl, lT, oT, rT⟩, .inl rfl⟩, k⟩
  exact FunD.binds1 F (ps := ps) n 0 hd hn h
end KnW

set_option Elab.async false
set_option linter.all false
set_option maxRecDepth 100000
set_option maxHeartbeats 4000000
/-! An instance with an own __contains__, __len__: k in o, k not in o, len(o). -/
namespace KnW
open PySem PySem.Spec PyProof.Rows L2
section
variable {X : Cx} {k j : Nat} {C : Addr} {sp : Sp}
def rOwnHas (C : Addr) (sp : Sp) (neg : Bool) : R2 := fun x y H Q => ∃ a dx fs, y = .ref a ∧ H a = some (.ins C dx fs) ∧ sp [.ref a, x] H (fun v H' => ∃ c, v = .bl c ∧ Q (.bl (if neg then !c else c)) H') E0
theorem op_ownHas (c : Own X.prog X.w X.K X.mg X.base k C "__contains__" sp) (hr : Room j X.A) (hk : k ≤ j) : OpR X (compareOp .In) (rOwnHas C sp false) := by
  obtain ⟨f, fd, ps, h1, h2, h3, F, bb⟩ := c.ex
  intro pins s σ H x y v u Q I rx ry hq
  obtain ⟨a, dx, fs, rfl, ha, q⟩ := hq
  cases ry
  obtain ⟨mA, J, _⟩ := ins_get I.hok ha
  obtain ⟨od, J, _⟩ := J.look
  obtain ⟨m, hF⟩ := I.fr
  refine PySem.W.in_K hF I.ok.mod.kin J h1 h2 ?_
  refine wpAny_mono (run_fn (vs := [.ref a, x]) (us := [.ref a, v]) (dvs := []) (ds := []) F (hr.mono hk) bb .nil pass0 I (.cons rfl (.cons rx .nil)) q) (fun r s' hv => ?_) fun _ _ e => e
  obtain ⟨z, H', I', rz, b, ez, q2⟩ := hv
  subst ez
  cases rz
  exact wpAny_pure ⟨.bl b, H', I', rfl, q2⟩
theorem op_ownHasNot (c : Own X.prog X.w X.K X.mg X.base k C "__contains__" sp) (hr : Room j X.A) (hk : k ≤ j) : OpR X (compareOp .NotIn) (rOwnHas C sp true) := by
  obtain ⟨f, fd, ps, h1, h2, h3, F, bb⟩ := c.ex
  intro pins s σ H x y v u Q I rx ry hq
  obtain ⟨a, dx, fs, rfl, ha, q⟩ := hq
  cases ry
  obtain ⟨mA, J, _⟩ := ins_get I.hok ha
  obtain ⟨od, J, _⟩ := J.look
  obtain ⟨m, hF⟩ := I.fr
  refine PySem.W.notIn_K hF I.ok.mod.kin J h1 h2 ?_
  refine wpAny_mono (run_fn (vs := [.ref a, x]) (us := [.ref a, v]) (dvs := []) (ds := []) F (hr.mono hk) bb .nil pass0 I (.cons rfl (.cons rx .nil)) q) (fun r s' hv => ?_) fun _ _ e => e
  obtain ⟨z, H', I', rz, b, ez, q2⟩ := hv
  subst ez
  cases rz
  exact wpAny_pure ⟨.bl (!b), H', I', rfl, q2⟩
def rOwnLen (C : Addr) (sp : Sp) : List V → Hp → VK → Prop := fun xs H Q => ∃ a dx fs, xs = [.ref a] ∧ H a = some (.ins C dx fs) ∧ sp [.ref a] H (fun v H' => ∃ n : Nat, v = .int (n : Int) ∧ n ≤ 1000000 ∧ Q (.int (n : Int)) H') E0
theorem cr_ownLen (c : Own X.prog X.w X.K X.mg X.base k C "__len__" sp) (hr : Room j X.A) (hk : k + 1 ≤ j) : CallR X (.builtin "len") (rOwnLen C sp) := by
  obtain ⟨f, fd, ps, h1, h2, h3, F, bb⟩ := c.ex
  intro pins s σ H xs us Q I r hq
  obtain ⟨a, dx, fs, rfl, ha, q⟩ := hq
  obtain ⟨u, rfl, rx⟩ := vals1 r
  cases rx
  obtain ⟨mA, J, _⟩ := ins_get I.hok ha
  obtain ⟨od, J, _⟩ := J.look
  obtain ⟨m, hF⟩ := I.fr
  refine PySem.W.len_K hF I.ok.mod.kin J h1 h2 ?_
  refine wpAny_mono (run_in1 (vs := [.ref a]) F (hr.mono hk) bb pass0 I (.cons rfl .nil) q) (fun r s' hv => ?_) fun _ _ e => e
  obtain ⟨z, H', I', rz, n, ez, l, q2⟩ := hv
  subst ez
  obtain ⟨t, rfl⟩ := rz
  have small_ : ((n : Int)) < 2 ^ 63 := by
    have : (1000000 : Int) < 2 ^ 63 := by decide
    omega
  exact ⟨⟨Int.natCast_nonneg n, small_⟩, .int n, H', I'.tok _, ⟨_, rfl⟩, q2⟩
end
end KnW

set_option Elab.async false
set_option linter.all false
set_option maxRecDepth 100000
set_option maxHeartbeats 4000000
/-! An own operator whose other side is a built-in dict, list or tuple. -/
namespace KnW
open PySem PySem.Spec PyProof.Rows L2
section
variable {P : Program} {w : World} {A : Around} {E : Value → Shared → Prop} {s : Shared} {K : PySem.W.Frag} {x b C L f : Addr} {h₀ : Heap} {m : Str → Option Value} {ox : Obj} {od : Option Obj} {T : String}
theorem looks_typ {v : Value} {ob : Obj} (e : s.heap.get? b = some ob) (c : ob.cls = .type T) (hv : v = .ref b) : PySem.W.Looks (model P w) s.heap (typeOf v) (.type T) := fun A Q E s' k q => by
  subst hv
  exact wpAny_typeOf_ref (k _ _ e) (by rw [c]; exact q)
/-- what is known of the two names of an operator at a built-in type -/
structure Side (K : PySem.W.Frag) (C : Addr) (nm : String) (T : String) : Prop where
  f : ∃ fo, PySem.W.findIn K (.type T) (PySem.dunder nm) = some fo
  r : ∃ ro, PySem.W.findIn K (.type T) (dunderR nm) = some ro
  no : PySem.W.subIn K (.type T) (.ref C) = some false
open PySem.W in
theorem bin_left {op : Operator} {y : Value} {rc : Option Value} {Q : Value → Shared → Prop} (F : Fr h₀ L s.heap m) (X₀ : K.In h₀) (I : InstAt s.heap x ox C od) (hb : Looks (model P w) s.heap (typeOf y) (.type T)) (hc : selfFirst K C = true)
    (hs : findIn K (.ref C) (PySem.dunder op.info.2) = some (some (.ref f))) (hf : isFn K (.ref f) = true) (hr : findIn K (.ref C) (dunderR op.info.2) = some rc) (hp : rc = none ∨ ∃ g : Addr, rc = some (.ref g)) (sd : Side K C op.info.2 T)
    (h : wpAny (model P w) A (call (.ref f) [.ref x, y]) (PySem.W.CmpBack Q) E s) : wpAny (model P w) A (binaryOp op (.ref x) y) Q E s := by
  obtain ⟨⟨fo, e1⟩, ⟨ro, e2⟩, e3⟩ := sd
  have KI := X₀.keeps F.keep
  obtain ⟨cd, more, hcd, hmro⟩ := ksp_first hc
  rcases info : op.info with ⟨sy, nam⟩
  rw [info] at hs hr e1 e2
  dsimp only at hs hr e1 e2
  have go := ksp_try KI I hs hf h
  obtain ⟨hh, gg, dd, tt, oo⟩ := s
  have l1 : Looks (model P w) hh (typeOf (.ref x)) (.ref C) := I.type
  have l3 := fills_K (M := model P w) KI hcd hmro hs
  have l4 := ksp_fillsT (M := model P w) KI e1 e2
  have l5 := looks_subIn (M := model P w) KI e3
  have l6 := ksp_inPy (M := model P w) KI hs hr hp
  have l7 : Looks (model P w) hh (numberSlotInPython (.type T) nam) false := .of_pure rfl
  have l8 := looks_findIn (M := model P w) KI e2
  generalize ((fo.isSome && !isSeqSlot fo) || (ro.isSome && !isSeqSlot ro)) = rt at l4
  have ne : (Value.ref C == Value.type T) = false := Bool.eq_false_iff.mpr fun q => by cases beq_iff_eq.mp q
  simp only [binaryOp, info]
  refine wpAny_holding (wpAny_bind (?_ : wpAny _ _ (binaryOp1 nam _ _) _ _ _))
  unfold binaryOp1
  refine wpAny_bind (l1.at (wpAny_bind (hb.at (wpAny_bind (l3.at ?_)))))
  simp only [ne, Bool.false_eq_true, if_false]
  cases rt with
  | false =>
    ksp_lk
    exact wpAny_mono go (fun r s' ⟨v, ev, q⟩ => by subst ev; ksp_lk; exact q) fun _ _ z => z
  | true =>
    ksp_lk
    exact wpAny_mono go (fun r s' ⟨v, ev, q⟩ => by subst ev; ksp_lk; exact q) fun _ _ z => z
open PySem.W in
theorem dict_or_not {Q : Value → Shared → Prop} (hd : s.TypeIs (.ref b) "dict") (hx : Looks (model P w) s.heap (typeOf (.ref x)) (.ref C)) (hsub : Looks (model P w) s.heap (isSubtype (.ref C) (.type "dict")) false) (h : Q .notImplemented s) :
    wpAny (model P w) A (call (.builtin "dict.__or__") [.ref b, .ref x]) Q E s := by
  refine wpAny_call_entry PySem.F.slot_dict_or hd PySem.F.entry_dict_or ?_ (PySem.F.args_dict_or_2 _ _)
  unfold Builtin.«dict.__or__» Builtin.Dict.dictSlotArgs
  refine wpAny_bind (wpAny_bind (wpAny_notOrdered_dict hd ?_))
  refine wpAny_bind (?_ : wpAny _ _ (slotArgs _ _ _) _ _ _)
  unfold slotArgs
  show wpAny _ _ (pure (Value.ref b, [Value.ref x])) _ _ _
  refine wpAny_pure (wpAny_pure ?_)
  show wpAny _ _ ((isInstance (.ref b) (.type "dict") <&&> isInstance (.ref x) (.type "dict")) >>= fun c => if (!c) = true then _ else _) _ _ _
  refine wpAny_bind (wpAny_bind (wpAny_isInstance hd PySem.F.sub_dict_dict ?_))
  refine (?_ : wpAny _ _ (isInstance (.ref x) (.type "dict")) _ _ _)
  unfold isInstance
  refine wpAny_bind (hx.here (hsub.here ?_))
  rw [if_pos (show (!false) = true from rfl)]
  refine wpAny_bind (wpAny_rule ?_)
  exact wpAny_pure ⟨_, rfl, h⟩
open PySem.W in
/-- a dict on the left, whose own operator says that it does not know the other side, or that has none -/
theorem bin_right {op : Operator} {g : Addr} {Q : Value → Shared → Prop} (F : Fr h₀ L s.heap m) (X₀ : K.In h₀) (I : InstAt s.heap x ox C od) (hd : s.TypeIs (.ref b) "dict") (hc : selfFirst K C = true) (hop : op = .BitOr ∨ op = .BitAnd)
    (hl : findIn K (.ref C) (PySem.dunder op.info.2) = some (some (.ref g))) (hs : findIn K (.ref C) (dunderR op.info.2) = some (some (.ref f))) (hf : isFn K (.ref f) = true) (hsub : subIn K (.ref C) (.type "dict") = some false)
    (h : wpAny (model P w) A (call (.ref f) [.ref x, .ref b]) (PySem.W.CmpBack Q) E s) : wpAny (model P w) A (binaryOp op (.ref b) (.ref x)) Q E s := by
  have KI := X₀.keeps F.keep
  obtain ⟨cd, more, hcd, hmro⟩ := ksp_first hc
  have go := ksp_try KI I hs hf h
  obtain ⟨od', hod, hcl⟩ := id hd
  have hb : Looks (model P w) s.heap (typeOf (.ref b)) (.type "dict") := looks_typ hod hcl rfl
  have l1 : Looks (model P w) s.heap (typeOf (.ref x)) (.ref C) := I.type
  have l5 := looks_subIn (M := model P w) KI hsub
  have l3 := fills_K (M := model P w) (nm := op.info.2) KI hcd hmro hl
  have ne : (Value.type "dict" == Value.ref C) = false := Bool.eq_false_iff.mpr fun q => by cases beq_iff_eq.mp q
  have last : ∀ (R : Option Value → Shared → Prop), (∀ v s', Q v s' → R (some v) s') → wpAny (model P w) A (tryMethod (.ref x) (dunderR op.info.2) (.ref b)) R E s := fun R hR => wpAny_mono go (fun r s' ⟨v, ev, q⟩ => ev ▸ hR v s' q) fun _ _ z => z
  rcases hop with rfl | rfl
  · have l4 : Looks (model P w) s.heap (fillsNumberSlot (.type "dict") "or") true := .of_pure PySem.F.fills_dict_or
    have nots : ∀ (R : Option Value → Shared → Prop), R none s → wpAny (model P w) A (tryMethod (.ref b) (PySem.dunder "or") (.ref x)) R E s := fun R hR => by
      unfold tryMethod
      refine wpAny_bind (wpAny_callSpecial?_slot hd PySem.F.slot_dict_or (dict_or_not hd l1 l5 ?_))
      exact wpAny_pure hR
    have l7 : Looks (model P w) s.heap (numberSlotInPython (.type "dict") "or") false := .of_pure rfl
    simp only [binaryOp, show Operator.BitOr.info = ("|", "or") from rfl] at *
    refine wpAny_holding (wpAny_bind (?_ : wpAny _ _ (binaryOp1 "or" _ _) _ _ _))
    unfold binaryOp1
    refine wpAny_bind (hb.here (wpAny_bind (l1.here (wpAny_bind (l4.here ?_)))))
    simp only [ne, Bool.false_eq_true, if_false]
    refine wpAny_bind (l3.here ?_)
    rw [if_pos (show (true && true) = true from rfl)]
    refine wpAny_bind (l5.here ?_)
    simp only [Bool.false_eq_true, if_false, Bool.not_false, Bool.and_self, if_true, Bool.and_true]
    refine wpAny_bind (l7.here ?_)
    simp only [Bool.false_eq_true, if_false]
    refine wpAny_bind (nots _ ?_)
    dsimp only
    refine wpAny_bind (last _ fun v s' q => ?_)
    dsimp only
    exact wpAny_bind (wpAny_rule (wpAny_pure (wpAny_pure q)))
  · have l4 : Looks (model P w) s.heap (fillsNumberSlot (.type "dict") "and") false := .of_pure (by kernel_rfl)
    simp only [binaryOp, show Operator.BitAnd.info = ("&", "and") from rfl] at *
    refine wpAny_holding (wpAny_bind (?_ : wpAny _ _ (binaryOp1 "and" _ _) _ _ _))
    unfold binaryOp1
    refine wpAny_bind (hb.here (wpAny_bind (l1.here (wpAny_bind (l4.here ?_)))))
    simp only [ne, Bool.false_eq_true, if_false]
    refine wpAny_bind (l3.here ?_)
    simp only [Bool.false_eq_true, if_false, Bool.not_false, Bool.and_self, if_true, Bool.and_true, Bool.false_and]
    refine wpAny_bind (wpAny_pure ?_)
    simp only [Bool.false_eq_true, if_false]
    refine wpAny_bind (last _ fun v s' q => ?_)
    dsimp only
    exact wpAny_bind (wpAny_rule (wpAny_pure (wpAny_pure q)))
end
end KnW

set_option Elab.async false
set_option linter.all false
set_option maxRecDepth 100000
set_option maxHeartbeats 4000000
/-! a + b by an own method where b is a dict, a list or a tuple; a + b by an own reflected method where a is a dict. -/
namespace KnW
open PySem PySem.Spec PyProof.Rows L2
/-- a value of one of these built-in types -/
def TyB (K : PySem.W.Frag) (T : String) (y : V) (H : Hp) : Prop := tyV K T y H ∨ (T = "tuple" ∧ ∃ p xs, y = .ref p ∧ H p = some (.tup xs))
theorem TyB.is {X : Cx} {pins : List (Addr × Obj)} {σ : L2.St} {H : Hp} {s : Shared} {T : String} {y : V} {v : Value} (I : Inv X pins σ H s) (r : RelV y v) (t : TyB X.K T y H) (nt : ∀ z, T ≠ "str" ∧ T ≠ "int" ∧ T ≠ z ++ "?") : ∃ b ob, v = .ref b ∧ s.heap.get? b = some ob ∧ ob.cls = .type T := by
  rcases t with t | ⟨rfl, p, xs, rfl, hp⟩
  · obtain ⟨h1, _⟩ := tyV_is I r t
    cases y with
    | ref p =>
      cases r
      obtain ⟨o, e, c⟩ := h1
      exact ⟨p, o, rfl, e, c⟩
    | str z => exact ((nt "").1 t).elim
    | int z => exact ((nt "").2.1 t).elim
    | _ => exact False.elim t
  · cases r
    obtain ⟨_, its, _, pl⟩ := I.hok p _ hp
    obtain ⟨ob, e, c, _⟩ := pl
    exact ⟨p, ob, rfl, e, c⟩
theorem side_of {K : PySem.W.Frag} {C : Addr} {nm : String} {T : String} (hn : nm = "or" ∨ nm = "and" ∨ nm = "sub") (hT : T = "dict" ∨ T = "list" ∨ T = "tuple") : Side K C nm T := by
  have m1 : PySem.fastBuiltinMro "dict" = some [.type "dict", .type "object"] := by decide +kernel
  have m2 : PySem.fastBuiltinMro "list" = some [.type "list", .type "object"] := by decide +kernel
  have m3 : PySem.fastBuiltinMro "tuple" = some [.type "tuple", .type "object"] := by decide +kernel
  refine ⟨?_, ?_, ?_⟩
  · refine Option.isSome_iff_exists.mp ?_
    show (fastLookup T (PySem.dunder nm)).isSome = true
    rcases hn with rfl | rfl | rfl <;> rcases hT with rfl | rfl | rfl <;> decide +kernel
  · refine Option.isSome_iff_exists.mp ?_
    show (fastLookup T (dunderR nm)).isSome = true
    rcases hn with rfl | rfl | rfl <;> rcases hT with rfl | rfl | rfl <;> decide +kernel
  · show (PySem.fastBuiltinMro T).map (·.contains (.ref C)) = some false
    rcases hT with rfl | rfl | rfl
    · rw [m1]; rfl
    · rw [m2]; rfl
    · rw [m3]; rfl
section
variable {X : Cx} {k j : Nat} {C : Addr} {sp : Sp}
def rOwnBinA (K : PySem.W.Frag) (C : Addr) (sp : Sp) : R2 := fun x y H Q => ∃ a dx fs, x = .ref a ∧ H a = some (.ins C dx fs) ∧ ((∃ b dy gs, y = .ref b ∧ H b = some (.ins C dy gs)) ∨ ∃ T, (T = "dict" ∨ T = "list" ∨ T = "tuple") ∧ TyB K T y H) ∧
  sp [.ref a, y] H (fun v H' => ∃ c, v = .ref c ∧ Q (.ref c) H') E0
theorem op_ownBinA {op : Operator} {m : Str} (c : Own X.prog X.w X.K X.mg X.base k C m sp) (hm : m = PySem.dunder op.info.2) (sf : PySem.W.selfFirst X.K C = true) (hn : op.info.2 = "or" ∨ op.info.2 = "and" ∨ op.info.2 = "sub")
    (hrr : ∃ rc, PySem.W.findIn X.K (.ref C) (dunderR op.info.2) = some rc ∧ (rc = none ∨ ∃ g : Addr, rc = some (.ref g))) (hr : Room j X.A) (hk : k ≤ j) : OpR X (binaryOp op) (rOwnBinA X.K C sp) := by
  subst hm
  obtain ⟨f, fd, ps, h1, h2, h3, F, bb⟩ := c.ex
  intro pins s σ H x y v u Q I rx ry hq
  obtain ⟨a, dx, fs, rfl, ha, alt, q⟩ := hq
  cases rx
  obtain ⟨mA, J, _⟩ := ins_get I.hok ha
  obtain ⟨od, J, _⟩ := J.look
  obtain ⟨m, hF⟩ := I.fr
  have last : wpAny (model X.prog X.w) X.A (call (.ref f) [.ref a, u]) (PySem.W.CmpBack (EP X pins σ Q)) X.xe s := by
    refine wpAny_mono (run_fn (vs := [.ref a, y]) (us := [.ref a, u]) (dvs := []) (ds := []) F (hr.mono hk) bb .nil pass0 I (.cons rfl (.cons ry .nil)) q) (fun r s' hv => ?_) fun _ _ e => e
    obtain ⟨z, H', I', rz, c, ez, q2⟩ := hv
    subst ez
    cases rz
    exact ⟨.ref c, H', I', rfl, q2⟩
  rcases alt with ⟨b, dy, gs, rfl, hb⟩ | ⟨T, hT, ty⟩
  · cases ry
    obtain ⟨mB, J', _⟩ := ins_get I.hok hb
    obtain ⟨od', J', _⟩ := J'.look
    exact PySem.W.binop_K (op := op) hF I.ok.mod.kin J J'.type sf h1 h2 last
  · obtain ⟨b, ob, rfl, e, cl⟩ := ty.is I ry (fun z => by
      rcases hT with rfl | rfl | rfl <;> refine ⟨by decide, by decide, fun q => ?_⟩ <;> exact absurd (congrArg (fun t : String => t.toList.getLast?) q) (by simp [String.toList_append]))
    obtain ⟨rc, er, hp⟩ := hrr
    exact bin_left (op := op) hF I.ok.mod.kin J (looks_typ e cl rfl) sf h1 h2 er hp (side_of hn hT) last
/-- a | b, a & b where a is a dict -/
def rOwnRBin (K : PySem.W.Frag) (C : Addr) (sp : Sp) : R2 := fun x y H Q => ∃ a b dx fs, x = .ref b ∧ tyV K "dict" x H ∧ y = .ref a ∧ H a = some (.ins C dx fs) ∧ sp [.ref a, .ref b] H (fun v H' => ∃ c, v = .ref c ∧ Q (.ref c) H') E0
theorem op_ownRBin {op : Operator} {m ml : Str} {sp2 : Sp} {k2 : Nat} (c : Own X.prog X.w X.K X.mg X.base k C m sp) (cl : Own X.prog X.w X.K X.mg X.base k2 C ml sp2) (hm : m = dunderR op.info.2) (hml : ml = PySem.dunder op.info.2) (sf : PySem.W.selfFirst X.K C = true) (hop : op = .BitOr ∨ op = .BitAnd)
    (nd : PySem.W.subIn X.K (.ref C) (.type "dict") = some false) (hr : Room j X.A) (hk : k ≤ j) : OpR X (binaryOp op) (rOwnRBin X.K C sp) := by
  subst hm hml
  obtain ⟨f, fd, ps, h1, h2, h3, F, bb⟩ := c.ex
  obtain ⟨g, _, _, g1, _⟩ := cl.ex
  intro pins s σ H x y v u Q I rx ry hq
  obtain ⟨a, b, dx, fs, rfl, ty, rfl, ha, q⟩ := hq
  obtain ⟨tis, _⟩ := tyV_is I rx ty
  cases rx
  cases ry
  obtain ⟨mA, J, _⟩ := ins_get I.hok ha
  obtain ⟨od, J, _⟩ := J.look
  obtain ⟨m, hF⟩ := I.fr
  refine bin_right (op := op) hF I.ok.mod.kin J tis sf hop g1 h1 h2 nd ?_
  refine wpAny_mono (run_fn (vs := [.ref a, .ref b]) (us := [.ref a, .ref b]) (dvs := []) (ds := []) F (hr.mono hk) bb .nil pass0 I (.cons rfl (.cons rfl .nil)) q) (fun r s' hv => ?_) fun _ _ e => e
  obtain ⟨z, H', I', rz, c, ez, q2⟩ := hv
  subst ez
  cases rz
  exact ⟨.ref c, H', I', rfl, q2⟩
end
end KnW

set_option Elab.async false
set_option linter.all false
set_option maxRecDepth 100000
set_option maxHeartbeats 4000000
/-! isinstance of an instance or a dict; d.update(e); the reflected name of an own operator. -/
namespace KnW
open PySem PySem.Spec PyProof.Rows L2
section
variable {X : Cx} {k : Nat} {C : Addr} {sp : Sp}
theorem rr_of {m nm : Str} {P : Program} {w : World} {K : PySem.W.Frag} {mg : Str → Option Value} {base : Heap} (c : Own P w K mg base k C m sp) (e : nm = m) : ∃ rc, PySem.W.findIn K (.ref C) nm = some rc ∧ (rc = none ∨ ∃ g : Addr, rc = some (.ref g)) := by
  subst e
  obtain ⟨f, _, _, h1, _⟩ := c.ex
  exact ⟨_, h1, .inr ⟨f, rfl⟩⟩
theorem kit_dict {K : PySem.W.Frag} {C : Addr} (c : PySem.W.isClsIn K C = true) (t : PySem.W.typeIn K (.ref C) = some (.type "type")) : PySem.W.kitOne K (.type "dict") (.ref C) = some false := by
  have ne : (Value.type "dict" == Value.ref C) = false := Bool.eq_false_iff.mpr fun q => by cases beq_iff_eq.mp q
  have sub : PySem.W.subIn K (.type "dict") (.ref C) = some false := (side_of (nm := "or") (.inl rfl) (.inl rfl)).no
  have both : ((PySem.W.clsIn K C).isSome && PySem.W.typeIn K (.ref C) == some (.type "type")) = true := by
    rw [t, show (PySem.W.clsIn K C).isSome = true from c]
    simp
  unfold PySem.W.kitOne
  rw [ne]
  refine (if_neg Bool.false_ne_true).trans ?_
  show (if ((PySem.W.clsIn K C).isSome && PySem.W.typeIn K (.ref C) == some (.type "type")) = true then PySem.W.subIn K (.type "dict") (.ref C) else none) = some false
  rw [if_pos both, sub]
def rIsCA (C : Addr) : List V → Hp → VK → Prop := fun xs H Q => (∃ a dx fs, xs = [.ref a, .ref C] ∧ H a = some (.ins C dx fs) ∧ Q (.bl true) H) ∨ ∃ a kvs, xs = [.ref a, .ref C] ∧ H a = some (.dK kvs) ∧ Q (.bl false) H
theorem call_isCA (c : C8.InsC X.K C) (nd : PySem.W.kitOne X.K (.type "dict") (.ref C) = some false) : CallR X (.builtin "isinstance") (rIsCA C) := by
  intro pins s σ H xs us Q I r h
  rcases h with ⟨a, dx, fs, rfl, ha, q⟩ | ⟨a, kvs, rfl, ha, q⟩
  · exact C8.call_isC c pins s σ H _ us Q I r ⟨a, dx, fs, rfl, ha, q⟩
  · obtain ⟨u, w', rfl, ru, rw'⟩ := vals2 r
    cases rw'
    exact isinst_ok I ru (TyOf.dK ha) nd fun tk => ⟨.bl false, H, I.tok _, rfl, q⟩
def rUpdate : V → List V → Hp → VK → Prop := fun x xs H Q => ∃ d e base more, x = .ref d ∧ xs = [.ref e] ∧ d ≠ e ∧ H d = some (.dK base) ∧ H e = some (.dK more) ∧ base.length + more.length ≤ sizeLine ∧ Q .non (upd H d (.dK (KnG.mergeFold base more)))
theorem mt_update : MtR X "dict.update" rUpdate := by
  intro pins s σ H x xs v us Q I r rs h
  obtain ⟨d, e, base, more, rfl, rfl, ne, hd, he, sz, q⟩ := h
  cases r
  obtain ⟨u, rfl, ru⟩ := vals1 rs
  cases ru
  obtain ⟨ze, hse, ve, rele, de⟩ := dk_of I.hok he
  obtain ⟨zd, hsd, vd, reld, dd⟩ := dk_of I.hok hd
  refine call_meetsIn PySem.F.slot_dict_update dd.typeIs PySem.F.entry_dict_update (PySem.F.args_dict_update_2 _ _) (meets_dict_update (mixKind X.prog X.w) d e ne hse) ⟨vd, ve, dd, de, by rw [← reld.length, ← rele.length]; exact sz, fun h' hm _ hs => ?_⟩
  have hl : (mergeK base more).length ≤ sizeLine := by
    have e1 := (KV.merge rele reld).length
    have e2 := merged_length_le vd ve
    have e3 := reld.length
    have e4 := rele.length
    omega
  exact ⟨.non, _, d_write I (by rw [hd]; exact True.intro) hs (let ⟨q, _, _, hq, _⟩ := hm; ⟨q, hq⟩) (dk_new hl hsd (KV.merge rele reld) hm), rfl, q⟩
end
end KnW

set_option Elab.async false
set_option linter.all false
set_option maxRecDepth 100000
/-! Order of texts, of ints; the states that steps reach. -/
namespace KnA
open PySem PySem.Spec PyProof.Rows
theorem lt_irr : ∀ a : List Nat, ltCps a a = false
  | [] => rfl
  | x :: r => by
    show (decide (x < x) || (x == x && ltCps r r)) = false
    rw [lt_irr r, decide_eq_false (Nat.lt_irrefl x)]; simp
theorem le_trans_ : ∀ {a b c : List Nat}, ltCps b a = false → ltCps c b = false → ltCps c a = false
  | [], [], [], _, _ => rfl
  | [], [], _ :: _, _, _ => rfl
  | [], _ :: _, [], _, h => by cases h
  | [], _ :: _, _ :: _, _, _ => rfl
  | _ :: _, [], _, h, _ => by cases h
  | _ :: _, _ :: _, [], _, h => by cases h
  | x :: r, y :: t, z :: u, h1, h2 => by
    have h1' : (decide (y < x) || (y == x && ltCps t r)) = false := h1
    have h2' : (decide (z < y) || (z == y && ltCps u t)) = false := h2
    show (decide (z < x) || (z == x && ltCps u r)) = false
    rw [Bool.or_eq_false_iff, decide_eq_false_iff_not, Bool.and_eq_false_iff, beq_eq_false_iff_ne] at h1' h2' ⊢
    refine ⟨by omega, ?_⟩
    by_cases e : z = x
    · right
      have e1 : y = x := by omega
      have e2 : z = y := by omega
      exact le_trans_ (h1'.2.resolve_left fun q => q e1) (h2'.2.resolve_left fun q => q e2)
    · exact .inl e
theorem le_anti : ∀ {a b : List Nat}, ltCps b a = false → ltCps a b = false → a = b
  | [], [], _, _ => rfl
  | [], _ :: _, _, h2 => by cases h2
  | _ :: _, [], h1, _ => by cases h1
  | x :: r, y :: t, h1, h2 => by
    have h1' : (decide (y < x) || (y == x && ltCps t r)) = false := h1
    have h2' : (decide (x < y) || (x == y && ltCps r t)) = false := h2
    rw [Bool.or_eq_false_iff, decide_eq_false_iff_not, Bool.and_eq_false_iff, beq_eq_false_iff_ne] at h1' h2'
    have e : x = y := by omega
    subst e
    rw [le_anti (h1'.2.resolve_left fun q => q rfl) (h2'.2.resolve_left fun q => q rfl)]
def leS (a b : Str) : Prop := ltCps b.cps.toList a.cps.toList = false
theorem leS_trans {a b c : Str} (h1 : leS a b) (h2 : leS b c) : leS a c := le_trans_ h1 h2
theorem str_ext {a b : Str} (h : a.cps.toList = b.cps.toList) : a = b := by
  cases a; cases b
  exact congrArg Str.mk (Array.toList_inj.mp h)
theorem leS_anti {a b : Str} (h1 : leS a b) (h2 : leS b a) : a = b := str_ext (le_anti h1 h2)
theorem rising_pair : ∀ {p : Str} {l : List Str}, risingS p l = true → (p :: l).Pairwise leS
  | p, [], _ => List.pairwise_singleton _ _
  | p, x :: r, h => by
    have h' : (!ltCps x.cps.toList p.cps.toList && risingS x r) = true := h
    rw [Bool.and_eq_true, Bool.not_eq_true'] at h'
    have ih := rising_pair h'.2
    refine List.pairwise_cons.mpr ⟨fun y hy => ?_, ih⟩
    rcases List.mem_cons.mp hy with z | z
    · rw [z]; exact h'.1
    · exact leS_trans h'.1 ((List.pairwise_cons.mp ih).1 y z)
theorem sorted_pair {l : List Str} (h : sortedS l = true) : l.Pairwise leS := by
  cases l with
  | nil => exact List.Pairwise.nil
  | cons x r => exact rising_pair h
theorem perm_sorted {α : Type} {R : α → α → Prop} (anti : ∀ {a b}, R a b → R b a → a = b) : ∀ {l m : List α}, l.Perm m → l.Pairwise R → m.Pairwise R → l = m
  | [], m, p, _, _ => (List.Perm.nil_eq p)
  | x :: l, [], p, _, _ => absurd p.length_eq (by simp)
  | x :: l, y :: m, p, h1, h2 => by
    have e : x = y := by
      have hx : x ∈ y :: m := p.mem_iff.mp List.mem_cons_self
      have hy : y ∈ x :: l := p.mem_iff.mpr List.mem_cons_self
      rcases List.mem_cons.mp hx with z | z
      · exact z
      · rcases List.mem_cons.mp hy with z' | z'
        · exact z'.symm
        · exact anti ((List.pairwise_cons.mp h1).1 y z') ((List.pairwise_cons.mp h2).1 x z)
    subst e
    rw [perm_sorted anti (List.perm_cons x |>.mp p) (List.pairwise_cons.mp h1).2 (List.pairwise_cons.mp h2).2]
theorem nodup_perm {α : Type} [DecidableEq α] {l m : List α} (h1 : l.Nodup) (h2 : m.Nodup) (h : ∀ x, x ∈ l ↔ x ∈ m) : l.Perm m := (List.perm_ext_iff_of_nodup h1 h2).mpr h
/-- the sorted list of these texts, each once -/
structure Words (ys : List Str) (xs : List Str) : Prop where
  up : ys.Pairwise leS
  nd : ys.Nodup
  mem : ∀ x, x ∈ ys ↔ x ∈ xs
theorem Words.uniq {ys zs xs : List Str} (a : Words ys xs) (b : Words zs xs) : ys = zs :=
  perm_sorted leS_anti (nodup_perm a.nd b.nd fun x => (a.mem x).trans (b.mem x).symm) a.up b.up
/-! ### states -/
abbrev Stp := Int × Str × Int
inductive Reach (ss : List Stp) (s0 : Int) : Int → Prop where
  | start : Reach ss s0 s0
  | step {x : Int} {w : Str} {y : Int} (h : Reach ss s0 x) (m : (x, w, y) ∈ ss) : Reach ss s0 y
structure States (ns : List Int) (ss : List Stp) (s0 : Int) : Prop where
  up : ns.Pairwise (· < ·)
  mem : ∀ x, x ∈ ns ↔ Reach ss s0 x
theorem States.uniq {a b : List Int} {ss : List Stp} {s0 : Int} (h : States a ss s0) (k : States b ss s0) : a = b := by
  have nd : ∀ {l : List Int}, l.Pairwise (· < ·) → l.Nodup := fun p => p.imp fun h e => by omega
  exact perm_sorted (R := fun x y : Int => x < y) (fun h1 h2 => by omega) (nodup_perm (nd h.up) (nd k.up) fun x => (h.mem x).trans (k.mem x).symm) h.up k.up
theorem lt_of_le {l : List Int} (h : l.Pairwise (· ≤ ·)) (d : l.Nodup) : l.Pairwise (· < ·) := by
  induction l with
  | nil => exact List.Pairwise.nil
  | cons x r ih =>
    obtain ⟨h1, h2⟩ := List.pairwise_cons.mp h
    obtain ⟨d1, d2⟩ := List.nodup_cons.mp d
    refine List.pairwise_cons.mpr ⟨fun y hy => ?_, ih h2 d2⟩
    have := h1 y hy
    have ne : x ≠ y := fun e => d1 (e ▸ hy)
    omega
/-- closed under the steps, from the start, and nothing else -/
theorem reach_of {ss : List Stp} {s0 : Int} {l : List Int} (h0 : s0 ∈ l) (hc : ∀ x w y, x ∈ l → (x, w, y) ∈ ss → y ∈ l) (hr : ∀ x ∈ l, Reach ss s0 x) (x : Int) : x ∈ l ↔ Reach ss s0 x := by
  refine ⟨hr x, fun h => ?_⟩
  induction h with
  | start => exact h0
  | step _ m ih => exact hc _ _ _ ih m
end KnA

set_option Elab.async false
set_option linter.all false
set_option maxRecDepth 100000
set_option maxHeartbeats 4000000
/-! xs[::-1] of a list. -/
namespace KnR
open PySem PySem.Spec PyProof.Rows L2
theorem pick_rev (its : List Value) : slicePick its.toArray none none (some (-1)) = its.reverse.toArray := by
  unfold slicePick
  have b : sliceBounds none none (some (-1)) its.toArray.size = ((its.length : Int) - 1, -1, -1) := by
    unfold sliceBounds
    simp
  rw [b]
  refine congrArg List.toArray ?_
  show (sliceRange ((its.length : Int) - 1) (-1) (-1)).filterMap (its.toArray[·]?) = its.reverse
  have r : sliceRange ((its.length : Int) - 1) (-1) (-1) = (List.range its.length).map fun k => its.length - 1 - k := by
    unfold sliceRange
    have c : (if (-1 : Int) > 0 then (if (its.length : Int) - 1 < -1 then (-1 - ((its.length : Int) - 1) + -1 - 1) / -1 else 0) else (if (its.length : Int) - 1 > -1 then ((its.length : Int) - 1 - -1 - -1 - 1) / (- -1) else 0)) = (its.length : Int) := by
      rw [if_neg (by decide)]
      by_cases h : (its.length : Int) - 1 > -1
      · rw [if_pos h]
        have : (- -1 : Int) = 1 := rfl
        rw [this, Int.ediv_one]
        omega
      · rw [if_neg h]; omega
    show (List.range (Int.toNat _)).map _ = _
    rw [c, Int.toNat_natCast]
    refine List.map_congr_left fun k hk => ?_
    have := List.mem_range.mp hk
    omega
  rw [r, List.filterMap_map]
  refine List.ext_getElem? fun i => ?_
  have all : ∀ n, n ≤ its.length → ((List.range n).filterMap ((fun x : Nat => its.toArray[x]?) ∘ fun k => its.length - 1 - k)) = its.reverse.take n := by
    intro n
    induction n with
    | zero => intro _; rfl
    | succ n ih =>
      intro h
      have hk : its.length - 1 - n < its.length := by omega
      have e : its.toArray[its.length - 1 - n]? = some its[its.length - 1 - n] := by
        rw [List.getElem?_toArray, List.getElem?_eq_getElem hk]
      rw [List.range_succ, List.filterMap_append, ih (by omega), List.take_add_one]
      refine congrArg (its.reverse.take n ++ ·) ?_
      have g : its.reverse[n]? = some its[its.length - 1 - n] := by
        rw [List.getElem?_reverse (by omega), List.getElem?_eq_getElem hk]
      rw [g, List.filterMap_cons, List.filterMap_nil]
      have e2 : ((fun x : Nat => its.toArray[x]?) ∘ fun k => its.length - 1 - k) n = some its[its.length - 1 - n] := e
      rw [e2]; rfl
  rw [all its.length (Nat.le_refl _), List.take_of_length_le (by rw [List.length_reverse]; exact Nat.le_refl _)]
def tRev (K : PySem.W.Frag) (te : TE) (ts : TO) : TE := fun σ H Q => te σ H fun x H1 => ts σ H1 fun o H2 => ∃ a xs, x = .ref a ∧ o = some (-1) ∧ SqL K H2 a xs ∧ ∀ p, H2 p = none → Q (.ref p) (upd H2 p (.lst xs.reverse))
section
variable {X : Cx} {e st : Expr} {te ts : TE} {p2 pos : Pos}
theorem pe_rev (he : PE X e te) (hs : PE X st ts) : PE X (.Subscript e (.Slice none none (some st) p2) pos) (tRev X.K te (tPart ts)) := by
  refine ⟨fun pins s σ H Q I h => ?_⟩
  refine Subscript_ (thn (he.run pins s σ H _ I h) fun v s1 ⟨x, H1, I1, r1, q1⟩ => ?_)
  have po : PO X (some st) (tPart ts) := po_some hs
  refine wpAny_Slice ?_
  rw [evalPart_none]
  refine wpAny_pure (wpAny_pure ?_)
  refine thn (po.run pins s1 σ H1 _ I1 q1) fun vk s3 ⟨o, H3, I3, pk, a, xs, ex, eo, hx, q3⟩ => ?_
  subst ex eo
  cases r1
  have I4 : Inv X pins σ H3 { s3 with heap := s3.heap.push { cls := .type "slice", data := .fields #[.none, .none, vk] } } := I3.kept (t' := s3.toks) fun b ob q => Heap.get?_push_of_some _ q
  obtain ⟨its, r, ht, hz⟩ := I4.list hx
  have hlen := r.length
  have hg : wpAny (model X.prog X.w) X.A (getItem (.ref a) (.ref s3.heap.objs.size)) (EP X pins σ Q) X.xe { s3 with heap := s3.heap.push { cls := .type "slice", data := .fields #[.none, .none, vk] } } := by
    refine wpAny_getItem_list_slice ht.isList (Heap.IsSliceOf.new ..) .none .none pk (by simp) ?_ (by rw [List.size_toArray]; omega)
    rw [pick_rev]
    refine ⟨.ref _, _, I4.laid (t' := s3.toks) (o := .lst xs.reverse) (fun b ob q => Heap.get?_push_of_some _ q) (Nat.le_refl _) ?_, rfl, q3 _ (I4.hok.fresh (Nat.le_refl _))⟩
    exact ⟨by rw [List.length_reverse]; exact hz, _, 0, r.reverse, Heap.get?_push_size _ rfl⟩
  show wpAny (model X.prog X.w) X.A (subscriptTail e (.Slice none none (some st) p2) (.ref a) (.ref s3.heap.objs.size)) (EP X pins σ Q) X.xe { s3 with heap := s3.heap.push { cls := .type "slice", data := .fields #[.none, .none, vk] } }
  exact tail_any (ops := [.ref a, .ref s3.heap.objs.size]) ht.isList.typeIs slot_list_getitem.lookup hg (by with_unfolding_all rfl)
end
end KnR

set_option Elab.async false
set_option linter.all false
set_option maxRecDepth 100000
set_option maxHeartbeats 4000000
/-! A def that has defaults, all of its arguments given. -/
namespace KnD
open PySem PySem.Spec PyProof.Rows L2
structure FunX (K : PySem.W.Frag) (x qual : Str) (st : Stmt) (f : Addr) (fd : FuncData) : Prop where
  ex : ∃ (oc : Value) (od : Option Addr) (dV kV doc pm : Value) (an : Option Addr) (cdv ct : Value) (osl : Array (Option Value)),
    fd = PySem.W.fnOf x qual (defArgs st) (defBody st) (defScope st) dV kV doc pm an cdv ct ∧ K.lookup f = some ⟨oc, od, .func fd, osl⟩ ∧ PySem.W.codeIn K cdv qual = true
section
variable {P : Program} {w : World} {K : PySem.W.Frag} {mg : Str → Option Value} {base : Heap}
theorem FunX.ok {x qual : Str} {st : Stmt} {f : Addr} {fd : FuncData} {N ps : List Str} {k : Nat} {sp : Sp} (F : FunX K x qual st f fd) (S : FnScope N ps (defScope st)) (len : ∀ vs H Q E, sp vs H Q E → vs.length = ps.length)
    (hbody : ∀ (cdv : Value) (A : Around) (outer : List Env) (s : Shared) (H : Hp) (vs : List V) (Q : VK) (E : XK), Room k (A.deeper (envOfC qual (defScope st) s.heap.objs.size f cdv)) → sp vs H Q E →
      ∃ t, PSs (cxOf CX0 P w K mg base N qual (defScope st) f cdv A outer s H E).nox (defBody st) t ∧ t { nx := fun _ H' => Q .non H', rt := Q } (start N vs) H) : FnOk P w K mg base CX0 (k + 1) f fd ps sp := by
  obtain ⟨oc, od, dV, kV, doc, pm, an, cdv, ct, osl, rfl, lk, hcd⟩ := F.ex
  refine fn_of lk hcd S len fun A outer s H vs Q E hr hsp => ?_
  obtain ⟨t, h, q⟩ := hbody cdv A outer s H vs Q E hr hsp
  exact ⟨t, h.nox, q⟩
/-- .. that may raise -/
theorem FunX.okX {x qual : Str} {st : Stmt} {f : Addr} {fd : FuncData} {N ps : List Str} {k : Nat} {sp : Sp} (F : FunX K x qual st f fd) (S : FnScope N ps (defScope st)) (len : ∀ vs H Q E, sp vs H Q E → vs.length = ps.length)
    (hbody : ∀ (cdv : Value) (A : Around) (outer : List Env) (s : Shared) (H : Hp) (vs : List V) (Q : VK) (E : XK), Room k (A.deeper (envOfC qual (defScope st) s.heap.objs.size f cdv)) → sp vs H Q E →
      ∃ t, PSs (cxOf (L2.CX P w) P w K mg base N qual (defScope st) f cdv A outer s H E) (defBody st) t ∧ t { nx := fun _ H' => Q .non H', rt := Q } (start N vs) H) : FnOk P w K mg base (L2.CX P w) (k + 1) f fd ps sp := by
  obtain ⟨oc, od, dV, kV, doc, pm, an, cdv, ct, osl, rfl, lk, hcd⟩ := F.ex
  exact fn_of lk hcd S len fun A outer s H vs Q E hr hsp => hbody cdv A outer s H vs Q E hr hsp
theorem binds_full {x qual : Str} {st : Stmt} {f T : Addr} {oc : Value} {od an : Option Addr} {osl : Array (Option Value)} {kV doc pm cdv ct : Value} {to : Obj} {tn : Nat} {its : List Value} {dvs : List V} {ps : List Str}
    (l : K.lookup f = some ⟨oc, od, .func (PySem.W.fnOf x qual (defArgs st) (defBody st) (defScope st) (.ref T) kV doc pm an cdv ct), osl⟩) (c : PySem.W.codeIn K cdv qual = true) (k : PySem.W.keepIn K (.ref f) = true)
    (lT : K.lookup T = some to) (oT : to.data = .seq its.toArray tn) (rT : Vals dvs its) (hd : dvs ≠ [])
    (h : ∀ (T : Addr) (kV doc pm : Value) (an : Option Addr) (cdv ct : Value) (us its : List Value), us.length = ps.length → its.length = dvs.length →
      ∃ k, bindArgs (PySem.W.fnOf x qual (defArgs st) (defBody st) (defScope st) (.ref T) kV doc pm an cdv ct) ⟨us, []⟩ = seqItems? (.ref T) >>= k ∧ k (some its.toArray) = pure (ps.zip (us ++ its.drop dvs.length))) : Binds K (PySem.W.fnOf x qual (defArgs st) (defBody st) (defScope st) (.ref T) kV doc pm an cdv ct) ps [] := by
  have F : FunD K x qual (defArgs st) (defBody st) (defScope st) dvs [] f (PySem.W.fnOf x qual (defArgs st) (defBody st) (defScope st) (.ref T) kV doc pm an cdv ct) :=
    ⟨⟨oc, od, .ref T, kV, doc, pm, an, cdv, ct, osl, rfl, l, c, .inr ⟨hd, T, to, its, tn, rfl, lT, oT, rT⟩, .inl rfl⟩, k⟩
  obtain ⟨ds, v, b⟩ := FunD.binds1 F (ps := ps) ps.length dvs.length hd (by omega) h
  rw [List.drop_length] at v
  cases v
  exact b
end
end KnD

set_option Elab.async false
set_option linter.all false
set_option maxRecDepth 100000
set_option maxHeartbeats 4000000
namespace Kn
open PySem PySem.Spec PyProof.Rows L2
open C8 (Cal pe_c pe_gc Mak pe_mk)
def topS (i : Nat) : Stmt := PySem.Challenge.pw_knownlate_k12_joining_watches.main.body.getD i (.Pass ⟨0, 0, 0, 0⟩)
abbrev s__law_mix : Stmt := topS 17
theorem sc__law_mix : FnScope ["_law_cell_here", "_law_k", "_law_number"] ["_law_cell_here", "_law_k"] (defScope s__law_mix) := ⟨rfl, rfl, rfl, by decide +kernel, rfl, by decide +kernel, by decide +kernel⟩
abbrev s__law_row : Stmt := topS 19
theorem sc__law_row : FnScope ["_law_cell_here", "_law_sizes", "_law_row_here", "_law_rest", "_law_k"] ["_law_cell_here", "_law_sizes"] (defScope s__law_row) := ⟨rfl, rfl, rfl, by decide +kernel, rfl, by decide +kernel, by decide +kernel⟩
abbrev s__law_names : Stmt := topS 20
theorem sc__law_names : FnScope ["_law_cell_here", "_law_many", "_law_row_here", "_law_names_here", "_law_k", "_law_own", "_law_text", "_law_at", "_law_letter", "_law_digit"] ["_law_cell_here", "_law_many"] (defScope s__law_names) := ⟨rfl, rfl, rfl, by decide +kernel, rfl, by decide +kernel, by decide +kernel⟩
abbrev s__law_cell : Stmt := topS 18
theorem sc__law_cell : FnScope ["_law_script", "_law_k"] ["_law_script", "_law_k"] (defScope s__law_cell) := ⟨rfl, rfl, rfl, by decide +kernel, rfl, by decide +kernel, by decide +kernel⟩
abbrev s__law_table : Stmt := topS 23
theorem sc__law_table : FnScope ["_law_row_here", "_law_names_here", "_law_table_here", "_law_k"] ["_law_row_here", "_law_names_here"] (defScope s__law_table) := ⟨rfl, rfl, rfl, by decide +kernel, rfl, by decide +kernel, by decide +kernel⟩
abbrev s_is_name : Stmt := topS 8
theorem sc_is_name : FnScope ["value", "letter"] ["value"] (defScope s_is_name) := ⟨rfl, rfl, rfl, by decide +kernel, rfl, by decide +kernel, by decide +kernel⟩
abbrev s_is_sights : Stmt := topS 12
theorem sc_is_sights : FnScope ["value", "word", "sight"] ["value"] (defScope s_is_sights) := ⟨rfl, rfl, rfl, by decide +kernel, rfl, by decide +kernel, by decide +kernel⟩
abbrev s_Watch_init : Stmt := inClass (topS 11) 0
theorem sc_Watch_init : FnScope ["self", "sights"] ["self", "sights"] (defScope s_Watch_init) := ⟨rfl, rfl, rfl, by decide +kernel, rfl, by decide +kernel, by decide +kernel⟩
abbrev s__law_is_integer : Stmt := topS 21
theorem sc__law_is_integer : FnScope ["_law_thing"] ["_law_thing"] (defScope s__law_is_integer) := ⟨rfl, rfl, rfl, by decide +kernel, rfl, by decide +kernel, by decide +kernel⟩
abbrev s__law_exact : Stmt := topS 22
theorem sc__law_exact : FnScope ["_law_told", "_law_due", "_law_k"] ["_law_told", "_law_due"] (defScope s__law_exact) := ⟨rfl, rfl, rfl, by decide +kernel, rfl, by decide +kernel, by decide +kernel⟩
abbrev s_Watch_sights : Stmt := inClass (topS 11) 16
theorem sc_Watch_sights : FnScope ["self"] ["self"] (defScope s_Watch_sights) := ⟨rfl, rfl, rfl, by decide +kernel, rfl, by decide +kernel, by decide +kernel⟩
abbrev s_Watch_words : Stmt := inClass (topS 11) 15
theorem sc_Watch_words : FnScope ["self"] ["self"] (defScope s_Watch_words) := ⟨rfl, rfl, rfl, by decide +kernel, rfl, by decide +kernel, by decide +kernel⟩
abbrev s_Watch_len : Stmt := inClass (topS 11) 5
theorem sc_Watch_len : FnScope ["self"] ["self"] (defScope s_Watch_len) := ⟨rfl, rfl, rfl, by decide +kernel, rfl, by decide +kernel, by decide +kernel⟩
abbrev s_Watch_getitem : Stmt := inClass (topS 11) 2
theorem sc_Watch_getitem : FnScope ["self", "at"] ["self", "at"] (defScope s_Watch_getitem) := ⟨rfl, rfl, rfl, by decide +kernel, rfl, by decide +kernel, by decide +kernel⟩
abbrev s__law_is : Stmt := topS 24
theorem sc__law_is : FnScope ["_law_watch", "_law_table_here", "_law_word", "_law_sights"] ["_law_watch", "_law_table_here"] (defScope s__law_is) := ⟨rfl, rfl, rfl, by decide +kernel, rfl, by decide +kernel, by decide +kernel⟩
abbrev s_Watch_setitem : Stmt := inClass (topS 11) 3
theorem sc_Watch_setitem : FnScope ["self", "at", "worth"] ["self", "at", "worth"] (defScope s_Watch_setitem) := ⟨rfl, rfl, rfl, by decide +kernel, rfl, by decide +kernel, by decide +kernel⟩
abbrev s__law_own_table : Stmt := topS 28
theorem sc__law_own_table : FnScope ["_law_left", "_law_names_here", "_law_handed", "_law_made"] ["_law_left", "_law_names_here"] (defScope s__law_own_table) := ⟨rfl, rfl, rfl, by decide +kernel, rfl, by decide +kernel, by decide +kernel⟩
abbrev s__law_join : Stmt := topS 25
theorem sc__law_join : FnScope ["_law_first", "_law_second", "_law_table_here"] ["_law_first", "_law_second"] (defScope s__law_join) := ⟨rfl, rfl, rfl, by decide +kernel, rfl, by decide +kernel, by decide +kernel⟩
abbrev s__law_share : Stmt := topS 26
theorem sc__law_share : FnScope ["_law_first", "_law_second", "_law_table_here", "_law_word"] ["_law_first", "_law_second"] (defScope s__law_share) := ⟨rfl, rfl, rfl, by decide +kernel, rfl, by decide +kernel, by decide +kernel⟩
abbrev s__law_less : Stmt := topS 27
theorem sc__law_less : FnScope ["_law_first", "_law_words", "_law_table_here", "_law_word"] ["_law_first", "_law_words"] (defScope s__law_less) := ⟨rfl, rfl, rfl, by decide +kernel, rfl, by decide +kernel, by decide +kernel⟩
abbrev s_sights_of_side : Stmt := topS 14
theorem sc_sights_of_side : FnScope ["value"] ["value"] (defScope s_sights_of_side) := ⟨rfl, rfl, rfl, by decide +kernel, rfl, by decide +kernel, by decide +kernel⟩
abbrev s_Watch_or : Stmt := inClass (topS 11) 8
theorem sc_Watch_or : FnScope ["self", "other", "sights"] ["self", "other"] (defScope s_Watch_or) := ⟨rfl, rfl, rfl, by decide +kernel, rfl, by decide +kernel, by decide +kernel⟩
abbrev s_Watch_ror : Stmt := inClass (topS 11) 9
theorem sc_Watch_ror : FnScope ["self", "other", "sights"] ["self", "other"] (defScope s_Watch_ror) := ⟨rfl, rfl, rfl, by decide +kernel, rfl, by decide +kernel, by decide +kernel⟩
abbrev s_shared_sights : Stmt := topS 15
theorem sc_shared_sights : FnScope ["one", "other", "word", "sight"] ["one", "other"] (defScope s_shared_sights) := ⟨rfl, rfl, rfl, by decide +kernel, rfl, by decide +kernel, by decide +kernel⟩
abbrev s_Watch_and : Stmt := inClass (topS 11) 10
theorem sc_Watch_and : FnScope ["self", "other"] ["self", "other"] (defScope s_Watch_and) := ⟨rfl, rfl, rfl, by decide +kernel, rfl, by decide +kernel, by decide +kernel⟩
abbrev s_Watch_rand : Stmt := inClass (topS 11) 11
theorem sc_Watch_rand : FnScope ["self", "other"] ["self", "other"] (defScope s_Watch_rand) := ⟨rfl, rfl, rfl, by decide +kernel, rfl, by decide +kernel, by decide +kernel⟩
abbrev s_is_row : Stmt := topS 9
theorem sc_is_row : FnScope ["value"] ["value"] (defScope s_is_row) := ⟨rfl, rfl, rfl, by decide +kernel, rfl, by decide +kernel, by decide +kernel⟩
abbrev s_check_words : Stmt := topS 13
theorem sc_check_words : FnScope ["words", "word"] ["words"] (defScope s_check_words) := ⟨rfl, rfl, rfl, by decide +kernel, rfl, by decide +kernel, by decide +kernel⟩
abbrev s_Watch_sub : Stmt := inClass (topS 11) 12
theorem sc_Watch_sub : FnScope ["self", "other", "word", "sight"] ["self", "other"] (defScope s_Watch_sub) := ⟨rfl, rfl, rfl, by decide +kernel, rfl, by decide +kernel, by decide +kernel⟩
abbrev s_Watch_ior : Stmt := inClass (topS 11) 13
theorem sc_Watch_ior : FnScope ["self", "other", "changed"] ["self", "other"] (defScope s_Watch_ior) := ⟨rfl, rfl, rfl, by decide +kernel, rfl, by decide +kernel, by decide +kernel⟩
abbrev s_Watch_isub : Stmt := inClass (topS 11) 14
theorem sc_Watch_isub : FnScope ["self", "other", "changed"] ["self", "other"] (defScope s_Watch_isub) := ⟨rfl, rfl, rfl, by decide +kernel, rfl, by decide +kernel, by decide +kernel⟩
abbrev s_Watch_copy : Stmt := inClass (topS 11) 17
theorem sc_Watch_copy : FnScope ["self"] ["self"] (defScope s_Watch_copy) := ⟨rfl, rfl, rfl, by decide +kernel, rfl, by decide +kernel, by decide +kernel⟩
abbrev s_law : Stmt := topS 29
theorem sc_law : FnScope ["_law_script", "_law_names_here", "_law_left", "_law_right", "_law_row_here", "_law_words", "_law_given", "_law_one", "_law_other", "_law_join_here", "_law_share_here", "_law_told", "_law_same", "_law_kept", "_law_twin", "_law_digit"] ["_law_script"] (defScope s_law) := ⟨rfl, rfl, rfl, by decide +kernel, rfl, by decide +kernel, by decide +kernel⟩
structure Txt (K : PySem.W.Frag) (mg : Str → Option Value) (D : Addr) : Prop where
  m_all : mg "all" = none
  m_bool : mg "bool" = none
  m_dict : mg "dict" = none
  m_int : mg "int" = none
  m_isinstance : mg "isinstance" = none
  m_len : mg "len" = none
  m_list : mg "list" = none
  m_range : mg "range" = none
  m_set : mg "set" = none
  m_sorted : mg "sorted" = none
  m_str : mg "str" = none
  m_tuple : mg "tuple" = none
  c_LONGEST_NAME : ∃ u, mg "LONGEST_NAME" = some u ∧ RelV (.int 12) u
  c_LETTERS : ∃ u, mg "LETTERS" = some u ∧ RelV (.str "abcdefghijklmnopqrstuvwxyz") u
  cl_Watch : Cls K D
  g_Watch : mg "Watch" = some (.ref D)
  ins_Watch : C8.InsC K D
  n__sights : NoAttr K D "_sights"
  sf_Watch : PySem.W.selfFirst K D = true
  nq_Watch : PySem.W.noSeq K D = true
  nsd_Watch : PySem.W.subIn K (.ref D) (.type "dict") = some false
  isd_Watch : PySem.W.kitOne K (.type "dict") (.ref D) = some false
  nrs_Watch : PySem.W.findIn K (.ref D) "__rsub__" = some none
theorem szl {α : Type} {l : List α} (h : Nat.ble l.length 100000 = true) : l.length ≤ sizeLine := smallE (Nat.le_of_ble_eq_true h)
/-! ### values -/
inductive Val (K : PySem.W.Frag) (H : Hp) : V → Prop where
  | non : Val K H .non
  | bl (b : Bool) : Val K H (.bl b)
  | int (i : Int) : Val K H (.int i)
  | str (z : Str) (h : z.cps.size ≤ 100) : Val K H (.str z)
  | lst {a : Addr} {xs : List V} (e : H a = some (.lst xs)) : Val K H (.ref a)
  | tup {a : Addr} {xs : List V} (e : H a = some (.tup xs)) : Val K H (.ref a)
  | dK {a : Addr} {kvs : List (Key × V)} (e : H a = some (.dK kvs)) : Val K H (.ref a)
theorem Val.mono {K : PySem.W.Frag} {H H' : Hp} {v : V} (h : Val K H v) (s : Same H H') : Val K H' v := by
  cases h with
  | non => exact .non
  | bl b => exact .bl b
  | int i => exact .int i
  | str z h => exact .str z h
  | lst e => exact .lst (s _ _ e)
  | tup e => exact .tup (s _ _ e)
  | dK e => exact .dK (s _ _ e)
def isS : V → Bool
  | .str _ => true
  | _ => false
def isI : V → Bool
  | .int _ => true
  | .bl _ => true
  | _ => false
def isB : V → Bool
  | .bl _ => true
  | _ => false
theorem Val.ty {K : PySem.W.Frag} {H : Hp} {v : V} (h : Val K H v) : ∃ t, TyX K H v t ∧ PySem.W.kitOne K t (.type "str") = some (isS v) ∧ PySem.W.kitOne K t (.type "int") = some (isI v) ∧ PySem.W.kitOne K t (.type "bool") = some (isB v) := by
  cases h with
  | non => exact ⟨_, .base .non, kit_ty (show kitB "NoneType" "str" = some false by decide +kernel), kit_ty (show kitB "NoneType" "int" = some false by decide +kernel), kit_ty (show kitB "NoneType" "bool" = some false by decide +kernel)⟩
  | bl b => exact ⟨_, .base (.bl b), kit_ty (show kitB "bool" "str" = some false by decide +kernel), kit_ty (show kitB "bool" "int" = some true by decide +kernel), kit_ty (show kitB "bool" "bool" = some true by decide +kernel)⟩
  | int i => exact ⟨_, .base (.int i), kit_ty (show kitB "int" "str" = some false by decide +kernel), kit_ty (show kitB "int" "int" = some true by decide +kernel), kit_ty (show kitB "int" "bool" = some false by decide +kernel)⟩
  | str z h => exact ⟨_, .base (.str z), kit_ty (show kitB "str" "str" = some true by decide +kernel), kit_ty (show kitB "str" "int" = some false by decide +kernel), kit_ty (show kitB "str" "bool" = some false by decide +kernel)⟩
  | lst e => exact ⟨_, .base (.lst e), kit_ty (show kitB "list" "str" = some false by decide +kernel), kit_ty (show kitB "list" "int" = some false by decide +kernel), kit_ty (show kitB "list" "bool" = some false by decide +kernel)⟩
  | tup e => exact ⟨_, .base (.tup e), kit_ty (show kitB "tuple" "str" = some false by decide +kernel), kit_ty (show kitB "tuple" "int" = some false by decide +kernel), kit_ty (show kitB "tuple" "bool" = some false by decide +kernel)⟩
  | dK e => exact ⟨_, .base (.dK e), kit_ty (show kitB "dict" "str" = some false by decide +kernel), kit_ty (show kitB "dict" "int" = some false by decide +kernel), kit_ty (show kitB "dict" "bool" = some false by decide +kernel)⟩
/-! ### what is computed -/
def letters : Str := "abcdefghijklmnopqrstuvwxyz"
def inL (c : Nat) : Bool := decide (c ∈ letters.cps.toList)
def nameB : V → Bool
  | .str z => decide (1 ≤ z.cps.size) && decide (z.cps.size ≤ 12) && z.cps.toList.all inL
  | _ => false
def wholeB (v : V) : Bool := isI v && !isB v
def stateB : V → Bool
  | .int i => decide (0 ≤ i) && decide (i ≤ 99)
  | _ => false
/-! ### promises -/
def spPure (g : V → Bool) (K : PySem.W.Frag) : Sp := fun vs H Q _ => ∃ v, vs = [v] ∧ Val K H v ∧ ∀ H', Same H H' → Q (.bl (g v)) H'
def sp_is_name := spPure nameB
def sp__law_is_name := spPure nameB
def sp_is_whole := spPure wholeB
def sp__law_is_integer := spPure wholeB
def sp_is_state := spPure stateB
def sp__law_is_state := spPure stateB
def sp__law_flag (_ : PySem.W.Frag) : Sp := fun vs H Q _ => ∃ a b, vs = [.bl a, .bl b] ∧ Q (.bl (decide (a = b))) H
def sp__law_mix (_ : PySem.W.Frag) : Sp := fun vs H Q _ => ∃ c k : Int, vs = [.int c, .int k] ∧ ∀ r : Int, 0 ≤ r → r < 2147483399 → Q (.int r) H
def sp__law_cell (K : PySem.W.Frag) : Sp := fun vs H Q _ => ∃ (a : Addr) (ns : List Int) (k : Nat), vs = [.ref a, .int (k : Int)] ∧ SqL K H a (ns.map V.int) ∧ ∀ r : Int, Q (.int r) H
def sp__law_row (K : PySem.W.Frag) : Sp := fun vs H Q _ => ∃ (c : Int) (b : Addr) (ss : List Int), vs = [.int c, .ref b] ∧ SqL K H b (ss.map V.int) ∧ ss.length ≤ 1000 ∧ (∀ s ∈ ss, 0 < s ∧ s < 1073741824) ∧
  ∀ H' p (rs : List Int), Same H H' → H p = none → H' p = some (.lst (rs.map V.int)) → rs.length = ss.length → (∀ (i : Nat) (r s : Int), rs[i]? = some r → ss[i]? = some s → 0 ≤ r ∧ r < s) → Q (.ref p) H'
def sp__law_deep (_ : PySem.W.Frag) : Sp := fun vs H Q _ => ∃ m : Int, vs = [.int m] ∧ 0 ≤ m ∧ m < 100000 ∧ ∀ H' p xs, Same H H' → H p = none → H' p = some (.lst xs) → Q (.ref p) H'
def sp__law_thing (K : PySem.W.Frag) : Sp := fun vs H Q _ => ∃ d : Int, vs = [.int d] ∧ ∀ v H', Same H H' → Val K H' v → Q v H'
def sp__law_text (_ : PySem.W.Frag) : Sp := fun vs H Q _ => ∃ c : Int, vs = [.int c] ∧ ∀ (z : Str) H', Same H H' → z.cps.size ≤ 100 → Q (.str z) H'
def sp_law (K : PySem.W.Frag) : Sp := fun vs H Q _ => ∃ (a : Addr) (ns : List Int), vs = [.ref a] ∧ SqL K H a (ns.map V.int) ∧ ns.length ≤ 63 ∧ ∀ H', Q (.bl true) H'
section
variable {P : Program} {w : World} {K : PySem.W.Frag} {mg : Str → Option Value} {base : Heap}

theorem nameB_out {z : Str} (h : ¬ (1 ≤ z.cps.size ∧ z.cps.size ≤ 12)) : nameB (.str z) = false := by
  show (decide (1 ≤ z.cps.size) && decide (z.cps.size ≤ 12) && z.cps.toList.all inL) = false
  by_cases a : 1 ≤ z.cps.size
  · rw [decide_eq_false (p := z.cps.size ≤ 12) (fun b => h ⟨a, b⟩), Bool.and_false]; rfl
  · rw [decide_eq_false a]; rfl
theorem nameB_in {z : Str} (h1 : 1 ≤ z.cps.size) (h2 : z.cps.size ≤ 12) : nameB (.str z) = z.cps.toList.all inL := by
  show (decide (1 ≤ z.cps.size) && decide (z.cps.size ≤ 12) && z.cps.toList.all inL) = _
  rw [decide_eq_true h1, decide_eq_true h2]; rfl
theorem nameB_not {v : V} (h : isS v = false) : nameB v = false := by
  cases v <;> first | rfl | cases h
theorem isS_str {v : V} (h : isS v = true) : ∃ z, v = .str z := by
  cases v <;> first | exact ⟨_, rfl⟩ | cases h
theorem Val.size {K : PySem.W.Frag} {H : Hp} {z : Str} (h : Val K H (.str z)) : z.cps.size ≤ 100 := by
  cases h with
  | str _ h => exact h

theorem ok_is_name {f : Addr} {D : Addr} {fd : FuncData} (T : Txt K mg D) (F : Fun K "is_name" "is_name" s_is_name f fd)  : FnOk P w K mg base CX0 1 f fd ["value"] (sp_is_name K) := by
  have nd := sc_is_name.nd
  refine F.ok sc_is_name (fun vs H Q E h => ?_) (fun cdv A outer s H vs Q E hr h => ?_)
  · obtain ⟨v, rfl, _⟩ := h
    rfl
  · obtain ⟨v, rfl, hv, q⟩ := h
    refine ⟨_, (pss_cons (ps_if (PW.pt (pw_or (pt_not (pt_val (pe_callB call_isi (by rfl) T.m_isinstance (by decide +kernel) (pa_cons (pv 0) (pa_cons (pe_bltn (v := .ty "str") (u := .type "str") (by rfl) T.m_str (by decide +kernel) rfl) pa_nil))))) (pw_or1 (pt_not (pt_chain op_le op_le pe_int (pe_callB call_len (by rfl) T.m_len (by decide +kernel) (pa_cons (pv 0) pa_nil)) (pe_gc (by rfl) T.c_LONGEST_NAME)))))) (pss_one (ps_ret pe_bl)) pss_nil)
      (pss_one (ps_ret (pe_callB (cr_all rfl) (by rfl) T.m_all (by decide +kernel) (pa_cons (pe_lc (own := [("letter", 1)]) (g := gName 1) (tt := tYes) rfl nd (pi_str (pv 0)) (blkOk_by (N := ["value", "letter"]) (sc := defScope s_is_name) (by decide +kernel)) (fun _ _ _ _ _ => (pg_name (i := 1) nd rfl (.inl rfl))) (fun _ _ _ _ _ => pts_nil) (fun _ _ _ _ _ => (pe_cmpR op_in_sign (pv 1) (pe_gc (by rfl) T.c_LETTERS) (by with_unfolding_all rfl)))) pa_nil))))), ?_⟩
    obtain ⟨t, ht, hs, hi, hb⟩ := hv.ty
    refine ⟨v, rfl, v, .ty "str", t, _, isS v, rfl, .ty _, ht, hs, _, rfl, ?_⟩
    cases e : isS v with
    | false =>
      refine iteT ?_
      have q' := q H (Same.refl H)
      rw [nameB_not e] at q'
      exact q'
    | true =>
      obtain ⟨z, rfl⟩ := isS_str e
      have hz := hv.size
      refine iteF ⟨.str z, rfl, .str z, z.cps.size, rfl, ⟨smallE (show z.cps.size ≤ 100000 by omega), rfl⟩, 1, (z.cps.size : Int), rfl, rfl, _, rfl, ?_⟩
      by_cases a : 1 ≤ z.cps.size
      · rw [decide_eq_true (show (1 : Int) ≤ (z.cps.size : Int) by omega)]
        refine iteT ⟨(z.cps.size : Int), 12, rfl, rfl, _, rfl, ?_⟩
        by_cases b : z.cps.size ≤ 12
        · rw [decide_eq_true (show (z.cps.size : Int) ≤ 12 by omega)]
          refine iteF ⟨.str z, rfl, z, rfl, fun D nD => lc_text (fun i H' => Same H H' ∧ H' D = some (.lst ((z.cps.toList.take i).map fun c => .bl (inL c)))) ⟨same_upd nD, upd_same⟩ (fun i c H' hc hP => ?_) (fun H' hP => ?_)⟩
          · obtain ⟨sm, eD⟩ := hP
            have hl : i < z.cps.toList.length := (List.getElem?_eq_some_iff.mp hc).1
            rw [Array.length_toList] at hl
            refine ⟨rfl, ?_⟩
            refine ⟨.str ⟨#[c]⟩, rfl, c, letters, rfl, rfl, _, eD, ?_, same_set nD sm, ?_⟩
            · rw [List.length_map, List.length_take]
              exact Nat.lt_of_le_of_lt (Nat.min_le_left _ _) (small (by omega))
            · rw [upd_same, take_more hc, List.map_append]; rfl
          · obtain ⟨sm, eD⟩ := hP
            rw [List.take_length] at eD
            refine ⟨D, z.cps.toList.map inL, rfl, .inl (.inl (by rw [eD, List.map_map]; rfl)), ?_⟩
            have q' := q H' sm
            rw [nameB_in a b] at q'
            rw [List.all_map]
            exact q'
        · rw [decide_eq_false (show ¬ (z.cps.size : Int) ≤ 12 by omega)]
          refine iteT ?_
          have q' := q H (Same.refl H)
          rw [nameB_out (fun h => b h.2)] at q'
          exact q'
      · rw [decide_eq_false (show ¬ (1 : Int) ≤ (z.cps.size : Int) by omega)]
        refine iteF ?_
        have q' := q H (Same.refl H)
        rw [nameB_out (fun h => a h.1)] at q'
        exact ⟨_, rfl, q'⟩

/-! ### rows, steps -/
abbrev rowO (b : Bool) (xs : List V) : HO := match b with | true => .lst xs | false => .tup xs
theorem row_sq {b : Bool} {H : Hp} {a : Addr} {xs : List V} (h : H a = some (rowO b xs)) : KnE.Sq K b H a xs := by
  cases b with
  | true => exact .inl (.inl h)
  | false => exact .inl (.inl h)
theorem row_len {b : Bool} {H : Hp} {a : Addr} {xs : List V} (h : H a = some (rowO b xs)) : LenV K (.ref a) H xs.length := by
  cases b with
  | true => exact .inl ⟨xs, .inl (.inl h), rfl⟩
  | false => exact .inr ⟨xs, .inl (.inl h), rfl⟩
theorem paired_get {α β : Type} {F : α → β → Prop} {l : List α} {m : List β} (h : Paired F l m) : ∀ {i : Nat} {a : α}, l[i]? = some a → ∃ b, m[i]? = some b ∧ F a b := by
  induction h with
  | nil => intro i a e; cases e
  | cons r _ ih =>
    intro i a e
    cases i with
    | zero => cases e; exact ⟨_, rfl, r⟩
    | succ i => exact ih (i := i) e
theorem name_size {z : Str} (h : nameB (.str z) = true) : 1 ≤ z.cps.size ∧ z.cps.size ≤ 12 := by
  by_cases a : 1 ≤ z.cps.size ∧ z.cps.size ≤ 12
  · exact a
  · rw [nameB_out a] at h; cases h
def sp_is_row (_ : PySem.W.Frag) : Sp := fun vs H Q _ => ∃ b a xs, vs = [.ref a] ∧ H a = some (rowO b xs) ∧ ∀ H', Same H H' → Q (.bl true) H'
theorem ok_is_row {f : Addr} {D : Addr} {fd : FuncData} (T : Txt K mg D) (F : Fun K "is_row" "is_row" s_is_row f fd)  : FnOk P w K mg base CX0 1 f fd ["value"] (sp_is_row K) := by
  have nd := sc_is_row.nd
  refine F.ok sc_is_row (fun vs H Q E h => ?_) (fun cdv A outer s H vs Q E hr h => ?_)
  · obtain ⟨b, a, xs, rfl, _⟩ := h
    rfl
  · obtain ⟨b, a, xs, rfl, ha, q⟩ := h
    refine ⟨_, (pss_one (ps_ret (pe_callB call_isiT (by rfl) T.m_isinstance (by decide +kernel) (pa_cons (pv 0) (pa_cons (pe_tup (pa_cons (pe_bltn (v := .ty "list") (u := .type "list") (by rfl) T.m_list (by decide +kernel) rfl) (pa_cons (pe_bltn (v := .ty "tuple") (u := .type "tuple") (by rfl) T.m_tuple (by decide +kernel) rfl) pa_nil))) pa_nil))))), ?_⟩
    refine ⟨.ref a, rfl, szl rfl, fun p np => ?_⟩
    have q' := q _ (same_upd (o := .tup [.ty "list", .ty "tuple"]) np)
    have ha' : (upd H p (.tup [.ty "list", .ty "tuple"])) a = some (rowO b xs) := (upd_ne (ne_of_none ha np)).trans ha
    cases b with
    | true =>
      exact ⟨.ref a, p, [.ty "list", .ty "tuple"], .type "list", [.type "list", .type "tuple"], true, rfl, upd_same, .cons (.ty _) (.cons (.ty _) .nil), .base (.lst ha'), kitAny_cons (kit_ty (show kitB "list" "list" = some true by decide +kernel)) (fun z => nomatch z) (fun _ => rfl), q'⟩
    | false =>
      exact ⟨.ref a, p, [.ty "list", .ty "tuple"], .type "tuple", [.type "list", .type "tuple"], true, rfl, upd_same, .cons (.ty _) (.cons (.ty _) .nil), .base (.tup ha'),
        kitAny_cons (kit_ty (show kitB "tuple" "list" = some false by decide +kernel)) (fun _ => kitAny_cons (kit_ty (show kitB "tuple" "tuple" = some true by decide +kernel)) (fun z => nomatch z) fun _ => rfl) (fun z => nomatch z), q'⟩
/-- the pairs of a dict of faults -/
def fkv (fs : List (Str × Str)) : List (Key × V) := fs.map fun p => (Sum.inr p.1, .str p.2)
theorem fkv_get {fs : List (Str × Str)} {i : Nat} {k : Key} {v : V} (h : (fkv fs)[i]? = some (k, v)) : ∃ x y, fs[i]? = some (x, y) ∧ k = .inr x ∧ v = .str y := by
  unfold fkv at h
  rw [List.getElem?_map] at h
  cases e : fs[i]? with
  | none => rw [e] at h; cases h
  | some p => rw [e] at h; cases h; exact ⟨p.1, p.2, rfl, rfl, rfl⟩
theorem inV_strs {x : Str} {ws : List Str} : inV (.str x) (ws.map V.str) = decide (x ∈ ws) := by
  unfold inV
  induction ws with
  | nil => rfl
  | cons y r ih =>
    rw [List.map_cons, List.any_cons, ih]
    have e : eqV (.str y) (.str x) = decide (y = x) := by
      show (y == x) = decide (y = x)
      by_cases z : y = x
      · rw [z]; simp
      · rw [decide_eq_false z]; exact beq_eq_false_iff_ne.mpr z
    rw [e]
    by_cases z : y = x
    · subst z; simp
    · have z' : ¬ x = y := fun q => z q.symm
      simp [z, z']
theorem flat_ws (ws : List Str) : (ws.map V.str).all flatV = true := by
  rw [List.all_map]
  exact List.all_eq_true.mpr fun _ _ => rfl
/-! ### a machine -/
def look (fs : List (Str × Str)) (x : Str) : Option Str := (fs.find? fun p => decide (p.1 = x)).map (·.2)
theorem look_val (fs : List (Str × Str)) (x : Str) : valV (fkv fs) (.inr x) = (look fs x).map V.str := by
  unfold look fkv
  induction fs with
  | nil => rfl
  | cons p r ih =>
    obtain ⟨y, n⟩ := p
    by_cases e : y = x
    · rw [List.find?_cons_of_pos (by simp [e])]
      unfold valV
      rw [List.map_cons, List.find?_cons_of_pos (by simp [e])]
      rfl
    · rw [List.find?_cons_of_neg (by simp [e]), ← ih]
      unfold valV
      rw [List.map_cons, List.find?_cons_of_neg (by simp [e])]
theorem val_none {fs : List (Str × Str)} {x : Str} (h : ∀ p ∈ fs, p.1 ≠ x) : valV (fkv fs) (.inr x) = none := by
  rw [look_val]
  unfold look
  rw [List.find?_eq_none.mpr fun p hp => by simp [h p hp]]; rfl
theorem sub_len {α : Type} [DecidableEq α] : ∀ {l m : List α}, l.Nodup → (∀ x ∈ l, x ∈ m) → l.length ≤ m.length
  | [], _, _, _ => Nat.zero_le _
  | x :: r, m, d, h => by
    obtain ⟨d1, d2⟩ := List.nodup_cons.mp d
    have hx := h x List.mem_cons_self
    have ih := sub_len (m := m.erase x) d2 (fun y hy => (List.mem_erase_of_ne (fun e : y = x => d1 (by rw [← e]; exact hy))).mpr (h y (List.mem_cons_of_mem _ hy)))
    have e := List.length_erase_of_mem hx
    have : 0 < m.length := List.length_pos_of_mem hx
    rw [List.length_cons]
    omega
theorem words_le {ws xs : List Str} (h : KnA.Words ws xs) : ws.length ≤ xs.length := sub_len h.nd fun x hx => (h.mem x).mp hx
/-- set(xs), xs texts -/
theorem foldL_strs : ∀ (xs acc : List Str), acc.Nodup → ∃ ys : List Str, (xs.map Sum.inr).foldl KnS.addL (acc.map Sum.inr) = ys.map Sum.inr ∧ ys.Nodup ∧ ∀ x, x ∈ ys ↔ x ∈ acc ∨ x ∈ xs
  | [], acc, h => ⟨acc, rfl, h, fun x => by simp⟩
  | z :: xs, acc, h => by
    obtain ⟨ys, e, n, m⟩ := foldL_strs xs (if z ∈ acc then acc else acc ++ [z]) (by
      by_cases q : z ∈ acc
      · rw [if_pos q]; exact h
      · rw [if_neg q]
        refine List.nodup_append.mpr ⟨h, by simp, fun a ha b hb e => ?_⟩
        rw [List.mem_singleton] at hb
        exact q (hb ▸ e ▸ ha))
    refine ⟨ys, ?_, n, fun x => ?_⟩
    · rw [List.map_cons, List.foldl_cons, KnC.addL_strs, e]
    · rw [m]
      by_cases q : z ∈ acc
      · rw [if_pos q, List.mem_cons]
        exact ⟨fun y => y.elim .inl fun t => .inr (.inr t), fun y => y.elim .inl fun t => t.elim (fun t => .inl (t ▸ q)) .inr⟩
      · rw [if_neg q, List.mem_append, List.mem_singleton, List.mem_cons, or_assoc]
theorem allL_strs (xs : List Str) : ∃ ys : List Str, KnS.allL (xs.map Sum.inr) = ys.map Sum.inr ∧ ys.Nodup ∧ ∀ x, x ∈ ys ↔ x ∈ xs := by
  obtain ⟨ys, e, n, m⟩ := foldL_strs xs [] List.nodup_nil
  exact ⟨ys, e, n, fun x => (m x).trans (by simp)⟩
/-! ### faults given in another order -/
theorem look_cons (x n : Str) (r : List (Str × Str)) (y : Str) : look ((x, n) :: r) y = if x = y then some n else look r y := by
  unfold look
  by_cases e : x = y
  · rw [List.find?_cons_of_pos (by simp [e]), if_pos e]; rfl
  · rw [List.find?_cons_of_neg (by simp [e]), if_neg e]
theorem look_mem {fs : List (Str × Str)} (nd : (fs.map (·.1)).Nodup) {x n : Str} : look fs x = some n ↔ (x, n) ∈ fs := by
  induction fs with
  | nil => exact ⟨fun h => (by cases h), fun h => nomatch h⟩
  | cons p r ih =>
    obtain ⟨y, m⟩ := p
    rw [List.map_cons, List.nodup_cons] at nd
    rw [look_cons]
    by_cases e : y = x
    · subst e
      rw [if_pos rfl]
      constructor
      · intro h; cases h; exact List.mem_cons_self
      · intro h
        rcases List.mem_cons.mp h with h | h
        · cases h; rfl
        · exact absurd (List.mem_map.mpr ⟨_, h, rfl⟩) nd.1
    · rw [if_neg e, ih nd.2]
      constructor
      · intro h; exact List.mem_cons_of_mem _ h
      · intro h
        rcases List.mem_cons.mp h with h | h
        · cases h; exact absurd rfl e
        · exact h

theorem ok__law_mix {f : Addr} {D : Addr} {fd : FuncData} (T : Txt K mg D) (F : Fun K "_law_mix" "_law_mix" s__law_mix f fd)  : FnOk P w K mg base CX0 1 f fd ["_law_cell_here", "_law_k"] (sp__law_mix K) := by
  have nd := sc__law_mix.nd
  refine F.ok sc__law_mix (fun vs H Q E h => ?_) (fun cdv A outer s H vs Q E hr h => ?_)
  · obtain ⟨c, k, rfl, _⟩ := h
    rfl
  · obtain ⟨c, k, rfl, q⟩ := h
    refine ⟨_, (pss_cons (ps_set (i := 2) nd rfl (.inl rfl) (pe_op op_mod (pe_op op_mul (pe_callTy call_int1 (by rfl) T.m_int (by decide +kernel) (pa_cons (pe_op op_add (pe_op op_add (pe_callTy call_int1 (by rfl) T.m_int (by decide +kernel) (pa_cons (pv 0) pa_nil)) (pe_op op_mul pe_int (pv 1))) pe_int) pa_nil)) pe_int) pe_int))
      (pss_cons (ps_set (i := 2) nd rfl (.inl rfl) (pe_op op_mod (pe_callTy call_int1 (by rfl) T.m_int (by decide +kernel) (pa_cons (pe_op op_mul (pv 2) (pe_op op_add (pe_op op_fdiv (pv 2) pe_int) pe_int)) pa_nil)) pe_int))
      (pss_one (ps_ret (pe_op op_mod (pe_callTy call_int1 (by rfl) T.m_int (by decide +kernel) (pa_cons (pe_op op_mul (pv 2) (pe_op op_add (pe_op op_fdiv (pv 2) pe_int) pe_int)) pa_nil)) pe_int))))), ?_⟩
    refine ⟨.int c, rfl, .inl ⟨c, rfl, .int k, rfl, 7919, k, rfl, rfl, .inl ⟨by decide, by decide⟩, _, _, rfl, rfl, _, _, rfl, rfl, .inl ⟨_, rfl, _, 48271, rfl, rfl, .inr ⟨by decide, by decide⟩, _, 2147483647, rfl, rfl, (show (0 : Int) < 2147483647 by decide), ?_⟩⟩⟩
    refine ⟨_, rfl, _, rfl, _, 1009, rfl, rfl, ⟨by decide, by decide⟩, _, 69621, rfl, rfl, _, _, rfl, rfl, .inl ⟨?_, ?_⟩, .inl ⟨_, rfl, _, 2147483647, rfl, rfl, (show (0 : Int) < 2147483647 by decide), ?_⟩⟩
    · omega
    · omega
    refine ⟨_, rfl, _, rfl, _, 2003, rfl, rfl, ⟨by decide, by decide⟩, _, 40692, rfl, rfl, _, _, rfl, rfl, .inl ⟨?_, ?_⟩, .inl ⟨_, rfl, _, 2147483399, rfl, rfl, (show (0 : Int) < 2147483399 by decide), ?_⟩⟩
    · omega
    · omega
    exact q _ (Int.emod_nonneg _ (by decide)) (Int.emod_lt_of_pos _ (by decide))

theorem ok__law_cell {f : Addr} {D : Addr} {fd : FuncData} (T : Txt K mg D) (F : Fun K "_law_cell" "_law_cell" s__law_cell f fd) (c__law_mix : Cal P w K mg base 1 "_law_mix" (sp__law_mix K) []) : FnOk P w K mg base CX0 2 f fd ["_law_script", "_law_k"] (sp__law_cell K) := by
  have nd := sc__law_cell.nd
  refine F.ok sc__law_cell (fun vs H Q E h => ?_) (fun cdv A outer s H vs Q E hr h => ?_)
  · obtain ⟨a, ns, k, rfl, _⟩ := h
    rfl
  · obtain ⟨a, ns, k, rfl, hS, q⟩ := h
    refine ⟨_, (pss_cons (ps_if (pt_cmpR op_lt (pv 1) (pe_callB call_len (by rfl) T.m_len (by decide +kernel) (pa_cons (pv 0) pa_nil)) (nomark _)) (pss_one (ps_ret (pe_callTy call_int1 (by rfl) T.m_int (by decide +kernel) (pa_cons (pe_ix (r := rIxL K) ix_list (pv 0) (pv 1) (fun _ _ => rfl)) pa_nil)))) pss_nil)
      (pss_cons (ps_if (pt_cmpR op_eq (pe_callB call_len (by rfl) T.m_len (by decide +kernel) (pa_cons (pv 0) pa_nil)) pe_int (nomark _)) (pss_one (ps_ret (pv 1))) pss_nil)
      (pss_one (ps_ret (pe_c c__law_mix hr (by omega) (by rfl) (pa_cons (pe_ix (r := rIxL K) ix_list (pv 0) (pe_op op_mod (pe_callTy call_int1 (by rfl) T.m_int (by decide +kernel) (pa_cons (pv 1) pa_nil)) (pe_callB call_len (by rfl) T.m_len (by decide +kernel) (pa_cons (pv 0) pa_nil))) (fun _ _ => rfl)) (pa_cons (pv 1) pa_nil))))))), ?_⟩
    refine ⟨.int k, rfl, .ref a, rfl, .ref a, (ns.map V.int).length, rfl, .inl ⟨_, hS, rfl⟩, _, _, rfl, rfl, _, rfl, ite2 (fun e => ?_) (fun e => ?_)⟩
    · have hk : k < (ns.map V.int).length := by
        have := of_decide_eq_true e
        omega
      have hk2 : k < ns.length := by rw [List.length_map] at hk; exact hk
      have g : (ns.map V.int)[k]? = some (.int ns[k]) := by rw [List.getElem?_map, List.getElem?_eq_getElem hk2]; rfl
      exact ⟨.ref a, rfl, .int k, rfl, a, _, (k : Int), _, rfl, rfl, hS, atI_nat g, .inl ⟨_, rfl, q _⟩⟩
    · refine ⟨.ref a, rfl, .ref a, (ns.map V.int).length, rfl, .inl ⟨_, hS, rfl⟩, rfl, _, rfl, ite2 (fun e0 => ?_) (fun e0 => ?_)⟩
      · exact ⟨.int k, rfl, q _⟩
      · have hp : 0 < (ns.map V.int).length := by
          cases e1 : (ns.map V.int).length with
          | zero => exact absurd (decide_eq_true (by rw [e1]; rfl)) e0
          | succ n => exact Nat.succ_pos _
        have hj : ((k : Int) % ((ns.map V.int).length : Int)) = ((k % (ns.map V.int).length : Nat) : Int) := rfl
        have hlt : k % (ns.map V.int).length < ns.length := by
          have := Nat.mod_lt k hp
          rw [List.length_map] at this ⊢
          exact this
        have g : (ns.map V.int)[k % (ns.map V.int).length]? = some (.int ns[k % (ns.map V.int).length]) := by rw [List.getElem?_map, List.getElem?_eq_getElem hlt]; rfl
        refine ⟨.ref a, rfl, .int k, rfl, .inl ⟨_, rfl, .ref a, rfl, .ref a, (ns.map V.int).length, rfl, .inl ⟨_, hS, rfl⟩, (k : Int), ((ns.map V.int).length : Int), rfl, rfl, (show (0 : Int) < ((ns.map V.int).length : Int) by omega), a, ns.map V.int, (k : Int) % ((ns.map V.int).length : Int), .int ns[k % (ns.map V.int).length], rfl, rfl, hS, ?_, ?_⟩⟩
        · rw [hj]; exact atI_nat g
        · exact ⟨.int k, rfl, _, _, rfl, fun r _ _ => q r⟩

theorem ok__law_row {f : Addr} {D : Addr} {fd : FuncData} (T : Txt K mg D) (F : Fun K "_law_row" "_law_row" s__law_row f fd) (c__law_mix : Cal P w K mg base 1 "_law_mix" (sp__law_mix K) []) : FnOk P w K mg base CX0 2 f fd ["_law_cell_here", "_law_sizes"] (sp__law_row K) := by
  have nd := sc__law_row.nd
  refine F.ok sc__law_row (fun vs H Q E h => ?_) (fun cdv A outer s H vs Q E hr h => ?_)
  · obtain ⟨c, b, ss, rfl, _⟩ := h
    rfl
  · obtain ⟨c, b, ss, rfl, hS, hlen, hpos, q⟩ := h
    refine ⟨_, (pss_cons (ps_set (i := 2) nd rfl (.inl rfl) (pe_lst pa_nil))
      (pss_cons (ps_set (i := 3) nd rfl (.inl rfl) (pe_callTy call_int1 (by rfl) T.m_int (by decide +kernel) (pa_cons (pv 0) pa_nil)))
      (pss_cons (ps_for PassesOwn.never rfl (pi_range1 (by rfl) T.m_range (pa_cons (pe_callB call_len (by rfl) T.m_len (by decide +kernel) (pa_cons (pv 1) pa_nil)) pa_nil)) (pg_name (i := 4) nd rfl (.inl rfl)) (pss_one (ps_if (pt_cmpR op_ge (pv 0) (pe_op op_pow pe_int pe_int) (nomark _)) (pss_cons (ps_expr (pe_bm PySem.F.plainAttrs_list PySem.F.slot_list_append PySem.F.type_list_append mt_append (pv 2) (pa_cons (pe_op op_mod (pe_callTy call_int1 (by rfl) T.m_int (by decide +kernel) (pa_cons (pv 3) pa_nil)) (pe_ix (r := rIxL K) ix_list (pv 1) (pv 4) (fun _ _ => rfl))) pa_nil)))
      (pss_one (ps_set (i := 3) nd rfl (.inl rfl) (pe_op op_fdiv (pv 3) (pe_ix (r := rIxL K) ix_list (pv 1) (pv 4) (fun _ _ => rfl)))))) (pss_one (ps_expr (pe_bm PySem.F.plainAttrs_list PySem.F.slot_list_append PySem.F.type_list_append mt_append (pv 2) (pa_cons (pe_op op_mod (pe_callTy call_int1 (by rfl) T.m_int (by decide +kernel) (pa_cons (pe_c c__law_mix hr (by omega) (by rfl) (pa_cons (pv 0) (pa_cons (pv 4) pa_nil))) pa_nil)) (pe_ix (r := rIxL K) ix_list (pv 1) (pv 4) (fun _ _ => rfl))) pa_nil)))))))
      (pss_one (ps_ret (pv 2)))))), ?_⟩
    refine ⟨Nat.zero_le _, fun R nR => ⟨.int c, rfl, .inl ⟨c, rfl, .ref b, rfl, .ref b, (ss.map V.int).length, rfl, .inl ⟨_, (same_upd nR).seq hS, rfl⟩, _, rfl, ?_, ?_, ?_⟩⟩⟩
    · have : (0 : Int) ≤ ((ss.map V.int).length : Int) := by omega
      omega
    · rw [List.length_map]
      omega
    · refine for_range (lo := 0) (fun i σ H' => ∃ (z : Int) (y : Option V) (rs : List Int), σ = [some (.int c), some (.ref b), some (.ref R), some (.int z), y] ∧ Same H H' ∧ H' R = some (.lst (rs.map V.int)) ∧ rs.length = i ∧ ∀ (i : Nat) (r s : Int), rs[i]? = some r → ss[i]? = some s → 0 ≤ r ∧ r < s)
        ⟨c, none, [], rfl, same_upd nR, upd_same, rfl, fun i r s h => by simp at h⟩ (fun i σ H' hi hP => ?_) (fun σ H' hP => ?_)
      · obtain ⟨z, y, rs, rfl, sm, eR, hrl, hb⟩ := hP
        have hi2 : i < ss.length := by
          have : i < ((ss.map V.int).length : Int).toNat := hi
          rw [List.length_map, Int.toNat_natCast] at this
          exact this
        have g : (ss.map V.int)[i]? = some (.int ss[i]) := by rw [List.getElem?_map, List.getElem?_eq_getElem hi2]; rfl
        have ps := hpos _ (List.getElem_mem hi2)
        have hS' := sm.seq hS
        have hA : atI (ss.map V.int) (0 + (i : Int)) = some (.int ss[i]) := by rw [Int.zero_add]; exact atI_nat g
        have push : ∀ r : Int, 0 ≤ r → r < ss[i] → ∀ (j : Nat) (r' s : Int), (rs ++ [r])[j]? = some r' → ss[j]? = some s → 0 ≤ r' ∧ r' < s := by
          intro r r0 r1 j r' s e1 e2
          by_cases hj : j < rs.length
          · rw [List.getElem?_append_left hj] at e1
            exact hb j r' s e1 e2
          · by_cases hj2 : j = rs.length
            · subst hj2
              rw [List.getElem?_concat_length] at e1
              cases e1
              rw [hrl, List.getElem?_eq_getElem hi2] at e2
              cases e2
              exact ⟨r0, r1⟩
            · rw [List.getElem?_eq_none (by rw [List.length_append]; simp; omega)] at e1
              cases e1
        have hsz : (rs.map V.int).length < sizeLine := by rw [List.length_map]; exact small (by omega)
        refine ⟨.int c, rfl, 10, 18, rfl, rfl, ⟨by decide, by decide, by decide⟩, c, _, rfl, rfl, _, rfl, ite2 (fun e => ?_) (fun e => ?_)⟩
        · -- the digits of a great cell
          refine ⟨.ref R, rfl, .inl ⟨rfl, _, .inl (.inl eR)⟩, .int z, rfl, .inl ⟨z, rfl, .ref b, rfl, .int (0 + (i : Int)), rfl, b, _, _, _, rfl, rfl, hS', hA, z, ss[i], rfl, rfl, ps.1, R, _, _, rfl, rfl, eR, hsz, ?_⟩⟩
          refine ⟨.int z, rfl, .ref b, rfl, .int (0 + (i : Int)), rfl, b, _, _, _, rfl, rfl, (same_set nR sm).seq hS, hA, z, ss[i], rfl, rfl, ps, ?_⟩
          exact ⟨_, _, rs ++ [z % ss[i]], rfl, same_set nR sm, by rw [upd_same, List.map_append]; rfl, by rw [List.length_append, hrl]; rfl, push _ (Int.emod_nonneg _ (by omega)) (Int.emod_lt_of_pos _ ps.1)⟩
        · refine ⟨.ref R, rfl, .inl ⟨rfl, _, .inl (.inl eR)⟩, .int c, rfl, .int (0 + (i : Int)), rfl, c, (0 + (i : Int)), rfl, fun r r0 r1 => .inl ⟨r, rfl, .ref b, rfl, .int (0 + (i : Int)), rfl, b, _, _, _, rfl, rfl, hS', hA, r, ss[i], rfl, rfl, ps.1, R, _, _, rfl, rfl, eR, hsz, ?_⟩⟩
          exact ⟨_, _, rs ++ [r % ss[i]], rfl, same_set nR sm, by rw [upd_same, List.map_append]; rfl, by rw [List.length_append, hrl]; rfl, push _ (Int.emod_nonneg _ (by omega)) (Int.emod_lt_of_pos _ ps.1)⟩
      · obtain ⟨z, y, rs, rfl, sm, eR, hrl, hb⟩ := hP
        refine ⟨.ref R, rfl, q H' R rs sm nR eR ?_ hb⟩
        rw [hrl, List.length_map, Int.toNat_natCast]

/-! ### names -/
theorem cutS_length (z : Str) (lo hi : Option Int) : (cutS z lo hi).cps.size ≤ z.cps.size := by
  show ((z.cps.toList.drop _).take _).toArray.size ≤ _
  rw [List.size_toArray, List.length_take, List.length_drop, Array.length_toList]
  exact Nat.le_trans (Nat.min_le_right _ _) (Nat.sub_le _ _)
theorem cutS_mem {z : Str} {lo hi : Option Int} {c : Nat} (h : c ∈ (cutS z lo hi).cps.toList) : c ∈ z.cps.toList := by
  have h' : c ∈ (z.cps.toList.drop (HT.sIx z.length 0 lo)).take (HT.sIx z.length z.length hi - HT.sIx z.length 0 lo) := h
  exact List.mem_of_mem_drop (List.mem_of_mem_take h')
theorem app_size (x y : Str) : (x ++ y).cps.size = x.cps.size + y.cps.size := by
  show (x.cps ++ y.cps).size = _
  rw [Array.size_append]
theorem app_mem {x y : Str} {c : Nat} (h : c ∈ (x ++ y).cps.toList) : c ∈ x.cps.toList ∨ c ∈ y.cps.toList := by
  have h' : c ∈ (x.cps ++ y.cps).toList := h
  rw [Array.toList_append] at h'
  exact List.mem_append.mp h'
theorem join_size : ∀ {ys : List Str}, (∀ y ∈ ys, y.cps.size = 1) → (Txt.join "" ys).cps.size ≤ ys.length := by
  intro ys
  rw [TL.join_eq]
  induction ys with
  | nil => intro _; exact Nat.le_refl _
  | cons x r ih =>
    intro h
    cases r with
    | nil => exact Nat.le_of_eq (h x List.mem_cons_self)
    | cons z r =>
      have h1 := h x List.mem_cons_self
      have h2 := ih fun y hy => h y (List.mem_cons_of_mem _ hy)
      have e : (Str.join "" (x :: z :: r)).cps.size = x.cps.size + 0 + (Str.join "" (z :: r)).cps.size := by
        show ((x.cps ++ #[]) ++ (Str.join "" (z :: r)).cps).size = _
        rw [Array.size_append, Array.size_append]; rfl
      rw [e, List.length_cons]
      omega
theorem join_mem {p : Nat → Prop} : ∀ {ys : List Str}, (∀ y ∈ ys, ∀ c ∈ y.cps.toList, p c) → ∀ c ∈ (Txt.join "" ys).cps.toList, p c := by
  intro ys
  rw [TL.join_eq]
  induction ys with
  | nil => intro _ c hc; exact absurd hc (by decide +revert)
  | cons x r ih =>
    intro h c hc
    cases r with
    | nil => exact h x List.mem_cons_self c hc
    | cons z r =>
      have h2 := ih fun y hy => h y (List.mem_cons_of_mem _ hy)
      have hc' : c ∈ ((x.cps ++ #[]) ++ (Str.join "" (z :: r)).cps).toList := hc
      rw [Array.toList_append, Array.toList_append, List.mem_append, List.mem_append] at hc'
      rcases hc' with (hc' | hc') | hc'
      · exact h x List.mem_cons_self c hc'
      · exact absurd hc' (by simp)
      · exact h2 c hc'
theorem join_sum {zs : List Str} (h : ∀ y ∈ zs, y.cps.size = 1) : (zs.map (·.length)).sum + zs.length * ("" : Str).length = zs.length := by
  have z0 : ("" : Str).length = 0 := rfl
  rw [z0, Nat.mul_zero, Nat.add_zero]
  induction zs with
  | nil => rfl
  | cons x r ih =>
    rw [List.map_cons, List.sum_cons, ih fun y hy => h y (List.mem_cons_of_mem _ hy), List.length_cons]
    have : x.length = 1 := h x List.mem_cons_self
    omega
/-- a place of a row -/
theorem row_at {rs ss : List Int} (hl : rs.length = ss.length) (hb : ∀ (i : Nat) (r s : Int), rs[i]? = some r → ss[i]? = some s → 0 ≤ r ∧ r < s) {j : Nat} {t : Int} (e : ss[j]? = some t) : ∃ r, rs[j]? = some r ∧ (rs.map V.int)[j]? = some (.int r) ∧ 0 ≤ r ∧ r < t := by
  have hj : j < ss.length := (List.getElem?_eq_some_iff.mp e).1
  have g : rs[j]? = some (rs[j]'(by omega)) := List.getElem?_eq_getElem (by omega)
  obtain ⟨h1, h2⟩ := hb j _ t g e
  exact ⟨_, g, by rw [List.getElem?_map, g]; rfl, h1, h2⟩
theorem flat_get {α : Type} {l : List α} {j : Nat} (hj : j < l.length) : ∀ {m k : Nat}, k < m → (List.replicate m l).flatten[l.length * k + j]? = l[j]?
  | 0, k, h => absurd h (Nat.not_lt_zero _)
  | m + 1, 0, _ => by
    rw [List.replicate_succ, List.flatten_cons, Nat.mul_zero, Nat.zero_add, List.getElem?_append_left hj]
  | m + 1, k + 1, h => by
    rw [List.replicate_succ, List.flatten_cons, List.getElem?_append_right (by rw [Nat.mul_succ]; omega)]
    have e : l.length * (k + 1) + j - l.length = l.length * k + j := by rw [Nat.mul_succ]; omega
    rw [e]
    exact flat_get hj (by omega)
theorem flat_len {α : Type} (l : List α) (m : Nat) : (List.replicate m l).flatten.length = l.length * m := by
  induction m with
  | zero => rfl
  | succ m ih => rw [List.replicate_succ, List.flatten_cons, List.length_append, ih, Nat.mul_succ]; omega
theorem flat_mem {α : Type} {l : List α} {m : Nat} {x : α} (h : x ∈ (List.replicate m l).flatten) : x ∈ l := by
  obtain ⟨y, hy, hx⟩ := List.mem_flatten.mp h
  rw [(List.mem_replicate.mp hy).2] at hx
  exact hx
theorem cut_nat {xs : List V} {a b : Nat} : cutV xs (some (a : Int)) (some (b : Int)) = (xs.drop a).take (b - a) := by
  unfold cutV
  rw [HT.sIx_nat, HT.sIx_nat]
  by_cases h : a ≤ xs.length
  · rw [Nat.min_eq_left h]
    by_cases h2 : b ≤ xs.length
    · rw [Nat.min_eq_left h2]
    · rw [Nat.min_eq_right (by omega : xs.length ≤ b), List.take_of_length_le (by rw [List.length_drop]; omega), List.take_of_length_le (by rw [List.length_drop]; omega)]
  · rw [Nat.min_eq_right (by omega : xs.length ≤ a), List.drop_of_length_le (Nat.le_refl _), List.drop_of_length_le (by omega), List.take_nil, List.take_nil]
def szN (m : Nat) : List Int := [13, 2, 6] ++ (List.replicate m [6, 13, 13, 13, 13, 13]).flatten
theorem szN_len (m : Nat) : (szN m).length = 3 + 6 * m := by
  unfold szN
  rw [List.length_append, flat_len]; rfl
theorem szN_map (m : Nat) : ([13, 2, 6].map V.int ++ (List.replicate m ([6, 13, 13, 13, 13, 13].map V.int)).flatten) = (szN m).map V.int := by
  unfold szN
  rw [List.map_append, List.map_flatten, List.map_replicate]
theorem szN_at {m k j : Nat} (hk : k < m) (hj : j < 6) : (szN m)[3 + 6 * k + j]? = ([6, 13, 13, 13, 13, 13] : List Int)[j]? := by
  unfold szN
  rw [List.getElem?_append_right (by show 3 ≤ _; omega)]
  show (List.replicate m [6, 13, 13, 13, 13, 13]).flatten[3 + 6 * k + j - 3]? = _
  rw [show 3 + 6 * k + j - 3 = 6 * k + j by omega]
  exact flat_get (l := ([6, 13, 13, 13, 13, 13] : List Int)) (j := j) hj hk
theorem szN_good {m : Nat} {x : Int} (h : x ∈ szN m) : 0 < x ∧ x < 1073741824 := by
  unfold szN at h
  rcases List.mem_append.mp h with h | h
  · simp at h; omega
  · have := flat_mem h
    simp at this; omega
/-- a place of a slice of a row -/
def Own (os : List Int) : Prop := os.length = 6 ∧ ∀ (j : Nat) (r s : Int), os[j]? = some r → ([6, 13, 13, 13, 13, 13] : List Int)[j]? = some s → 0 ≤ r ∧ r < s
theorem own_cut {rs : List Int} {m k : Nat} (hl : rs.length = (szN m).length) (hb : ∀ (i : Nat) (r s : Int), rs[i]? = some r → (szN m)[i]? = some s → 0 ≤ r ∧ r < s) (hk : k < m) : Own ((rs.drop (3 + 6 * k)).take 6) := by
  rw [szN_len] at hl
  refine ⟨by rw [List.length_take, List.length_drop]; omega, fun j r s e1 e2 => ?_⟩
  have hj : j < 6 := (List.getElem?_eq_some_iff.mp e2).1
  rw [List.getElem?_take_of_lt hj, List.getElem?_drop] at e1
  exact hb _ r s e1 (by rw [szN_at hk hj]; exact e2)
def half1 : Str := "abcdefghijklm"
def half2 : Str := "nopqrstuvwxyz"
theorem half1_in : ∀ c ∈ half1.cps.toList, inL c = true := by decide +kernel
theorem half2_in : ∀ c ∈ half2.cps.toList, inL c = true := by decide +kernel
def markOf (z : Str) : List Nat := z.cps.toList.filter fun c => decide (c ∈ half2.cps.toList)
theorem mark_app (x y : Str) : markOf (x ++ y) = markOf x ++ markOf y := by
  show (x.cps ++ y.cps).toList.filter _ = _
  rw [Array.toList_append, List.filter_append]; rfl
theorem mark_none {z : Str} (h : ∀ c ∈ z.cps.toList, c ∈ half1.cps.toList) : markOf z = [] := by
  have a : ∀ c ∈ half1.cps.toList, ¬ c ∈ half2.cps.toList := by decide +kernel
  exact List.filter_eq_nil_iff.mpr fun c hc e => a c (h c hc) (of_decide_eq_true e)
theorem mark_one {c : Nat} (h : c ∈ half2.cps.toList) : markOf ⟨#[c]⟩ = [c] := by
  show List.filter _ [c] = [c]
  rw [List.filter_cons, if_pos (decide_eq_true h)]; rfl
def MkAt (r0 : Int) (k : Nat) (z : Str) : Prop := markOf z = [half2.cps.toList.getD ((r0 + 5 * (k : Int)) % 13).toNat 0]
theorem half2_inj : ∀ i j : Fin 13, half2.cps.toList.getD i.1 0 = half2.cps.toList.getD j.1 0 → i = j := by decide +kernel
theorem marks_nodup {r0 : Int} {zs : List Str} (h : ∀ (k : Nat) z, zs[k]? = some z → MkAt r0 k z) (l : zs.length ≤ 13) : zs.Nodup := by
  rw [List.nodup_iff_pairwise_ne, List.pairwise_iff_getElem]
  intro i j hi hj lt e
  have h1 := h i _ (List.getElem?_eq_getElem hi)
  have h2 := h j _ (List.getElem?_eq_getElem hj)
  unfold MkAt at h1 h2
  rw [e, h2] at h1
  have h3 := List.head_eq_of_cons_eq h1
  have q := half2_inj ⟨((r0 + 5 * (j : Int)) % 13).toNat, by omega⟩ ⟨((r0 + 5 * (i : Int)) % 13).toNat, by omega⟩ h3
  have q2 : ((r0 + 5 * (j : Int)) % 13).toNat = ((r0 + 5 * (i : Int)) % 13).toNat := Fin.mk.inj q
  omega
def sp__law_names (_ : PySem.W.Frag) : Sp := fun vs H Q _ => ∃ (c : Int) (m : Nat), vs = [.int c, .int (m : Int)] ∧ m ≤ 100 ∧ ∀ H' a (zs : List Str), Same H H' → H a = none → H' a = some (.lst (zs.map V.str)) → zs.length = m → (∀ z ∈ zs, nameB (.str z) = true) → (m ≤ 13 → zs.Nodup) → Q (.ref a) H'
theorem ok__law_names {f : Addr} {D : Addr} {fd : FuncData} (T : Txt K mg D) (F : Fun K "_law_names" "_law_names" s__law_names f fd) (c__law_row : Cal P w K mg base 2 "_law_row" (sp__law_row K) []) : FnOk P w K mg base CX0 3 f fd ["_law_cell_here", "_law_many"] (sp__law_names K) := by
  have nd := sc__law_names.nd
  refine F.ok sc__law_names (fun vs H Q E h => ?_) (fun cdv A outer s H vs Q E hr h => ?_)
  · obtain ⟨c, m, rfl, _⟩ := h
    rfl
  · obtain ⟨c, m, rfl, hm, q⟩ := h
    refine ⟨_, (pss_cons (ps_set (i := 2) nd rfl (.inl rfl) (pe_c c__law_row hr (by omega) (by rfl) (pa_cons (pv 0) (pa_cons (pe_op op_cat (pe_lst (pa_cons pe_int (pa_cons pe_int (pa_cons pe_int pa_nil)))) (pe_op op_rep (pe_lst (pa_cons pe_int (pa_cons pe_int (pa_cons pe_int (pa_cons pe_int (pa_cons pe_int (pa_cons pe_int pa_nil))))))) (pv 1))) pa_nil))))
      (pss_cons (ps_set (i := 3) nd rfl (.inl rfl) (pe_lst pa_nil))
      (pss_cons (ps_for PassesOwn.never rfl (pi_range1 (by rfl) T.m_range (pa_cons (pv 1) pa_nil)) (pg_name (i := 4) nd rfl (.inl rfl)) (pss_cons (ps_set (i := 5) nd rfl (.inl rfl) (pe_slice sl_list (pv 2) (po_some (pe_op op_add pe_int (pe_op op_mul pe_int (pv 4)))) (po_some (pe_op op_add pe_int (pe_op op_mul pe_int (pv 4))))))
      (pss_cons (ps_if (pt_cmpR op_eq (pe_ix (r := rIxL K) ix_list (pv 2) pe_int (fun _ _ => rfl)) pe_int (nomark _)) (pss_one (ps_set (i := 5) nd rfl (.inl rfl) (pe_slice sl_list (pv 2) (po_some pe_int) (po_some pe_int)))) pss_nil)
      (pss_cons (ps_set (i := 6) nd rfl (.inl rfl) (pe_join pe_str (pe_lc (own := [("_law_digit", 9)]) (g := gName 9) (tt := tYes) rfl nd (pi_list (pe_slice sl_list (pv 5) (po_some pe_int) (po_some (pe_op op_add pe_int (pe_ix (r := rIxL K) ix_list (pv 5) pe_int (fun _ _ => rfl)))))) (blkOk_by (N := ["_law_cell_here", "_law_many", "_law_row_here", "_law_names_here", "_law_k", "_law_own", "_law_text", "_law_at", "_law_letter", "_law_digit"]) (sc := defScope s__law_names) (by decide +kernel)) (fun _ _ _ _ _ => (pg_name (i := 9) nd rfl (.inl rfl))) (fun _ _ _ _ _ => pts_nil) (fun _ _ _ _ _ => (pe_ix ix_str pe_str (pv 9) (fun _ _ => rfl))))))
      (pss_cons (ps_set (i := 7) nd rfl (.inl rfl) (pe_op op_mod (pe_callTy call_int1 (by rfl) T.m_int (by decide +kernel) (pa_cons (pe_ix (r := rIxL K) ix_list (pv 2) pe_int (fun _ _ => rfl)) pa_nil)) (pe_op op_add (pe_callB call_len (by rfl) T.m_len (by decide +kernel) (pa_cons (pv 6) pa_nil)) pe_int)))
      (pss_cons (ps_set (i := 8) nd rfl (.inl rfl) (pe_ix ix_str pe_str (pe_op op_mod (pe_callTy call_int1 (by rfl) T.m_int (by decide +kernel) (pa_cons (pe_op op_add (pe_ix (r := rIxL K) ix_list (pv 2) pe_int (fun _ _ => rfl)) (pe_op op_mul pe_int (pv 4))) pa_nil)) pe_int) (fun _ _ => rfl)))
      (pss_one (ps_expr (pe_bm PySem.F.plainAttrs_list PySem.F.slot_list_append PySem.F.type_list_append mt_append (pv 3) (pa_cons (pe_op op_add_str (pe_op op_add_str (pe_slice sl_str (pv 6) po_none (po_some (pv 7))) (pv 8)) (pe_slice sl_str (pv 6) (po_some (pv 7)) po_none)) pa_nil))))))))))
      (pss_one (ps_ret (pv 3)))))), ?_⟩
    refine ⟨.int c, rfl, szl rfl, fun p1 n1 => ⟨szl rfl, fun p2 n2 => ⟨.int m, rfl, p2, m, [.int 6, .int 13, .int 13, .int 13, .int 13, .int 13], rfl, rfl, upd_same, by omega, by omega, smallE (by show 6 * (m : Int).toNat ≤ _; omega), fun p3 n3 => ?_⟩⟩⟩
    have em : (m : Int).toNat = m := Int.toNat_natCast m
    rw [em]
    have s1 := same_upd (o := .lst [.int 13, .int 2, .int 6]) n1
    have s2 := same_upd (o := .lst [.int 6, .int 13, .int 13, .int 13, .int 13, .int 13]) n2
    have s3 := same_upd (o := .lst (List.replicate m [V.int 6, .int 13, .int 13, .int 13, .int 13, .int 13]).flatten) n3
    refine ⟨p1, p3, [.int 13, .int 2, .int 6], _, rfl, rfl, s3 _ _ (s2 _ _ upd_same), upd_same, smallE (by rw [flat_len]; show 3 + 6 * m ≤ _; omega), fun p4 n4 => ?_⟩
    have s4 := (s1.trans (s2.trans s3)).trans (same_upd (o := .lst ([.int 13, .int 2, .int 6] ++ (List.replicate m [V.int 6, .int 13, .int 13, .int 13, .int 13, .int 13]).flatten)) n4)
    have e4 : (upd (upd (upd (upd H p1 (.lst [.int 13, .int 2, .int 6])) p2 (.lst [.int 6, .int 13, .int 13, .int 13, .int 13, .int 13])) p3 (.lst (List.replicate m [V.int 6, .int 13, .int 13, .int 13, .int 13, .int 13]).flatten)) p4 (.lst ([.int 13, .int 2, .int 6] ++ (List.replicate m [V.int 6, .int 13, .int 13, .int 13, .int 13, .int 13]).flatten))) p4 = some (.lst ((szN m).map V.int)) := by
      rw [upd_same, ← szN_map]; rfl
    generalize upd (upd (upd (upd H p1 (.lst [.int 13, .int 2, .int 6])) p2 (.lst [.int 6, .int 13, .int 13, .int 13, .int 13, .int 13])) p3 (.lst (List.replicate m [V.int 6, .int 13, .int 13, .int 13, .int 13, .int 13]).flatten)) p4 (.lst ([.int 13, .int 2, .int 6] ++ (List.replicate m [V.int 6, .int 13, .int 13, .int 13, .int 13, .int 13]).flatten)) = G at s4 e4
    refine ⟨c, p4, szN m, rfl, .inl (.inl e4), by rw [szN_len]; omega, fun x hx => szN_good hx, fun H1 R rs sm nR eR hrl hb => ?_⟩
    have sH : Same H H1 := s4.trans sm
    refine ⟨szl rfl, fun N nN => ?_⟩
    have s5 := same_upd (o := .lst []) nN
    have nNH : H N = none := sH.free nN
    have eR5 := s5 _ _ eR
    have nNR : R ≠ N := ne_of_none eR nN
    refine ⟨.int m, rfl, m, rfl, by omega, by omega, ?_⟩
    obtain ⟨r0, _, g0, l0, u0⟩ := row_at hrl hb (j := 0) (t := 13) rfl
    refine for_range (lo := 0) (fun i σ H' => ∃ (y4 y5 y6 y7 y8 : Option V) (zs : List Str), σ = [some (.int c), some (.int m), some (.ref R), some (.ref N), y4, y5, y6, y7, y8, none] ∧ Same H H' ∧ H' R = some (.lst (rs.map V.int)) ∧ H' N = some (.lst (zs.map V.str)) ∧ zs.length = i ∧ (∀ z ∈ zs, nameB (.str z) = true) ∧ ∀ (k : Nat) z, zs[k]? = some z → MkAt r0 k z)
      ⟨_, _, _, _, _, [], rfl, sH.trans s5, eR5, upd_same, rfl, (fun z hz => nomatch hz), (fun k z e => nomatch e)⟩ (fun i σ H' hi hP => ?_) (fun σ H' hP => ?_)
    · rw [em] at hi
      obtain ⟨y4, y5, y6, y7, y8, zs, rfl, S, eR, eN, lz, hz, hmk⟩ := hP
      have e0 : (0 : Int) + (i : Nat) = (i : Nat) := by omega
      rw [e0]
      have i0 : m ≠ 0 := by omega
      obtain ⟨r1, _, g1, l1, u1⟩ := row_at hrl hb (j := 1) (t := 2) rfl
      obtain ⟨r2, _, g2, l2, u2⟩ := row_at hrl hb (j := 2) (t := 6) rfl
      refine ⟨.ref R, rfl, .int (i : Nat), rfl, 6, (i : Nat), rfl, rfl, .inl ⟨by decide, by decide⟩, 3, _, rfl, rfl, _, rfl, .int (i : Nat), rfl, 6, (i : Nat), rfl, rfl, .inl ⟨by decide, by decide⟩, 9, _, rfl, rfl, _, rfl, R, rs.map V.int, rfl, .inl (.inl eR), fun w1 nw1 => ?_⟩
      have ec : cutV (rs.map V.int) (some (3 + 6 * ((i : Nat) : Int))) (some (9 + 6 * ((i : Nat) : Int))) = (((rs.drop (3 + 6 * i)).take 6)).map V.int := by
        rw [show (3 + 6 * ((i : Nat) : Int)) = ((3 + 6 * i : Nat) : Int) by omega, show (9 + 6 * ((i : Nat) : Int)) = ((9 + 6 * i : Nat) : Int) by omega, cut_nat, List.map_take, List.map_drop, show 9 + 6 * i - (3 + 6 * i) = 6 by omega]
      rw [ec]
      have sw1 := same_upd (o := .lst (((rs.drop (3 + 6 * i)).take 6).map V.int)) nw1
      have own1 := own_cut hrl hb hi
      refine KnC.asg_if (fun σ2 G => ∃ (wa : Addr) (os : List Int), σ2 = [some (.int c), some (.int m), some (.ref R), some (.ref N), some (.int (i : Nat)), some (.ref wa), y6, y7, y8, none] ∧ Same H' G ∧ G wa = some (.lst (os.map V.int)) ∧ Own os) (fun go => ?_) (fun σ2 G hT => ?_)
      · refine ⟨.ref R, rfl, R, rs.map V.int, 1, .int r1, rfl, rfl, .inl (.inl (sw1 _ _ eR)), atI_nat (j := 1) g1, rfl, _, rfl, ite2 (fun e => ?_) (fun e => ?_)⟩
        · refine ⟨.ref R, rfl, _, rfl, _, rfl, R, rs.map V.int, rfl, .inl (.inl (sw1 _ _ eR)), fun w2 nw2 => ?_⟩
          refine go _ _ ⟨w2, (rs.drop 3).take 6, rfl, sw1.trans (same_upd nw2), ?_, own_cut hrl hb (k := 0) (by omega)⟩
          rw [upd_same, show (some (3 : Int)) = some ((3 : Nat) : Int) from rfl, show (some (9 : Int)) = some ((9 : Nat) : Int) from rfl, cut_nat, List.map_take, List.map_drop]
        · exact go _ _ ⟨w1, _, rfl, sw1, upd_same, own1⟩
      · obtain ⟨wa, os, rfl, SG, ewa, lo, ow⟩ := hT
        obtain ⟨o0, go0, gV, l0', u0'⟩ := row_at (rs := os) (ss := [6, 13, 13, 13, 13, 13]) lo ow (j := 0) (t := 6) rfl
        have eRG := SG _ _ eR
        have eNG := SG _ _ eN
        refine ⟨⟨"", rfl⟩, .ref wa, rfl, 1, rfl, .ref wa, rfl, wa, os.map V.int, 0, .int o0, rfl, rfl, .inl (.inl ewa), atI_nat (j := 0) gV, 1, o0, rfl, rfl, _, rfl, wa, os.map V.int, rfl, .inl (.inl ewa), fun cc nc => ?_⟩
        have cs_ : cutV (os.map V.int) (some 1) (some (1 + o0)) = ((os.drop 1).take o0.toNat).map V.int := by
          rw [show (1 + o0) = ((1 + o0.toNat : Nat) : Int) by omega, show (some (1 : Int)) = some ((1 : Nat) : Int) from rfl, cut_nat, List.map_take, List.map_drop, show 1 + o0.toNat - 1 = o0.toNat by omega]
        rw [cs_]
        have scc := same_upd (o := .lst (((os.drop 1).take o0.toNat).map V.int)) nc
        have ecc : (upd G cc (.lst (((os.drop 1).take o0.toNat).map V.int))) cc = some (.lst (((os.drop 1).take o0.toNat).map V.int)) := upd_same
        have lcs : ((os.drop 1).take o0.toNat).length ≤ 5 := by rw [List.length_take, List.length_drop]; omega
        have mcs : ∀ (j : Nat) (r : Int), ((os.drop 1).take o0.toNat)[j]? = some r → 0 ≤ r ∧ r < 13 := fun j r e => by
          have hj : j < o0.toNat := by
            have := (List.getElem?_eq_some_iff.mp e).1
            rw [List.length_take] at this
            omega
          rw [List.getElem?_take_of_lt hj, List.getElem?_drop] at e
          refine ow (1 + j) r 13 e ?_
          have : j < 5 := by omega
          rcases j with _ | _ | _ | _ | _ | j
          · rfl
          · rfl
          · rfl
          · rfl
          · rfl
          · omega
        generalize (os.drop 1).take o0.toNat = cs at scc ecc lcs mcs
        generalize upd G cc (.lst (cs.map V.int)) = G1 at scc ecc
        refine ⟨cc, rfl, ⟨_, .inl (.inl ecc)⟩, fun D nD => lc_list (K := K) (a := cc) (xs := cs.map V.int) (fun i H' => Same G1 H' ∧ ∃ ys : List Str, H' D = some (.lst (ys.map V.str)) ∧ ys.length = i ∧ (∀ y ∈ ys, y.cps.size = 1) ∧ ∀ y ∈ ys, ∀ c ∈ y.cps.toList, c ∈ half1.cps.toList)
          ⟨same_upd nD, [], upd_same, rfl, (fun y hy => nomatch hy), fun y hy => nomatch hy⟩ (fun i H' _ hP => hP.1.seq (.inl (.inl ecc))) (fun i x H' hx hP => ?_) (fun H' hP => ?_)⟩
        · obtain ⟨sm', ys, eD, hl, h1, h2⟩ := hP
          rw [List.getElem?_map] at hx
          cases gx : cs[i]? with
          | none => rw [gx] at hx; cases hx
          | some r =>
          rw [gx] at hx
          cases hx
          obtain ⟨l, u⟩ := mcs i r gx
          have hi : i < cs.length := (List.getElem?_eq_some_iff.mp gx).1
          obtain ⟨j, rfl⟩ : ∃ j : Nat, r = (j : Int) := ⟨r.toNat, by omega⟩
          have hj : j < half1.cps.toList.length := by
            have : half1.cps.toList.length = 13 := by decide
            omega
          refine ⟨rfl, ?_⟩
          unfold tYes
          refine iteT ?_
          refine ⟨.int j, rfl, half1, (j : Int), half1.cps.toList[j], rfl, rfl, smallE (by decide), atI_nat (List.getElem?_eq_getElem hj), ys.map V.str, eD, ?_, same_set nD sm', ys ++ [⟨#[half1.cps.toList[j]]⟩], ?_, ?_, ?_, ?_⟩
          · rw [List.length_map]; exact small (by omega)
          · rw [upd_same, List.map_append]; rfl
          · rw [List.length_append, hl]; rfl
          · intro y hy
            rcases List.mem_append.mp hy with hy | hy
            · exact h1 y hy
            · rw [List.mem_singleton.mp hy]; rfl
          · intro y hy c hc
            rcases List.mem_append.mp hy with hy | hy
            · exact h2 y hy c hc
            · rw [List.mem_singleton.mp hy] at hc
              rw [List.mem_singleton.mp (show c ∈ [half1.cps.toList[j]] from hc)]
              exact List.getElem_mem hj
        · obtain ⟨sm', ys, eD, hl, h1, h2⟩ := hP
          rw [List.length_map] at hl
          have hz1 := join_size h1
          have hin := join_mem h2
          have hs : (ys.map (·.length)).sum + ys.length * ("" : Str).length ≤ 16777216 := by rw [join_sum h1]; omega
          have SG' : Same G H' := scc.trans sm'
          have eRF := SG' _ _ eRG
          have eNF := SG' _ _ eNG
          have SF := S.trans (SG.trans SG')
          refine ⟨"", D, ys, rfl, rfl, .inl (.inl (.inl eD)), hs, ?_⟩
          generalize Txt.join "" ys = z at hz1 hin ⊢
          have hz5 : z.cps.size ≤ 5 := by omega
          have hzl : z.length ≤ sizeLine := smallE (show z.cps.size ≤ 100000 by omega)
          refine ⟨.ref R, rfl, R, rs.map V.int, 2, .int r2, rfl, rfl, .inl (.inl eRF), atI_nat (j := 2) g2, .inl ⟨r2, rfl, .str z, rfl, .str z, z.cps.size, rfl, ⟨hzl, rfl⟩, (z.cps.size : Int), 1, rfl, rfl, r2, (z.cps.size : Int) + 1, rfl, rfl, (show (0 : Int) < (z.cps.size : Int) + 1 by omega), ?_⟩⟩
          obtain ⟨j, ej⟩ : ∃ j : Nat, (r0 + 5 * ((i : Nat) : Int)) % 13 = (j : Int) := ⟨((r0 + 5 * ((i : Nat) : Int)) % 13).toNat, by omega⟩
          have hj : j < half2.cps.toList.length := by
            have : half2.cps.toList.length = 13 := by decide
            omega
          refine ⟨.ref R, rfl, R, rs.map V.int, 0, .int r0, rfl, rfl, .inl (.inl eRF), atI_nat (j := 0) g0, .int (i : Nat), rfl, 5, (i : Nat), rfl, rfl, .inl ⟨by decide, by decide⟩, r0, _, rfl, rfl, .inl ⟨_, rfl, _, 13, rfl, rfl, (show (0 : Int) < 13 by decide), half2, _, half2.cps.toList[j], rfl, rfl, smallE (by decide), by rw [ej]; exact atI_nat (List.getElem?_eq_getElem hj), ?_⟩⟩
          refine ⟨.ref N, rfl, .inl ⟨rfl, _, .inl (.inl eNF)⟩, .str z, rfl, _, rfl, _, rfl, z, rfl, hzl, .str _, rfl, _, _, rfl, rfl, ?_, .str z, rfl, _, rfl, _, rfl, z, rfl, hzl, _, _, rfl, rfl, ?_, N, _, _, rfl, rfl, eNF, ?_, ?_⟩
          · refine smallE ?_
            have := cutS_length z none (some (r2 % ((z.cps.size : Int) + 1)))
            show (cutS z none _).cps.size + 1 ≤ 100000
            omega
          · refine smallE ?_
            have h1 := cutS_length z none (some (r2 % ((z.cps.size : Int) + 1)))
            have h2 := cutS_length z (some (r2 % ((z.cps.size : Int) + 1))) none
            show ((cutS z none _) ++ (⟨#[_]⟩ : Str)).cps.size + (cutS z _ none).cps.size ≤ 100000
            rw [app_size]
            show (cutS z none _).cps.size + 1 + _ ≤ _
            omega
          · exact small (by rw [List.length_map]; omega)
          · refine ⟨_, _, _, _, _, zs ++ [_], rfl, same_set nNH SF, (upd_ne nNR).trans eRF, by rw [upd_same, List.map_append]; rfl, by rw [List.length_append, lz]; rfl, fun y hy => ?_, fun k y e => ?_⟩
            rcases List.mem_append.mp hy with hy | hy
            · exact hz y hy
            · rw [List.mem_singleton.mp hy]
              have h1 := cutS_length z none (some (r2 % ((z.cps.size : Int) + 1)))
              have h2 := cutS_length z (some (r2 % ((z.cps.size : Int) + 1))) none
              have sz : (cutS z none (some (r2 % ((z.cps.size : Int) + 1))) ++ (⟨#[half2.cps.toList[j]]⟩ : Str) ++ cutS z (some (r2 % ((z.cps.size : Int) + 1))) none).cps.size = (cutS z none (some (r2 % ((z.cps.size : Int) + 1)))).cps.size + 1 + (cutS z (some (r2 % ((z.cps.size : Int) + 1))) none).cps.size := by
                rw [app_size, app_size]; rfl
              show (decide _ && decide _ && List.all _ inL) = true
              rw [sz, Bool.and_eq_true, Bool.and_eq_true, List.all_eq_true]
              refine ⟨⟨decide_eq_true (by omega), decide_eq_true (by omega)⟩, fun c hc => ?_⟩
              rcases app_mem hc with hc | hc
              · rcases app_mem hc with hc | hc
                · exact half1_in _ (hin c (cutS_mem hc))
                · rw [List.mem_singleton.mp (show c ∈ [half2.cps.toList[j]] from hc)]
                  exact half2_in _ (List.getElem_mem hj)
              · exact half1_in _ (hin c (cutS_mem hc))
            · rcases Nat.lt_or_ge k zs.length with lt | ge
              · rw [List.getElem?_append_left lt] at e
                exact hmk k y e
              · rw [List.getElem?_append_right ge] at e
                have k0 : k - zs.length = 0 := by
                  have := (List.getElem?_eq_some_iff.mp e).1
                  simp at this
                  omega
                rw [k0] at e
                cases Option.some.inj e
                obtain rfl : k = i := by omega
                unfold MkAt
                rw [mark_app, mark_app, mark_none fun c hc => hin c (cutS_mem hc), mark_none fun c hc => hin c (cutS_mem hc), mark_one (List.getElem_mem hj), ej, Int.toNat_natCast]
                rw [List.getD_eq_getElem?_getD, List.getElem?_eq_getElem hj]; rfl
    · rw [em] at hP
      obtain ⟨y4, y5, y6, y7, y8, zs, rfl, S, eR, eN, lz, hz, hmk⟩ := hP
      exact ⟨.ref N, rfl, q H' N zs S nNH eN lz hz fun l => marks_nodup hmk (by omega)⟩

theorem ok__law_is_integer {f : Addr} {D : Addr} {fd : FuncData} (T : Txt K mg D) (F : Fun K "_law_is_integer" "_law_is_integer" s__law_is_integer f fd)  : FnOk P w K mg base CX0 1 f fd ["_law_thing"] (sp__law_is_integer K) := by
  have nd := sc__law_is_integer.nd
  refine F.ok sc__law_is_integer (fun vs H Q E h => ?_) (fun cdv A outer s H vs Q E hr h => ?_)
  · obtain ⟨v, rfl, _⟩ := h
    rfl
  · obtain ⟨v, rfl, hv, q⟩ := h
    refine ⟨_, (pss_one (ps_ret (pe_and (pe_callB call_isi (by rfl) T.m_isinstance (by decide +kernel) (pa_cons (pv 0) (pa_cons (pe_bltn (v := .ty "int") (u := .type "int") (by rfl) T.m_int (by decide +kernel) rfl) pa_nil))) (pe_one (pe_not (pe_callB call_isi (by rfl) T.m_isinstance (by decide +kernel) (pa_cons (pv 0) (pa_cons (pe_bltn (v := .ty "bool") (u := .type "bool") (by rfl) T.m_bool (by decide +kernel) rfl) pa_nil)))))))), ?_⟩
    obtain ⟨t, ht, hs, hi, hb⟩ := hv.ty
    refine ⟨v, rfl, v, .ty "int", t, _, isI v, rfl, .ty _, ht, hi, _, rfl, ?_⟩
    have q' := q H (Same.refl H)
    unfold wholeB at q'
    by_cases e : isI v = true
    · rw [if_pos e]
      refine ⟨v, rfl, v, .ty "bool", t, _, isB v, rfl, .ty _, ht, hb, _, rfl, ?_⟩
      rw [e] at q'
      exact q'
    · rw [if_neg e]
      rw [Bool.eq_false_iff.mpr e] at q'
      exact q'


/-! ### two values are the same, kind by kind -/
inductive ExA (K : PySem.W.Frag) : V → V → Prop where
  | non : ExA K .non .non
  | bl (b : Bool) : ExA K (.bl b) (.bl b)
  | int (i : Int) : ExA K (.int i) (.int i)
  | str (z : Str) : ExA K (.str z) (.str z)
/-- .. with lists and tuples, nested less than n deep -/
def Ex (K : PySem.W.Frag) (H : Hp) : Nat → V → V → Prop
  | 0, _, _ => False
  | n + 1, x, y => ExA K x y ∨ ∃ b a a' xs ys, x = .ref a ∧ y = .ref a' ∧ H a = some (rowO b xs) ∧ H a' = some (rowO b ys) ∧ xs.length ≤ 100000 ∧ Paired (Ex K H n) xs ys
theorem Ex.mono {K : PySem.W.Frag} {H H' : Hp} (s : Same H H') : ∀ {n : Nat} {x y : V}, Ex K H n x y → Ex K H' n x y
  | 0, _, _, h => h
  | n + 1, _, _, h => by
    rcases h with h | ⟨b, a, a', xs, ys, e1, e2, h1, h2, l, p⟩
    · exact .inl h
    · exact .inr ⟨b, a, a', xs, ys, e1, e2, s _ _ h1, s _ _ h2, l, Paired.mapP p fun _ _ e => Ex.mono s e⟩
def spEx (n : Nat) (K : PySem.W.Frag) : Sp := fun vs H Q _ => ∃ x y, vs = [x, y] ∧ Ex K H n x y ∧ ∀ H', Same H H' → Q (.bl true) H'
def sp__law_exact := spEx 4
theorem ok_ex0 {f : Addr} {fd : FuncData} (F : Fun K "_law_exact" "_law_exact" s__law_exact f fd) : FnOk P w K mg base CX0 1 f fd ["_law_told", "_law_due"] (spEx 0 K) := by
  refine F.ok sc__law_exact (fun vs H Q E h => ?_) (fun cdv A outer s H vs Q E hr h => ?_)
  · obtain ⟨x, y, rfl, _⟩ := h
    rfl
  · obtain ⟨x, y, rfl, hx, q⟩ := h
    exact hx.elim
theorem ok_exs {f : Addr} {D : Addr} {fd : FuncData} (T : Txt K mg D) (F : Fun K "_law_exact" "_law_exact" s__law_exact f fd) (n : Nat) (c__law_is_integer : Cal P w K mg base 1 "_law_is_integer" (sp__law_is_integer K) [])
    (c__law_exact : Cal P w K mg base (n + 1) "_law_exact" (spEx n K) []) : FnOk P w K mg base CX0 (n + 1 + 1) f fd ["_law_told", "_law_due"] (spEx (n + 1) K) := by
  have nd := sc__law_exact.nd
  refine F.ok sc__law_exact (fun vs H Q E h => ?_) (fun cdv A outer s H vs Q E hr h => ?_)
  · obtain ⟨x, y, rfl, _⟩ := h
    rfl
  · obtain ⟨x, y, rfl, hx, q⟩ := h
    refine ⟨_, (pss_cons (ps_if (PW.pt (pw_or (pt_val (pe_callB call_isi (by rfl) T.m_isinstance (by decide +kernel) (pa_cons (pv 1) (pa_cons (pe_bltn (v := .ty "list") (u := .type "list") (by rfl) T.m_list (by decide +kernel) rfl) pa_nil)))) (pw_or1 (pt_val (pe_callB call_isi (by rfl) T.m_isinstance (by decide +kernel) (pa_cons (pv 1) (pa_cons (pe_bltn (v := .ty "tuple") (u := .type "tuple") (by rfl) T.m_tuple (by decide +kernel) rfl) pa_nil))))))) (pss_cons (ps_if (PW.pt (pw_and (pt_val (pe_callB call_isi (by rfl) T.m_isinstance (by decide +kernel) (pa_cons (pv 1) (pa_cons (pe_bltn (v := .ty "list") (u := .type "list") (by rfl) T.m_list (by decide +kernel) rfl) pa_nil)))) (pw_and1 (pt_not (pt_val (pe_callB call_isi (by rfl) T.m_isinstance (by decide +kernel) (pa_cons (pv 0) (pa_cons (pe_bltn (v := .ty "list") (u := .type "list") (by rfl) T.m_list (by decide +kernel) rfl) pa_nil)))))))) (pss_one (ps_ret pe_bl)) pss_nil)
      (pss_cons (ps_if (PW.pt (pw_and (pt_val (pe_callB call_isi (by rfl) T.m_isinstance (by decide +kernel) (pa_cons (pv 1) (pa_cons (pe_bltn (v := .ty "tuple") (u := .type "tuple") (by rfl) T.m_tuple (by decide +kernel) rfl) pa_nil)))) (pw_and1 (pt_not (pt_val (pe_callB call_isi (by rfl) T.m_isinstance (by decide +kernel) (pa_cons (pv 0) (pa_cons (pe_bltn (v := .ty "tuple") (u := .type "tuple") (by rfl) T.m_tuple (by decide +kernel) rfl) pa_nil)))))))) (pss_one (ps_ret pe_bl)) pss_nil)
      (pss_cons (ps_if (pt_cmpR op_ne (pe_callB call_len (by rfl) T.m_len (by decide +kernel) (pa_cons (pv 0) pa_nil)) (pe_callB call_len (by rfl) T.m_len (by decide +kernel) (pa_cons (pv 1) pa_nil)) (nomark _)) (pss_one (ps_ret pe_bl)) pss_nil)
      (pss_cons (ps_for PassesOwn.never rfl (pi_range1 (by rfl) T.m_range (pa_cons (pe_callB call_len (by rfl) T.m_len (by decide +kernel) (pa_cons (pv 1) pa_nil)) pa_nil)) (pg_name (i := 2) nd rfl (.inl rfl)) (pss_one (ps_if (pt_not (pt_val (pe_c c__law_exact hr (by omega) (by rfl) (pa_cons (pe_ix (r := KnC.rIx K) (KnC.ix_seq ix_list ix_tup) (pv 0) (pv 2) (fun _ _ => rfl)) (pa_cons (pe_ix (r := KnC.rIx K) (KnC.ix_seq ix_list ix_tup) (pv 1) (pv 2) (fun _ _ => rfl)) pa_nil))))) (pss_one (ps_ret pe_bl)) pss_nil)))
      (pss_one (ps_ret pe_bl)))))) pss_nil)
      (pss_cons (ps_if (pt_cmpR op_isN (pv 1) pe_non (nomark _)) (pss_one (ps_ret (pe_cmpR op_isN (pv 0) pe_non (nomark _)))) pss_nil)
      (pss_cons (ps_if (pt_val (pe_callB call_isi (by rfl) T.m_isinstance (by decide +kernel) (pa_cons (pv 1) (pa_cons (pe_bltn (v := .ty "bool") (u := .type "bool") (by rfl) T.m_bool (by decide +kernel) rfl) pa_nil)))) (pss_one (ps_ret (pe_and (pe_callB call_isi (by rfl) T.m_isinstance (by decide +kernel) (pa_cons (pv 0) (pa_cons (pe_bltn (v := .ty "bool") (u := .type "bool") (by rfl) T.m_bool (by decide +kernel) rfl) pa_nil))) (pe_one (pe_cmpR op_eq (pv 0) (pv 1) (nomark _)))))) pss_nil)
      (pss_cons (ps_if (pt_val (pe_callB call_isi (by rfl) T.m_isinstance (by decide +kernel) (pa_cons (pv 1) (pa_cons (pe_bltn (v := .ty "int") (u := .type "int") (by rfl) T.m_int (by decide +kernel) rfl) pa_nil)))) (pss_one (ps_ret (pe_and (pe_c c__law_is_integer hr (by omega) (by rfl) (pa_cons (pv 0) pa_nil)) (pe_one (pe_cmpR op_eq (pv 0) (pv 1) (nomark _)))))) pss_nil)
      (pss_one (ps_ret (pe_and (pe_callB call_isi (by rfl) T.m_isinstance (by decide +kernel) (pa_cons (pv 0) (pa_cons (pe_bltn (v := .ty "str") (u := .type "str") (by rfl) T.m_str (by decide +kernel) rfl) pa_nil))) (pe_one (pe_cmpR op_eq (pv 0) (pv 1) (nomark _)))))))))), ?_⟩
    have q0 := q H (Same.refl H)
    rcases hx with hx | ⟨b, a, a', xs, ys, rfl, rfl, ha, ha', hl, hp⟩
    · cases hx with
      | non =>
        refine ⟨.non, rfl, .non, .ty "list", _, _, false, rfl, .ty _, .base .non, kit_ty (show kitB "NoneType" "list" = some false by decide +kernel), _, rfl, iteF ?_⟩
        refine ⟨.non, rfl, .non, .ty "tuple", _, _, false, rfl, .ty _, .base .non, kit_ty (show kitB "NoneType" "tuple" = some false by decide +kernel), _, rfl, iteF ?_⟩
        exact ⟨.non, rfl, rfl, _, rfl, iteT ⟨.non, rfl, rfl, q0⟩⟩
      | bl c =>
        refine ⟨.bl c, rfl, .bl c, .ty "list", _, _, false, rfl, .ty _, .base (.bl c), kit_ty (show kitB "bool" "list" = some false by decide +kernel), _, rfl, iteF ?_⟩
        refine ⟨.bl c, rfl, .bl c, .ty "tuple", _, _, false, rfl, .ty _, .base (.bl c), kit_ty (show kitB "bool" "tuple" = some false by decide +kernel), _, rfl, iteF ?_⟩
        refine ⟨.bl c, rfl, rfl, _, rfl, ?_⟩
        rw [decide_eq_false (show ¬ V.bl c = V.non from fun z => by cases z)]
        refine iteF ⟨.bl c, rfl, .bl c, .ty "bool", _, _, true, rfl, .ty _, .base (.bl c), kit_ty (show kitB "bool" "bool" = some true by decide +kernel), _, rfl, iteT ?_⟩
        refine ⟨.bl c, rfl, .bl c, .ty "bool", _, _, true, rfl, .ty _, .base (.bl c), kit_ty (show kitB "bool" "bool" = some true by decide +kernel), _, rfl, iteT ⟨.bl c, rfl, .bl c, rfl, rfl, ?_⟩⟩
        rw [decide_eq_true rfl]
        exact q0
      | int i =>
        refine ⟨.int i, rfl, .int i, .ty "list", _, _, false, rfl, .ty _, .base (.int i), kit_ty (show kitB "int" "list" = some false by decide +kernel), _, rfl, iteF ?_⟩
        refine ⟨.int i, rfl, .int i, .ty "tuple", _, _, false, rfl, .ty _, .base (.int i), kit_ty (show kitB "int" "tuple" = some false by decide +kernel), _, rfl, iteF ?_⟩
        refine ⟨.int i, rfl, rfl, _, rfl, ?_⟩
        rw [decide_eq_false (show ¬ V.int i = V.non from fun z => by cases z)]
        refine iteF ⟨.int i, rfl, .int i, .ty "bool", _, _, false, rfl, .ty _, .base (.int i), kit_ty (show kitB "int" "bool" = some false by decide +kernel), _, rfl, iteF ?_⟩
        refine ⟨.int i, rfl, .int i, .ty "int", _, _, true, rfl, .ty _, .base (.int i), kit_ty (show kitB "int" "int" = some true by decide +kernel), _, rfl, iteT ?_⟩
        refine ⟨.int i, rfl, .int i, rfl, .int _, fun H1 s1 => ⟨_, rfl, iteT ⟨.int i, rfl, .int i, rfl, rfl, ?_⟩⟩⟩
        rw [decide_eq_true rfl]
        exact q H1 s1
      | str z =>
        refine ⟨.str z, rfl, .str z, .ty "list", _, _, false, rfl, .ty _, .base (.str z), kit_ty (show kitB "str" "list" = some false by decide +kernel), _, rfl, iteF ?_⟩
        refine ⟨.str z, rfl, .str z, .ty "tuple", _, _, false, rfl, .ty _, .base (.str z), kit_ty (show kitB "str" "tuple" = some false by decide +kernel), _, rfl, iteF ?_⟩
        refine ⟨.str z, rfl, rfl, _, rfl, ?_⟩
        rw [decide_eq_false (show ¬ V.str z = V.non from fun z => by cases z)]
        refine iteF ⟨.str z, rfl, .str z, .ty "bool", _, _, false, rfl, .ty _, .base (.str z), kit_ty (show kitB "str" "bool" = some false by decide +kernel), _, rfl, iteF ?_⟩
        refine ⟨.str z, rfl, .str z, .ty "int", _, _, false, rfl, .ty _, .base (.str z), kit_ty (show kitB "str" "int" = some false by decide +kernel), _, rfl, iteF ?_⟩
        refine ⟨.str z, rfl, .str z, .ty "str", _, _, true, rfl, .ty _, .base (.str z), kit_ty (show kitB "str" "str" = some true by decide +kernel), _, rfl, iteT ⟨.str z, rfl, .str z, rfl, rfl, ?_⟩⟩
        rw [decide_eq_true rfl]
        exact q0
    · have hly := hp.length
      have len1 : ∀ {G : Hp}, Same H G → LenV K (.ref a) G xs.length := fun s => row_len (s _ _ ha)
      have len2 : ∀ {G : Hp}, Same H G → LenV K (.ref a') G xs.length := fun s => by rw [hly]; exact row_len (s _ _ ha')
      cases b with
      | true =>
        refine ⟨.ref a', rfl, .ref a', .ty "list", _, _, true, rfl, .ty _, .base (.lst ha'), kit_ty (show kitB "list" "list" = some true by decide +kernel), _, rfl, iteT ?_⟩
        refine ⟨.ref a', rfl, .ref a', .ty "list", _, _, true, rfl, .ty _, .base (.lst ha'), kit_ty (show kitB "list" "list" = some true by decide +kernel), _, rfl, iteT ⟨.ref a, rfl, .ref a, .ty "list", _, _, true, rfl, .ty _, .base (.lst ha), kit_ty (show kitB "list" "list" = some true by decide +kernel), _, rfl, iteF ?_⟩⟩
        refine ⟨.ref a', rfl, .ref a', .ty "tuple", _, _, false, rfl, .ty _, .base (.lst ha'), kit_ty (show kitB "list" "tuple" = some false by decide +kernel), _, rfl, iteF (iteF ?_)⟩
        refine ⟨.ref a, rfl, .ref a, xs.length, rfl, len1 (Same.refl H), .ref a', rfl, .ref a', xs.length, rfl, len2 (Same.refl H), rfl, _, rfl, ?_⟩
        rw [decide_eq_true rfl]
        refine iteF ⟨.ref a', rfl, .ref a', xs.length, rfl, len2 (Same.refl H), (xs.length : Int), rfl, by omega, by omega, ?_⟩
        refine for_range (lo := 0) (n := ((xs.length : Int)).toNat) (fun i σ H' => Same H H' ∧ ∃ y2, σ = [some (.ref a), some (.ref a'), y2]) ⟨Same.refl H, none, rfl⟩ (fun i σ H' hi hP => ?_) (fun σ H' hP => ?_)
        · obtain ⟨S, y2, rfl⟩ := hP
          have hi' : i < xs.length := by omega
          have g1 : xs[i]? = some xs[i] := List.getElem?_eq_getElem hi'
          obtain ⟨y, g2, hxy⟩ := paired_get hp g1
          have e0 : (0 : Int) + (i : Nat) = (i : Nat) := by omega
          rw [e0]
          refine ⟨.ref a, rfl, .int (i : Nat), rfl, .inl ⟨a, xs, _, xs[i], rfl, rfl, .inl (.inl (S _ _ ha)), atI_nat g1, ?_⟩⟩
          refine ⟨.ref a', rfl, .int (i : Nat), rfl, .inl ⟨a', ys, _, y, rfl, rfl, .inl (.inl (S _ _ ha')), atI_nat g2, ?_⟩⟩
          exact ⟨xs[i], y, rfl, Ex.mono S hxy, fun H1 s1 => ⟨_, rfl, iteF ⟨S.trans s1, _, rfl⟩⟩⟩
        · obtain ⟨S, y2, rfl⟩ := hP
          exact q H' S
      | false =>
        refine ⟨.ref a', rfl, .ref a', .ty "list", _, _, false, rfl, .ty _, .base (.tup ha'), kit_ty (show kitB "tuple" "list" = some false by decide +kernel), _, rfl, iteF ⟨.ref a', rfl, .ref a', .ty "tuple", _, _, true, rfl, .ty _, .base (.tup ha'), kit_ty (show kitB "tuple" "tuple" = some true by decide +kernel), _, rfl, iteT ?_⟩⟩
        refine ⟨.ref a', rfl, .ref a', .ty "list", _, _, false, rfl, .ty _, .base (.tup ha'), kit_ty (show kitB "tuple" "list" = some false by decide +kernel), _, rfl, iteF (iteF ?_)⟩
        refine ⟨.ref a', rfl, .ref a', .ty "tuple", _, _, true, rfl, .ty _, .base (.tup ha'), kit_ty (show kitB "tuple" "tuple" = some true by decide +kernel), _, rfl, iteT ⟨.ref a, rfl, .ref a, .ty "tuple", _, _, true, rfl, .ty _, .base (.tup ha), kit_ty (show kitB "tuple" "tuple" = some true by decide +kernel), _, rfl, iteF ?_⟩⟩
        refine ⟨.ref a, rfl, .ref a, xs.length, rfl, len1 (Same.refl H), .ref a', rfl, .ref a', xs.length, rfl, len2 (Same.refl H), rfl, _, rfl, ?_⟩
        rw [decide_eq_true rfl]
        refine iteF ⟨.ref a', rfl, .ref a', xs.length, rfl, len2 (Same.refl H), (xs.length : Int), rfl, by omega, by omega, ?_⟩
        refine for_range (lo := 0) (n := ((xs.length : Int)).toNat) (fun i σ H' => Same H H' ∧ ∃ y2, σ = [some (.ref a), some (.ref a'), y2]) ⟨Same.refl H, none, rfl⟩ (fun i σ H' hi hP => ?_) (fun σ H' hP => ?_)
        · obtain ⟨S, y2, rfl⟩ := hP
          have hi' : i < xs.length := by omega
          have g1 : xs[i]? = some xs[i] := List.getElem?_eq_getElem hi'
          obtain ⟨y, g2, hxy⟩ := paired_get hp g1
          have e0 : (0 : Int) + (i : Nat) = (i : Nat) := by omega
          rw [e0]
          refine ⟨.ref a, rfl, .int (i : Nat), rfl, .inr ⟨a, xs, _, xs[i], rfl, rfl, .inl (.inl (S _ _ ha)), atI_nat g1, ?_⟩⟩
          refine ⟨.ref a', rfl, .int (i : Nat), rfl, .inr ⟨a', ys, _, y, rfl, rfl, .inl (.inl (S _ _ ha')), atI_nat g2, ?_⟩⟩
          exact ⟨xs[i], y, rfl, Ex.mono S hxy, fun H1 s1 => ⟨_, rfl, iteF ⟨S.trans s1, _, rfl⟩⟩⟩
        · obtain ⟨S, y2, rfl⟩ := hP
          exact q H' S

theorem paired_same {α : Type} {F : α → α → Prop} {l : List α} (h : ∀ x ∈ l, F x x) : Paired F l l := by
  induction l with
  | nil => exact .nil
  | cons x r ih => exact .cons (h x List.mem_cons_self) (ih fun y hy => h y (List.mem_cons_of_mem _ hy))
theorem ex_strs {K : PySem.W.Frag} {H : Hp} {n : Nat} {a b : Addr} {xs : List Str} (ha : H a = some (.lst (xs.map V.str))) (hb : H b = some (.lst (xs.map V.str))) (hl : xs.length ≤ 100000) : Ex K H (n + 2) (.ref a) (.ref b) := by
  refine .inr ⟨true, a, b, _, _, rfl, rfl, ha, hb, by rw [List.length_map]; exact hl, paired_same fun x hx => ?_⟩
  obtain ⟨y, _, rfl⟩ := List.mem_map.mp hx
  exact .inl (.str y)

end
end Kn

set_option Elab.async false
set_option linter.all false
set_option maxRecDepth 100000
set_option maxHeartbeats 4000000
namespace Kn
open PySem PySem.Spec PyProof.Rows L2
open C8 (Cal pe_c pe_gc Mak pe_mk)
section
variable {P : Program} {w : World} {K : PySem.W.Frag} {mg : Str → Option Value} {base : Heap}
/-! ### tables of texts -/
def putT (tb : List (Str × Str)) (x y : Str) : List (Str × Str) := if (tb.any fun p => decide (p.1 = x)) = true then tb.map fun p => if p.1 = x then (x, y) else p else tb ++ [(x, y)]
theorem fkv_any (tb : List (Str × Str)) (x : Str) : ((fkv tb).any fun kv => decide (kv.1 = (Sum.inr x : Key))) = tb.any fun p => decide (p.1 = x) := by
  unfold fkv
  rw [List.any_map]
  congr 1
  funext p
  exact decide_eq_decide.mpr ⟨Sum.inr.inj, fun e => congrArg _ e⟩
theorem fkv_putT (tb : List (Str × Str)) (x y : Str) : putK (fkv tb) (.inr x) (.str y) = fkv (putT tb x y) := by
  unfold putK putT
  rw [fkv_any]
  split
  · unfold fkv
    rw [List.map_map, List.map_map]
    refine List.map_congr_left fun p _ => ?_
    show (if (Sum.inr p.1 : Key) = Sum.inr x then ((Sum.inr p.1 : Key), V.str y) else (Sum.inr p.1, V.str p.2)) = (Sum.inr (if p.1 = x then (x, y) else p).1, V.str (if p.1 = x then (x, y) else p).2)
    by_cases e : p.1 = x
    · rw [if_pos (by rw [e]), if_pos e, e]
    · rw [if_neg (fun z => e (Sum.inr.inj z)), if_neg e]
  · unfold fkv
    rw [List.map_append]; rfl
theorem putT_len (tb : List (Str × Str)) (x y : Str) : (putT tb x y).length ≤ tb.length + 1 := by
  unfold putT
  split
  · rw [List.length_map]; omega
  · rw [List.length_append]; exact Nat.le_refl _
theorem putT_mem {tb : List (Str × Str)} {x y : Str} {p : Str × Str} (h : p ∈ putT tb x y) : p ∈ tb ∨ p = (x, y) := by
  unfold putT at h
  split at h
  · obtain ⟨u, hu, e⟩ := List.mem_map.mp h
    by_cases z : u.1 = x
    · rw [if_pos z] at e; exact .inr e.symm
    · rw [if_neg z] at e; exact .inl (e ▸ hu)
  · rcases List.mem_append.mp h with h | h
    · exact .inl h
    · exact .inr (List.mem_singleton.mp h)
theorem putT_nd {tb : List (Str × Str)} (n : (tb.map (·.1)).Nodup) (x y : Str) : ((putT tb x y).map (·.1)).Nodup := by
  unfold putT
  split
  · rw [List.map_map]
    have e : tb.map ((·.1) ∘ fun p => if p.1 = x then (x, y) else p) = tb.map (·.1) := List.map_congr_left fun p _ => by
      show (if p.1 = x then (x, y) else p).1 = p.1
      by_cases e : p.1 = x
      · rw [if_pos e, e]
      · rw [if_neg e]
    rw [e]; exact n
  · rename_i no
    rw [List.map_append]
    refine List.nodup_append.mpr ⟨n, by simp, fun a ha b hb e => no ?_⟩
    obtain ⟨p, hp, ep⟩ := List.mem_map.mp ha
    have hb' : b = x := List.mem_singleton.mp hb
    exact List.any_eq_true.mpr ⟨p, hp, decide_eq_true (by rw [ep, e, hb'])⟩
theorem look_nil (z : Str) : look [] z = none := rfl
theorem look_app (a b : List (Str × Str)) (z : Str) : look (a ++ b) z = (look a z).or (look b z) := by
  induction a with
  | nil => rfl
  | cons p r ih =>
    obtain ⟨x, n⟩ := p
    rw [List.cons_append, look_cons, look_cons]
    by_cases e : x = z
    · rw [if_pos e, if_pos e]; rfl
    · rw [if_neg e, if_neg e]; exact ih
theorem look_any {tb : List (Str × Str)} {x : Str} : (tb.any fun p => decide (p.1 = x)) = (look tb x).isSome := by
  induction tb with
  | nil => rfl
  | cons p r ih =>
    obtain ⟨u, n⟩ := p
    rw [List.any_cons, look_cons, ih]
    by_cases e : u = x
    · rw [if_pos e, decide_eq_true e]; rfl
    · rw [if_neg e, decide_eq_false e]; rfl
theorem look_map (tb : List (Str × Str)) (x y z : Str) : look (tb.map fun p => if p.1 = x then (x, y) else p) z = if x = z then (if (look tb x).isSome then some y else none) else look tb z := by
  induction tb with
  | nil => by_cases e : x = z <;> simp [look, e]
  | cons p r ih =>
    obtain ⟨u, n⟩ := p
    rw [List.map_cons]
    by_cases e : u = x
    · subst e
      rw [if_pos (show (u, n).1 = u from rfl), look_cons u y, look_cons u n r u, look_cons u n r z, if_pos (rfl : u = u)]
      by_cases e2 : u = z
      · rw [if_pos e2, if_pos e2]; rfl
      · rw [if_neg e2, if_neg e2, if_neg e2, ih, if_neg e2]
    · rw [if_neg (show ¬ (u, n).1 = x from e), look_cons u n _ z, look_cons u n r x, look_cons u n r z, if_neg e, ih]
      by_cases e2 : u = z
      · rw [if_pos e2, if_pos e2, if_neg (fun t => e (e2.trans t.symm))]
      · rw [if_neg e2, if_neg e2]
theorem look_putT (tb : List (Str × Str)) (x y z : Str) : look (putT tb x y) z = if x = z then some y else look tb z := by
  unfold putT
  split
  · rename_i h
    rw [look_any] at h
    rw [look_map, h]; rfl
  · rename_i h
    have hn : look tb x = none := by
      rw [look_any] at h
      cases e : look tb x with
      | none => rfl
      | some y => rw [e] at h; exact (h rfl).elim
    rw [look_app, look_cons, look_nil]
    by_cases e : x = z
    · subst e
      rw [hn, if_pos rfl]; rfl
    · rw [if_neg e, if_neg e, Option.or_none]
def mergeT (a b : List (Str × Str)) : List (Str × Str) := b.foldl (fun acc p => putT acc p.1 p.2) a
theorem fkv_mergeT : ∀ (b a : List (Str × Str)), KnG.mergeFold (fkv a) (fkv b) = fkv (mergeT a b)
  | [], _ => rfl
  | p :: r, a => by
    show KnG.mergeFold (putK (fkv a) (.inr p.1) (.str p.2)) (fkv r) = _
    rw [fkv_putT, fkv_mergeT r]; rfl
theorem mergeT_len : ∀ (b a : List (Str × Str)), (mergeT a b).length ≤ a.length + b.length
  | [], a => Nat.le_refl _
  | p :: r, a => by
    have h1 := mergeT_len r (putT a p.1 p.2)
    have h2 := putT_len a p.1 p.2
    show (mergeT (putT a p.1 p.2) r).length ≤ _
    rw [List.length_cons]
    omega
theorem mergeT_mem : ∀ (b a : List (Str × Str)) {p : Str × Str}, p ∈ mergeT a b → p ∈ a ∨ p ∈ b
  | [], a, p, h => .inl h
  | q :: r, a, p, h => by
    rcases mergeT_mem r (putT a q.1 q.2) h with h | h
    · rcases putT_mem h with h | h
      · exact .inl h
      · exact .inr (h ▸ List.mem_cons_self)
    · exact .inr (List.mem_cons_of_mem _ h)
theorem mergeT_nd : ∀ (b a : List (Str × Str)), (a.map (·.1)).Nodup → ((mergeT a b).map (·.1)).Nodup
  | [], a, h => h
  | p :: r, a, h => mergeT_nd r _ (putT_nd h _ _)
theorem look_mergeT : ∀ (b a : List (Str × Str)) (z : Str), (b.map (·.1)).Nodup → look (mergeT a b) z = (look b z).or (look a z)
  | [], a, z, _ => rfl
  | p :: r, a, z, n => by
    obtain ⟨x, y⟩ := p
    obtain ⟨n1, n2⟩ := List.nodup_cons.mp n
    show look (mergeT (putT a x y) r) z = _
    rw [look_mergeT r _ z n2, look_putT, look_cons]
    by_cases e : x = z
    · subst e
      have hn : look r x = none := by
        cases e : look r x with
        | none => rfl
        | some q => exact (n1 (List.mem_map.mpr ⟨(x, q), (look_mem n2).mp e, rfl⟩)).elim
      rw [if_pos rfl, if_pos rfl, hn]; rfl
    · rw [if_neg e, if_neg e]
/-- each of the texts stands as itself, and no other one -/
structure SelfW (tb : List (Str × Str)) (xs : List Str) : Prop where
  nd : (tb.map (·.1)).Nodup
  at_ : ∀ z, look tb z = if z ∈ xs then some z else none
theorem SelfW.mem {tb : List (Str × Str)} {xs : List Str} (h : SelfW tb xs) {p : Str × Str} : p ∈ tb ↔ p.1 ∈ xs ∧ p.2 = p.1 := by
  obtain ⟨x, y⟩ := p
  rw [← look_mem h.nd, h.at_]
  by_cases e : x ∈ xs
  · rw [if_pos e]
    exact ⟨fun t => ⟨e, (Option.some.inj t).symm⟩, fun t => congrArg some t.2.symm⟩
  · rw [if_neg e]
    exact ⟨fun t => (by cases t), fun t => (e t.1).elim⟩
theorem SelfW.keys {tb : List (Str × Str)} {xs : List Str} (h : SelfW tb xs) {z : Str} : z ∈ tb.map (·.1) ↔ z ∈ xs := by
  rw [List.mem_map]
  exact ⟨fun ⟨p, hp, e⟩ => e ▸ (h.mem.mp hp).1, fun hz => ⟨(z, z), h.mem.mpr ⟨hz, rfl⟩, rfl⟩⟩
theorem SelfW.vals {tb : List (Str × Str)} {xs : List Str} (h : SelfW tb xs) {z : Str} : z ∈ tb.map (·.2) ↔ z ∈ xs := by
  rw [List.mem_map]
  exact ⟨fun ⟨p, hp, e⟩ => by rw [← e, (h.mem.mp hp).2]; exact (h.mem.mp hp).1, fun hz => ⟨(z, z), h.mem.mpr ⟨hz, rfl⟩, rfl⟩⟩
theorem SelfW.put {tb : List (Str × Str)} {xs : List Str} (h : SelfW tb xs) (x : Str) : SelfW (putT tb x x) (xs ++ [x]) := by
  refine ⟨putT_nd h.nd _ _, fun z => ?_⟩
  rw [look_putT, h.at_]
  by_cases e : x = z
  · subst e
    rw [if_pos rfl, if_pos (List.mem_append.mpr (.inr (List.mem_singleton.mpr rfl)))]
  · rw [if_neg e]
    by_cases k : z ∈ xs
    · rw [if_pos k, if_pos (List.mem_append.mpr (.inl k))]
    · rw [if_neg k, if_neg fun t => (List.mem_append.mp t).elim k fun t => e (List.mem_singleton.mp t).symm]
theorem SelfW.len {tb : List (Str × Str)} {xs : List Str} (h : SelfW tb xs) : tb.length ≤ xs.length := by
  have := sub_len h.nd fun x hx => h.keys.mp hx
  rwa [List.length_map] at this
def inside (t1 t2 : List (Str × Str)) : Bool := t1.all fun p => decide (look t2 p.1 = some p.2)
theorem inside_self {t1 t2 : List (Str × Str)} {xs ys : List Str} (h1 : SelfW t1 xs) (h2 : SelfW t2 ys) : inside t1 t2 = true ↔ ∀ x ∈ xs, x ∈ ys := by
  unfold inside
  rw [List.all_eq_true]
  constructor
  · intro h x hx
    have e := of_decide_eq_true (h (x, x) (h1.mem.mpr ⟨hx, rfl⟩))
    rw [h2.at_] at e
    by_cases k : x ∈ ys
    · exact k
    · rw [if_neg k] at e; cases e
  · intro h p hp
    obtain ⟨a, b⟩ := h1.mem.mp hp
    rw [h2.at_, if_pos (h _ a), b]
    exact decide_eq_true rfl
theorem SelfW.congr {tb : List (Str × Str)} {xs ys : List Str} (h : SelfW tb xs) (e : ∀ z, z ∈ xs ↔ z ∈ ys) : SelfW tb ys := by
  refine ⟨h.nd, fun z => ?_⟩
  rw [h.at_]
  by_cases k : z ∈ xs
  · rw [if_pos k, if_pos ((e z).mp k)]
  · rw [if_neg k, if_neg (fun t => k ((e z).mpr t))]


/-- a comprehension over the items of a dict -/
theorem lc_items {d : Addr} {o : Obj} {kvs : List (Key × V)} {g : TG} {tt : TT} {te : TE} {vs : List Nat} {σ : L2.St} {H1 : Hp} {D : Addr} {Qd : Hp → Prop} (Pv : Nat → Hp → Prop) (h0 : Pv 0 (upd H1 D (.lst []))) (hl : ∀ i H, i ≤ kvs.length → Pv i H → H d = some (.frz o (.dK kvs)))
    (hs : ∀ (i : Nat) (k : Key) (v : V) (T : Addr) (H : Hp), kvs[i]? = some (k, v) → H T = none → Pv i H → g (.ref T) (wipe σ vs) (upd H T (.tup [kV k, v])) fun σ2 H2 => wipe σ2 vs = wipe σ vs ∧ tt σ2 H2 fun b H3 =>
      if b = true then te σ2 H3 fun y H4 => ∃ acc, H4 D = some (.lst acc) ∧ acc.length < sizeLine ∧ Pv (i + 1) (upd H4 D (.lst (acc ++ [y]))) else Pv (i + 1) H3) (hd : ∀ H, Pv kvs.length H → Qd H) :
    ∃ W : Nat → Nat → Hp → Prop, (∃ m, W 0 m (upd H1 D (.lst []))) ∧ ∀ i m H, W i m H →
      ((Iti d o kvs).stop i H ∧ Qd H) ∨ ((Iti d o kvs).go i H ∧ ∃ Nx : Hp → Prop, (∀ H', Nx H' → ∃ m', m' < m ∧ W (i + 1) m' H') ∧ ∀ x H', (Iti d o kvs).yld i H x H' → g x (wipe σ vs) H' fun σ2 H2 => wipe σ2 vs = wipe σ vs ∧ tt σ2 H2 fun b H3 =>
        if b = true then te σ2 H3 fun y H4 => ∃ acc, H4 D = some (.lst acc) ∧ acc.length < sizeLine ∧ Nx (upd H4 D (.lst (acc ++ [y]))) else Nx H3) := by
  refine ⟨fun i m H => m = kvs.length - i ∧ i ≤ kvs.length ∧ Pv i H, ⟨kvs.length, by simp, Nat.zero_le _, h0⟩, ?_⟩
  rintro i m H ⟨rfl, hi, p⟩
  have q := hl i H hi p
  rcases Nat.lt_or_eq_of_le hi with lt | e
  · refine .inr ⟨⟨q, lt⟩, Pv (i + 1), fun H' p' => ⟨kvs.length - (i + 1), by omega, rfl, lt, p'⟩, fun v H' ⟨T, k, u, ek, ev, nT, eH⟩ => ?_⟩
    subst ev eH
    exact hs i k u T H ek nT p
  · subst e
    exact .inl ⟨⟨q, Nat.le_refl _⟩, hd H p⟩
def GoodW (tb : List (Str × Str)) : Prop := (∀ p ∈ tb, nameB (.str p.1) = true ∧ nameB (.str p.2) = true) ∧ tb.length ≤ 1000
/-- a watch stands at p -/
def WatchAt (D : Addr) (H : Hp) (p : Addr) (tb : List (Str × Str)) : Prop := ∃ dx d, H p = some (.ins D dx [("_sights", .ref d)]) ∧ H d = some (.dK (fkv tb))
theorem WatchAt.mono {D : Addr} {H H' : Hp} {p : Addr} {tb : List (Str × Str)} (h : WatchAt D H p tb) (s : Same H H') : WatchAt D H' p tb := by
  obtain ⟨dx, d, h1, h2⟩ := h
  exact ⟨dx, d, s _ _ h1, s _ _ h2⟩
def sp_is_sights (_ : PySem.W.Frag) : Sp := fun vs H Q _ => ∃ (d : Addr) (tb : List (Str × Str)), vs = [.ref d] ∧ H d = some (.dK (fkv tb)) ∧ GoodW tb ∧ ∀ H', Same H H' → Q (.bl true) H'
def optV : Option Str → V
  | some z => .str z
  | none => .non
def sp_Watch_getitem (_ : PySem.W.Frag) (D : Addr) : Sp := fun vs H Q _ => ∃ (p : Addr) (tb : List (Str × Str)) (z : Str), vs = [.ref p, .str z] ∧ WatchAt D H p tb ∧ nameB (.str z) = true ∧ ∀ H', Same H H' → Q (optV (look tb z)) H'
theorem ok_is_sights {f : Addr} {D : Addr} {fd : FuncData} (T : Txt K mg D) (F : Fun K "is_sights" "is_sights" s_is_sights f fd) (c_is_name : Cal P w K mg base 1 "is_name" (sp_is_name K) []) : FnOk P w K mg base CX0 2 f fd ["value"] (sp_is_sights K) := by
  have nd := sc_is_sights.nd
  refine F.ok sc_is_sights (fun vs H Q E h => ?_) (fun cdv A outer s H vs Q E hr h => ?_)
  · obtain ⟨d, tb, rfl, _⟩ := h
    rfl
  · obtain ⟨d, tb, rfl, hd, gw, q⟩ := h
    refine ⟨_, (pss_cons (ps_if (pt_not (pt_val (pe_callB call_isi (by rfl) T.m_isinstance (by decide +kernel) (pa_cons (pv 0) (pa_cons (pe_bltn (v := .ty "dict") (u := .type "dict") (by rfl) T.m_dict (by decide +kernel) rfl) pa_nil))))) (pss_one (ps_ret pe_bl)) pss_nil)
      (pss_one (ps_ret (pe_callB (cr_all rfl) (by rfl) T.m_all (by decide +kernel) (pa_cons (pe_lock (pe_lc (own := [("word", 1), ("sight", 2)]) (g := gTup K 2 (gCons (gName 1) (gCons (gName 2) gNil))) (tt := tYes) rfl nd (pi_items (pv 0)) (blkOk_by (N := ["value", "word", "sight"]) (sc := defScope s_is_sights) (by decide +kernel)) (fun _ _ _ _ _ => (pg_tup (by rfl) (pgs_cons (pg_name (i := 1) nd rfl (.inl rfl)) (pgs_cons (pg_name (i := 2) nd rfl (.inl rfl)) pgs_nil)))) (fun _ _ _ _ _ => pts_nil) (fun _ _ _ _ _ => (pe_and (pe_c c_is_name hr (by omega) (by rfl) (pa_cons (pv 1) pa_nil)) (pe_one (pe_c c_is_name hr (by omega) (by rfl) (pa_cons (pv 2) pa_nil))))))) pa_nil))))), ?_⟩
    refine ⟨.ref d, rfl, .ref d, .ty "dict", _, _, true, rfl, .ty _, .base (.dK hd), kit_ty (show kitB "dict" "dict" = some true by decide +kernel), _, rfl, iteF ?_⟩
    refine ⟨d, .dK (fkv tb), hd, trivial, fun od => ?_⟩
    have back : ∀ {H' : Hp}, (∀ b o, b ≠ d → H b = some o → H' b = some o) → Same H (upd H' d (.dK (fkv tb))) := fun k b o e => by
      by_cases z : b = d
      · rw [z] at e ⊢
        rw [hd] at e
        cases e
        exact upd_same
      · rw [upd_ne z]; exact k b o z e
    refine ⟨.ref d, rfl, d, od, fkv tb, rfl, upd_same, fun LD nD => ?_⟩
    have nDd : LD ≠ d := fun z => by rw [z, upd_same] at nD; cases nD
    refine lc_items (fun i H' => H' d = some (.frz od (.dK (fkv tb))) ∧ (∀ b o, b ≠ d → H b = some o → H' b = some o) ∧ H' LD = some (.lst ((List.replicate i true).map V.bl))) ⟨(upd_ne nDd.symm).trans upd_same, fun b o z e => (upd_ne (fun q => by rw [q] at e; rw [upd_ne nDd] at nD; rw [nD] at e; cases e)).trans ((upd_ne z).trans e), upd_same⟩ (fun i H' _ hP => hP.1) (fun i k v T H' hx nT hP => ?_) (fun H' hP => ?_)
    · obtain ⟨p1, p2, p3⟩ := hP
      obtain ⟨x, y, gx, rfl, rfl⟩ := fkv_get hx
      obtain ⟨g1, g2⟩ := gw.1 _ (List.mem_of_getElem? gx)
      have hi : i < tb.length := (List.getElem?_eq_some_iff.mp gx).1
      have lw := gw.2
      have sT := same_upd (o := .tup [.str x, .str y]) nT
      have p1' := sT _ _ p1
      have p3' := sT _ _ p3
      have p2' : ∀ b o, b ≠ d → H b = some o → (upd H' T (.tup [.str x, .str y])) b = some o := fun b o z e => sT _ _ (p2 b o z e)
      have eT : (upd H' T (.tup [.str x, .str y])) T = some (.tup [.str x, .str y]) := upd_same
      show gTup _ _ _ _ _ (upd H' T (.tup [.str x, .str y])) _
      generalize upd H' T (.tup [.str x, .str y]) = H2 at p1' p2' p3' eT ⊢
      refine ⟨T, _, rfl, .inl (.inl eT), rfl, .str x, _, rfl, .str y, _, rfl, rfl, rfl, ?_⟩
      unfold tYes
      refine iteT ?_
      have hx2 : x.cps.size ≤ 12 := (name_size g1).2
      have hy2 : y.cps.size ≤ 12 := (name_size g2).2
      refine ⟨.str x, rfl, .str x, rfl, .str x (by omega), fun H3 s3 => ⟨nameB (.str x), rfl, ?_⟩⟩
      rw [g1]
      refine iteT ⟨.str y, rfl, .str y, rfl, .str y (by omega), fun H4 s4 => ?_⟩
      rw [g2]
      have k34 := s3.trans s4
      have nDd2 := nDd
      have nD0 : H LD = none := by rwa [upd_ne nDd] at nD
      refine ⟨_, k34 _ _ p3', small (by rw [List.length_map, List.length_replicate]; omega), (upd_ne nDd.symm).trans (k34 _ _ p1'), fun b o z e => (upd_ne (ne_of_none e nD0)).trans (k34 _ _ (p2' b o z e)), ?_⟩
      rw [upd_same, List.replicate_succ', List.map_append]
      rfl
    · obtain ⟨p1, p2, p3⟩ := hP
      refine ⟨p1, LD, List.replicate tb.length true, rfl, .inl (.inl ((upd_ne nDd).trans (by rw [p3]; unfold fkv; rw [List.length_map]))), ?_⟩
      have e : (List.replicate tb.length true).all id = true := by simp
      rw [e]
      exact q _ (back p2)
theorem ok_Watch_getitem {f : Addr} {D : Addr} {fd : FuncData} (T : Txt K mg D) (F : Fun K "__getitem__" "Watch.__getitem__" s_Watch_getitem f fd) (c_is_name : Cal P w K mg base 1 "is_name" (sp_is_name K) []) : FnOk P w K mg base CX0 2 f fd ["self", "at"] (sp_Watch_getitem K D) := by
  have nd := sc_Watch_getitem.nd
  refine F.ok sc_Watch_getitem (fun vs H Q E h => ?_) (fun cdv A outer s H vs Q E hr h => ?_)
  · obtain ⟨p, tb, z, rfl, _⟩ := h
    rfl
  · obtain ⟨p, tb, z, rfl, ⟨dx, d, hp, hd⟩, hz, q⟩ := h
    refine ⟨_, (pss_cons (ps_if (pt_not (pt_val (pe_c c_is_name hr (by omega) (by rfl) (pa_cons (pv 1) pa_nil)))) (pss_one ps_never) pss_nil)
      (pss_one (ps_ret (pe_dget1 (hu_of hr) (pe_fld (pv 0) rfl) (pv 1) ⟨rfl, rfl, rfl, rfl⟩)))), ?_⟩
    have lz := (name_size hz).2
    refine ⟨.str z, rfl, .str z, rfl, .str z (by omega), fun H1 s1 => ⟨_, rfl, ?_⟩⟩
    rw [hz]
    refine iteF ?_
    have S := s1
    refine ⟨.ref p, rfl, p, D, dx, _, .ref d, rfl, S _ _ hp, T.cl_Watch, T.n__sights, by simp [List.lookup], ?_⟩
    have eq : (look tb z).map V.str = none ∨ ∃ y, look tb z = some y := by cases look tb z; exact .inl rfl; exact .inr ⟨_, rfl⟩
    have dg : DGet H1 d (.str z) (valV (fkv tb) (.inr z)) := DGet.k (k := .inr z) (S _ _ hd)
    rw [look_val] at dg
    refine ⟨d, rfl, .inl ⟨_, .inl (S _ _ hd)⟩, .str z, rfl, _, dg, ?_⟩
    have q1 := q H1 S
    cases e : look tb z with
    | none => rw [e] at q1; exact q1
    | some y => rw [e] at q1; exact q1
def WatchO (D : Addr) (H : Hp) (p dx d : Addr) (tb : List (Str × Str)) : Prop := H p = some (.ins D dx [("_sights", .ref d)]) ∧ H d = some (.dK (fkv tb))
def sp_Watch_init (_ : PySem.W.Frag) (D : Addr) : Sp := fun vs H Q _ => ∃ (p dx : Addr) (x : V) (tb : List (Str × Str)), vs = [.ref p, x] ∧ H p = some (.ins D dx []) ∧ ((x = .non ∧ tb = []) ∨ ∃ d, x = .ref d ∧ H d = some (.dK (fkv tb)) ∧ GoodW tb) ∧
  ∀ H' d', (∀ b o, H b = some o → b ≠ p → H' b = some o) → H d' = none → WatchO D H' p dx d' tb → Q .non H'
def sp_Watch_words (_ : PySem.W.Frag) (D : Addr) : Sp := fun vs H Q _ => ∃ (p : Addr) (tb : List (Str × Str)), vs = [.ref p] ∧ WatchAt D H p tb ∧ tb.length < 64 ∧ ∀ H' l ws, Same H H' → H l = none → H' l = some (.lst (ws.map V.str)) → ws.Perm (tb.map (·.1)) → sortedS ws = true → Q (.ref l) H'
def sp_Watch_sights (_ : PySem.W.Frag) (D : Addr) : Sp := fun vs H Q _ => ∃ (p : Addr) (tb : List (Str × Str)), vs = [.ref p] ∧ WatchAt D H p tb ∧ tb.length < 64 ∧ ∀ H' l ws, Same H H' → H l = none → H' l = some (.lst (ws.map V.str)) → KnA.Words ws (tb.map (·.2)) → Q (.ref l) H'
def sp_check_words (_ : PySem.W.Frag) : Sp := fun vs H Q _ => ∃ (b : Bool) (a : Addr) (xs : List Str), vs = [.ref a] ∧ H a = some (rowO b (xs.map V.str)) ∧ (∀ z ∈ xs, nameB (.str z) = true) ∧ xs.length ≤ 1000 ∧ ∀ H', Same H H' → Q .non H'
def sp_Watch_copy (_ : PySem.W.Frag) (D : Addr) : Sp := fun vs H Q _ => ∃ (p : Addr) (tb : List (Str × Str)), vs = [.ref p] ∧ WatchAt D H p tb ∧ GoodW tb ∧ ∀ H' r, Same H H' → H r = none → WatchAt D H' r tb → Q (.ref r) H'
/-- a dict comprehension over a list or a tuple -/
theorem dc_seq {K : PySem.W.Frag} {b : Bool} {a : Addr} {xs : List V} {g : TG} {tt : TT} {tk tv : TE} {vs : List Nat} {σ : L2.St} {H1 : Hp} {D : Addr} {Qd : Hp → Prop} (Pv : Nat → Hp → Prop) (h0 : Pv 0 (upd H1 D (.dK []))) (hl : ∀ i H, i ≤ xs.length → Pv i H → KnE.Sq K b H a xs)
    (hs : ∀ i x H, xs[i]? = some x → Pv i H → g x (wipe σ vs) H fun σ2 H2 => wipe σ2 vs = wipe σ vs ∧ tt σ2 H2 fun c H3 =>
      if c = true then tk σ2 H3 fun y H4 => tv σ2 H4 fun z H5 => ∃ kvs k, y = kV k ∧ H5 D = some (.dK kvs) ∧ kvs.length < sizeLine ∧ Pv (i + 1) (upd H5 D (.dK (putK kvs k z))) else Pv (i + 1) H3) (hd : ∀ H, Pv xs.length H → Qd H) :
    ∃ W : Nat → Nat → Hp → Prop, (∃ m, W 0 m (upd H1 D (.dK []))) ∧ ∀ i m H, W i m H →
      ((KnE.ItS K b a).stop i H ∧ Qd H) ∨ ((KnE.ItS K b a).go i H ∧ ∃ Nx : Hp → Prop, (∀ H', Nx H' → ∃ m', m' < m ∧ W (i + 1) m' H') ∧ ∀ x H', (KnE.ItS K b a).yld i H x H' → g x (wipe σ vs) H' fun σ2 H2 => wipe σ2 vs = wipe σ vs ∧ tt σ2 H2 fun c H3 =>
        if c = true then tk σ2 H3 fun y H4 => tv σ2 H4 fun z H5 => ∃ kvs k, y = kV k ∧ H5 D = some (.dK kvs) ∧ kvs.length < sizeLine ∧ Nx (upd H5 D (.dK (putK kvs k z))) else Nx H3) := by
  refine ⟨fun i m H => m = xs.length - i ∧ i ≤ xs.length ∧ Pv i H, ⟨xs.length, by simp, Nat.zero_le _, h0⟩, ?_⟩
  rintro i m H ⟨rfl, hi, p⟩
  have q := hl i H hi p
  cases b with
  | true =>
    by_cases hlt : i < xs.length
    · refine .inr ⟨⟨xs, xs[i], q, by simp [hlt]⟩, Pv (i + 1), fun H' p' => ⟨xs.length - (i + 1), by omega, rfl, hlt, p'⟩, fun x H' y => ?_⟩
      obtain ⟨e, y⟩ := y
      subst e
      exact hs i x _ (y xs q) p
    · have e : i = xs.length := by omega
      subst e
      exact .inl ⟨⟨xs, q, Nat.le_refl _⟩, hd H p⟩
  | false =>
    by_cases hlt : i < xs.length
    · refine .inr ⟨⟨xs, xs[i], q, by simp [hlt]⟩, Pv (i + 1), fun H' p' => ⟨xs.length - (i + 1), by omega, rfl, hlt, p'⟩, fun x H' y => ?_⟩
      obtain ⟨e, y⟩ := y
      subst e
      exact hs i x _ (y xs q) p
    · have e : i = xs.length := by omega
      subst e
      exact .inl ⟨⟨xs, q, Nat.le_refl _⟩, hd H p⟩
theorem ok_Watch_init {f : Addr} {D : Addr} {fd : FuncData} (T : Txt K mg D) (F : KnD.FunX K "__init__" "Watch.__init__" s_Watch_init f fd) (c_is_sights : Cal P w K mg base 2 "is_sights" (sp_is_sights K) []) : FnOk P w K mg base CX0 3 f fd ["self", "sights"] (sp_Watch_init K D) := by
  have nd := sc_Watch_init.nd
  refine F.ok sc_Watch_init (fun vs H Q E h => ?_) (fun cdv A outer s H vs Q E hr h => ?_)
  · obtain ⟨p, dx, x, tb, rfl, _⟩ := h
    rfl
  · obtain ⟨p, dx, x, tb, rfl, hp, hx, q⟩ := h
    refine ⟨_, (pss_one (ps_if (pt_cmpR op_isN (pv 1) pe_non (nomark _)) (pss_one (ps_fld (pv 0) pe_dnewK rfl)) (pss_one (ps_if (pt_val (pe_c c_is_sights hr (by omega) (by rfl) (pa_cons (pv 1) pa_nil))) (pss_one (ps_fld (pv 0) (pe_callTy call_dictD (by rfl) T.m_dict (by decide +kernel) (pa_cons (pv 1) pa_nil)) rfl)) (pss_one ps_never))))), ?_⟩
    rcases hx with ⟨rfl, rfl⟩ | ⟨d, rfl, hd, gw⟩
    · refine ⟨.non, rfl, rfl, _, rfl, iteT ?_⟩
      intro d2 n2
      have s2 := same_upd (o := .dK []) n2
      have npd : d2 ≠ p := fun z => by rw [z, hp] at n2; cases n2
      refine ⟨.ref p, rfl, p, D, dx, [], rfl, s2 _ _ hp, T.cl_Watch, T.n__sights, by decide, ?_⟩
      exact q _ d2 (fun b o e ne => (upd_ne ne).trans (s2 _ _ e)) n2 ⟨upd_same, (upd_ne npd).trans upd_same⟩
    · refine ⟨.ref d, rfl, rfl, _, rfl, iteF ?_⟩
      refine ⟨.ref d, rfl, d, tb, rfl, hd, gw, fun H1 s1 => ⟨_, rfl, iteT ?_⟩⟩
      refine ⟨.ref d, rfl, d, _, rfl, .inl (s1 _ _ hd), fun d2 n2 => ?_⟩
      have s2 := s1.trans (same_upd (o := .dK (fkv tb)) n2)
      have npd : d2 ≠ p := fun z => by rw [z, s1 _ _ hp] at n2; cases n2
      refine ⟨.ref p, rfl, p, D, dx, [], rfl, s2 _ _ hp, T.cl_Watch, T.n__sights, by decide, ?_⟩
      exact q _ d2 (fun b o e ne => (upd_ne ne).trans (s2 _ _ e)) (s1.free n2) ⟨upd_same, (upd_ne npd).trans upd_same⟩
theorem ok_Watch_words {f : Addr} {D : Addr} {fd : FuncData} (T : Txt K mg D) (F : Fun K "words" "Watch.words" s_Watch_words f fd)  : FnOk P w K mg base CX0 1 f fd ["self"] (sp_Watch_words K D) := by
  have nd := sc_Watch_words.nd
  refine F.ok sc_Watch_words (fun vs H Q E h => ?_) (fun cdv A outer s H vs Q E hr h => ?_)
  · obtain ⟨p, tb, rfl, _⟩ := h
    rfl
  · obtain ⟨p, tb, rfl, ⟨dx, d, hp, hd⟩, l64, q⟩ := h
    refine ⟨_, (pss_one (ps_ret (pe_callB cr_sortedS (by rfl) T.m_sorted (by decide +kernel) (pa_cons (pe_callTy (call_listD rfl) (by rfl) T.m_list (by decide +kernel) (pa_cons (pe_fld (pv 0) rfl) pa_nil)) pa_nil)))), ?_⟩
    refine ⟨.ref p, rfl, p, D, dx, _, .ref d, rfl, hp, T.cl_Watch, T.n__sights, by simp [List.lookup], d, fkv tb, rfl, .inl hd, fun l nl => ?_⟩
    have ek : (fkv tb).map (fun kv => kV kv.1) = (tb.map (·.1)).map V.str := by
      unfold fkv
      rw [List.map_map, List.map_map]; rfl
    have s1 := same_upd (o := .lst ((fkv tb).map fun kv => kV kv.1)) nl
    refine ⟨l, tb.map (·.1), rfl, .inl (.inl (by rw [upd_same, ek])), by rw [List.length_map]; exact l64, fun ys p2 pe so np => ?_⟩
    exact q _ p2 ys (s1.trans (same_upd np)) (s1.free np) upd_same pe so
theorem ok_Watch_sights {f : Addr} {D : Addr} {fd : FuncData} (T : Txt K mg D) (F : Fun K "sights" "Watch.sights" s_Watch_sights f fd)  : FnOk P w K mg base CX0 1 f fd ["self"] (sp_Watch_sights K D) := by
  have nd := sc_Watch_sights.nd
  refine F.ok sc_Watch_sights (fun vs H Q E h => ?_) (fun cdv A outer s H vs Q E hr h => ?_)
  · obtain ⟨p, tb, rfl, _⟩ := h
    rfl
  · obtain ⟨p, tb, rfl, ⟨dx, d, hp, hd⟩, l64, q⟩ := h
    refine ⟨_, (pss_one (ps_ret (pe_callB (show CallR _ (.builtin "sorted") (KnS.rSortedL P w) from KnS.cr_sortedL rfl) (by rfl) T.m_sorted (by decide +kernel) (pa_cons (pe_callTy (show CallR _ (.type "set") (KnS.rSetOf K P w) from KnS.cr_setOf rfl) (by rfl) T.m_set (by decide +kernel) (pa_cons (KnM.pe_listVals rfl (by rfl) T.m_list (pe_fld (pv 0) rfl)) pa_nil)) pa_nil)))), ?_⟩
    refine ⟨.ref p, rfl, p, D, dx, _, .ref d, rfl, hp, T.cl_Watch, T.n__sights, by simp [List.lookup], d, _, rfl, .inl hd, fun l1 n1 => ?_⟩
    have s1 := same_upd (o := .lst ((fkv tb).map (·.2))) n1
    have ev : (fkv tb).map (·.2) = ((tb.map (·.2)).map Sum.inr).map kV := by
      unfold fkv
      rw [List.map_map, List.map_map, List.map_map]
      rfl
    refine ⟨l1, (tb.map (·.2)).map Sum.inr, rfl, .inl (.inl (by rw [upd_same, ev])), ?_, fun D nD => ?_⟩
    · rw [List.length_map, List.length_map]
      unfold scanBound
      omega
    have s2 := same_upd (o := KnS.SetL P w D (KnS.allL ((tb.map (·.2)).map Sum.inr))) nD
    obtain ⟨ys, ey, ny, my⟩ := allL_strs (tb.map (·.2))
    refine ⟨D, ys, rfl, by rw [← ey]; exact upd_same, fun xs l px sx nl => ?_⟩
    exact q _ l xs (s1.trans (s2.trans (same_upd nl))) (Same.free s1 (s2.free nl)) upd_same ⟨KnA.sorted_pair sx, px.symm.nodup ny, fun x => px.mem_iff.trans (my x)⟩
theorem ok_check_words {f : Addr} {D : Addr} {fd : FuncData} (T : Txt K mg D) (F : Fun K "check_words" "check_words" s_check_words f fd) (c_is_row : Cal P w K mg base 1 "is_row" (sp_is_row K) []) (c_is_name : Cal P w K mg base 1 "is_name" (sp_is_name K) []) : FnOk P w K mg base CX0 2 f fd ["words"] (sp_check_words K) := by
  have nd := sc_check_words.nd
  refine F.ok sc_check_words (fun vs H Q E h => ?_) (fun cdv A outer s H vs Q E hr h => ?_)
  · obtain ⟨b, a, xs, rfl, _⟩ := h
    rfl
  · obtain ⟨b, a, xs, rfl, ha, hn, lx, q⟩ := h
    refine ⟨_, (pss_cons (ps_if (pt_not (pt_val (pe_c c_is_row hr (by omega) (by rfl) (pa_cons (pv 0) pa_nil)))) (pss_one ps_never) pss_nil)
      (pss_one (ps_for PassesOwn.never rfl (KnE.pi_seq (pv 0)) (pg_name (i := 1) nd rfl (.inl rfl)) (pss_one (ps_if (pt_not (pt_val (pe_c c_is_name hr (by omega) (by rfl) (pa_cons (pv 1) pa_nil)))) (pss_one ps_never) pss_nil))))), ?_⟩
    refine ⟨.ref a, rfl, b, a, _, rfl, ha, fun H1 s1 => ⟨_, rfl, iteF ?_⟩⟩
    refine ⟨.ref a, rfl, a, b, rfl, ⟨_, row_sq (s1 _ _ ha)⟩, ?_⟩
    refine KnE.for_seq (K := K) (xs := xs.map V.str) (fun i σ H' => ∃ y1, σ = [some (.ref a), y1] ∧ Same H H') ⟨none, rfl, s1⟩ (fun i σ H' _ hP => row_sq (hP.choose_spec.2 _ _ ha)) (fun i x σ H' hx hP => ?_) (fun σ H' hP => ?_)
    · obtain ⟨y1, rfl, S⟩ := hP
      rw [List.getElem?_map] at hx
      cases gx : xs[i]? with
      | none => rw [gx] at hx; cases hx
      | some z =>
      rw [gx] at hx
      cases hx
      have hz := hn z (List.mem_of_getElem? gx)
      have lz := (name_size hz).2
      refine ⟨.str z, rfl, .str z, rfl, .str z (by omega), fun H3 s3 => ⟨nameB (.str z), rfl, ?_⟩⟩
      rw [hz]
      exact iteF ⟨_, rfl, S.trans s3⟩
    · obtain ⟨y1, rfl, S⟩ := hP
      exact q H' S
theorem ok_Watch_copy {f : Addr} {D : Addr} {fd : FuncData} (T : Txt K mg D) (F : Fun K "copy" "Watch.copy" s_Watch_copy f fd) (c_Watch_init : Mak P w K mg base 3 "Watch" D (sp_Watch_init K D) []) : FnOk P w K mg base CX0 5 f fd ["self"] (sp_Watch_copy K D) := by
  have nd := sc_Watch_copy.nd
  refine F.ok sc_Watch_copy (fun vs H Q E h => ?_) (fun cdv A outer s H vs Q E hr h => ?_)
  · obtain ⟨p, tb, rfl, _⟩ := h
    rfl
  · obtain ⟨p, tb, rfl, hw, gw, q⟩ := h
    refine ⟨_, (pss_one (ps_ret (pe_mk c_Watch_init hr (by omega) (by rfl) (pa_cons (pe_fld (pv 0) rfl) pa_nil)))), ?_⟩
    obtain ⟨dx1, d1, hp, hd1⟩ := hw
    refine ⟨.ref p, rfl, p, D, dx1, _, .ref d1, rfl, hp, T.cl_Watch, T.n__sights, by simp [List.lookup], fun x dx nx ndx nex => ?_⟩
    have sx : Same H (upd (upd H dx (.own x)) x (.ins D dx [])) := fun b o e => (upd_ne (ne_of_none e nx)).trans ((upd_ne (ne_of_none e ndx)).trans e)
    refine ⟨x, dx, .ref d1, _, rfl, upd_same, .inr ⟨d1, rfl, sx _ _ hd1, gw⟩, fun H3 d' kp nd' wo => ⟨rfl, ?_⟩⟩
    exact q H3 x (fun b o e => kp b o (sx _ _ e) (ne_of_none e nx)) nx ⟨dx, d', wo.1, wo.2⟩

/-! ### operators of watches -/
/-- a watch, or a dict of sights -/
def SideAt (D : Addr) (H : Hp) (x : V) (d : Addr) (tb : List (Str × Str)) : Prop := (∃ p dx, x = .ref p ∧ WatchO D H p dx d tb) ∨ (x = .ref d ∧ H d = some (.dK (fkv tb)))
theorem SideAt.at_ {D : Addr} {H : Hp} {x : V} {d : Addr} {tb : List (Str × Str)} (h : SideAt D H x d tb) : H d = some (.dK (fkv tb)) := by
  rcases h with ⟨_, _, _, h⟩ | ⟨_, h⟩
  · exact h.2
  · exact h
theorem fkv_len (tb : List (Str × Str)) : (fkv tb).length = tb.length := by unfold fkv; rw [List.length_map]
def shareT (t1 t2 : List (Str × Str)) : List (Str × Str) := t1.filter fun u => decide (look t2 u.1 = some u.2)
def lessT (t : List (Str × Str)) (ws : List Str) : List (Str × Str) := t.filter fun u => decide (¬ u.1 ∈ ws)
theorem putT_new {tb : List (Str × Str)} {x y : Str} (h : x ∉ tb.map (·.1)) : putT tb x y = tb ++ [(x, y)] := by
  unfold putT
  rw [if_neg]
  intro t
  obtain ⟨p, hp, e⟩ := List.any_eq_true.mp t
  exact h (List.mem_map.mpr ⟨p, hp, of_decide_eq_true e⟩)
/-- one more of a filtered row -/
theorem filter_more {tb : List (Str × Str)} {g : Str × Str → Bool} {i : Nat} {u : Str × Str} (nd : (tb.map (·.1)).Nodup) (h : tb[i]? = some u) : (tb.take (i + 1)).filter g = if g u = true then putT ((tb.take i).filter g) u.1 u.2 else (tb.take i).filter g := by
  rw [take_more h, List.filter_append]
  by_cases e : g u = true
  · rw [if_pos e, putT_new, List.filter_cons_of_pos e]; rfl
    intro m
    obtain ⟨p, hp, e2⟩ := List.mem_map.mp m
    have hp2 := (List.mem_filter.mp hp).1
    obtain ⟨j, hj, ej⟩ := List.getElem_of_mem hp2
    have hi := (List.getElem?_eq_some_iff.mp h)
    obtain ⟨li, ei⟩ := hi
    rw [List.length_take] at hj
    rw [List.getElem_take] at ej
    have := (List.pairwise_iff_getElem.mp nd) j i (by rw [List.length_map]; omega) (by rw [List.length_map]; exact li) (by omega)
    rw [List.getElem_map, List.getElem_map, ej, ei] at this
    exact this e2
  · rw [if_neg e, List.filter_cons_of_neg e, List.filter_nil, List.append_nil]
theorem filter_nd {tb : List (Str × Str)} {g : Str × Str → Bool} (nd : (tb.map (·.1)).Nodup) : ((tb.filter g).map (·.1)).Nodup := (List.filter_sublist.map _).nodup nd
theorem look_filter {tb : List (Str × Str)} {g : Str × Str → Bool} (nd : (tb.map (·.1)).Nodup) (z y : Str) : look (tb.filter g) z = some y ↔ look tb z = some y ∧ g (z, y) = true := by
  rw [look_mem (filter_nd nd), look_mem nd, List.mem_filter]
def sp_sights_of_side (_ : PySem.W.Frag) (D : Addr) : Sp := fun vs H Q _ => ∃ (x : V) (d : Addr) (tb : List (Str × Str)), vs = [x] ∧ SideAt D H x d tb ∧ GoodW tb ∧ ∀ H', Same H H' → Q (.ref d) H'
def spBin (D : Addr) (f : List (Str × Str) → List (Str × Str) → List (Str × Str)) : Sp := fun vs H Q _ => ∃ (p : Addr) (y : V) (e : Addr) (t1 t2 : List (Str × Str)), vs = [.ref p, y] ∧ WatchAt D H p t1 ∧ SideAt D H y e t2 ∧ GoodW t1 ∧ GoodW t2 ∧ (t1.map (·.1)).Nodup ∧ t1.length ≤ 100 ∧ t2.length ≤ 100 ∧
  ∀ H' r dx d, Same H H' → H r = none → H d = none → WatchO D H' r dx d (f t1 t2) → Q (.ref r) H'
def sp_Watch_or (_ : PySem.W.Frag) (D : Addr) : Sp := spBin D fun t1 t2 => mergeT (mergeT [] t2) t1
def sp_Watch_ror (_ : PySem.W.Frag) (D : Addr) : Sp := spBin D fun t1 t2 => mergeT (mergeT [] t1) t2
def sp_Watch_and (_ : PySem.W.Frag) (D : Addr) : Sp := spBin D shareT
def sp_Watch_rand (_ : PySem.W.Frag) (D : Addr) : Sp := spBin D shareT
def sp_shared_sights (_ : PySem.W.Frag) : Sp := fun vs H Q _ => ∃ (d1 d2 : Addr) (t1 t2 : List (Str × Str)), vs = [.ref d1, .ref d2] ∧ H d1 = some (.dK (fkv t1)) ∧ H d2 = some (.dK (fkv t2)) ∧ (t1.map (·.1)).Nodup ∧ t1.length ≤ 1000 ∧ ∀ H' d, Same H H' → H d = none → H' d = some (.dK (fkv (shareT t1 t2))) → Q (.ref d) H'
def sp_Watch_sub (_ : PySem.W.Frag) (D : Addr) : Sp := fun vs H Q _ => ∃ (p : Addr) (b : Bool) (a : Addr) (tb : List (Str × Str)) (ws : List Str), vs = [.ref p, .ref a] ∧ WatchAt D H p tb ∧ GoodW tb ∧ (tb.map (·.1)).Nodup ∧ H a = some (rowO b (ws.map V.str)) ∧ (∀ z ∈ ws, nameB (.str z) = true) ∧ ws.length ≤ 1000 ∧
  ∀ H' r dx d, Same H H' → H r = none → H d = none → WatchO D H' r dx d (lessT tb ws) → Q (.ref r) H'
def sp_Watch_ior (_ : PySem.W.Frag) (D : Addr) : Sp := fun vs H Q _ => ∃ (p dx d0 : Addr) (y : V) (e : Addr) (t1 t2 : List (Str × Str)), vs = [.ref p, y] ∧ WatchO D H p dx d0 t1 ∧ SideAt D H y e t2 ∧ GoodW t1 ∧ GoodW t2 ∧ (t1.map (·.1)).Nodup ∧ t1.length ≤ 100 ∧ t2.length ≤ 100 ∧
  ∀ H' d, (∀ b o, H b = some o → b ≠ p → H' b = some o) → WatchO D H' p dx d (mergeT (mergeT [] t2) t1) → Q (.ref p) H'
def sp_Watch_isub (_ : PySem.W.Frag) (D : Addr) : Sp := fun vs H Q _ => ∃ (p dx d0 : Addr) (b : Bool) (a : Addr) (tb : List (Str × Str)) (ws : List Str), vs = [.ref p, .ref a] ∧ WatchO D H p dx d0 tb ∧ GoodW tb ∧ (tb.map (·.1)).Nodup ∧ H a = some (rowO b (ws.map V.str)) ∧ (∀ z ∈ ws, nameB (.str z) = true) ∧ ws.length ≤ 1000 ∧
  ∀ H' d, (∀ b o, H b = some o → b ≠ p → H' b = some o) → WatchO D H' p dx d (lessT tb ws) → Q (.ref p) H'
def sp_Watch_len (_ : PySem.W.Frag) (D : Addr) : Sp := fun vs H Q _ => ∃ (p : Addr) (tb : List (Str × Str)), vs = [.ref p] ∧ WatchAt D H p tb ∧ Q (.int (tb.length : Nat)) H
/-- o[x] = y; o[x] = None -/
def delT (tb : List (Str × Str)) (x : Str) : List (Str × Str) := tb.filter fun u => decide (u.1 ≠ x)
def sp_Watch_setitem (_ : PySem.W.Frag) (D : Addr) : Sp := fun vs H Q _ => ∃ (p dx d : Addr) (tb : List (Str × Str)) (x : Str) (y : Option Str), vs = [.ref p, .str x, optV y] ∧ WatchO D H p dx d tb ∧ nameB (.str x) = true ∧ (∀ z, y = some z → nameB (.str z) = true) ∧ (tb.map (·.1)).Nodup ∧ tb.length ≤ 1000 ∧
  ∀ H', (∀ b o, H b = some o → b ≠ d → H' b = some o) → WatchO D H' p dx d (match y with | some z => putT tb x z | none => delT tb x) → Q .non H'
theorem init_ok {D x dx d : Addr} {G : Hp} {tb : List (Str × Str)} {Q : VK} {E : XK} (nx : G x = none) (ndx : G dx = none) (e : G d = some (.dK (fkv tb))) (good : GoodW tb) (k : ∀ H3 d', Same G H3 → G d' = none → WatchO D H3 x dx d' tb → Q .non H3) : sp_Watch_init K D [.ref x, .ref d] (upd (upd G dx (.own x)) x (.ins D dx [])) Q E := by
  have sx : Same G (upd (upd G dx (.own x)) x (.ins D dx [])) := fun b o e => (upd_ne (ne_of_none e nx)).trans ((upd_ne (ne_of_none e ndx)).trans e)
  exact ⟨x, dx, .ref d, tb, rfl, upd_same, .inr ⟨d, rfl, sx _ _ e, good⟩, fun H3 d' kp nd' wo => k H3 d' (fun b o e => kp b o (sx _ _ e) (ne_of_none e nx)) (sx.free nd') wo⟩
/-- a dict comprehension over the items of a dict -/
theorem dc_items {d : Addr} {o : Obj} {kvs : List (Key × V)} {g : TG} {tt : TT} {tk tv : TE} {vs : List Nat} {σ : L2.St} {H1 : Hp} {D : Addr} {Qd : Hp → Prop} (Pv : Nat → Hp → Prop) (h0 : Pv 0 (upd H1 D (.dK []))) (hl : ∀ i H, i ≤ kvs.length → Pv i H → H d = some (.frz o (.dK kvs)))
    (hs : ∀ (i : Nat) (k : Key) (v : V) (T : Addr) (H : Hp), kvs[i]? = some (k, v) → H T = none → Pv i H → g (.ref T) (wipe σ vs) (upd H T (.tup [kV k, v])) fun σ2 H2 => wipe σ2 vs = wipe σ vs ∧ tt σ2 H2 fun b H3 =>
      if b = true then tk σ2 H3 fun y H4 => tv σ2 H4 fun z H5 => ∃ ks q, y = kV q ∧ H5 D = some (.dK ks) ∧ ks.length < sizeLine ∧ Pv (i + 1) (upd H5 D (.dK (putK ks q z))) else Pv (i + 1) H3) (hd : ∀ H, Pv kvs.length H → Qd H) :
    ∃ W : Nat → Nat → Hp → Prop, (∃ m, W 0 m (upd H1 D (.dK []))) ∧ ∀ i m H, W i m H →
      ((Iti d o kvs).stop i H ∧ Qd H) ∨ ((Iti d o kvs).go i H ∧ ∃ Nx : Hp → Prop, (∀ H', Nx H' → ∃ m', m' < m ∧ W (i + 1) m' H') ∧ ∀ x H', (Iti d o kvs).yld i H x H' → g x (wipe σ vs) H' fun σ2 H2 => wipe σ2 vs = wipe σ vs ∧ tt σ2 H2 fun b H3 =>
        if b = true then tk σ2 H3 fun y H4 => tv σ2 H4 fun z H5 => ∃ ks q, y = kV q ∧ H5 D = some (.dK ks) ∧ ks.length < sizeLine ∧ Nx (upd H5 D (.dK (putK ks q z))) else Nx H3) := by
  refine ⟨fun i m H => m = kvs.length - i ∧ i ≤ kvs.length ∧ Pv i H, ⟨kvs.length, rfl, Nat.zero_le _, h0⟩, ?_⟩
  rintro i m H ⟨rfl, hi, p⟩
  have q := hl i H hi p
  rcases Nat.lt_or_eq_of_le hi with lt | e
  · refine .inr ⟨⟨q, lt⟩, Pv (i + 1), fun H' p' => ⟨kvs.length - (i + 1), by omega, rfl, lt, p'⟩, fun v H' ⟨T, k, u, ek, ev, nT, eH⟩ => ?_⟩
    subst ev eH
    exact hs i k u T H ek nT p
  · subst e
    exact .inl ⟨⟨q, Nat.le_refl _⟩, hd H p⟩
/-- what is asked of a dict of sights that a walk may hold -/
theorem held_get {H' : Hp} {od : Obj} {d1 d2 : Addr} {H : Hp} {t1 t2 : List (Str × Str)} (h1 : H d1 = some (.dK (fkv t1))) (h2 : H d2 = some (.dK (fkv t2))) (e1 : H' d1 = some (.frz od (.dK (fkv t1)))) (k : ∀ b o, b ≠ d1 → H b = some o → H' b = some o) (z : Str) : DGet H' d2 (.str z) (valV (fkv t2) (.inr z)) ∧ IsD H' d2 := by
  by_cases c : d2 = d1
  · subst c
    rw [h1] at h2
    have et : fkv t1 = fkv t2 := HO.dK.inj (Option.some.inj h2)
    rw [et] at e1
    exact ⟨.inl ⟨_, .inr z, .inr ⟨_, e1⟩, rfl, rfl⟩, .inl ⟨_, .inr ⟨_, e1⟩⟩⟩
  · exact ⟨.inl ⟨_, .inr z, .inl (k _ _ c h2), rfl, rfl⟩, .inl ⟨_, .inl (k _ _ c h2)⟩⟩
theorem ok_sights_of_side {f : Addr} {D : Addr} {fd : FuncData} (T : Txt K mg D) (F : Fun K "sights_of_side" "sights_of_side" s_sights_of_side f fd) (c_is_sights : Cal P w K mg base 2 "is_sights" (sp_is_sights K) []) : FnOk P w K mg base CX0 3 f fd ["value"] (sp_sights_of_side K D) := by
  have nd := sc_sights_of_side.nd
  refine F.ok sc_sights_of_side (fun vs H Q E h => ?_) (fun cdv A outer s H vs Q E hr h => ?_)
  · obtain ⟨x, d, tb, rfl, _⟩ := h
    rfl
  · obtain ⟨x, d, tb, rfl, hs, gw, q⟩ := h
    refine ⟨_, (pss_cons (ps_if (pt_val (pe_callB (KnW.call_isCA T.ins_Watch T.isd_Watch) (by rfl) T.m_isinstance (by decide +kernel) (pa_cons (pv 0) (pa_cons (pe_glob (v := .ref D) (by rfl) T.g_Watch rfl) pa_nil)))) (pss_one (ps_ret (pe_fld (pv 0) rfl))) pss_nil)
      (pss_cons (ps_if (pt_not (pt_val (pe_c c_is_sights hr (by omega) (by rfl) (pa_cons (pv 0) pa_nil)))) (pss_one ps_never) pss_nil)
      (pss_one (ps_ret (pv 0))))), ?_⟩
    rcases hs with ⟨p, dx, rfl, hp, hd⟩ | ⟨rfl, hd⟩
    · exact ⟨.ref p, rfl, .inl ⟨p, dx, _, rfl, hp, _, rfl, iteT ⟨.ref p, rfl, p, D, dx, _, .ref d, rfl, hp, T.cl_Watch, T.n__sights, by simp [List.lookup], q _ (Same.refl H)⟩⟩⟩
    · refine ⟨.ref d, rfl, .inr ⟨d, _, rfl, hd, _, rfl, iteF ?_⟩⟩
      exact ⟨.ref d, rfl, d, tb, rfl, hd, gw, fun H1 s1 => ⟨_, rfl, iteF ⟨.ref d, rfl, q _ s1⟩⟩⟩
theorem ok_Watch_or {f : Addr} {D : Addr} {fd : FuncData} (T : Txt K mg D) (F : Fun K "__or__" "Watch.__or__" s_Watch_or f fd) (c_sights_of_side : Cal P w K mg base 3 "sights_of_side" (sp_sights_of_side K D) []) (c_Watch_init : Mak P w K mg base 3 "Watch" D (sp_Watch_init K D) []) : FnOk P w K mg base CX0 5 f fd ["self", "other"] (sp_Watch_or K D) := by
  have nd := sc_Watch_or.nd
  refine F.ok sc_Watch_or (fun vs H Q E h => ?_) (fun cdv A outer s H vs Q E hr h => ?_)
  · obtain ⟨p, y, e, t1, t2, rfl, _⟩ := h
    rfl
  · obtain ⟨p, y, e, t1, t2, rfl, ⟨dx1, d1, hp0, hd10⟩, h2, g1, g2, n1, l1, l2, k⟩ := h
    refine ⟨_, (pss_cons (ps_set (i := 2) nd rfl (.inl rfl) (pe_c c_sights_of_side hr (by omega) (by rfl) (pa_cons (pv 1) pa_nil)))
      (pss_one (ps_ret (pe_mk c_Watch_init hr (by omega) (by rfl) (pa_cons (KnG.pe_stars2 (pv 2) (pe_fld (pv 0) rfl)) pa_nil))))), ?_⟩
    refine ⟨y, rfl, y, e, t2, rfl, h2, g2, fun H1 s1 => ?_⟩
    have hp := s1 _ _ hp0
    have hd1 := s1 _ _ hd10
    have hd2 := s1 _ _ h2.at_
    have e0 : KnG.mergeFold [] (fkv t2) = fkv (mergeT [] t2) := fkv_mergeT t2 []
    have e1 : KnG.mergeFold (fkv (mergeT [] t2)) (fkv t1) = fkv (mergeT (mergeT [] t2) t1) := fkv_mergeT t1 _
    have k0 := mergeT_len t2 []
    have k1 := mergeT_len t1 (mergeT [] t2)
    have z0 : ([] : List (Str × Str)).length = 0 := rfl
    intro d3 n3
    have s3 := same_upd (o := .dK []) n3
    refine ⟨.ref e, rfl, e, fkv t2, rfl, ne_of_none hd2 n3, s3 _ _ hd2, upd_same, smallE (show ([] : List (Key × V)).length + (fkv t2).length ≤ 100000 by rw [fkv_len]; show 0 + t2.length ≤ 100000; omega), ?_⟩
    rw [e0]
    have s4 : Same H1 (upd (upd H1 d3 (.dK [])) d3 (.dK (fkv (mergeT [] t2)))) := same_set n3 s3
    refine ⟨.ref p, rfl, p, D, dx1, _, .ref d1, rfl, s4 _ _ hp, T.cl_Watch, T.n__sights, by simp [List.lookup], d1, fkv t1, rfl, ne_of_none hd1 n3, s4 _ _ hd1, upd_same, smallE (show (fkv (mergeT [] t2)).length + (fkv t1).length ≤ 100000 by rw [fkv_len, fkv_len]; omega), ?_⟩
    rw [e1]
    have s5 : Same H1 (upd (upd (upd H1 d3 (.dK [])) d3 (.dK (fkv (mergeT [] t2)))) d3 (.dK (fkv (mergeT (mergeT [] t2) t1)))) := same_set n3 s4
    have e5 : (upd (upd (upd H1 d3 (.dK [])) d3 (.dK (fkv (mergeT [] t2)))) d3 (.dK (fkv (mergeT (mergeT [] t2) t1)))) d3 = some (.dK (fkv (mergeT (mergeT [] t2) t1))) := upd_same
    generalize upd (upd (upd H1 d3 (.dK [])) d3 (.dK (fkv (mergeT [] t2)))) d3 (.dK (fkv (mergeT (mergeT [] t2) t1))) = G at s5 e5 ⊢
    have good : GoodW (mergeT (mergeT [] t2) t1) := ⟨fun u hu => by
      rcases mergeT_mem _ _ hu with h | h
      · rcases mergeT_mem _ _ h with h | h
        · cases h
        · exact g2.1 u h
      · exact g1.1 u h, by omega⟩
    intro x dx nx ndx nex
    have s15 := s1.trans s5
    exact init_ok nx ndx e5 good fun H3 d' sG nd' wo => ⟨rfl, k H3 x dx d' (s15.trans sG) (s15.free nx) (s15.free nd') wo⟩
theorem ok_Watch_ror {f : Addr} {D : Addr} {fd : FuncData} (T : Txt K mg D) (F : Fun K "__ror__" "Watch.__ror__" s_Watch_ror f fd) (c_sights_of_side : Cal P w K mg base 3 "sights_of_side" (sp_sights_of_side K D) []) (c_Watch_init : Mak P w K mg base 3 "Watch" D (sp_Watch_init K D) []) : FnOk P w K mg base CX0 5 f fd ["self", "other"] (sp_Watch_ror K D) := by
  have nd := sc_Watch_ror.nd
  refine F.ok sc_Watch_ror (fun vs H Q E h => ?_) (fun cdv A outer s H vs Q E hr h => ?_)
  · obtain ⟨p, y, e, t1, t2, rfl, _⟩ := h
    rfl
  · obtain ⟨p, y, e, t1, t2, rfl, ⟨dx1, d1, hp0, hd10⟩, h2, g1, g2, n1, l1, l2, k⟩ := h
    refine ⟨_, (pss_cons (ps_set (i := 2) nd rfl (.inl rfl) (pe_c c_sights_of_side hr (by omega) (by rfl) (pa_cons (pv 1) pa_nil)))
      (pss_one (ps_ret (pe_mk c_Watch_init hr (by omega) (by rfl) (pa_cons (KnG.pe_stars2 (pe_fld (pv 0) rfl) (pv 2)) pa_nil))))), ?_⟩
    refine ⟨y, rfl, y, e, t2, rfl, h2, g2, fun H1 s1 => ?_⟩
    have hp := s1 _ _ hp0
    have hd1 := s1 _ _ hd10
    have hd2 := s1 _ _ h2.at_
    have e0 : KnG.mergeFold [] (fkv t1) = fkv (mergeT [] t1) := fkv_mergeT t1 []
    have e1 : KnG.mergeFold (fkv (mergeT [] t1)) (fkv t2) = fkv (mergeT (mergeT [] t1) t2) := fkv_mergeT t2 _
    have k0 := mergeT_len t1 []
    have k1 := mergeT_len t2 (mergeT [] t1)
    have z0 : ([] : List (Str × Str)).length = 0 := rfl
    intro d3 n3
    have s3 := same_upd (o := .dK []) n3
    refine ⟨.ref p, rfl, p, D, dx1, _, .ref d1, rfl, s3 _ _ hp, T.cl_Watch, T.n__sights, by simp [List.lookup], d1, fkv t1, rfl, ne_of_none hd1 n3, s3 _ _ hd1, upd_same, smallE (show ([] : List (Key × V)).length + (fkv t1).length ≤ 100000 by rw [fkv_len]; show 0 + t1.length ≤ 100000; omega), ?_⟩
    rw [e0]
    have s4 : Same H1 (upd (upd H1 d3 (.dK [])) d3 (.dK (fkv (mergeT [] t1)))) := same_set n3 s3
    refine ⟨.ref e, rfl, e, fkv t2, rfl, ne_of_none hd2 n3, s4 _ _ hd2, upd_same, smallE (show (fkv (mergeT [] t1)).length + (fkv t2).length ≤ 100000 by rw [fkv_len, fkv_len]; omega), ?_⟩
    rw [e1]
    have s5 : Same H1 (upd (upd (upd H1 d3 (.dK [])) d3 (.dK (fkv (mergeT [] t1)))) d3 (.dK (fkv (mergeT (mergeT [] t1) t2)))) := same_set n3 s4
    have e5 : (upd (upd (upd H1 d3 (.dK [])) d3 (.dK (fkv (mergeT [] t1)))) d3 (.dK (fkv (mergeT (mergeT [] t1) t2)))) d3 = some (.dK (fkv (mergeT (mergeT [] t1) t2))) := upd_same
    generalize upd (upd (upd H1 d3 (.dK [])) d3 (.dK (fkv (mergeT [] t1)))) d3 (.dK (fkv (mergeT (mergeT [] t1) t2))) = G at s5 e5 ⊢
    have good : GoodW (mergeT (mergeT [] t1) t2) := ⟨fun u hu => by
      rcases mergeT_mem _ _ hu with h | h
      · rcases mergeT_mem _ _ h with h | h
        · cases h
        · exact g1.1 u h
      · exact g2.1 u h, by omega⟩
    intro x dx nx ndx nex
    have s15 := s1.trans s5
    exact init_ok nx ndx e5 good fun H3 d' sG nd' wo => ⟨rfl, k H3 x dx d' (s15.trans sG) (s15.free nx) (s15.free nd') wo⟩
theorem ok_shared_sights {f : Addr} {D : Addr} {fd : FuncData} (T : Txt K mg D) (F : Fun K "shared_sights" "shared_sights" s_shared_sights f fd)  : FnOk P w K mg base CX0 1 f fd ["one", "other"] (sp_shared_sights K) := by
  have nd := sc_shared_sights.nd
  refine F.ok sc_shared_sights (fun vs H Q E h => ?_) (fun cdv A outer s H vs Q E hr h => ?_)
  · obtain ⟨d1, d2, t1, t2, rfl, _⟩ := h
    rfl
  · obtain ⟨d1, d2, t1, t2, rfl, h1, h2, n1, l1, q⟩ := h
    refine ⟨_, (pss_one (ps_ret (pe_lock (pe_dc (own := [("word", 2), ("sight", 3)]) (g := gTup K 2 (gCons (gName 2) (gCons (gName 3) gNil))) rfl nd (pi_items (pv 0)) (blkOk_by (own := [("word", 2), ("sight", 3)]) (N := ["one", "other", "word", "sight"]) (sc := defScope s_shared_sights) (by decide +kernel)) (fun _ _ _ _ _ => (pg_tup (by rfl) (pgs_cons (pg_name (i := 2) nd rfl (.inl rfl)) (pgs_cons (pg_name (i := 3) nd rfl (.inl rfl)) pgs_nil)))) (fun _ _ _ _ _ => (pts_one (pt_cmpR op_eq (pe_dget1 (hu_of hr) (pv 1) (pv 2) ⟨rfl, rfl, rfl, rfl⟩) (pv 3) (nomark _)))) (fun _ _ _ _ _ => (pv 2)) (fun _ _ _ _ _ => (pv 3)))))), ?_⟩
    refine ⟨d1, .dK (fkv t1), h1, trivial, fun od => ?_⟩
    have back : ∀ {H' : Hp}, (∀ b o, b ≠ d1 → H b = some o → H' b = some o) → Same H (upd H' d1 (.dK (fkv t1))) := fun k b o e => by
      by_cases z : b = d1
      · rw [z] at e ⊢
        rw [h1] at e
        cases e
        exact upd_same
      · rw [upd_ne z]; exact k b o z e
    refine ⟨.ref d1, rfl, d1, od, fkv t1, rfl, upd_same, fun LD nD => ?_⟩
    have nDd : LD ≠ d1 := fun z => by rw [z, upd_same] at nD; cases nD
    have nD0 : H LD = none := by rwa [upd_ne nDd] at nD
    refine dc_items (fun i H' => H' d1 = some (.frz od (.dK (fkv t1))) ∧ (∀ b o, b ≠ d1 → H b = some o → H' b = some o) ∧ H' LD = some (.dK (fkv (shareT (t1.take i) t2)))) ⟨(upd_ne nDd.symm).trans upd_same, fun b o z e => (upd_ne (ne_of_none e nD0)).trans ((upd_ne z).trans e), upd_same⟩ (fun i H' _ hP => hP.1) (fun i k v T' H' hx nT hP => ?_) (fun H' hP => ?_)
    · obtain ⟨p1, p2, p3⟩ := hP
      obtain ⟨x, y, gx, rfl, rfl⟩ := fkv_get hx
      have hi : i < t1.length := (List.getElem?_eq_some_iff.mp gx).1
      have sT := same_upd (o := .tup [.str x, .str y]) nT
      have p1' := sT _ _ p1
      have p3' := sT _ _ p3
      have p2' : ∀ b o, b ≠ d1 → H b = some o → (upd H' T' (.tup [.str x, .str y])) b = some o := fun b o z e => sT _ _ (p2 b o z e)
      have eT : (upd H' T' (.tup [.str x, .str y])) T' = some (.tup [.str x, .str y]) := upd_same
      show gTup _ _ _ _ _ (upd H' T' (.tup [.str x, .str y])) _
      generalize upd H' T' (.tup [.str x, .str y]) = H2 at p1' p2' p3' eT ⊢
      refine ⟨T', _, rfl, .inl (.inl eT), rfl, .str x, _, rfl, .str y, _, rfl, rfl, rfl, ?_⟩
      obtain ⟨dg, isd⟩ := held_get h1 h2 p1' p2' x
      have more := filter_more (g := fun u => decide (look t2 u.1 = some u.2)) n1 gx
      refine ⟨.ref d2, rfl, d2, rfl, isd, .str x, rfl, _, dg, .str y, rfl, ?_⟩
      rw [look_val]
      have ll : (fkv (shareT (t1.take i) t2)).length < sizeLine := small (by rw [fkv_len]; unfold shareT; have := List.length_filter_le (fun u => decide (look t2 u.1 = some u.2)) (t1.take i); rw [List.length_take] at this; omega)
      by_cases c : look t2 x = some y
      · rw [c]
        refine ⟨rfl, _, rfl, ?_⟩
        rw [show decide (((Option.map V.str (some y)).getD V.non) = V.str y) = true from decide_eq_true rfl]
        refine iteT ⟨.str x, rfl, .str y, rfl, _, .inr x, rfl, p3', ll, (upd_ne nDd.symm).trans p1', fun b o z e => (upd_ne (ne_of_none e nD0)).trans (p2' b o z e), ?_⟩
        rw [upd_same, fkv_putT]
        unfold shareT
        rw [more, if_pos (decide_eq_true c)]
      · have ne : ¬ ((Option.map V.str (look t2 x)).getD V.non) = V.str y := fun e => by
          cases g : look t2 x with
          | none => rw [g] at e; cases e
          | some u => rw [g] at e; exact c (by rw [g, V.str.inj e])
        refine ⟨by cases look t2 x <;> rfl, _, rfl, ?_⟩
        rw [decide_eq_false ne]
        refine iteF ⟨p1', p2', ?_⟩
        rw [p3']
        unfold shareT
        rw [more, if_neg (by rw [decide_eq_false c]; decide)]
    · obtain ⟨p1, p2, p3⟩ := hP
      rw [fkv_len, List.take_length] at p3
      exact ⟨p1, q _ LD (back p2) nD0 ((upd_ne nDd).trans p3)⟩

theorem ok_Watch_and {f : Addr} {D : Addr} {fd : FuncData} (T : Txt K mg D) (F : Fun K "__and__" "Watch.__and__" s_Watch_and f fd) (c_Watch_init : Mak P w K mg base 3 "Watch" D (sp_Watch_init K D) []) (c_shared_sights : Cal P w K mg base 1 "shared_sights" (sp_shared_sights K) []) (c_sights_of_side : Cal P w K mg base 3 "sights_of_side" (sp_sights_of_side K D) []) : FnOk P w K mg base CX0 5 f fd ["self", "other"] (sp_Watch_and K D) := by
  have nd := sc_Watch_and.nd
  refine F.ok sc_Watch_and (fun vs H Q E h => ?_) (fun cdv A outer s H vs Q E hr h => ?_)
  · obtain ⟨p, y, e, t1, t2, rfl, _⟩ := h
    rfl
  · obtain ⟨p, y, e, t1, t2, rfl, ⟨dx1, d1, hp, hd1⟩, h2, g1, g2, n1, l1, l2, k⟩ := h
    refine ⟨_, (pss_one (ps_ret (pe_mk c_Watch_init hr (by omega) (by rfl) (pa_cons (pe_c c_shared_sights hr (by omega) (by rfl) (pa_cons (pe_fld (pv 0) rfl) (pa_cons (pe_c c_sights_of_side hr (by omega) (by rfl) (pa_cons (pv 1) pa_nil)) pa_nil))) pa_nil)))), ?_⟩
    refine ⟨.ref p, rfl, p, D, dx1, _, .ref d1, rfl, hp, T.cl_Watch, T.n__sights, by simp [List.lookup], y, rfl, y, e, t2, rfl, h2, g2, fun H1 s1 => ?_⟩
    refine ⟨d1, e, t1, t2, rfl, s1 _ _ hd1, s1 _ _ h2.at_, n1, by omega, fun H2 d s2 nd2 e2 => ?_⟩
    have good : GoodW (shareT t1 t2) := ⟨fun u hu => g1.1 u (List.mem_filter.mp hu).1, Nat.le_trans (List.length_filter_le _ _) g1.2⟩
    intro x dx nx ndx nex
    have S := s1.trans s2
    exact init_ok nx ndx e2 good fun H3 d' sG nd' wo => ⟨rfl, k H3 x dx d' (S.trans sG) (S.free nx) (S.free nd') wo⟩
theorem ok_Watch_rand {f : Addr} {D : Addr} {fd : FuncData} (T : Txt K mg D) (F : Fun K "__rand__" "Watch.__rand__" s_Watch_rand f fd) (c_Watch_init : Mak P w K mg base 3 "Watch" D (sp_Watch_init K D) []) (c_shared_sights : Cal P w K mg base 1 "shared_sights" (sp_shared_sights K) []) (c_sights_of_side : Cal P w K mg base 3 "sights_of_side" (sp_sights_of_side K D) []) : FnOk P w K mg base CX0 5 f fd ["self", "other"] (sp_Watch_rand K D) := by
  have nd := sc_Watch_rand.nd
  refine F.ok sc_Watch_rand (fun vs H Q E h => ?_) (fun cdv A outer s H vs Q E hr h => ?_)
  · obtain ⟨p, y, e, t1, t2, rfl, _⟩ := h
    rfl
  · obtain ⟨p, y, e, t1, t2, rfl, ⟨dx1, d1, hp, hd1⟩, h2, g1, g2, n1, l1, l2, k⟩ := h
    refine ⟨_, (pss_one (ps_ret (pe_mk c_Watch_init hr (by omega) (by rfl) (pa_cons (pe_c c_shared_sights hr (by omega) (by rfl) (pa_cons (pe_fld (pv 0) rfl) (pa_cons (pe_c c_sights_of_side hr (by omega) (by rfl) (pa_cons (pv 1) pa_nil)) pa_nil))) pa_nil)))), ?_⟩
    refine ⟨.ref p, rfl, p, D, dx1, _, .ref d1, rfl, hp, T.cl_Watch, T.n__sights, by simp [List.lookup], y, rfl, y, e, t2, rfl, h2, g2, fun H1 s1 => ?_⟩
    refine ⟨d1, e, t1, t2, rfl, s1 _ _ hd1, s1 _ _ h2.at_, n1, by omega, fun H2 d s2 nd2 e2 => ?_⟩
    have good : GoodW (shareT t1 t2) := ⟨fun u hu => g1.1 u (List.mem_filter.mp hu).1, Nat.le_trans (List.length_filter_le _ _) g1.2⟩
    intro x dx nx ndx nex
    have S := s1.trans s2
    exact init_ok nx ndx e2 good fun H3 d' sG nd' wo => ⟨rfl, k H3 x dx d' (S.trans sG) (S.free nx) (S.free nd') wo⟩
theorem ok_Watch_len {f : Addr} {D : Addr} {fd : FuncData} (T : Txt K mg D) (F : Fun K "__len__" "Watch.__len__" s_Watch_len f fd)  : FnOk P w K mg base CX0 1 f fd ["self"] (sp_Watch_len K D) := by
  have nd := sc_Watch_len.nd
  refine F.ok sc_Watch_len (fun vs H Q E h => ?_) (fun cdv A outer s H vs Q E hr h => ?_)
  · obtain ⟨p, tb, rfl, _⟩ := h
    rfl
  · obtain ⟨p, tb, rfl, ⟨dx1, d1, hp, hd1⟩, k⟩ := h
    refine ⟨_, (pss_one (ps_ret (pe_callB call_lenD (by rfl) T.m_len (by decide +kernel) (pa_cons (pe_fld (pv 0) rfl) pa_nil)))), ?_⟩
    refine ⟨.ref p, rfl, p, D, dx1, _, .ref d1, rfl, hp, T.cl_Watch, T.n__sights, by simp [List.lookup], d1, _, rfl, hd1, ?_⟩
    rw [fkv_len]
    exact k
theorem ok_Watch_sub {f : Addr} {D : Addr} {fd : FuncData} (T : Txt K mg D) (F : Fun K "__sub__" "Watch.__sub__" s_Watch_sub f fd) (c_check_words : Cal P w K mg base 2 "check_words" (sp_check_words K) []) (c_Watch_init : Mak P w K mg base 3 "Watch" D (sp_Watch_init K D) []) : FnOk P w K mg base CX0 5 f fd ["self", "other"] (sp_Watch_sub K D) := by
  have nd := sc_Watch_sub.nd
  refine F.ok sc_Watch_sub (fun vs H Q E h => ?_) (fun cdv A outer s H vs Q E hr h => ?_)
  · obtain ⟨p, b, a, tb, ws, rfl, _⟩ := h
    rfl
  · obtain ⟨p, b, a, tb, ws, rfl, ⟨dx1, d1, hp0, hd10⟩, g1, n1, ha0, hn, lw, k⟩ := h
    refine ⟨_, (pss_cons (ps_expr (pe_c c_check_words hr (by omega) (by rfl) (pa_cons (pv 1) pa_nil)))
      (pss_one (ps_ret (pe_mk c_Watch_init hr (by omega) (by rfl) (pa_cons (pe_lock (pe_dc (own := [("word", 2), ("sight", 3)]) (g := gTup K 2 (gCons (gName 2) (gCons (gName 3) gNil))) rfl nd (pi_items (pe_fld (pv 0) rfl)) (blkOk_by (own := [("word", 2), ("sight", 3)]) (N := ["self", "other", "word", "sight"]) (sc := defScope s_Watch_sub) (by decide +kernel)) (fun _ _ _ _ _ => (pg_tup (by rfl) (pgs_cons (pg_name (i := 2) nd rfl (.inl rfl)) (pgs_cons (pg_name (i := 3) nd rfl (.inl rfl)) pgs_nil)))) (fun _ _ _ _ _ => (pts_one (pt_cmpR (show OpR _ (compareOp .NotIn) (rIn K true) from op_notIn_seq) (pv 2) (pv 1) (by with_unfolding_all rfl)))) (fun _ _ _ _ _ => (pv 2)) (fun _ _ _ _ _ => (pv 3)))) pa_nil))))), ?_⟩
    refine ⟨.ref a, rfl, b, a, ws, rfl, ha0, hn, lw, fun H1 s1 => ?_⟩
    have hp := s1 _ _ hp0
    have h1 := s1 _ _ hd10
    have ha := s1 _ _ ha0
    refine ⟨d1, .dK (fkv tb), h1, trivial, fun od => ?_⟩
    have back : ∀ {H' : Hp}, (∀ b o, b ≠ d1 → H1 b = some o → H' b = some o) → Same H1 (upd H' d1 (.dK (fkv tb))) := fun k b o e => by
      by_cases z : b = d1
      · rw [z] at e ⊢
        rw [h1] at e
        cases e
        exact upd_same
      · rw [upd_ne z]; exact k b o z e
    have np1 : p ≠ d1 := fun z => by rw [z, h1] at hp; cases hp
    have na1 : a ≠ d1 := fun z => by rw [z, h1] at ha; cases b <;> cases ha
    refine ⟨.ref p, rfl, p, D, dx1, _, .ref d1, rfl, (upd_ne np1).trans hp, T.cl_Watch, T.n__sights, by simp [List.lookup], d1, od, fkv tb, rfl, upd_same, fun LD nD => ?_⟩
    have nDd : LD ≠ d1 := fun z => by rw [z, upd_same] at nD; cases nD
    have nD0 : H1 LD = none := by rwa [upd_ne nDd] at nD
    refine dc_items (fun i H' => H' d1 = some (.frz od (.dK (fkv tb))) ∧ (∀ b o, b ≠ d1 → H1 b = some o → H' b = some o) ∧ H' LD = some (.dK (fkv (lessT (tb.take i) ws)))) ⟨(upd_ne nDd.symm).trans upd_same, fun b o z e => (upd_ne (ne_of_none e nD0)).trans ((upd_ne z).trans e), upd_same⟩ (fun i H' _ hP => hP.1) (fun i k v T' H' hx nT hP => ?_) (fun H' hP => ?_)
    · obtain ⟨p1, p2, p3⟩ := hP
      obtain ⟨x, y, gx, rfl, rfl⟩ := fkv_get hx
      have hi : i < tb.length := (List.getElem?_eq_some_iff.mp gx).1
      have l1 := g1.2
      have sT := same_upd (o := .tup [.str x, .str y]) nT
      have p1' := sT _ _ p1
      have p3' := sT _ _ p3
      have p2' : ∀ b o, b ≠ d1 → H1 b = some o → (upd H' T' (.tup [.str x, .str y])) b = some o := fun b o z e => sT _ _ (p2 b o z e)
      have eT : (upd H' T' (.tup [.str x, .str y])) T' = some (.tup [.str x, .str y]) := upd_same
      show gTup _ _ _ _ _ (upd H' T' (.tup [.str x, .str y])) _
      generalize upd H' T' (.tup [.str x, .str y]) = H2 at p1' p2' p3' eT ⊢
      refine ⟨T', _, rfl, .inl (.inl eT), rfl, .str x, _, rfl, .str y, _, rfl, rfl, rfl, ?_⟩
      have more := filter_more (g := fun u => decide (¬ u.1 ∈ ws)) n1 gx
      have ha2 := p2' _ _ na1 ha
      have sq : SqL K H2 a (ws.map V.str) ∨ SqT K H2 a (ws.map V.str) := by
        cases b with
        | true => exact .inl (.inl (.inl ha2))
        | false => exact .inr (.inl (.inl ha2))
      refine ⟨.str x, rfl, .ref a, rfl, a, ws.map V.str, rfl, sq, rfl, flat_ws _, _, rfl, ?_⟩
      have ll : (fkv (lessT (tb.take i) ws)).length < sizeLine := small (by rw [fkv_len]; unfold lessT; have := List.length_filter_le (fun u => decide (¬ u.1 ∈ ws)) (tb.take i); rw [List.length_take] at this; omega)
      show if (!inV (.str x) (ws.map V.str)) = true then _ else _
      rw [inV_strs]
      by_cases c : x ∈ ws
      · rw [decide_eq_true c]
        refine iteF ⟨p1', p2', ?_⟩
        rw [p3']
        unfold lessT
        rw [more, if_neg (by rw [decide_eq_false (fun t => t c)]; decide)]
      · rw [decide_eq_false c]
        refine iteT ⟨.str x, rfl, .str y, rfl, _, .inr x, rfl, p3', ll, (upd_ne nDd.symm).trans p1', fun b o z e => (upd_ne (ne_of_none e nD0)).trans (p2' b o z e), ?_⟩
        rw [upd_same, fkv_putT]
        unfold lessT
        rw [more, if_pos (decide_eq_true c)]
    · obtain ⟨p1, p2, p3⟩ := hP
      rw [fkv_len, List.take_length] at p3
      refine ⟨p1, ?_⟩
      have S := s1.trans (back p2)
      have e2 := (upd_ne (H := H') (a := d1) (o := .dK (fkv tb)) nDd).trans p3
      generalize upd H' d1 (.dK (fkv tb)) = G at S e2 ⊢
      have good : GoodW (lessT tb ws) := ⟨fun u hu => g1.1 u (List.mem_filter.mp hu).1, Nat.le_trans (List.length_filter_le _ _) g1.2⟩
      intro x dx nx ndx nex
      exact init_ok nx ndx e2 good fun H3 d' sG nd' wo => ⟨rfl, k H3 x dx d' (S.trans sG) (S.free nx) (S.free nd') wo⟩
theorem ok_Watch_ior {f : Addr} {D : Addr} {fd : FuncData} (T : Txt K mg D) (F : Fun K "__ior__" "Watch.__ior__" s_Watch_ior f fd) (c_Watch_or : KnW.Own P w K mg base 5 D "__or__" (sp_Watch_or K D)) (c_Watch_ror : KnW.Own P w K mg base 5 D "__ror__" (sp_Watch_ror K D)) : FnOk P w K mg base CX0 7 f fd ["self", "other"] (sp_Watch_ior K D) := by
  have nd := sc_Watch_ior.nd
  refine F.ok sc_Watch_ior (fun vs H Q E h => ?_) (fun cdv A outer s H vs Q E hr h => ?_)
  · obtain ⟨p, dx, d0, y, e, t1, t2, rfl, _⟩ := h
    rfl
  · obtain ⟨p, dx, d0, y, e, t1, t2, rfl, ⟨hp, hd⟩, h2, g1, g2, n1, l1, l2, k⟩ := h
    refine ⟨_, (pss_cons (ps_set (i := 2) nd rfl (.inl rfl) (pe_op (KnW.op_ownBinA c_Watch_or rfl T.sf_Watch (.inl rfl) (KnW.rr_of c_Watch_ror rfl) hr (by omega)) (pv 0) (pv 1)))
      (pss_cons (ps_fld (pv 0) (pe_fld (pv 2) rfl) rfl)
      (pss_one (ps_ret (pv 0))))), ?_⟩
    have alt : (∃ b dy gs, y = V.ref b ∧ H b = some (.ins D dy gs)) ∨ ∃ T, (T = "dict" ∨ T = "list" ∨ T = "tuple") ∧ KnW.TyB K T y H := by
      rcases h2 with ⟨q, dq, rfl, hq⟩ | ⟨rfl, hq⟩
      · exact .inl ⟨q, dq, _, rfl, hq.1⟩
      · exact .inr ⟨"dict", .inl rfl, .inl (.inr (.inr (.inl ⟨rfl, .inl ⟨_, hq⟩⟩)))⟩
    refine ⟨.ref p, rfl, y, rfl, p, dx, _, rfl, hp, alt, p, y, e, t1, t2, rfl, ⟨dx, d0, hp, hd⟩, h2, g1, g2, n1, l1, l2, fun H1 r rx d s1 nr nd1 wo => ⟨r, rfl, ?_⟩⟩
    have hp1 := s1 _ _ hp
    refine ⟨.ref r, rfl, r, D, rx, _, .ref d, rfl, wo.1, T.cl_Watch, T.n__sights, by simp [List.lookup], .ref p, rfl, p, D, dx, _, rfl, hp1, T.cl_Watch, T.n__sights, by simp, ?_⟩
    have ne : d ≠ p := fun z => by rw [z, hp] at nd1; cases nd1
    refine ⟨.ref p, rfl, ?_⟩
    exact k _ d (fun b o e nb => (upd_ne nb).trans (s1 _ _ e)) ⟨by rw [upd_same]; rfl, (upd_ne ne).trans wo.2⟩
theorem ok_Watch_isub {f : Addr} {D : Addr} {fd : FuncData} (T : Txt K mg D) (F : Fun K "__isub__" "Watch.__isub__" s_Watch_isub f fd) (c_Watch_sub : KnW.Own P w K mg base 5 D "__sub__" (sp_Watch_sub K D)) : FnOk P w K mg base CX0 7 f fd ["self", "other"] (sp_Watch_isub K D) := by
  have nd := sc_Watch_isub.nd
  refine F.ok sc_Watch_isub (fun vs H Q E h => ?_) (fun cdv A outer s H vs Q E hr h => ?_)
  · obtain ⟨p, dx, d0, b, a, tb, ws, rfl, _⟩ := h
    rfl
  · obtain ⟨p, dx, d0, b, a, tb, ws, rfl, ⟨hp, hd⟩, g1, n1, ha, hn, lw, k⟩ := h
    refine ⟨_, (pss_cons (ps_set (i := 2) nd rfl (.inl rfl) (pe_op (KnW.op_ownBinA c_Watch_sub rfl T.sf_Watch (.inr (.inr rfl)) ⟨none, T.nrs_Watch, .inl rfl⟩ hr (by omega)) (pv 0) (pv 1)))
      (pss_cons (ps_fld (pv 0) (pe_fld (pv 2) rfl) rfl)
      (pss_one (ps_ret (pv 0))))), ?_⟩
    have alt : (∃ b dy gs, V.ref a = V.ref b ∧ H b = some (.ins D dy gs)) ∨ ∃ T, (T = "dict" ∨ T = "list" ∨ T = "tuple") ∧ KnW.TyB K T (.ref a) H := by
      cases b with
      | true => exact .inr ⟨"list", .inr (.inl rfl), .inl (.inl ⟨rfl, _, .inl (.inl ha)⟩)⟩
      | false => exact .inr ⟨"tuple", .inr (.inr rfl), .inr ⟨rfl, _, _, rfl, ha⟩⟩
    refine ⟨.ref p, rfl, .ref a, rfl, p, dx, _, rfl, hp, alt, p, b, a, tb, ws, rfl, ⟨dx, d0, hp, hd⟩, g1, n1, ha, hn, lw, fun H1 r rx d s1 nr nd1 wo => ⟨r, rfl, ?_⟩⟩
    have hp1 := s1 _ _ hp
    refine ⟨.ref r, rfl, r, D, rx, _, .ref d, rfl, wo.1, T.cl_Watch, T.n__sights, by simp [List.lookup], .ref p, rfl, p, D, dx, _, rfl, hp1, T.cl_Watch, T.n__sights, by simp, ?_⟩
    have ne : d ≠ p := fun z => by rw [z, hp] at nd1; cases nd1
    refine ⟨.ref p, rfl, ?_⟩
    exact k _ d (fun b o e nb => (upd_ne nb).trans (s1 _ _ e)) ⟨by rw [upd_same]; rfl, (upd_ne ne).trans wo.2⟩
theorem fkv_del (tb : List (Str × Str)) (x : Str) : dropK (fkv tb) (.inr x) = fkv (delT tb x) := by
  unfold dropK delT fkv
  rw [List.filter_map]
  congr 1
  refine List.filter_congr fun u _ => ?_
  show decide (¬ (Sum.inr u.1 : Key) = Sum.inr x) = decide (u.1 ≠ x)
  exact decide_eq_decide.mpr (not_congr ⟨Sum.inr.inj, fun e => congrArg _ e⟩)
theorem delT_none {tb : List (Str × Str)} {x : Str} (h : look tb x = none) : delT tb x = tb := by
  unfold delT
  refine List.filter_eq_self.mpr fun u hu => decide_eq_true fun e => ?_
  have h2 : (tb.any fun p => decide (p.1 = x)) = true := List.any_eq_true.mpr ⟨u, hu, decide_eq_true e⟩
  rw [look_any, h] at h2
  cases h2
theorem ok_Watch_setitem {f : Addr} {D : Addr} {fd : FuncData} (T : Txt K mg D) (F : Fun K "__setitem__" "Watch.__setitem__" s_Watch_setitem f fd) (c_is_name : Cal P w K mg base 1 "is_name" (sp_is_name K) []) : FnOk P w K mg base CX0 2 f fd ["self", "at", "worth"] (sp_Watch_setitem K D) := by
  have nd := sc_Watch_setitem.nd
  refine F.ok sc_Watch_setitem (fun vs H Q E h => ?_) (fun cdv A outer s H vs Q E hr h => ?_)
  · obtain ⟨p, dx, d, tb, x, y, rfl, _⟩ := h
    rfl
  · obtain ⟨p, dx, d, tb, x, y, rfl, hw, hx, hy, n1, lt, q⟩ := h
    refine ⟨_, (pss_cons (ps_if (pt_not (pt_val (pe_c c_is_name hr (by omega) (by rfl) (pa_cons (pv 1) pa_nil)))) (pss_one ps_never) pss_nil)
      (pss_cons (ps_if (PW.pt (pw_and (pt_cmpR op_notN (pv 2) pe_non (nomark _)) (pw_and1 (pt_not (pt_val (pe_c c_is_name hr (by omega) (by rfl) (pa_cons (pv 2) pa_nil))))))) (pss_one ps_never) pss_nil)
      (pss_one (ps_if (pt_cmpR op_notN (pv 2) pe_non (nomark _)) (pss_one (ps_dput (hu_of hr) (pe_fld (pv 0) rfl) (pv 1) (pv 2) rfl)) (pss_one (ps_if (pt_cmp (pc_din (hu_of hr) (pv 1) (pe_fld (pv 0) rfl))) (pss_one (ps_ddel (pe_fld (pv 0) rfl) (pv 1))) pss_nil)))))), ?_⟩
    obtain ⟨hp, hd⟩ := hw
    have lx := (name_size hx).2
    refine ⟨.str x, rfl, .str x, rfl, .str x (by omega), fun H1 s1 => ⟨nameB (.str x), rfl, ?_⟩⟩
    rw [hx]
    refine iteF ?_
    have ne : p ≠ d := fun z => by rw [z, hd] at hp; cases hp
    cases y with
    | some y =>
      have hy := hy y rfl
      have ly := (name_size hy).2
      refine ⟨.str y, rfl, rfl, _, rfl, iteT ?_⟩
      refine ⟨.str y, rfl, .str y, rfl, .str y (by omega), fun H2 s2 => ⟨nameB (.str y), rfl, ?_⟩⟩
      rw [hy]
      refine iteF ?_
      have S := s1.trans s2
      refine ⟨.str y, rfl, rfl, _, rfl, iteT ?_⟩
      refine ⟨.str y, rfl, .ref p, rfl, p, D, dx, _, .ref d, rfl, S _ _ hp, T.cl_Watch, T.n__sights, by simp [List.lookup], .str x, rfl, d, _, rfl, DPut.k (k := .inr x) (S _ _ hd) (small (by rw [fkv_len]; omega)), ?_⟩
      rw [fkv_putT]
      exact q _ (fun b o e nb => (upd_ne nb).trans (S _ _ e)) ⟨(upd_ne ne).trans (S _ _ hp), upd_same⟩
    | none =>
      refine ⟨.non, rfl, rfl, _, rfl, iteF ?_⟩
      refine ⟨.non, rfl, rfl, _, rfl, iteF ?_⟩
      refine ⟨.str x, rfl, .ref p, rfl, p, D, dx, _, .ref d, rfl, s1 _ _ hp, T.cl_Watch, T.n__sights, by simp [List.lookup], d, _, rfl, DGet.k (k := .inr x) (s1 _ _ hd), _, rfl, ?_⟩
      rw [look_val]
      cases g : look tb x with
      | none =>
        refine iteF ?_
        refine q _ (fun b o e nb => s1 _ _ e) ⟨s1 _ _ hp, ?_⟩
        show H1 d = some (.dK (fkv (delT tb x)))
        rw [delT_none g]
        exact s1 _ _ hd
      | some u =>
        refine iteT ⟨.ref p, rfl, p, D, dx, _, .ref d, rfl, s1 _ _ hp, T.cl_Watch, T.n__sights, by simp [List.lookup], .str x, rfl, d, fkv tb, .inr x, rfl, s1 _ _ hd, rfl, by rw [look_val, g]; rfl, ?_⟩
        rw [fkv_del]
        exact q _ (fun b o e nb => (upd_ne nb).trans (s1 _ _ e)) ⟨(upd_ne ne).trans (s1 _ _ hp), upd_same⟩

end
end Kn

set_option Elab.async false
set_option linter.all false
set_option maxRecDepth 100000
set_option maxHeartbeats 4000000
namespace Kn
open PySem PySem.Spec PyProof.Rows L2
open C8 (Cal pe_c pe_gc Mak pe_mk)
section
variable {P : Program} {w : World} {K : PySem.W.Frag} {mg : Str → Option Value} {base : Heap}
theorem strOk_name {z : Str} (h : nameB (.str z) = true) : PyData.strOk z = true := by
  have h' : (decide (1 ≤ z.cps.size) && decide (z.cps.size ≤ 12) && z.cps.toList.all inL) = true := h
  rw [Bool.and_eq_true] at h'
  have hl : ∀ c ∈ letters.cps.toList, c < 0x110000 := by decide +kernel
  unfold PyData.strOk
  rw [Array.all_eq_true]
  intro i hi
  have hm : z.cps[i] ∈ z.cps.toList := Array.getElem_mem_toList hi
  exact decide_eq_true (hl _ (of_decide_eq_true (List.all_eq_true.mp h'.2 _ hm)))
theorem strs_eqv : ∀ (xs ys : List Str), PyData.eqvAll (xs.map PyData.str) (ys.map PyData.str) = decide (xs = ys)
  | [], [] => rfl
  | [], _ :: _ => rfl
  | _ :: _, [] => rfl
  | x :: xs, y :: ys => by
    show ((x == y) && PyData.eqvAll (xs.map PyData.str) (ys.map PyData.str)) = _
    rw [strs_eqv xs ys]
    by_cases e1 : x = y <;> by_cases e2 : xs = ys <;> simp [e1, e2]
theorem strs_lay {zs : List Str} (h : ∀ z ∈ zs, nameB (.str z) = true) : PyData.canLayAll0 (zs.map PyData.str) = true ∧ PyData.depthAll (zs.map PyData.str) ≤ 1 := by
  induction zs with
  | nil => exact ⟨rfl, Nat.zero_le _⟩
  | cons x r ih =>
    obtain ⟨a, b⟩ := ih fun y hy => h y (List.mem_cons_of_mem _ hy)
    refine ⟨?_, ?_⟩
    · show (PyData.strOk x && PyData.canLayAll0 (r.map PyData.str)) = true
      rw [strOk_name (h x List.mem_cons_self), a]; rfl
    · show max 0 (PyData.depthAll (r.map PyData.str)) ≤ 1
      omega
theorem strs_shapedT {zs : List Str} (h : ∀ z ∈ zs, nameB (.str z) = true) : SeqAt.shaped (.tuple (zs.map PyData.str)) = true := by
  obtain ⟨a, b⟩ := strs_lay h
  unfold SeqAt.shaped
  have h2 : (PyData.tuple (zs.map PyData.str)).canLay0 = true := a
  have h3 : (PyData.tuple (zs.map PyData.str)).depth ≤ 64 := by
    show PyData.depthAll (zs.map PyData.str) + 1 ≤ 64
    omega
  rw [h2, decide_eq_true h3]; rfl
theorem strs_shapedL {zs : List Str} (h : ∀ z ∈ zs, nameB (.str z) = true) : SeqAt.shaped (.list (zs.map PyData.str)) = true := by
  obtain ⟨a, b⟩ := strs_lay h
  unfold SeqAt.shaped
  have h2 : (PyData.list (zs.map PyData.str)).canLay0 = true := a
  have h3 : (PyData.list (zs.map PyData.str)).depth ≤ 64 := by
    show PyData.depthAll (zs.map PyData.str) + 1 ≤ 64
    omega
  rw [h2, decide_eq_true h3]; rfl
theorem dp_strs {K : PySem.W.Frag} {H : Hp} : ∀ zs : List Str, DpAll K H (zs.map V.str) (zs.map PyData.str)
  | [] => .nil
  | z :: r => .cons (.str z) (dp_strs r)

/-! ### the tables of the law -/
structure Table (zs : List Str) (tb : List (Str × Str)) : Prop where
  nd : (tb.map (·.1)).Nodup
  len : tb.length ≤ 8
  mem : ∀ p ∈ tb, p.1 ∈ zs.take 8 ∧ p.2 ∈ zs
theorem Table.good {zs : List Str} {tb : List (Str × Str)} (h : Table zs tb) (hn : ∀ z ∈ zs, nameB (.str z) = true) : GoodW tb :=
  ⟨fun p hp => let ⟨a, b⟩ := h.mem p hp; ⟨hn _ (List.mem_of_mem_take a), hn _ b⟩, Nat.le_trans h.len (by decide)⟩
theorem names_get {zs : List Str} {i : Nat} (h : i < zs.length) : (zs.map V.str)[i]? = some (.str zs[i]) := by rw [List.getElem?_map, List.getElem?_eq_getElem h]; rfl
def sp__law_table (_ : PySem.W.Frag) : Sp := fun vs H Q _ => ∃ (r n : Addr) (rs : List Int) (zs : List Str), vs = [.ref r, .ref n] ∧ H r = some (.lst (rs.map V.int)) ∧ rs.length = 8 ∧ (∀ (j : Nat) (x : Int), rs[j]? = some x → 0 ≤ x) ∧ H n = some (.lst (zs.map V.str)) ∧ zs.length = 9 ∧ zs.Nodup ∧
  ∀ H' d tb, Same H H' → H d = none → H' d = some (.dK (fkv tb)) → Table zs tb → Q (.ref d) H'
theorem ok__law_table {f : Addr} {D : Addr} {fd : FuncData} (T : Txt K mg D) (F : Fun K "_law_table" "_law_table" s__law_table f fd)  : FnOk P w K mg base CX0 1 f fd ["_law_row_here", "_law_names_here"] (sp__law_table K) := by
  have nd := sc__law_table.nd
  refine F.ok sc__law_table (fun vs H Q E h => ?_) (fun cdv A outer s H vs Q E hr h => ?_)
  · obtain ⟨r, n, rs, zs, rfl, _⟩ := h
    rfl
  · obtain ⟨r, n, rs, zs, rfl, hr8, lr, r0, hn9, lz, nz, q⟩ := h
    refine ⟨_, (pss_cons (ps_set (i := 2) nd rfl (.inl rfl) pe_dnewK)
      (pss_cons (ps_for PassesOwn.never rfl (pi_range1 (by rfl) T.m_range (pa_cons pe_int pa_nil)) (pg_name (i := 3) nd rfl (.inl rfl)) (pss_one (ps_if (pt_cmpR op_lt (pe_ix (r := rIxL K) ix_list (pv 0) (pv 3) (fun _ _ => rfl)) pe_int (nomark _)) (pss_one (ps_dput (hu_of hr) (pv 2) (pe_ix (r := rIxL K) ix_list (pv 1) (pv 3) (fun _ _ => rfl)) (pe_ix (r := rIxL K) ix_list (pv 1) (pe_ix (r := rIxL K) ix_list (pv 0) (pv 3) (fun _ _ => rfl)) (fun _ _ => rfl)) rfl)) (pss_one (ps_if (pt_cmpR op_lt (pe_ix (r := rIxL K) ix_list (pv 0) (pv 3) (fun _ _ => rfl)) pe_int (nomark _)) (pss_one (ps_dput (hu_of hr) (pv 2) (pe_ix (r := rIxL K) ix_list (pv 1) (pv 3) (fun _ _ => rfl)) (pe_ix (r := rIxL K) ix_list (pv 1) pe_int (fun _ _ => rfl)) rfl)) pss_nil)))))
      (pss_one (ps_ret (pv 2))))), ?_⟩
    intro d nD
    have s0 := same_upd (o := .dK []) nD
    refine ⟨8, rfl, by decide, by decide, ?_⟩
    refine for_range (lo := 0) (n := 8) (fun i σ G => ∃ (y : Option V) (tb : List (Str × Str)), σ = [some (.ref r), some (.ref n), some (.ref d), y] ∧ Same H G ∧ G d = some (.dK (fkv tb)) ∧ (tb.map (·.1)).Nodup ∧ tb.length ≤ i ∧ ∀ p ∈ tb, p.1 ∈ zs.take i ∧ p.2 ∈ zs)
      ⟨none, [], rfl, s0, upd_same, List.nodup_nil, Nat.le_refl _, fun p hp => nomatch hp⟩ (fun i σ G hi hP => ?_) (fun σ G hP => ?_)
    · obtain ⟨y, tb, rfl, S, eD, n1, lt, mem⟩ := hP
      rw [show (0 : Int) + (i : Nat) = (i : Nat) by omega]
      have hi8 : i < 8 := hi
      obtain ⟨x, gx⟩ : ∃ x, rs[i]? = some x := ⟨_, List.getElem?_eq_getElem (by omega)⟩
      have x0 := r0 _ _ gx
      have gX : (rs.map V.int)[i]? = some (.int x) := by rw [List.getElem?_map, gx]; rfl
      have eR := S _ _ hr8
      have eN := S _ _ hn9
      have hiz : i < zs.length := by omega
      have put : ∀ y ∈ zs, (putT tb zs[i] y).length ≤ i + 1 ∧ ((putT tb zs[i] y).map (·.1)).Nodup ∧ ∀ p ∈ putT tb zs[i] y, p.1 ∈ zs.take (i + 1) ∧ p.2 ∈ zs := fun y hy => by
        refine ⟨by have := putT_len tb zs[i] y; omega, putT_nd n1 _ _, fun p hp => ?_⟩
        rcases putT_mem hp with h | h
        · obtain ⟨a, b⟩ := mem p h
          exact ⟨by rw [take_more (List.getElem?_eq_getElem hiz)]; exact List.mem_append.mpr (.inl a), b⟩
        · subst h
          exact ⟨by rw [take_more (List.getElem?_eq_getElem hiz)]; exact List.mem_append.mpr (.inr (List.mem_singleton.mpr rfl)), hy⟩
      have sz : (fkv tb).length < sizeLine := small (by rw [fkv_len]; omega)
      refine ⟨.ref r, rfl, .int (i : Nat), rfl, r, _, _, _, rfl, rfl, .inl (.inl eR), atI_nat gX, _, _, rfl, rfl, _, rfl, ite2 (fun e => ?_) (fun e => ?_)⟩
      · have e := of_decide_eq_true e
        have hx : x.toNat < zs.length := by omega
        have ex : x = ((x.toNat : Nat) : Int) := by omega
        refine ⟨.ref n, rfl, .ref r, rfl, .int (i : Nat), rfl, r, _, _, _, rfl, rfl, .inl (.inl eR), atI_nat gX, n, _, x, .str zs[x.toNat], rfl, rfl, .inl (.inl eN), (congrArg (atI _) ex).trans (atI_nat (names_get hx)), .ref d, rfl, .ref n, rfl, .int (i : Nat), rfl, n, _, _, _, rfl, rfl, .inl (.inl eN), atI_nat (names_get hiz), d, _, rfl, DPut.k (k := .inr zs[i]) eD sz, ?_⟩
        obtain ⟨a, b, c⟩ := put zs[x.toNat] (List.getElem_mem hx)
        exact ⟨_, _, rfl, same_set nD S, by rw [upd_same, fkv_putT], b, a, c⟩
      · refine ⟨.ref r, rfl, .int (i : Nat), rfl, r, _, _, _, rfl, rfl, .inl (.inl eR), atI_nat gX, _, _, rfl, rfl, _, rfl, ite2 (fun e2 => ?_) (fun e2 => ?_)⟩
        · refine ⟨.ref n, rfl, n, _, 0, .str zs[0], rfl, rfl, .inl (.inl eN), atI_nat (j := 0) (names_get (by omega)), .ref d, rfl, .ref n, rfl, .int (i : Nat), rfl, n, _, _, _, rfl, rfl, .inl (.inl eN), atI_nat (names_get hiz), d, _, rfl, DPut.k (k := .inr zs[i]) eD sz, ?_⟩
          obtain ⟨a, b, c⟩ := put zs[0] (List.getElem_mem (by omega))
          exact ⟨_, _, rfl, same_set nD S, by rw [upd_same, fkv_putT], b, a, c⟩
        · refine ⟨_, tb, rfl, S, eD, n1, by omega, fun p hp => ?_⟩
          obtain ⟨a, b⟩ := mem p hp
          exact ⟨by rw [take_more (List.getElem?_eq_getElem hiz)]; exact List.mem_append.mpr (.inl a), b⟩
    · obtain ⟨y, tb, rfl, S, eD, n1, lt, mem⟩ := hP
      exact ⟨.ref d, rfl, q G d tb S nD eD ⟨n1, lt, mem⟩⟩
def sp__law_join (_ : PySem.W.Frag) : Sp := fun vs H Q _ => ∃ (d1 d2 : Addr) (t1 t2 : List (Str × Str)), vs = [.ref d1, .ref d2] ∧ H d1 = some (.dK (fkv t1)) ∧ H d2 = some (.dK (fkv t2)) ∧ t1.length ≤ 100 ∧ t2.length ≤ 100 ∧ ∀ H' d, Same H H' → H d = none → H' d = some (.dK (fkv (mergeT t2 t1))) → Q (.ref d) H'
theorem ok__law_join {f : Addr} {D : Addr} {fd : FuncData} (T : Txt K mg D) (F : Fun K "_law_join" "_law_join" s__law_join f fd)  : FnOk P w K mg base CX0 1 f fd ["_law_first", "_law_second"] (sp__law_join K) := by
  have nd := sc__law_join.nd
  refine F.ok sc__law_join (fun vs H Q E h => ?_) (fun cdv A outer s H vs Q E hr h => ?_)
  · obtain ⟨d1, d2, t1, t2, rfl, _⟩ := h
    rfl
  · obtain ⟨d1, d2, t1, t2, rfl, h1, h2, l1, l2, q⟩ := h
    refine ⟨_, (pss_cons (ps_set (i := 2) nd rfl (.inl rfl) (pe_callTy call_dictD (by rfl) T.m_dict (by decide +kernel) (pa_cons (pv 1) pa_nil)))
      (pss_cons (ps_expr (pe_bm PySem.F.plainAttrs_dict PySem.F.slot_dict_update PySem.F.type_dict_update KnW.mt_update (pv 2) (pa_cons (pv 0) pa_nil)))
      (pss_one (ps_ret (pv 2))))), ?_⟩
    refine ⟨.ref d2, rfl, d2, _, rfl, .inl h2, fun d nD => ?_⟩
    have s0 := same_upd (o := .dK (fkv t2)) nD
    refine ⟨.ref d, rfl, .inr (.inr (.inl ⟨rfl, .inl ⟨_, upd_same⟩⟩)), .ref d1, rfl, d, d1, fkv t2, fkv t1, rfl, rfl, (ne_of_none h1 nD).symm, upd_same, s0 _ _ h1, smallE (by rw [fkv_len, fkv_len]; omega), ?_⟩
    refine ⟨.ref d, rfl, q _ d (same_set nD s0) nD ?_⟩
    rw [upd_same, fkv_mergeT]
/-- the keys of a table, in a list -/
theorem keys_eq (tb : List (Str × Str)) : (fkv tb).map (fun kv => kV kv.1) = (tb.map (·.1)).map V.str := by
  unfold fkv
  rw [List.map_map, List.map_map]; rfl
theorem look_at {tb : List (Str × Str)} (nd : (tb.map (·.1)).Nodup) {i : Nat} {u : Str × Str} (h : tb[i]? = some u) : look tb u.1 = some u.2 := (look_mem nd).mpr (List.mem_of_getElem? h)
def sp__law_share (_ : PySem.W.Frag) : Sp := fun vs H Q _ => ∃ (d1 d2 : Addr) (t1 t2 : List (Str × Str)), vs = [.ref d1, .ref d2] ∧ H d1 = some (.dK (fkv t1)) ∧ H d2 = some (.dK (fkv t2)) ∧ (t1.map (·.1)).Nodup ∧ t1.length ≤ 1000 ∧ ∀ H' d, Same H H' → H d = none → H' d = some (.dK (fkv (shareT t1 t2))) → Q (.ref d) H'
theorem ok__law_share {f : Addr} {D : Addr} {fd : FuncData} (T : Txt K mg D) (F : Fun K "_law_share" "_law_share" s__law_share f fd)  : FnOk P w K mg base CX0 1 f fd ["_law_first", "_law_second"] (sp__law_share K) := by
  have nd := sc__law_share.nd
  refine F.ok sc__law_share (fun vs H Q E h => ?_) (fun cdv A outer s H vs Q E hr h => ?_)
  · obtain ⟨d1, d2, t1, t2, rfl, _⟩ := h
    rfl
  · obtain ⟨d1, d2, t1, t2, rfl, h1, h2, n1, l1, q⟩ := h
    refine ⟨_, (pss_cons (ps_set (i := 2) nd rfl (.inl rfl) pe_dnewK)
      (pss_cons (ps_for PassesOwn.never rfl (pi_list (pe_callTy (call_listD rfl) (by rfl) T.m_list (by decide +kernel) (pa_cons (pv 0) pa_nil))) (pg_name (i := 3) nd rfl (.inl rfl)) (pss_one (ps_if (pt_cmpR op_eq (pe_dget1 (hu_of hr) (pv 1) (pv 3) ⟨rfl, rfl, rfl, rfl⟩) (pe_dget (hu_of hr) (pv 0) (pv 3) (fun _ _ => rfl)) (nomark _)) (pss_one (ps_dput (hu_of hr) (pv 2) (pv 3) (pe_dget (hu_of hr) (pv 0) (pv 3) (fun _ _ => rfl)) rfl)) pss_nil)))
      (pss_one (ps_ret (pv 2))))), ?_⟩
    intro d nD
    have s0 := same_upd (o := .dK []) nD
    have eD0 : (upd H d (.dK [])) d = some (.dK []) := upd_same
    generalize upd H d (.dK []) = H0 at s0 eD0 ⊢
    refine ⟨.ref d1, rfl, d1, _, rfl, .inl (s0 _ _ h1), fun l nl => ?_⟩
    have sl := same_upd (o := .lst ((fkv t1).map fun kv => kV kv.1)) nl
    have el : (upd H0 l (.lst ((fkv t1).map fun kv => kV kv.1))) l = some (.lst ((t1.map (·.1)).map V.str)) := by rw [upd_same, keys_eq]
    have nlH := s0.free nl
    have eD1 := sl _ _ eD0
    have s1 := s0.trans sl
    generalize upd H0 l (.lst ((fkv t1).map fun kv => kV kv.1)) = H1 at el eD1 s1 ⊢
    have nld : l ≠ d := ne_of el eD1 (fun z => by cases z)
    refine ⟨l, rfl, ⟨_, .inl (.inl el)⟩, ?_⟩
    refine for_list (K := K) (xs := (t1.map (·.1)).map V.str) (fun i σ G => ∃ y, σ = [some (.ref d1), some (.ref d2), some (.ref d), y] ∧ Same H G ∧ G l = some (.lst ((t1.map (·.1)).map V.str)) ∧ G d = some (.dK (fkv (shareT (t1.take i) t2)))) ⟨none, rfl, s1, el, eD1⟩ (fun i σ G _ hP => .inl (.inl hP.choose_spec.2.2.1)) (fun i x σ G hx hP => ?_) (fun σ G hP => ?_)
    · obtain ⟨y, rfl, S, eL, eD⟩ := hP
      rw [List.getElem?_map, List.getElem?_map] at hx
      cases gx : t1[i]? with
      | none => rw [gx] at hx; cases hx
      | some u =>
      rw [gx] at hx
      cases hx
      have hi : i < t1.length := (List.getElem?_eq_some_iff.mp gx).1
      have la := look_at n1 gx
      have more := filter_more (g := fun u => decide (look t2 u.1 = some u.2)) n1 gx
      have dg1 : DGet G d1 (.str u.1) (valV (fkv t1) (.inr u.1)) := DGet.k (k := .inr u.1) (S _ _ h1)
      have dg2 : DGet G d2 (.str u.1) (valV (fkv t2) (.inr u.1)) := DGet.k (k := .inr u.1) (S _ _ h2)
      rw [look_val, la] at dg1
      rw [look_val] at dg2
      have ll : (fkv (shareT (t1.take i) t2)).length < sizeLine := small (by rw [fkv_len]; unfold shareT; have := List.length_filter_le (fun u => decide (look t2 u.1 = some u.2)) (t1.take i); rw [List.length_take] at this; omega)
      refine ⟨.ref d2, rfl, d2, rfl, .inl ⟨_, .inl (S _ _ h2)⟩, .str u.1, rfl, _, dg2, .ref d1, rfl, .str u.1, rfl, d1, _, rfl, dg1, ?_⟩
      by_cases c : look t2 u.1 = some u.2
      · rw [c]
        refine ⟨rfl, _, rfl, ?_⟩
        rw [show decide (((Option.map V.str (some u.2)).getD V.non) = V.str u.2) = true from decide_eq_true rfl]
        refine iteT ⟨.ref d1, rfl, .str u.1, rfl, d1, _, rfl, dg1, .ref d, rfl, .str u.1, rfl, d, _, rfl, DPut.k (k := .inr u.1) eD ll, ?_⟩
        refine ⟨_, rfl, same_set nD S, (upd_ne nld).trans eL, ?_⟩
        rw [upd_same, fkv_putT]
        unfold shareT
        rw [more, if_pos (decide_eq_true c)]
      · have ne : ¬ ((Option.map V.str (look t2 u.1)).getD V.non) = V.str u.2 := fun e => by
          cases g : look t2 u.1 with
          | none => rw [g] at e; cases e
          | some z => rw [g] at e; exact c (by rw [g, V.str.inj e])
        refine ⟨by cases look t2 u.1 <;> rfl, _, rfl, ?_⟩
        rw [show decide (((Option.map V.str (look t2 u.1)).getD V.non) = V.str u.2) = false from decide_eq_false ne]
        refine iteF ⟨_, rfl, S, eL, ?_⟩
        rw [eD]
        unfold shareT
        rw [more, if_neg (by rw [decide_eq_false c]; decide)]
    · obtain ⟨y, rfl, S, eL, eD⟩ := hP
      rw [List.length_map, List.length_map, List.take_length] at eD
      exact ⟨.ref d, rfl, q G d S nD eD⟩
def sp__law_less (_ : PySem.W.Frag) : Sp := fun vs H Q _ => ∃ (d1 a : Addr) (t1 : List (Str × Str)) (ws : List Str), vs = [.ref d1, .ref a] ∧ H d1 = some (.dK (fkv t1)) ∧ H a = some (.lst (ws.map V.str)) ∧ (t1.map (·.1)).Nodup ∧ t1.length ≤ 1000 ∧ ∀ H' d, Same H H' → H d = none → H' d = some (.dK (fkv (lessT t1 ws))) → Q (.ref d) H'
theorem ok__law_less {f : Addr} {D : Addr} {fd : FuncData} (T : Txt K mg D) (F : Fun K "_law_less" "_law_less" s__law_less f fd)  : FnOk P w K mg base CX0 1 f fd ["_law_first", "_law_words"] (sp__law_less K) := by
  have nd := sc__law_less.nd
  refine F.ok sc__law_less (fun vs H Q E h => ?_) (fun cdv A outer s H vs Q E hr h => ?_)
  · obtain ⟨d1, a, t1, ws, rfl, _⟩ := h
    rfl
  · obtain ⟨d1, a, t1, ws, rfl, h1, ha, n1, l1, q⟩ := h
    refine ⟨_, (pss_cons (ps_set (i := 2) nd rfl (.inl rfl) pe_dnewK)
      (pss_cons (ps_for PassesOwn.never rfl (pi_list (pe_callTy (call_listD rfl) (by rfl) T.m_list (by decide +kernel) (pa_cons (pv 0) pa_nil))) (pg_name (i := 3) nd rfl (.inl rfl)) (pss_one (ps_if (pt_cmpR op_notIn_seq (pv 3) (pv 1) (by with_unfolding_all rfl)) (pss_one (ps_dput (hu_of hr) (pv 2) (pv 3) (pe_dget (hu_of hr) (pv 0) (pv 3) (fun _ _ => rfl)) rfl)) pss_nil)))
      (pss_one (ps_ret (pv 2))))), ?_⟩
    intro d nD
    have s0 := same_upd (o := .dK []) nD
    have eD0 : (upd H d (.dK [])) d = some (.dK []) := upd_same
    generalize upd H d (.dK []) = H0 at s0 eD0 ⊢
    refine ⟨.ref d1, rfl, d1, _, rfl, .inl (s0 _ _ h1), fun l nl => ?_⟩
    have sl := same_upd (o := .lst ((fkv t1).map fun kv => kV kv.1)) nl
    have el : (upd H0 l (.lst ((fkv t1).map fun kv => kV kv.1))) l = some (.lst ((t1.map (·.1)).map V.str)) := by rw [upd_same, keys_eq]
    have eD1 := sl _ _ eD0
    have s1 := s0.trans sl
    generalize upd H0 l (.lst ((fkv t1).map fun kv => kV kv.1)) = H1 at el eD1 s1 ⊢
    have nld : l ≠ d := ne_of el eD1 (fun z => by cases z)
    refine ⟨l, rfl, ⟨_, .inl (.inl el)⟩, ?_⟩
    refine for_list (K := K) (xs := (t1.map (·.1)).map V.str) (fun i σ G => ∃ y, σ = [some (.ref d1), some (.ref a), some (.ref d), y] ∧ Same H G ∧ G l = some (.lst ((t1.map (·.1)).map V.str)) ∧ G d = some (.dK (fkv (lessT (t1.take i) ws)))) ⟨none, rfl, s1, el, eD1⟩ (fun i σ G _ hP => .inl (.inl hP.choose_spec.2.2.1)) (fun i x σ G hx hP => ?_) (fun σ G hP => ?_)
    · obtain ⟨y, rfl, S, eL, eD⟩ := hP
      rw [List.getElem?_map, List.getElem?_map] at hx
      cases gx : t1[i]? with
      | none => rw [gx] at hx; cases hx
      | some u =>
      rw [gx] at hx
      cases hx
      have hi : i < t1.length := (List.getElem?_eq_some_iff.mp gx).1
      have la := look_at n1 gx
      have more := filter_more (g := fun u => decide (¬ u.1 ∈ ws)) n1 gx
      have dg1 : DGet G d1 (.str u.1) (valV (fkv t1) (.inr u.1)) := DGet.k (k := .inr u.1) (S _ _ h1)
      rw [look_val, la] at dg1
      have ll : (fkv (lessT (t1.take i) ws)).length < sizeLine := small (by rw [fkv_len]; unfold lessT; have := List.length_filter_le (fun u => decide (¬ u.1 ∈ ws)) (t1.take i); rw [List.length_take] at this; omega)
      refine ⟨.str u.1, rfl, .ref a, rfl, a, ws.map V.str, rfl, .inl (.inl (.inl (S _ _ ha))), rfl, flat_ws _, _, rfl, ?_⟩
      show if (!inV (.str u.1) (ws.map V.str)) = true then _ else _
      rw [inV_strs]
      by_cases c : u.1 ∈ ws
      · rw [decide_eq_true c]
        refine iteF ⟨_, rfl, S, eL, ?_⟩
        rw [eD]
        unfold lessT
        rw [more, if_neg (by rw [decide_eq_false (fun t => t c)]; decide)]
      · rw [decide_eq_false c]
        refine iteT ⟨.ref d1, rfl, .str u.1, rfl, d1, _, rfl, dg1, .ref d, rfl, .str u.1, rfl, d, _, rfl, DPut.k (k := .inr u.1) eD ll, ?_⟩
        refine ⟨_, rfl, same_set nD S, (upd_ne nld).trans eL, ?_⟩
        rw [upd_same, fkv_putT]
        unfold lessT
        rw [more, if_pos (decide_eq_true c)]
    · obtain ⟨y, rfl, S, eL, eD⟩ := hP
      rw [List.length_map, List.length_map, List.take_length] at eD
      exact ⟨.ref d, rfl, q G d S nD eD⟩
/-- two tables that hold the same -/
theorem same_tab {a b : List (Str × Str)} (na : (a.map (·.1)).Nodup) (nb : (b.map (·.1)).Nodup) (h : ∀ z, look a z = look b z) : a.Perm b := by
  have ndp : ∀ {l : List (Str × Str)}, (l.map (·.1)).Nodup → l.Nodup := fun {l} hl => (List.pairwise_map.mp hl).imp fun hne e => hne (congrArg (·.1) e)
  refine (List.perm_ext_iff_of_nodup (ndp na) (ndp nb)).mpr fun p => ?_
  rw [← look_mem na, ← look_mem nb, h]
def sp__law_is (_ : PySem.W.Frag) (D : Addr) : Sp := fun vs H Q _ => ∃ (p d : Addr) (tb tt : List (Str × Str)), vs = [.ref p, .ref d] ∧ WatchAt D H p tb ∧ H d = some (.dK (fkv tt)) ∧ (tb.map (·.1)).Nodup ∧ (tt.map (·.1)).Nodup ∧ GoodW tb ∧ tb.length < 64 ∧ (∀ z, look tb z = look tt z) ∧ ∀ H', Same H H' → Q (.bl true) H'
theorem ok__law_is {f : Addr} {D : Addr} {fd : FuncData} (T : Txt K mg D) (F : Fun K "_law_is" "_law_is" s__law_is f fd) (c__law_exact : Cal P w K mg base 5 "_law_exact" (sp__law_exact K) []) (c_Watch_sights : KnP.Prp P w K mg base 1 D "sights" (sp_Watch_sights K D)) (c_Watch_words : KnP.Prp P w K mg base 1 D "words" (sp_Watch_words K D)) (c_Watch_len : KnW.Own P w K mg base 1 D "__len__" (sp_Watch_len K D)) (c_Watch_getitem : KnW.Own P w K mg base 2 D "__getitem__" (sp_Watch_getitem K D)) : FnOk P w K mg base CX0 6 f fd ["_law_watch", "_law_table_here"] (sp__law_is K D) := by
  have nd := sc__law_is.nd
  refine F.ok sc__law_is (fun vs H Q E h => ?_) (fun cdv A outer s H vs Q E hr h => ?_)
  · obtain ⟨p, d, tb, tt, rfl, _⟩ := h
    rfl
  · obtain ⟨p, d, tb, tt, rfl, wa, hd, n1, n2, gw, l64, eq, q⟩ := h
    refine ⟨_, (pss_cons (ps_if (PW.pt (pw_or (pt_not (pt_val (pe_callB (KnW.call_isCA T.ins_Watch T.isd_Watch) (by rfl) T.m_isinstance (by decide +kernel) (pa_cons (pv 0) (pa_cons (pe_glob (v := .ref D) (by rfl) T.g_Watch rfl) pa_nil))))) (pw_or1 (pt_cmpR op_ne (pe_callB (KnW.cr_ownLen c_Watch_len hr (by omega)) (by rfl) T.m_len (by decide +kernel) (pa_cons (pv 0) pa_nil)) (pe_callB call_lenD (by rfl) T.m_len (by decide +kernel) (pa_cons (pv 1) pa_nil)) (nomark _))))) (pss_one (ps_ret pe_bl)) pss_nil)
      (pss_cons (ps_for PassesOwn.never rfl (pi_list (pe_callTy (call_listD rfl) (by rfl) T.m_list (by decide +kernel) (pa_cons (pv 1) pa_nil))) (pg_name (i := 2) nd rfl (.inl rfl)) (pss_one (ps_if (pt_not (pt_val (pe_c c__law_exact hr (by omega) (by rfl) (pa_cons (KnW.pe_get c_Watch_getitem hr (by omega) (pv 0) (pv 2)) (pa_cons (pe_dget (hu_of hr) (pv 1) (pv 2) (fun _ _ => rfl)) pa_nil))))) (pss_one (ps_ret pe_bl)) pss_nil)))
      (pss_cons (ps_set (i := 3) nd rfl (.inl rfl) (pe_callB (show CallR _ (.builtin "sorted") (KnS.rSortedL P w) from KnS.cr_sortedL rfl) (by rfl) T.m_sorted (by decide +kernel) (pa_cons (pe_callTy (show CallR _ (.type "set") (KnS.rSetOf K P w) from KnS.cr_setOf rfl) (by rfl) T.m_set (by decide +kernel) (pa_cons (pe_lc (own := [("_law_word", 2)]) (g := gName 2) (tt := tYes) rfl nd (pi_list (pe_callTy (call_listD rfl) (by rfl) T.m_list (by decide +kernel) (pa_cons (pv 1) pa_nil))) (blkOk_by (N := ["_law_watch", "_law_table_here", "_law_word", "_law_sights"]) (sc := defScope s__law_is) (by decide +kernel)) (fun _ _ _ _ _ => (pg_name (i := 2) nd rfl (.inl rfl))) (fun _ _ _ _ _ => pts_nil) (fun _ _ _ _ _ => (pe_dget (hu_of hr) (pv 1) (pv 2) (fun _ _ => rfl)))) pa_nil)) pa_nil)))
      (pss_cons (ps_if (pt_not (pt_val (pe_c c__law_exact hr (by omega) (by rfl) (pa_cons (KnP.pe_prp T.cl_Watch c_Watch_sights hr (by decide) (pv 0) (by rfl)) (pa_cons (pv 3) pa_nil))))) (pss_one (ps_ret pe_bl)) pss_nil)
      (pss_one (ps_ret (pe_c c__law_exact hr (by omega) (by rfl) (pa_cons (KnP.pe_prp T.cl_Watch c_Watch_words hr (by decide) (pv 0) (by rfl)) (pa_cons (pe_callB cr_sortedS (by rfl) T.m_sorted (by decide +kernel) (pa_cons (pe_callTy (call_listD rfl) (by rfl) T.m_list (by decide +kernel) (pa_cons (pv 1) pa_nil)) pa_nil)) pa_nil))))))))), ?_⟩
    have pm := same_tab n1 n2 eq
    have lt := pm.length_eq
    have pk : (tb.map (·.1)).Perm (tt.map (·.1)) := pm.map _
    have pv_ : (tb.map (·.2)).Perm (tt.map (·.2)) := pm.map _
    obtain ⟨dx, dd, hp, hdd⟩ := id wa
    refine ⟨.ref p, rfl, .inl ⟨p, dx, _, rfl, hp, _, rfl, iteF ?_⟩⟩
    refine ⟨.ref p, rfl, p, dx, _, rfl, hp, p, tb, rfl, wa, tb.length, rfl, by omega, .ref d, rfl, d, _, rfl, hd, rfl, _, rfl, ?_⟩
    rw [fkv_len, lt]
    refine iteNS rfl ?_
    refine ⟨.ref d, rfl, d, _, rfl, .inl hd, fun l nl => ?_⟩
    have sl := same_upd (o := .lst ((fkv tt).map fun kv => kV kv.1)) nl
    have el : (upd H l (.lst ((fkv tt).map fun kv => kV kv.1))) l = some (.lst ((tt.map (·.1)).map V.str)) := by rw [upd_same, keys_eq]
    generalize upd H l (.lst ((fkv tt).map fun kv => kV kv.1)) = H1 at sl el ⊢
    refine ⟨l, rfl, ⟨_, .inl (.inl el)⟩, ?_⟩
    refine for_list (K := K) (xs := (tt.map (·.1)).map V.str) (fun i σ G => ∃ y, σ = [some (.ref p), some (.ref d), y, none] ∧ Same H1 G) ⟨none, rfl, Same.refl _⟩ (fun i σ G _ hP => .inl (.inl (hP.choose_spec.2 _ _ el))) (fun i x σ G hx hP => ?_) (fun σ G hP => ?_)
    · obtain ⟨y, rfl, S1⟩ := hP
      have S := sl.trans S1
      rw [List.getElem?_map, List.getElem?_map] at hx
      cases gx : tt[i]? with
      | none => rw [gx] at hx; cases hx
      | some u =>
      rw [gx] at hx
      cases hx
      have la := look_at n2 gx
      have lb : look tb u.1 = some u.2 := (eq _).trans la
      have hm := gw.1 u ((look_mem n1).mp lb)
      refine ⟨.ref p, rfl, .str u.1, rfl, p, dx, _, rfl, S _ _ hp, p, tb, u.1, rfl, wa.mono S, hm.1, fun H2 s2 => ?_⟩
      rw [lb]
      have dg1 : DGet H2 d (.str u.1) (valV (fkv tt) (.inr u.1)) := DGet.k (k := .inr u.1) (s2 _ _ (S _ _ hd))
      rw [look_val, la] at dg1
      exact ⟨.ref d, rfl, .str u.1, rfl, d, _, rfl, dg1, .str u.2, .str u.2, rfl, .inl (.str u.2), fun H3 s3 => ⟨_, rfl, iteF ⟨_, rfl, S1.trans (s2.trans s3)⟩⟩⟩
    · obtain ⟨y, rfl, S1⟩ := hP
      have S := sl.trans S1
      refine ⟨.ref d, rfl, d, _, rfl, .inl (S _ _ hd), fun l2 nl2 => ?_⟩
      have sl2 := same_upd (o := .lst ((fkv tt).map fun kv => kV kv.1)) nl2
      have el2 : (upd G l2 (.lst ((fkv tt).map fun kv => kV kv.1))) l2 = some (.lst ((tt.map (·.1)).map V.str)) := by rw [upd_same, keys_eq]
      generalize upd G l2 (.lst ((fkv tt).map fun kv => kV kv.1)) = H2 at sl2 el2 ⊢
      refine ⟨l2, rfl, ⟨_, .inl (.inl el2)⟩, fun VD nVD => ?_⟩
      have nVG : H2 VD = none := nVD
      refine lc_list (K := K) (xs := (tt.map (·.1)).map V.str) (fun i H' => Same H2 H' ∧ H' VD = some (.lst (((tt.take i).map (·.2)).map V.str))) ⟨same_upd nVD, upd_same⟩ (fun i H' _ hP => .inl (.inl (hP.1 _ _ el2))) (fun i x H' hx hP => ?_) (fun H' hP => ?_)
      · obtain ⟨S2, eV⟩ := hP
        rw [List.getElem?_map, List.getElem?_map] at hx
        cases gx : tt[i]? with
        | none => rw [gx] at hx; cases hx
        | some u =>
        rw [gx] at hx
        cases hx
        have la := look_at n2 gx
        have hi : i < tt.length := (List.getElem?_eq_some_iff.mp gx).1
        have dg1 : DGet H' d (.str u.1) (valV (fkv tt) (.inr u.1)) := DGet.k (k := .inr u.1) (S2 _ _ (sl2 _ _ (S _ _ hd)))
        rw [look_val, la] at dg1
        refine ⟨rfl, ?_⟩
        unfold tYes
        refine iteT ⟨.ref d, rfl, .str u.1, rfl, d, _, rfl, dg1, _, eV, small (by rw [List.length_map, List.length_map, List.length_take]; omega), same_set nVD S2, ?_⟩
        rw [upd_same, take_more gx, List.map_append, List.map_append]; rfl
      · obtain ⟨S2, eV⟩ := hP
        rw [List.length_map, List.length_map, List.take_length] at eV
        have S3 := S.trans (sl2.trans S2)
        obtain ⟨ys, ey, ny, my⟩ := allL_strs (tt.map (·.2))
        have lys : ys.length ≤ (tt.map (·.2)).length := sub_len ny fun x hx => (my x).mp hx
        have ek : (tt.map (·.2)).map V.str = ((tt.map (·.2)).map Sum.inr).map kV := by rw [List.map_map (f := Sum.inr)]; rfl
        refine ⟨VD, (tt.map (·.2)).map Sum.inr, rfl, .inl (.inl (by rw [eV, ek])), by rw [List.length_map, List.length_map]; unfold scanBound; omega, fun D2 nD2 => ?_⟩
        have s2 := same_upd (o := KnS.SetL P w D2 (KnS.allL ((tt.map (·.2)).map Sum.inr))) nD2
        refine ⟨D2, ys, rfl, by rw [← ey]; exact upd_same, fun us lu px sx nlu => ?_⟩
        have s3 := s2.trans (same_upd (o := .lst (us.map V.str)) nlu)
        have eu : (upd (upd H' D2 (KnS.SetL P w D2 (KnS.allL ((tt.map (·.2)).map Sum.inr)))) lu (.lst (us.map V.str))) lu = some (.lst (us.map V.str)) := upd_same
        generalize upd (upd H' D2 (KnS.SetL P w D2 (KnS.allL ((tt.map (·.2)).map Sum.inr)))) lu (.lst (us.map V.str)) = H3 at s3 eu ⊢
        have S4 := S3.trans s3
        rw [List.length_map] at lys
        have lus : us.length ≤ 1000 := by rw [px.length_eq]; omega
        refine ⟨.ref p, rfl, p, dx, _, rfl, S4 _ _ hp, p, tb, rfl, wa.mono S4, l64, fun H5 l5 w5 s5 n5 e5 hw5 => ?_⟩
        have e8 : w5 = us := KnA.Words.uniq (xs := tt.map (·.2)) ⟨hw5.up, hw5.nd, fun x => (hw5.mem x).trans pv_.mem_iff⟩ ⟨KnA.sorted_pair sx, px.symm.nodup ny, fun x => px.mem_iff.trans (my x)⟩
        refine ⟨.ref lu, rfl, .ref l5, .ref lu, rfl, ex_strs e5 (by rw [s5 _ _ eu, e8]) (by rw [e8]; omega), fun H6 s6 => ⟨_, rfl, iteF ?_⟩⟩
        have S6 := S4.trans (s5.trans s6)
        refine ⟨.ref p, rfl, p, dx, _, rfl, S6 _ _ hp, p, tb, rfl, wa.mono S6, l64, fun H7 l7 w7 s7 n7 e7 pe7 so7 => ?_⟩
        have S7 := S6.trans s7
        refine ⟨.ref d, rfl, d, _, rfl, .inl (S7 _ _ hd), fun l8 nl8 => ?_⟩
        have sl8 := same_upd (o := .lst ((fkv tt).map fun kv => kV kv.1)) nl8
        have el8 : (upd H7 l8 (.lst ((fkv tt).map fun kv => kV kv.1))) l8 = some (.lst ((tt.map (·.1)).map V.str)) := by rw [upd_same, keys_eq]
        generalize upd H7 l8 (.lst ((fkv tt).map fun kv => kV kv.1)) = H8 at sl8 el8 ⊢
        refine ⟨l8, tt.map (·.1), rfl, .inl (.inl el8), by rw [List.length_map]; omega, fun ys9 l9 pe9 so9 nl9 => ?_⟩
        have s9 := sl8.trans (same_upd (o := .lst (ys9.map V.str)) nl9)
        have e9 : w7 = ys9 := KnA.Words.uniq (xs := tt.map (·.1)) ⟨KnA.sorted_pair so7, pe7.symm.nodup n1, fun x => pe7.mem_iff.trans pk.mem_iff⟩ ⟨KnA.sorted_pair so9, pe9.symm.nodup n2, fun x => pe9.mem_iff⟩
        have l9' : ys9.length = tt.length := by rw [pe9.length_eq, List.length_map]
        exact ⟨.ref l7, .ref l9, rfl, ex_strs (s9 _ _ e7) (by rw [upd_same, e9]) (by rw [e9]; omega), fun H10 s10 => q _ (S7.trans (s9.trans s10))⟩

theorem del_put {t : List (Str × Str)} (nd : (t.map (·.1)).Nodup) {x : Str} (hn : look t x = none) (y z : Str) : look (delT (putT t x y) x) z = look t z := by
  refine Option.ext fun v => ?_
  unfold delT
  rw [look_filter (putT_nd nd _ _), look_putT]
  by_cases e : x = z
  · subst e
    rw [hn]
    constructor
    · rintro ⟨_, h⟩
      exact absurd rfl (of_decide_eq_true h)
    · intro h; cases h
  · rw [if_neg e]
    exact ⟨fun h => h.1, fun h => ⟨h, decide_eq_true fun q => e q.symm⟩⟩
theorem look_out {t : List (Str × Str)} {x : Str} (h : ∀ p ∈ t, p.1 ≠ x) : look t x = none := by
  cases e : look t x with
  | none => rfl
  | some y =>
    have h2 : (t.any fun p => decide (p.1 = x)) = true := by rw [look_any, e]; rfl
    obtain ⟨p, hp, ep⟩ := List.any_eq_true.mp h2
    exact (h p hp (of_decide_eq_true ep)).elim
theorem eighth {zs : List Str} (nd : zs.Nodup) (l : zs.length = 9) {x : Str} (h : x ∈ zs.take 8) : x ≠ zs[8] := fun e => by
  obtain ⟨j, hj, ej⟩ := List.getElem_of_mem h
  rw [List.length_take] at hj
  rw [List.getElem_take] at ej
  exact (List.pairwise_iff_getElem.mp nd) j 8 (by omega) (by omega) (by omega) (ej.trans e)
def sp__law_own_table (_ : PySem.W.Frag) (D : Addr) : Sp := fun vs H Q _ => ∃ (d n : Addr) (tb : List (Str × Str)) (zs : List Str), vs = [.ref d, .ref n] ∧ H d = some (.dK (fkv tb)) ∧ H n = some (.lst (zs.map V.str)) ∧ zs.length = 9 ∧ zs.Nodup ∧ (∀ z ∈ zs, nameB (.str z) = true) ∧ Table zs tb ∧ ∀ H', Same H H' → Q (.bl true) H'
theorem ok__law_own_table {f : Addr} {D : Addr} {fd : FuncData} (T : Txt K mg D) (F : Fun K "_law_own_table" "_law_own_table" s__law_own_table f fd) (c_Watch_init : Mak P w K mg base 3 "Watch" D (sp_Watch_init K D) []) (c__law_is : Cal P w K mg base 6 "_law_is" (sp__law_is K D) []) (c_Watch_setitem : KnW.Own P w K mg base 2 D "__setitem__" (sp_Watch_setitem K D)) : FnOk P w K mg base CX0 7 f fd ["_law_left", "_law_names_here"] (sp__law_own_table K D) := by
  have nd := sc__law_own_table.nd
  refine F.ok sc__law_own_table (fun vs H Q E h => ?_) (fun cdv A outer s H vs Q E hr h => ?_)
  · obtain ⟨d, n, tb, zs, rfl, _⟩ := h
    rfl
  · obtain ⟨d, n, tb, zs, rfl, hd, hN, lz, nz, hz, tab, q⟩ := h
    refine ⟨_, (pss_cons (ps_set (i := 2) nd rfl (.inl rfl) (pe_callTy call_dictD (by rfl) T.m_dict (by decide +kernel) (pa_cons (pv 0) pa_nil)))
      (pss_cons (ps_set (i := 3) nd rfl (.inl rfl) (pe_mk c_Watch_init hr (by omega) (by rfl) (pa_cons (pv 2) pa_nil)))
      (pss_cons (ps_asg (pe_ix (r := rIxL K) ix_list (pv 1) pe_int (fun _ _ => rfl)) (pg_sub (pv 3) (pe_ix (r := rIxL K) ix_list (pv 1) pe_int (fun _ _ => rfl)) (KnW.set_own c_Watch_setitem T.nq_Watch hr (by omega))))
      (pss_cons (ps_if (pt_cmpR (op_ne_dictA hr.units0) (pv 2) (pv 0) (nomark _)) (pss_one (ps_ret pe_bl)) pss_nil)
      (pss_cons (ps_asg pe_non (pg_sub (pv 3) (pe_ix (r := rIxL K) ix_list (pv 1) pe_int (fun _ _ => rfl)) (KnW.set_own c_Watch_setitem T.nq_Watch hr (by omega))))
      (pss_cons (ps_expr (pe_dclear (pv 2)))
      (pss_cons (ps_dput (hu_of hr) (pv 2) (pe_ix (r := rIxL K) ix_list (pv 1) pe_int (fun _ _ => rfl)) (pe_ix (r := rIxL K) ix_list (pv 1) pe_int (fun _ _ => rfl)) rfl)
      (pss_one (ps_ret (pe_c c__law_is hr (by omega) (by rfl) (pa_cons (pv 3) (pa_cons (pv 0) pa_nil)))))))))))), ?_⟩
    have gw := tab.good hz
    have n1 := tab.nd
    have l8 := tab.len
    have h8 := hz _ (List.getElem_mem (show 8 < zs.length by omega))
    have h0 := hz _ (List.getElem_mem (show 0 < zs.length by omega))
    have out : look tb zs[8] = none := look_out fun p hp => eighth nz lz (tab.mem p hp).1
    refine ⟨.ref d, rfl, d, _, rfl, .inl hd, fun e nE => ?_⟩
    have s1 := same_upd (o := .dK (fkv tb)) nE
    have eE : (upd H e (.dK (fkv tb))) e = some (.dK (fkv tb)) := upd_same
    generalize upd H e (.dK (fkv tb)) = H1 at s1 eE ⊢
    refine ⟨.ref e, rfl, fun x dx nx ndx nex => ?_⟩
    refine init_ok nx ndx eE gw fun H2 d' s2 nd' wo => ⟨rfl, ?_⟩
    have nxH := s1.free nx
    have ndH := s1.free nd'
    have s12 := s1.trans s2
    have eN2 := s12 _ _ hN
    have eE2 := s2 _ _ eE
    have hd2 := s12 _ _ hd
    refine ⟨.ref n, rfl, n, _, 0, .str zs[0], rfl, rfl, .inl (.inl eN2), atI_nat (j := 0) (names_get (by omega)), .ref x, rfl, .ref n, rfl, n, _, 8, .str zs[8], rfl, rfl, .inl (.inl eN2), atI_nat (j := 8) (names_get (by omega)), x, dx, _, rfl, wo.1, x, dx, d', tb, zs[8], some zs[0], rfl, wo, h8, (fun z e => by cases e; exact h0), n1, by omega, fun H3 k3 wo3 => ?_⟩
    have ed : e ≠ d' := ne_of_none eE nd'
    have dd : d ≠ d' := ne_of_none hd ndH
    have nn : n ≠ d' := ne_of_none hN ndH
    have eE3 := k3 _ _ eE2 ed
    have hd3 := k3 _ _ hd2 dd
    have eN3 := k3 _ _ eN2 nn
    have S3 : Same H H3 := fun b o q => k3 _ _ (s12 _ _ q) (ne_of_none q ndH)
    refine ⟨.ref e, rfl, .ref d, rfl, e, d, fkv tb, fkv tb, rfl, rfl, eE3, hd3, rfl, fun p hp => ?_, _, rfl, iteF ?_⟩
    · obtain ⟨u, hu, rfl⟩ := List.mem_map.mp hp
      refine ⟨?_, rfl⟩
      show valV (fkv tb) (.inr u.1) = _
      rw [look_val, (look_mem n1).mpr hu]; rfl
    have g3 : ∀ p ∈ putT tb zs[8] zs[0], nameB (.str p.1) = true ∧ nameB (.str p.2) = true := fun p hp => by
      rcases putT_mem hp with h | h
      · exact gw.1 p h
      · subst h; exact ⟨h8, h0⟩
    have l3 := putT_len tb zs[8] zs[0]
    refine ⟨.ref x, rfl, .ref n, rfl, n, _, 8, .str zs[8], rfl, rfl, .inl (.inl eN3), atI_nat (j := 8) (names_get (by omega)), x, dx, _, rfl, wo3.1, x, dx, d', putT tb zs[8] zs[0], zs[8], none, rfl, wo3, h8, (fun z e => by cases e), putT_nd n1 _ _, by omega, fun H4 k4 wo4 => ?_⟩
    have eE4 := k4 _ _ eE3 ed
    have eN4 := k4 _ _ eN3 nn
    have S4 : Same H H4 := fun b o q => k4 _ _ (S3 _ _ q) (ne_of_none q ndH)
    have xe : x ≠ e := fun z => by
      have q1 := wo4.1
      rw [z, eE4] at q1
      cases q1
    have ne_ : n ≠ e := ne_of_none hN nE
    refine ⟨.ref e, rfl, .inr (.inr (.inl ⟨rfl, .inl ⟨_, eE4⟩⟩)), e, _, rfl, rfl, eE4, ?_⟩
    have eN5 := (upd_ne (o := .dK []) ne_).trans eN4
    refine ⟨.ref n, rfl, n, _, 1, .str zs[1], rfl, rfl, .inl (.inl eN5), atI_nat (j := 1) (names_get (by omega)), .ref e, rfl, .ref n, rfl, n, _, 8, .str zs[8], rfl, rfl, .inl (.inl eN5), atI_nat (j := 8) (names_get (by omega)), e, _, rfl, DPut.k (k := .inr zs[8]) upd_same (small (by decide)), ?_⟩
    rw [upd_upd]
    have S5 : Same H (upd H4 e (.dK (putK [] (.inr zs[8]) (.str zs[1])))) := same_set nE S4
    have de : d' ≠ e := ed.symm
    have wo5 : WatchO D (upd H4 e (.dK (putK [] (.inr zs[8]) (.str zs[1])))) x dx d' (delT (putT tb zs[8] zs[0]) zs[8]) := ⟨(upd_ne xe).trans wo4.1, (upd_ne de).trans wo4.2⟩
    generalize upd H4 e (.dK (putK [] (.inr zs[8]) (.str zs[1]))) = H5 at S5 wo5 ⊢
    have lf := List.length_filter_le (fun u : Str × Str => decide (u.1 ≠ zs[8])) (putT tb zs[8] zs[0])
    have g5 : GoodW (delT (putT tb zs[8] zs[0]) zs[8]) := ⟨fun u hu => g3 u (List.mem_filter.mp hu).1, by unfold delT; omega⟩
    exact ⟨.ref x, rfl, .ref d, rfl, x, d, _, tb, rfl, ⟨dx, d', wo5⟩, S5 _ _ hd, filter_nd (putT_nd n1 _ _), n1, g5, by unfold delT; omega, del_put n1 out _, fun H6 s6 => q _ (S5.trans s6)⟩

end
end Kn

set_option Elab.async false
set_option linter.all false
set_option maxRecDepth 100000
set_option maxHeartbeats 4000000
namespace Kn
open PySem PySem.Spec PyProof.Rows L2
open C8 (Cal pe_c pe_gc Mak pe_mk)
section
variable {P : Program} {w : World} {K : PySem.W.Frag} {mg : Str → Option Value} {base : Heap}
theorem reset_ {t : TS} {D : Ends} {σ σ' : L2.St} {H : Hp} (e : σ = σ') (h : t D σ' H) : t D σ H := e ▸ h
theorem reset_g {i : Nat} {x : V} {σ σ' : L2.St} {H : Hp} {k : L2.St → Hp → Prop} (e : σ.set i (some x) = σ') (h : k σ' H) : gName i x σ H k := by subst e; exact h
/-- all but one object stay -/
def SameBut (p : Addr) (H H' : Hp) : Prop := ∀ b o, H b = some o → b ≠ p → H' b = some o
theorem SameBut.watch {D p q : Addr} {H H' : Hp} {tb : List (Str × Str)} (k : SameBut p H H') {dx d : Addr} (w : WatchO D H q dx d tb) (n : q ≠ p) (m : d ≠ p) : WatchO D H' q dx d tb := ⟨k _ _ w.1 n, k _ _ w.2 m⟩
theorem WatchO.mono {D : Addr} {H H' : Hp} {p dx d : Addr} {tb : List (Str × Str)} (h : WatchO D H p dx d tb) (s : Same H H') : WatchO D H' p dx d tb := ⟨s _ _ h.1, s _ _ h.2⟩
/-- three new watches in a row -/
structure Three (D : Addr) (Hb G : Hp) (rr xx ee : Nat → Addr) (TT : Nat → List (Str × Str)) (i : Nat) : Prop where
  old : Same Hb G
  at_ : ∀ j, i ≤ j → j < 3 → WatchO D G (rr j) (xx j) (ee j) (TT j)
def pick (a b c : Addr) (i : Nat) : Addr := match i with
  | 0 => a
  | 1 => b
  | _ => c
theorem pick_get {a b c : Addr} {i : Nat} {x : V} (h : ([a, b, c].map V.ref)[i]? = some x) : i < 3 ∧ x = .ref (pick a b c i) := by
  rcases i with _ | _ | _ | i
  · cases h; exact ⟨by decide, rfl⟩
  · cases h; exact ⟨by decide, rfl⟩
  · cases h; exact ⟨by decide, rfl⟩
  · cases h
theorem merge_good {t1 t2 : List (Str × Str)} (g1 : GoodW t1) (g2 : GoodW t2) (l1 : t1.length ≤ 100) (l2 : t2.length ≤ 100) : GoodW (mergeT (mergeT [] t2) t1) ∧ (mergeT (mergeT [] t2) t1).length ≤ t1.length + t2.length := by
  have k0 := mergeT_len t2 []
  have k1 := mergeT_len t1 (mergeT [] t2)
  have z0 : ([] : List (Str × Str)).length = 0 := rfl
  refine ⟨⟨fun u hu => ?_, by omega⟩, by omega⟩
  rcases mergeT_mem _ _ hu with h | h
  · rcases mergeT_mem _ _ h with h | h
    · cases h
    · exact g2.1 u h
  · exact g1.1 u h
theorem merge_look {t1 t2 : List (Str × Str)} (n1 : (t1.map (·.1)).Nodup) (n2 : (t2.map (·.1)).Nodup) (z : Str) : look (mergeT (mergeT [] t2) t1) z = look (mergeT t2 t1) z := by
  rw [look_mergeT _ _ _ n1, look_mergeT _ _ _ n1, look_mergeT _ _ _ n2, look_nil, Option.or_none]
theorem share_look {t1 t2 : List (Str × Str)} (n1 : (t1.map (·.1)).Nodup) (n2 : (t2.map (·.1)).Nodup) (z : Str) : look (shareT t2 t1) z = look (shareT t1 t2) z := by
  refine Option.ext fun v => ?_
  unfold shareT
  rw [look_filter n1, look_filter n2]
  exact ⟨fun h => ⟨of_decide_eq_true h.2, decide_eq_true h.1⟩, fun h => ⟨of_decide_eq_true h.2, decide_eq_true h.1⟩⟩
theorem less_look {t1 t2 : List (Str × Str)} (n1 : (t1.map (·.1)).Nodup) (n2 : (t2.map (·.1)).Nodup) (h : ∀ z, look t1 z = look t2 z) (ws : List Str) (z : Str) : look (lessT t1 ws) z = look (lessT t2 ws) z := by
  refine Option.ext fun v => ?_
  unfold lessT
  rw [look_filter n1, look_filter n2, h]
theorem less_good {t : List (Str × Str)} (g : GoodW t) (ws : List Str) : GoodW (lessT t ws) ∧ (lessT t ws).length ≤ t.length := ⟨⟨fun u hu => g.1 u (List.mem_filter.mp hu).1, Nat.le_trans (List.length_filter_le _ _) g.2⟩, List.length_filter_le _ _⟩
theorem share_good {t : List (Str × Str)} (g : GoodW t) (t2 : List (Str × Str)) : GoodW (shareT t t2) ∧ (shareT t t2).length ≤ t.length := ⟨⟨fun u hu => g.1 u (List.mem_filter.mp hu).1, Nat.le_trans (List.length_filter_le _ _) g.2⟩, List.length_filter_le _ _⟩
theorem ok_law {f : Addr} {D : Addr} {fd : FuncData} (T : Txt K mg D) (F : Fun K "law" "law" s_law f fd) (c__law_names : Cal P w K mg base 3 "_law_names" (sp__law_names K) []) (c__law_cell : Cal P w K mg base 2 "_law_cell" (sp__law_cell K) []) (c__law_table : Cal P w K mg base 1 "_law_table" (sp__law_table K) []) (c__law_row : Cal P w K mg base 2 "_law_row" (sp__law_row K) []) (c__law_own_table : Cal P w K mg base 7 "_law_own_table" (sp__law_own_table K D) []) (c_Watch_init : Mak P w K mg base 3 "Watch" D (sp_Watch_init K D) []) (c__law_join : Cal P w K mg base 1 "_law_join" (sp__law_join K) []) (c__law_share : Cal P w K mg base 1 "_law_share" (sp__law_share K) []) (c__law_is : Cal P w K mg base 6 "_law_is" (sp__law_is K D) []) (c__law_less : Cal P w K mg base 1 "_law_less" (sp__law_less K) []) (c_Watch_or : KnW.Own P w K mg base 5 D "__or__" (sp_Watch_or K D)) (c_Watch_ror : KnW.Own P w K mg base 5 D "__ror__" (sp_Watch_ror K D)) (c_Watch_and : KnW.Own P w K mg base 5 D "__and__" (sp_Watch_and K D)) (c_Watch_rand : KnW.Own P w K mg base 5 D "__rand__" (sp_Watch_rand K D)) (c_Watch_sub : KnW.Own P w K mg base 5 D "__sub__" (sp_Watch_sub K D)) (c_Watch_ior : KnW.Own P w K mg base 7 D "__ior__" (sp_Watch_ior K D)) (c_Watch_isub : KnW.Own P w K mg base 7 D "__isub__" (sp_Watch_isub K D)) (c_Watch_setitem : KnW.Own P w K mg base 2 D "__setitem__" (sp_Watch_setitem K D)) (c_Watch_copy : C8.Met P w K mg base 5 D "copy" (sp_Watch_copy K D) []) : FnOk P w K mg base CX0 9 f fd ["_law_script"] (sp_law K) := by
  have nd := sc_law.nd
  refine F.ok sc_law (fun vs H Q E h => ?_) (fun cdv A outer s H vs Q E hr h => ?_)
  · obtain ⟨a, ns, rfl, _⟩ := h
    rfl
  · obtain ⟨a, ns, rfl, hS, hlen, q⟩ := h
    refine ⟨_, (pss_cons (ps_set (i := 1) nd rfl (.inr rfl) (pe_c c__law_names hr (by omega) (by rfl) (pa_cons (pe_c c__law_cell hr (by omega) (by rfl) (pa_cons (pv 0) (pa_cons pe_int pa_nil))) (pa_cons pe_int pa_nil))))
      (pss_cons (ps_set (i := 2) nd rfl (.inl rfl) (pe_c c__law_table hr (by omega) (by rfl) (pa_cons (pe_c c__law_row hr (by omega) (by rfl) (pa_cons (pe_c c__law_cell hr (by omega) (by rfl) (pa_cons (pv 0) (pa_cons pe_int pa_nil))) (pa_cons (pe_op op_rep (pe_lst (pa_cons pe_int pa_nil)) pe_int) pa_nil))) (pa_cons (pv 1) pa_nil))))
      (pss_cons (ps_set (i := 3) nd rfl (.inl rfl) (pe_c c__law_table hr (by omega) (by rfl) (pa_cons (pe_c c__law_row hr (by omega) (by rfl) (pa_cons (pe_c c__law_cell hr (by omega) (by rfl) (pa_cons (pv 0) (pa_cons pe_int pa_nil))) (pa_cons (pe_op op_rep (pe_lst (pa_cons pe_int pa_nil)) pe_int) pa_nil))) (pa_cons (pv 1) pa_nil))))
      (pss_cons (ps_set (i := 4) nd rfl (.inl rfl) (pe_c c__law_row hr (by omega) (by rfl) (pa_cons (pe_c c__law_cell hr (by omega) (by rfl) (pa_cons (pv 0) (pa_cons pe_int pa_nil))) (pa_cons (pe_op op_cat (pe_lst (pa_cons pe_int (pa_cons pe_int pa_nil))) (pe_op op_rep (pe_lst (pa_cons pe_int pa_nil)) pe_int)) pa_nil))))
      (pss_cons (ps_setLc (i := 5) (own := [("_law_digit", 15)]) (g := gName 15) (tt := tYes) rfl nd rfl rfl (sw_true rfl rfl rfl (by decide +kernel)) (pi_list (pe_slice sl_list (pv 4) (po_some pe_int) (po_some (pe_op op_add pe_int (pe_ix (r := rIxL K) ix_list (pv 4) pe_int (fun _ _ => rfl)))))) (blkOk_by (N := ["_law_script", "_law_names_here", "_law_left", "_law_right", "_law_row_here", "_law_words", "_law_given", "_law_one", "_law_other", "_law_join_here", "_law_share_here", "_law_told", "_law_same", "_law_kept", "_law_twin", "_law_digit"]) (sc := defScope s_law) (by decide +kernel)) (fun _ _ _ _ _ => (pg_name (i := 15) nd rfl (.inl rfl))) (fun _ _ _ _ _ => pts_nil) (fun _ _ _ _ _ => (pe_ix (r := rIxL K) ix_list (pv 1) (pv 15) (fun _ _ => rfl))))
      (pss_cons (ps_set (i := 6) nd rfl (.inl rfl) (pe_callTy call_list_of (by rfl) T.m_list (by decide +kernel) (pa_cons (pv 5) pa_nil)))
      (pss_cons (ps_if (pt_cmpR op_eq (pe_ix (r := rIxL K) ix_list (pv 4) pe_int (fun _ _ => rfl)) pe_int (nomark _)) (pss_one (ps_set (i := 6) nd rfl (.inl rfl) (pe_callTy call_tuple_of (by rfl) T.m_tuple (by decide +kernel) (pa_cons (pv 5) pa_nil)))) pss_nil)
      (pss_cons (ps_if (pt_not (pt_val (pe_c c__law_own_table hr (by omega) (by rfl) (pa_cons (pv 2) (pa_cons (pv 1) pa_nil))))) (pss_one (ps_ret pe_bl)) pss_nil)
      (pss_cons (ps_set (i := 7) nd rfl (.inl rfl) (pe_mk c_Watch_init hr (by omega) (by rfl) (pa_cons (pe_callTy call_dictD (by rfl) T.m_dict (by decide +kernel) (pa_cons (pv 2) pa_nil)) pa_nil)))
      (pss_cons (ps_set (i := 8) nd rfl (.inl rfl) (pe_mk c_Watch_init hr (by omega) (by rfl) (pa_cons (pe_callTy call_dictD (by rfl) T.m_dict (by decide +kernel) (pa_cons (pv 3) pa_nil)) pa_nil)))
      (pss_cons (ps_set (i := 9) nd rfl (.inl rfl) (pe_c c__law_join hr (by omega) (by rfl) (pa_cons (pv 2) (pa_cons (pv 3) pa_nil))))
      (pss_cons (ps_set (i := 10) nd rfl (.inl rfl) (pe_c c__law_share hr (by omega) (by rfl) (pa_cons (pv 2) (pa_cons (pv 3) pa_nil))))
      (pss_cons (ps_for PassesOwn.never rfl (pi_list (pe_lst (pa_cons (pe_op (KnW.op_ownBinA c_Watch_or rfl T.sf_Watch (.inl rfl) (KnW.rr_of c_Watch_ror rfl) hr (by omega)) (pv 7) (pv 8)) (pa_cons (pe_op (KnW.op_ownBinA c_Watch_or rfl T.sf_Watch (.inl rfl) (KnW.rr_of c_Watch_ror rfl) hr (by omega)) (pv 7) (pe_callTy call_dictD (by rfl) T.m_dict (by decide +kernel) (pa_cons (pv 3) pa_nil))) (pa_cons (pe_op (KnW.op_ownRBin c_Watch_ror c_Watch_or rfl rfl T.sf_Watch (.inl rfl) T.nsd_Watch hr (by omega)) (pe_callTy call_dictD (by rfl) T.m_dict (by decide +kernel) (pa_cons (pv 2) pa_nil)) (pv 8)) pa_nil))))) (pg_name (i := 11) nd rfl (.inl rfl)) (pss_cons (ps_if (pt_not (pt_val (pe_c c__law_is hr (by omega) (by rfl) (pa_cons (pv 11) (pa_cons (pv 9) pa_nil))))) (pss_one (ps_ret pe_bl)) pss_nil)
      (pss_one (ps_asg (pe_ix (r := rIxL K) ix_list (pv 1) pe_int (fun _ _ => rfl)) (pg_sub (pv 11) (pe_ix (r := rIxL K) ix_list (pv 1) pe_int (fun _ _ => rfl)) (KnW.set_own c_Watch_setitem T.nq_Watch hr (by omega)))))))
      (pss_cons (ps_for PassesOwn.never rfl (pi_list (pe_lst (pa_cons (pe_op (KnW.op_ownBinA c_Watch_and rfl T.sf_Watch (.inr (.inl rfl)) (KnW.rr_of c_Watch_rand rfl) hr (by omega)) (pv 7) (pv 8)) (pa_cons (pe_op (KnW.op_ownBinA c_Watch_and rfl T.sf_Watch (.inr (.inl rfl)) (KnW.rr_of c_Watch_rand rfl) hr (by omega)) (pv 7) (pe_callTy call_dictD (by rfl) T.m_dict (by decide +kernel) (pa_cons (pv 3) pa_nil))) (pa_cons (pe_op (KnW.op_ownRBin c_Watch_rand c_Watch_and rfl rfl T.sf_Watch (.inr rfl) T.nsd_Watch hr (by omega)) (pe_callTy call_dictD (by rfl) T.m_dict (by decide +kernel) (pa_cons (pv 2) pa_nil)) (pv 8)) pa_nil))))) (pg_name (i := 11) nd rfl (.inl rfl)) (pss_cons (ps_if (pt_not (pt_val (pe_c c__law_is hr (by omega) (by rfl) (pa_cons (pv 11) (pa_cons (pv 10) pa_nil))))) (pss_one (ps_ret pe_bl)) pss_nil)
      (pss_one (ps_asg (pe_ix (r := rIxL K) ix_list (pv 1) pe_int (fun _ _ => rfl)) (pg_sub (pv 11) (pe_ix (r := rIxL K) ix_list (pv 1) pe_int (fun _ _ => rfl)) (KnW.set_own c_Watch_setitem T.nq_Watch hr (by omega)))))))
      (pss_cons (ps_if (PW.pt (pw_or (pt_not (pt_val (pe_c c__law_is hr (by omega) (by rfl) (pa_cons (pe_op (KnW.op_ownBinA c_Watch_sub rfl T.sf_Watch (.inr (.inr rfl)) ⟨none, T.nrs_Watch, .inl rfl⟩ hr (by omega)) (pv 7) (pv 6)) (pa_cons (pe_c c__law_less hr (by omega) (by rfl) (pa_cons (pv 2) (pa_cons (pv 5) pa_nil))) pa_nil))))) (pw_or1 (pt_cmpR (op_neD hr.units) (pe_callTy call_list_of (by rfl) T.m_list (by decide +kernel) (pa_cons (pv 6) pa_nil)) (pv 5) (nomark _))))) (pss_one (ps_ret pe_bl)) pss_nil)
      (pss_cons (ps_if (PW.pt (pw_or (pt_not (pt_val (pe_c c__law_is hr (by omega) (by rfl) (pa_cons (pv 7) (pa_cons (pv 2) pa_nil))))) (pw_or1 (pt_not (pt_val (pe_c c__law_is hr (by omega) (by rfl) (pa_cons (pv 8) (pa_cons (pv 3) pa_nil)))))))) (pss_one (ps_ret pe_bl)) pss_nil)
      (pss_cons (ps_set (i := 12) nd rfl (.inl rfl) (pv 7))
      (pss_cons (ps_set (i := 13) nd rfl (.inl rfl) (pe_op (KnW.op_ownBinA c_Watch_or rfl T.sf_Watch (.inl rfl) (KnW.rr_of c_Watch_ror rfl) hr (by omega)) (pv 7) (pv 8)))
      (pss_cons (ps_set (i := 14) nd rfl (.inl rfl) (C8.pe_mt0 c_Watch_copy hr (by omega) (pv 7)))
      (pss_cons (ps_aug (i := 7) nd rfl (.inl rfl) (pv 8) (KnW.op_ownIn c_Watch_ior rfl T.sf_Watch hr (by omega)))
      (pss_cons (ps_if (PW.pt (pw_or (pt_not (pt_val (pe_c c__law_is hr (by omega) (by rfl) (pa_cons (pv 12) (pa_cons (pv 9) pa_nil))))) (pw_or (pt_not (pt_val (pe_c c__law_is hr (by omega) (by rfl) (pa_cons (pv 14) (pa_cons (pv 2) pa_nil))))) (pw_or1 (pt_not (pt_val (pe_c c__law_is hr (by omega) (by rfl) (pa_cons (pv 8) (pa_cons (pv 3) pa_nil))))))))) (pss_one (ps_ret pe_bl)) pss_nil)
      (pss_cons (ps_aug (i := 7) nd rfl (.inl rfl) (pv 6) (KnW.op_ownIn c_Watch_isub rfl T.sf_Watch hr (by omega)))
      (pss_cons (ps_if (PW.pt (pw_or (pt_not (pt_val (pe_c c__law_is hr (by omega) (by rfl) (pa_cons (pv 12) (pa_cons (pe_c c__law_less hr (by omega) (by rfl) (pa_cons (pv 9) (pa_cons (pv 5) pa_nil))) pa_nil))))) (pw_or1 (pt_not (pt_val (pe_c c__law_is hr (by omega) (by rfl) (pa_cons (pv 13) (pa_cons (pv 9) pa_nil)))))))) (pss_one (ps_ret pe_bl)) pss_nil)
      (pss_cons (ps_aug (i := 8) nd rfl (.inl rfl) (pe_callTy call_dictD (by rfl) T.m_dict (by decide +kernel) (pa_cons (pv 2) pa_nil)) (KnW.op_ownIn c_Watch_ior rfl T.sf_Watch hr (by omega)))
      (pss_one (ps_ret (pe_and (pe_c c__law_is hr (by omega) (by rfl) (pa_cons (pv 8) (pa_cons (pe_c c__law_join hr (by omega) (by rfl) (pa_cons (pv 3) (pa_cons (pv 2) pa_nil))) pa_nil))) (pe_one (pe_c c__law_is hr (by omega) (by rfl) (pa_cons (pv 14) (pa_cons (pv 2) pa_nil))))))))))))))))))))))))))))))), ?_⟩
    refine ⟨.ref a, rfl, a, ns, 0, rfl, hS, fun c0 => ⟨c0, 9, rfl, by decide, fun H1 N zs s1 nN eN lz hz nz => ?_⟩⟩
    have nz := nz (by decide)
    refine ⟨.ref a, rfl, a, ns, 1, rfl, s1.seq hS, fun c1 => ⟨szl rfl, fun q1 k1 => ⟨q1, 8, [.int 16], rfl, rfl, upd_same, by decide, by decide, smallE (by decide), fun q2 k2 => ?_⟩⟩⟩
    have v2 := (same_upd (o := .lst [.int 16]) k1).trans (same_upd (o := .lst (List.replicate (8 : Int).toNat [V.int 16]).flatten) k2)
    refine ⟨c1, q2, List.replicate 8 16, rfl, .inl (.inl upd_same), by decide, fun s hs => by rw [(List.mem_replicate.mp hs).2]; decide, fun H2 R1 rs1 s2 nR1 eR1 hrl1 hb1 => ?_⟩
    have u2 : Same H1 H2 := v2.trans s2
    clear v2
    have eN2 := u2 _ _ eN
    have t2 := s1.trans u2
    have all0 : ∀ {rs : List Int}, (∀ (i : Nat) (r s : Int), rs[i]? = some r → (List.replicate 8 (16 : Int))[i]? = some s → 0 ≤ r ∧ r < s) → rs.length = 8 → ∀ (j : Nat) (x : Int), rs[j]? = some x → 0 ≤ x := fun {rs} hb hl j x e => (hb j x 16 e (List.getElem?_replicate_of_lt (by have := (List.getElem?_eq_some_iff.mp e).1; omega))).1
    refine ⟨.ref N, rfl, R1, N, rs1, zs, rfl, eR1, hrl1, all0 hb1 hrl1, eN2, lz, nz, fun H3 L tl s3 nL eL tabL => ?_⟩
    have t3 := t2.trans s3
    have eN3 := s3 _ _ eN2
    refine ⟨.ref a, rfl, a, ns, 2, rfl, t3.seq hS, fun c2 => ⟨szl rfl, fun q3 k3 => ⟨q3, 8, [.int 16], rfl, rfl, upd_same, by decide, by decide, smallE (by decide), fun q4 k4 => ?_⟩⟩⟩
    have v4 := (same_upd (o := .lst [.int 16]) k3).trans (same_upd (o := .lst (List.replicate (8 : Int).toNat [V.int 16]).flatten) k4)
    refine ⟨c2, q4, List.replicate 8 16, rfl, .inl (.inl upd_same), by decide, fun s hs => by rw [(List.mem_replicate.mp hs).2]; decide, fun H4 R2 rs2 s4 nR2 eR2 hrl2 hb2 => ?_⟩
    have u4 : Same H3 H4 := v4.trans s4
    clear v4
    refine ⟨.ref N, rfl, R2, N, rs2, zs, rfl, eR2, hrl2, all0 hb2 hrl2, u4 _ _ eN3, lz, nz, fun H5 Rd tr s5 nRd eRd tabR => ?_⟩
    have u5 : Same H3 H5 := u4.trans s5
    refine ⟨.ref a, rfl, a, ns, 3, rfl, (t3.trans u5).seq hS, fun c3 => ⟨szl rfl, fun q5 k5 => ⟨szl rfl, fun q6 k6 => ?_⟩⟩⟩
    have v5 := same_upd (o := .lst [.int 9, .int 2]) k5
    have v6 := same_upd (o := .lst [.int 8]) k6
    refine ⟨q6, 8, [.int 8], rfl, rfl, upd_same, by decide, by decide, smallE (by decide), fun q7 k7 => ?_⟩
    have v7 := same_upd (o := .lst (List.replicate (8 : Int).toNat [V.int 8]).flatten) k7
    refine ⟨q5, q7, _, _, rfl, rfl, (v6.trans v7) _ _ upd_same, upd_same, smallE (by decide), fun q8 k8 => ?_⟩
    have v8 := (v5.trans (v6.trans v7)).trans (same_upd (o := .lst ([V.int 9, .int 2] ++ (List.replicate (8 : Int).toNat [V.int 8]).flatten)) k8)
    refine ⟨c3, q8, [9, 2] ++ List.replicate 8 8, rfl, .inl (.inl upd_same), by decide, by decide, fun H6 R rs s6 nR eR hrl hb => ?_⟩
    have u6 : Same H5 H6 := v8.trans s6
    clear v5 v6 v7 v8
    obtain ⟨r0, _, g0, l0, p0⟩ := row_at hrl hb (j := 0) (t := 9) rfl
    obtain ⟨r1, _, g1, l1, p1_⟩ := row_at hrl hb (j := 1) (t := 2) rfl
    have rest8 : ∀ (j : Nat) (r : Int), 2 ≤ j → rs[j]? = some r → 0 ≤ r ∧ r < 8 := fun j r h5 e => by
      have hj : j < 10 := by
        have := (List.getElem?_eq_some_iff.mp e).1
        rw [hrl] at this
        exact this
      refine hb j r 8 e ?_
      rw [List.getElem?_append_right h5]
      exact List.getElem?_replicate_of_lt (by show j - 2 < 8; omega)
    have lrs : rs.length = 10 := hrl
    clear hb
    have eN6 := u6 _ _ (u5 _ _ eN3)
    have eL6 := u6 _ _ (u5 _ _ eL)
    have eRd6 := u6 _ _ eRd
    -- the words
    refine ⟨.ref R, rfl, 2, rfl, .ref R, rfl, R, rs.map V.int, 0, .int r0, rfl, rfl, .inl (.inl eR), atI_nat (j := 0) g0, 2, r0, rfl, rfl, _, rfl, R, rs.map V.int, rfl, .inl (.inl eR), fun cc ncc => ?_⟩
    have ecc0 : cutV (rs.map V.int) (some 2) (some (2 + r0)) = ((rs.drop 2).take r0.toNat).map V.int := by
      rw [show (2 + r0) = ((2 + r0.toNat : Nat) : Int) by omega, show (some (2 : Int)) = some ((2 : Nat) : Int) from rfl, cut_nat, List.map_take, List.map_drop, show 2 + r0.toNat - 2 = r0.toNat by omega]
    rw [ecc0]
    clear ecc0
    have scc := same_upd (o := .lst (((rs.drop 2).take r0.toNat).map V.int)) ncc
    have ecc : (upd H6 cc (.lst (((rs.drop 2).take r0.toNat).map V.int))) cc = some (.lst (((rs.drop 2).take r0.toNat).map V.int)) := upd_same
    have dcc : ∀ d ∈ (rs.drop 2).take r0.toNat, 0 ≤ d ∧ d < 8 := fun d hd => by
      obtain ⟨j, hj⟩ := List.mem_iff_getElem?.mp (List.mem_of_mem_take hd)
      rw [List.getElem?_drop] at hj
      exact rest8 (2 + j) d (by omega) hj
    have lcc : ((rs.drop 2).take r0.toNat).length ≤ 8 := by rw [List.length_take, List.length_drop]; omega
    generalize (rs.drop 2).take r0.toNat = ds at scc ecc dcc lcc ⊢
    generalize upd H6 cc (.lst (ds.map V.int)) = H7 at scc ecc ⊢
    refine ⟨cc, rfl, ⟨_, .inl (.inl ecc)⟩, fun LW nLW => ?_⟩
    refine lc_list (K := K) (a := cc) (xs := ds.map V.int) (fun i G => Same H7 G ∧ ∃ xs : List Str, G LW = some (.lst (xs.map V.str)) ∧ xs.length = i ∧ ∀ z ∈ xs, z ∈ zs)
      ⟨same_upd nLW, [], upd_same, rfl, fun z h => nomatch h⟩ (fun i G _ hP => hP.1.seq (.inl (.inl ecc))) (fun i u G hx hP => ?_) (fun H8 hP => ?_)
    · obtain ⟨S, xs, eD, lx, hxs⟩ := hP
      rw [List.getElem?_map] at hx
      cases gx : ds[i]? with
      | none => rw [gx] at hx; cases hx
      | some d =>
      rw [gx] at hx
      cases hx
      obtain ⟨d0, d8⟩ := dcc d (List.mem_of_getElem? gx)
      obtain ⟨j, rfl⟩ : ∃ j : Nat, d = (j : Int) := ⟨d.toNat, by omega⟩
      have hj : j < zs.length := by omega
      have hi : i < ds.length := (List.getElem?_eq_some_iff.mp gx).1
      refine ⟨rfl, ?_⟩
      unfold tYes
      refine iteT ?_
      refine ⟨.ref N, rfl, .int j, rfl, N, zs.map V.str, (j : Int), .str zs[j], rfl, rfl, .inl (.inl (S _ _ (scc _ _ eN6))), atI_nat (names_get hj), xs.map V.str, eD, small (by rw [List.length_map]; omega), same_set nLW S, xs ++ [zs[j]], by rw [upd_same, List.map_append]; rfl, by rw [List.length_append, lx]; rfl, fun z hz => ?_⟩
      rcases List.mem_append.mp hz with h | h
      · exact hxs z h
      · rw [List.mem_singleton.mp h]; exact List.getElem_mem hj
    obtain ⟨Scc, ws, eLW, lws, hws⟩ := hP
    rw [List.length_map] at lws
    have nws : ∀ z ∈ ws, nameB (.str z) = true := fun z h => hz z (hws z h)
    have lw8 : ws.length ≤ 1000 := by omega
    have u8 := scc.trans Scc
    have eN8 := u8 _ _ eN6
    have eL8 := u8 _ _ eL6
    have eRd8 := u8 _ _ eRd6
    have eR8 := u8 _ _ eR
    clear dcc lcc scc ecc Scc u8 u6 u5 u4 u2 t3 t2 eN6 eL6 eRd6 eN3 eN2 rest8 all0
    -- list or tuple
    refine ⟨.ref LW, rfl, LW, _, rfl, .inl (.inl (.inl eLW)), fun G1 nG1 => ?_⟩
    have sG1 := same_upd (o := .lst (ws.map V.str)) nG1
    refine KnC.asg_if (fun σ2 G => ∃ (b : Bool) (g : Addr), σ2 = [some (.ref a), some (.ref N), some (.ref L), some (.ref Rd), some (.ref R), some (.ref LW), some (.ref g), none, none, none, none, none, none, none, none, none] ∧ Same H8 G ∧ G g = some (rowO b (ws.map V.str))) (fun go => ?_) (fun σ2 H9 hT => ?_)
    · refine ⟨.ref R, rfl, R, rs.map V.int, 1, .int r1, rfl, rfl, .inl (.inl (sG1 _ _ eR8)), atI_nat (j := 1) g1, rfl, _, rfl, ite2 (fun e => ?_) (fun e => ?_)⟩
      · refine ⟨.ref LW, rfl, LW, _, rfl, .inl ⟨.inl (.inl (sG1 _ _ eLW)), fun tq ntq => ?_⟩⟩
        exact go _ _ ⟨false, tq, rfl, sG1.trans (same_upd ntq), upd_same⟩
      · exact go _ _ ⟨true, G1, rfl, sG1, upd_same⟩
    obtain ⟨b, g, rfl, s9, eg⟩ := hT
    have gl := tabL.good hz
    have gr := tabR.good hz
    have nl := tabL.nd
    have nr := tabR.nd
    have ll8 := tabL.len
    have lr8 := tabR.len
    refine ⟨.ref L, rfl, .ref N, rfl, L, N, tl, zs, rfl, s9 _ _ eL8, s9 _ _ eN8, lz, nz, hz, tabL, fun H10 s10 => ⟨_, rfl, iteF ?_⟩⟩
    have u10 := s9.trans s10
    have eN10 := u10 _ _ eN8
    have eL10 := u10 _ _ eL8
    have eRd10 := u10 _ _ eRd8
    have eLW10 := u10 _ _ eLW
    have eg10 := s10 _ _ eg
    clear s9 s10 u10 eN8 eL8 eRd8 eR8 eLW eg sG1
    -- two watches
    refine ⟨.ref L, rfl, L, _, rfl, .inl eL10, fun dl ndl => ?_⟩
    have sdl := same_upd (o := .dK (fkv tl)) ndl
    intro p1 x1 np1 nx1 nex1
    refine init_ok np1 nx1 upd_same gl fun H11 e1 s11 ne1 w1 => ⟨rfl, ?_⟩
    have np1' := sdl.free np1
    have ne1' := sdl.free ne1
    have u11 := sdl.trans s11
    clear sdl s11 np1 ne1 nx1
    refine ⟨.ref Rd, rfl, Rd, _, rfl, .inl (u11 _ _ eRd10), fun dr ndr => ?_⟩
    have sdr := same_upd (o := .dK (fkv tr)) ndr
    intro p2 x2 np2 nx2 nex2
    refine init_ok np2 nx2 upd_same gr fun H12 e2 s12 ne2 w2 => ⟨rfl, ?_⟩
    have np2' := sdr.free np2
    have ne2' := sdr.free ne2
    have v12 := sdr.trans s12
    have u12 := u11.trans v12
    have p12 : p1 ≠ p2 := ne_of_none w1.1 np2'
    have p1e2 : p1 ≠ e2 := ne_of_none w1.1 ne2'
    have e1p2 : e1 ≠ p2 := ne_of_none w1.2 np2'
    have e12 : e1 ≠ e2 := ne_of_none w1.2 ne2'
    have w1 := w1.mono v12
    clear sdr s12 np2 ne2 nx2
    refine ⟨.ref L, rfl, .ref Rd, rfl, L, Rd, tl, tr, rfl, u12 _ _ eL10, u12 _ _ eRd10, by omega, by omega, fun H13 J s13 nJ eJ => ?_⟩
    have u13 := u12.trans s13
    refine ⟨.ref L, rfl, .ref Rd, rfl, L, Rd, tl, tr, rfl, u13 _ _ eL10, u13 _ _ eRd10, nl, by omega, fun H14 Sh s14 nSh eSh => ?_⟩
    have u14 := u13.trans s14
    have eJ := s14 _ _ eJ
    have v14 := s13.trans s14
    have w1 := w1.mono v14
    have w2 := w2.mono v14
    have eN := u14 _ _ eN10
    have eL := u14 _ _ eL10
    have eRd := u14 _ _ eRd10
    have eLW := u14 _ _ eLW10
    have eg := u14 _ _ eg10
    refine reset_g (σ' := [some (.ref a), some (.ref N), some (.ref L), some (.ref Rd), some (.ref R), some (.ref LW), some (.ref g), some (.ref p1), some (.ref p2), some (.ref J), some (.ref Sh), none, none, none, none, none]) rfl ?_
    obtain ⟨gM, lM⟩ := merge_good gl gr (by omega) (by omega)
    have nM : ((mergeT (mergeT [] tr) tl).map (·.1)).Nodup := mergeT_nd _ _ (mergeT_nd _ _ List.nodup_nil)
    have nJn : ((mergeT tr tl).map (·.1)).Nodup := mergeT_nd _ _ nr
    have eqM := merge_look nl nr
    have h0 := hz _ (List.getElem_mem (show 0 < zs.length by omega))
    have h1 := hz _ (List.getElem_mem (show 1 < zs.length by omega))
    -- three joined ones
    refine ⟨.ref p1, rfl, .ref p2, rfl, p1, x1, _, rfl, w1.1, .inl ⟨p2, x2, _, rfl, w2.1⟩, p1, .ref p2, e2, tl, tr, rfl, ⟨x1, e1, w1⟩, .inl ⟨p2, x2, rfl, w2⟩, gl, gr, nl, by omega, by omega, fun H15 a1 b1 c1 s15 na1 nc1 t1 => ⟨a1, rfl, ?_⟩⟩
    refine ⟨.ref p1, rfl, .ref Rd, rfl, Rd, _, rfl, .inl (s15 _ _ eRd), fun d1 nd1 => ?_⟩
    have sd1 := same_upd (o := .dK (fkv tr)) nd1
    have v1 := s15.trans sd1
    refine ⟨p1, x1, _, rfl, v1 _ _ w1.1, .inr ⟨"dict", .inl rfl, .inl (.inr (.inr (.inl ⟨rfl, .inl ⟨_, upd_same⟩⟩)))⟩, p1, .ref d1, d1, tl, tr, rfl, ⟨x1, e1, w1.mono v1⟩, .inr ⟨rfl, upd_same⟩, gl, gr, nl, by omega, by omega, fun H16 a2 b2 c2 s16 na2 nc2 t2 => ⟨a2, rfl, ?_⟩⟩
    have m15 := sd1.trans s16
    have na2 := sd1.free na2
    have nc2 := sd1.free nc2
    have u16 := s15.trans m15
    refine ⟨.ref L, rfl, L, _, rfl, .inl (u16 _ _ eL), fun d2 nd2 => ?_⟩
    have sd2 := same_upd (o := .dK (fkv tl)) nd2
    have v2 := u16.trans sd2
    refine ⟨.ref p2, rfl, p2, d2, x2, _, rfl, .inr (.inr (.inl ⟨rfl, .inl ⟨_, upd_same⟩⟩)), rfl, v2 _ _ w2.1, p2, .ref d2, d2, tr, tl, rfl, ⟨x2, e2, w2.mono v2⟩, .inr ⟨rfl, upd_same⟩, gr, gl, nr, by omega, by omega, fun H17 a3 b3 c3 s17 na3 nc3 t3 => ⟨a3, rfl, ?_⟩⟩
    have m16 := sd2.trans s17
    have na3 := sd2.free na3
    have nc3 := sd2.free nc3
    have u17 := u16.trans m16
    refine ⟨szl rfl, fun LL nLL => ?_⟩
    have sLL := same_upd (o := .lst [.ref a1, .ref a2, .ref a3]) nLL
    have eLL : (upd H17 LL (.lst [.ref a1, .ref a2, .ref a3])) LL = some (.lst ([a1, a2, a3].map V.ref)) := upd_same
    have u18 := u17.trans sLL
    have th : Three D H14 (upd H17 LL (.lst [.ref a1, .ref a2, .ref a3])) (pick a1 a2 a3) (pick b1 b2 b3) (pick c1 c2 c3) (fun _ => mergeT (mergeT [] tr) tl) 0 := ⟨u18, fun j _ hj => by
      rcases j with _ | _ | _ | j
      · exact t1.mono (m15.trans (m16.trans sLL))
      · exact t2.mono (m16.trans sLL)
      · exact t3.mono sLL
      · omega⟩
    have ap : ∀ i j, i < j → j < 3 → pick a1 a2 a3 j ≠ pick c1 c2 c3 i ∧ pick c1 c2 c3 j ≠ pick c1 c2 c3 i := fun i j h1 h2 => by
      rcases j with _ | _ | _ | j
      · omega
      · rcases i with _ | i
        · exact ⟨(ne_of_none t1.2 na2).symm, (ne_of_none t1.2 nc2).symm⟩
        · omega
      · rcases i with _ | _ | i
        · exact ⟨(ne_of_none (m15 _ _ t1.2) na3).symm, (ne_of_none (m15 _ _ t1.2) nc3).symm⟩
        · exact ⟨(ne_of_none t2.2 na3).symm, (ne_of_none t2.2 nc3).symm⟩
        · omega
      · omega
    have nn : ∀ i, i < 3 → H14 (pick c1 c2 c3 i) = none ∧ LL ≠ pick c1 c2 c3 i := fun i hi => by
      rcases i with _ | _ | _ | i
      · exact ⟨nc1, (ne_of_none (m16 _ _ (m15 _ _ t1.2)) nLL).symm⟩
      · exact ⟨s15.free nc2, (ne_of_none (m16 _ _ t2.2) nLL).symm⟩
      · exact ⟨u16.free nc3, (ne_of_none t3.2 nLL).symm⟩
      · omega
    generalize upd H17 LL (.lst [.ref a1, .ref a2, .ref a3]) = H18 at eLL th u18 ⊢
    clear t1 t2 t3 m15 m16 sd1 sd2 v1 v2 u16 u17 sLL na1 na2 na3 nc1 nc2 nc3 s15 s16 s17 nLL nd1 nd2
    refine ⟨LL, rfl, ⟨_, .inl (.inl eLL)⟩, ?_⟩
    refine for_list (K := K) (xs := [a1, a2, a3].map V.ref) (fun i σ G => ∃ y, σ = [some (.ref a), some (.ref N), some (.ref L), some (.ref Rd), some (.ref R), some (.ref LW), some (.ref g), some (.ref p1), some (.ref p2), some (.ref J), some (.ref Sh), y, none, none, none, none] ∧ G LL = some (.lst ([a1, a2, a3].map V.ref)) ∧ Three D H14 G (pick a1 a2 a3) (pick b1 b2 b3) (pick c1 c2 c3) (fun _ => mergeT (mergeT [] tr) tl) i) ⟨none, rfl, eLL, th⟩ (fun i σ G _ hP => .inl (.inl hP.choose_spec.2.1)) (fun i x σ G hx hP => ?_) (fun σ H19 hP => ?_)
    · obtain ⟨y, rfl, eLL, th⟩ := hP
      obtain ⟨hi, rfl⟩ := pick_get hx
      have w := th.at_ i (Nat.le_refl _) hi
      have old := th.old
      refine ⟨.ref (pick a1 a2 a3 i), rfl, .ref J, rfl, pick a1 a2 a3 i, J, _, mergeT tr tl, rfl, ⟨_, _, w⟩, old _ _ eJ, nM, nJn, gM, by omega, eqM, fun G2 z2 => ⟨_, rfl, iteF ?_⟩⟩
      have w := w.mono z2
      have old2 := old.trans z2
      refine ⟨.ref N, rfl, N, _, 1, .str zs[1], rfl, rfl, .inl (.inl (old2 _ _ eN)), atI_nat (j := 1) (names_get (by omega)), .ref (pick a1 a2 a3 i), rfl, .ref N, rfl, N, _, 0, .str zs[0], rfl, rfl, .inl (.inl (old2 _ _ eN)), atI_nat (j := 0) (names_get (by omega)), _, _, _, rfl, w.1, _, _, _, _, zs[0], some zs[1], rfl, w, h0, (fun z e => by cases e; exact h1), nM, by omega, fun G3 k3 _ => ?_⟩
      obtain ⟨n1, n2⟩ := nn i hi
      refine ⟨_, rfl, k3 _ _ (z2 _ _ eLL) n2, fun b o q => k3 _ _ (old2 _ _ q) (ne_of_none q n1), fun j h1 h2 => ?_⟩
      have w' := (th.at_ j (by omega) h2).mono z2
      obtain ⟨a5, a6⟩ := ap i j h1 h2
      exact ⟨k3 _ _ w'.1 a5, k3 _ _ w'.2 a6⟩
    obtain ⟨y, rfl, _, th⟩ := hP
    have u19 := th.old
    clear th ap nn eLL u18
    have eJ := u19 _ _ eJ
    have eN := u19 _ _ eN
    have eL := u19 _ _ eL
    have eRd := u19 _ _ eRd
    have eLW := u19 _ _ eLW
    have eg := u19 _ _ eg
    have eSh := u19 _ _ eSh
    have w1 := w1.mono u19
    have w2 := w2.mono u19
    obtain ⟨gS1, lS1⟩ := share_good gl tr
    obtain ⟨gS2, lS2⟩ := share_good gr tl
    have nS : ((shareT tl tr).map (·.1)).Nodup := filter_nd nl
    have nS2 : ((shareT tr tl).map (·.1)).Nodup := filter_nd nr
    have nT : ∀ i : Nat, ((if i < 2 then shareT tl tr else shareT tr tl).map (·.1)).Nodup := fun i => by split <;> assumption
    have gT : ∀ i : Nat, GoodW (if i < 2 then shareT tl tr else shareT tr tl) := fun i => by split <;> assumption
    have lT : ∀ i : Nat, (if i < 2 then shareT tl tr else shareT tr tl).length < 64 := fun i => by split <;> omega
    have eqT : ∀ (i : Nat) z, look (if i < 2 then shareT tl tr else shareT tr tl) z = look (shareT tl tr) z := fun i z => by
      split
      · rfl
      · exact share_look nl nr z
    -- three shared ones
    refine ⟨.ref p1, rfl, .ref p2, rfl, p1, x1, _, rfl, w1.1, .inl ⟨p2, x2, _, rfl, w2.1⟩, p1, .ref p2, e2, tl, tr, rfl, ⟨x1, e1, w1⟩, .inl ⟨p2, x2, rfl, w2⟩, gl, gr, nl, by omega, by omega, fun H115 a1 b1 c1 s115 na1 nc1 t1 => ⟨a1, rfl, ?_⟩⟩
    refine ⟨.ref p1, rfl, .ref Rd, rfl, Rd, _, rfl, .inl (s115 _ _ eRd), fun d1 nd1 => ?_⟩
    have sd1 := same_upd (o := .dK (fkv tr)) nd1
    have v1 := s115.trans sd1
    refine ⟨p1, x1, _, rfl, v1 _ _ w1.1, .inr ⟨"dict", .inl rfl, .inl (.inr (.inr (.inl ⟨rfl, .inl ⟨_, upd_same⟩⟩)))⟩, p1, .ref d1, d1, tl, tr, rfl, ⟨x1, e1, w1.mono v1⟩, .inr ⟨rfl, upd_same⟩, gl, gr, nl, by omega, by omega, fun H116 a2 b2 c2 s116 na2 nc2 t2 => ⟨a2, rfl, ?_⟩⟩
    have m115 := sd1.trans s116
    have na2 := sd1.free na2
    have nc2 := sd1.free nc2
    have u116 := s115.trans m115
    refine ⟨.ref L, rfl, L, _, rfl, .inl (u116 _ _ eL), fun d2 nd2 => ?_⟩
    have sd2 := same_upd (o := .dK (fkv tl)) nd2
    have v2 := u116.trans sd2
    refine ⟨.ref p2, rfl, p2, d2, x2, _, rfl, .inr (.inr (.inl ⟨rfl, .inl ⟨_, upd_same⟩⟩)), rfl, v2 _ _ w2.1, p2, .ref d2, d2, tr, tl, rfl, ⟨x2, e2, w2.mono v2⟩, .inr ⟨rfl, upd_same⟩, gr, gl, nr, by omega, by omega, fun H117 a3 b3 c3 s117 na3 nc3 t3 => ⟨a3, rfl, ?_⟩⟩
    have m116 := sd2.trans s117
    have na3 := sd2.free na3
    have nc3 := sd2.free nc3
    have u117 := u116.trans m116
    refine ⟨szl rfl, fun LL nLL => ?_⟩
    have sLL := same_upd (o := .lst [.ref a1, .ref a2, .ref a3]) nLL
    have eLL : (upd H117 LL (.lst [.ref a1, .ref a2, .ref a3])) LL = some (.lst ([a1, a2, a3].map V.ref)) := upd_same
    have u118 := u117.trans sLL
    have th : Three D H19 (upd H117 LL (.lst [.ref a1, .ref a2, .ref a3])) (pick a1 a2 a3) (pick b1 b2 b3) (pick c1 c2 c3) (fun j => if j < 2 then shareT tl tr else shareT tr tl) 0 := ⟨u118, fun j _ hj => by
      rcases j with _ | _ | _ | j
      · exact t1.mono (m115.trans (m116.trans sLL))
      · exact t2.mono (m116.trans sLL)
      · exact t3.mono sLL
      · omega⟩
    have ap : ∀ i j, i < j → j < 3 → pick a1 a2 a3 j ≠ pick c1 c2 c3 i ∧ pick c1 c2 c3 j ≠ pick c1 c2 c3 i := fun i j h1 h2 => by
      rcases j with _ | _ | _ | j
      · omega
      · rcases i with _ | i
        · exact ⟨(ne_of_none t1.2 na2).symm, (ne_of_none t1.2 nc2).symm⟩
        · omega
      · rcases i with _ | _ | i
        · exact ⟨(ne_of_none (m115 _ _ t1.2) na3).symm, (ne_of_none (m115 _ _ t1.2) nc3).symm⟩
        · exact ⟨(ne_of_none t2.2 na3).symm, (ne_of_none t2.2 nc3).symm⟩
        · omega
      · omega
    have nn : ∀ i, i < 3 → H19 (pick c1 c2 c3 i) = none ∧ LL ≠ pick c1 c2 c3 i := fun i hi => by
      rcases i with _ | _ | _ | i
      · exact ⟨nc1, (ne_of_none (m116 _ _ (m115 _ _ t1.2)) nLL).symm⟩
      · exact ⟨s115.free nc2, (ne_of_none (m116 _ _ t2.2) nLL).symm⟩
      · exact ⟨u116.free nc3, (ne_of_none t3.2 nLL).symm⟩
      · omega
    generalize upd H117 LL (.lst [.ref a1, .ref a2, .ref a3]) = H118 at eLL th u118 ⊢
    clear t1 t2 t3 m115 m116 sd1 sd2 v1 v2 u116 u117 sLL na1 na2 na3 nc1 nc2 nc3 s115 s116 s117 nLL nd1 nd2
    refine ⟨LL, rfl, ⟨_, .inl (.inl eLL)⟩, ?_⟩
    refine for_list (K := K) (xs := [a1, a2, a3].map V.ref) (fun i σ G => ∃ y, σ = [some (.ref a), some (.ref N), some (.ref L), some (.ref Rd), some (.ref R), some (.ref LW), some (.ref g), some (.ref p1), some (.ref p2), some (.ref J), some (.ref Sh), y, none, none, none, none] ∧ G LL = some (.lst ([a1, a2, a3].map V.ref)) ∧ Three D H19 G (pick a1 a2 a3) (pick b1 b2 b3) (pick c1 c2 c3) (fun j => if j < 2 then shareT tl tr else shareT tr tl) i) ⟨y, rfl, eLL, th⟩ (fun i σ G _ hP => .inl (.inl hP.choose_spec.2.1)) (fun i x σ G hx hP => ?_) (fun σ H119 hP => ?_)
    · obtain ⟨y, rfl, eLL, th⟩ := hP
      obtain ⟨hi, rfl⟩ := pick_get hx
      have w := th.at_ i (Nat.le_refl _) hi
      have old := th.old
      refine ⟨.ref (pick a1 a2 a3 i), rfl, .ref Sh, rfl, pick a1 a2 a3 i, Sh, _, shareT tl tr, rfl, ⟨_, _, w⟩, old _ _ eSh, nT i, nS, gT i, lT i, eqT i, fun G2 z2 => ⟨_, rfl, iteF ?_⟩⟩
      have w := w.mono z2
      have old2 := old.trans z2
      refine ⟨.ref N, rfl, N, _, 1, .str zs[1], rfl, rfl, .inl (.inl (old2 _ _ eN)), atI_nat (j := 1) (names_get (by omega)), .ref (pick a1 a2 a3 i), rfl, .ref N, rfl, N, _, 0, .str zs[0], rfl, rfl, .inl (.inl (old2 _ _ eN)), atI_nat (j := 0) (names_get (by omega)), _, _, _, rfl, w.1, _, _, _, _, zs[0], some zs[1], rfl, w, h0, (fun z e => by cases e; exact h1), nT i, Nat.le_of_lt (Nat.lt_of_lt_of_le (lT i) (by decide)), fun G3 k3 _ => ?_⟩
      obtain ⟨n1, n2⟩ := nn i hi
      refine ⟨_, rfl, k3 _ _ (z2 _ _ eLL) n2, fun b o q => k3 _ _ (old2 _ _ q) (ne_of_none q n1), fun j h1 h2 => ?_⟩
      have w' := (th.at_ j (by omega) h2).mono z2
      obtain ⟨a5, a6⟩ := ap i j h1 h2
      exact ⟨k3 _ _ w'.1 a5, k3 _ _ w'.2 a6⟩
    obtain ⟨y, rfl, _, th⟩ := hP
    have u119 := th.old
    clear th ap nn eLL u118
    have eJ := u119 _ _ eJ
    have eN := u119 _ _ eN
    have eL := u119 _ _ eL
    have eRd := u119 _ _ eRd
    have eLW := u119 _ _ eLW
    have eg := u119 _ _ eg
    have eSh := u119 _ _ eSh
    have w1 := w1.mono u119
    have w2 := w2.mono u119
    have np1J : J ≠ p1 := ne_of eJ w1.1 (fun z => by cases z)
    -- without some words
    have alt : ∀ {G : Hp}, G g = some (rowO b (ws.map V.str)) → (∃ b dy gs, V.ref g = V.ref b ∧ G b = some (.ins D dy gs)) ∨ ∃ T, (T = "dict" ∨ T = "list" ∨ T = "tuple") ∧ KnW.TyB K T (.ref g) G := fun {G} eg => by
      cases b with
      | true => exact .inr ⟨"list", .inr (.inl rfl), .inl (.inl ⟨rfl, _, .inl (.inl eg)⟩)⟩
      | false => exact .inr ⟨"tuple", .inr (.inr rfl), .inr ⟨rfl, _, _, rfl, eg⟩⟩
    have sqg : ∀ {G : Hp}, G g = some (rowO b (ws.map V.str)) → SqL K G g (ws.map V.str) ∨ SqT K G g (ws.map V.str) := fun {G} eg => by
      cases b with
      | true => exact .inl (.inl (.inl eg))
      | false => exact .inr (.inl (.inl eg))
    obtain ⟨gL1, lL1⟩ := less_good gl ws
    refine ⟨.ref p1, rfl, .ref g, rfl, p1, x1, _, rfl, w1.1, alt eg, p1, b, g, tl, ws, rfl, ⟨x1, e1, w1⟩, gl, nl, eg, nws, lw8, fun H20 m1 m2 m3 s20 _ _ wm => ⟨m1, rfl, ?_⟩⟩
    refine ⟨.ref L, rfl, .ref LW, rfl, L, LW, tl, ws, rfl, s20 _ _ eL, s20 _ _ eLW, nl, by omega, fun H21 m4 s21 _ em4 => ?_⟩
    refine ⟨m1, m4, lessT tl ws, lessT tl ws, rfl, ⟨m2, m3, wm.mono s21⟩, em4, filter_nd nl, filter_nd nl, gL1, by omega, (fun _ => rfl), fun H22 s22 => ⟨_, rfl, iteF ?_⟩⟩
    have u22 := s20.trans (s21.trans s22)
    refine ⟨.ref g, rfl, g, _, rfl, sqg (u22 _ _ eg), fun l nl_ => ?_⟩
    have sl := same_upd (o := .lst (ws.map V.str)) nl_
    have u23 := u22.trans sl
    refine ⟨.ref LW, rfl, .list (ws.map .str), .list (ws.map .str), .lst (.inl (.inl upd_same)) (dp_strs ws), .lst (.inl (.inl (u23 _ _ eLW))) (dp_strs ws), strs_shapedL nws, strs_shapedL nws, _, rfl, ?_⟩
    rw [show PyData.eqv (.list (ws.map .str)) (.list (ws.map .str)) = true from (strs_eqv ws ws).trans (decide_eq_true rfl)]
    refine iteF ?_
    generalize upd H22 l (.lst (ws.map V.str)) = H23 at u23 ⊢
    clear sl u22 s20 s21 s22 wm em4
    have eJ := u23 _ _ eJ
    have eN := u23 _ _ eN
    have eL := u23 _ _ eL
    have eRd := u23 _ _ eRd
    have eLW := u23 _ _ eLW
    have eg := u23 _ _ eg
    have w1 := w1.mono u23
    have w2 := w2.mono u23
    -- both are as they were
    refine ⟨.ref p1, rfl, .ref L, rfl, p1, L, tl, tl, rfl, ⟨_, _, w1⟩, eL, nl, nl, gl, by omega, (fun _ => rfl), fun H24 s24 => ⟨_, rfl, iteF ⟨.ref p2, rfl, .ref Rd, rfl, p2, Rd, tr, tr, rfl, ⟨_, _, w2.mono s24⟩, s24 _ _ eRd, nr, nr, gr, by omega, (fun _ => rfl), fun H25 s25 => ⟨_, rfl, iteF ?_⟩⟩⟩⟩
    have u25 := s24.trans s25
    have eJ := u25 _ _ eJ
    have eL := u25 _ _ eL
    have eRd := u25 _ _ eRd
    have eLW := u25 _ _ eLW
    have eg := u25 _ _ eg
    have w1 := w1.mono u25
    have w2 := w2.mono u25
    refine ⟨.ref p1, rfl, ?_⟩
    refine ⟨.ref p1, rfl, .ref p2, rfl, p1, x1, _, rfl, w1.1, .inl ⟨p2, x2, _, rfl, w2.1⟩, p1, .ref p2, e2, tl, tr, rfl, ⟨x1, e1, w1⟩, .inl ⟨p2, x2, rfl, w2⟩, gl, gr, nl, by omega, by omega, fun H26 kp kx ke s26 nkp nke wk => ⟨kp, rfl, ?_⟩⟩
    have kp1 : kp ≠ p1 := (ne_of_none w1.1 nkp).symm
    have ke1 : ke ≠ p1 := (ne_of_none w1.1 nke).symm
    have w1 := w1.mono s26
    have w2 := w2.mono s26
    refine ⟨.ref p1, rfl, p1, x1, _, rfl, w1.1, rfl, p1, tl, rfl, ⟨x1, e1, w1⟩, gl, fun H27 tw s27 ntw wtw => ?_⟩
    obtain ⟨tx, te, wt⟩ := wtw
    have ntp1 : tw ≠ p1 := (ne_of_none w1.1 ntw).symm
    have ntp2 : tw ≠ p2 := (ne_of_none w2.1 ntw).symm
    have u27 := s26.trans s27
    have eJ := u27 _ _ eJ
    have eL := u27 _ _ eL
    have eRd := u27 _ _ eRd
    have eLW := u27 _ _ eLW
    have eg := u27 _ _ eg
    have w1 := w1.mono s27
    have w2 := w2.mono s27
    have wk := wk.mono s27
    have te1 : te ≠ p1 := ne_of wt.2 w1.1 (fun z => by cases z)
    have te2 : te ≠ p2 := ne_of wt.2 w2.1 (fun z => by cases z)
    have e2p1 : e2 ≠ p1 := p1e2.symm
    have L1 : L ≠ p1 := ne_of eL w1.1 (fun z => by cases z)
    have L2 : L ≠ p2 := ne_of eL w2.1 (fun z => by cases z)
    have R1_ : Rd ≠ p1 := ne_of eRd w1.1 (fun z => by cases z)
    have R2_ : Rd ≠ p2 := ne_of eRd w2.1 (fun z => by cases z)
    have W1_ : LW ≠ p1 := ne_of eLW w1.1 (fun z => by cases z)
    have g1_ : g ≠ p1 := ne_of_none eg10 np1'
    refine reset_g (σ' := [some (.ref a), some (.ref N), some (.ref L), some (.ref Rd), some (.ref R), some (.ref LW), some (.ref g), some (.ref p1), some (.ref p2), some (.ref J), some (.ref Sh), y, some (.ref p1), some (.ref kp), some (.ref tw), none]) rfl ?_
    refine ⟨.ref p1, rfl, .ref p2, rfl, p1, x1, _, rfl, w1.1, p1, x1, e1, .ref p2, e2, tl, tr, rfl, w1, .inl ⟨p2, x2, rfl, w2⟩, gl, gr, nl, by omega, by omega, fun H28 d28 k28 w1 => ⟨p1, rfl, ?_⟩⟩
    have eJ := k28 _ _ eJ np1J
    have eL := k28 _ _ eL L1
    have eRd := k28 _ _ eRd R1_
    have eLW := k28 _ _ eLW W1_
    have eg := k28 _ _ eg g1_
    have w2 : WatchO D H28 p2 x2 e2 tr := ⟨k28 _ _ w2.1 p12.symm, k28 _ _ w2.2 e2p1⟩
    have wk : WatchO D H28 kp kx ke (mergeT (mergeT [] tr) tl) := ⟨k28 _ _ wk.1 kp1, k28 _ _ wk.2 ke1⟩
    have wt : WatchO D H28 tw tx te tl := ⟨k28 _ _ wt.1 ntp1, k28 _ _ wt.2 te1⟩
    refine ⟨.ref p1, rfl, .ref J, rfl, p1, J, _, mergeT tr tl, rfl, ⟨_, _, w1⟩, eJ, nM, nJn, gM, by omega, eqM, fun H29 s29 => ⟨_, rfl, iteF ⟨.ref tw, rfl, .ref L, rfl, tw, L, tl, tl, rfl, ⟨_, _, wt.mono s29⟩, s29 _ _ eL, nl, nl, gl, by omega, (fun _ => rfl), fun H30 s30 => ⟨_, rfl, iteF ?_⟩⟩⟩⟩
    have u30 := s29.trans s30
    refine ⟨.ref p2, rfl, .ref Rd, rfl, p2, Rd, tr, tr, rfl, ⟨_, _, w2.mono u30⟩, u30 _ _ eRd, nr, nr, gr, by omega, (fun _ => rfl), fun H31 s31 => ⟨_, rfl, iteF ?_⟩⟩
    have u31 := u30.trans s31
    have eJ := u31 _ _ eJ
    have eL := u31 _ _ eL
    have eRd := u31 _ _ eRd
    have eLW := u31 _ _ eLW
    have eg := u31 _ _ eg
    have w1 := w1.mono u31
    have w2 := w2.mono u31
    have wk := wk.mono u31
    have wt := wt.mono u31
    refine ⟨.ref p1, rfl, .ref g, rfl, p1, x1, _, rfl, w1.1, p1, x1, d28, b, g, _, ws, rfl, w1, gM, nM, eg, nws, lw8, fun H32 d32 k32 w1 => ⟨p1, rfl, ?_⟩⟩
    have eJ := k32 _ _ eJ np1J
    have eL := k32 _ _ eL L1
    have eRd := k32 _ _ eRd R1_
    have eLW := k32 _ _ eLW W1_
    have w2 : WatchO D H32 p2 x2 e2 tr := ⟨k32 _ _ w2.1 p12.symm, k32 _ _ w2.2 e2p1⟩
    have wk : WatchO D H32 kp kx ke (mergeT (mergeT [] tr) tl) := ⟨k32 _ _ wk.1 kp1, k32 _ _ wk.2 ke1⟩
    have wt : WatchO D H32 tw tx te tl := ⟨k32 _ _ wt.1 ntp1, k32 _ _ wt.2 te1⟩
    have lJ := mergeT_len tl tr
    obtain ⟨gLM, lLM⟩ := less_good gM ws
    refine ⟨.ref p1, rfl, .ref J, rfl, .ref LW, rfl, J, LW, mergeT tr tl, ws, rfl, eJ, eLW, nJn, by omega, fun H33 d33 s33 _ e33 => ?_⟩
    refine ⟨p1, d33, lessT (mergeT (mergeT [] tr) tl) ws, lessT (mergeT tr tl) ws, rfl, ⟨_, _, w1.mono s33⟩, e33, filter_nd nM, filter_nd nJn, gLM, by omega, less_look nM nJn eqM ws, fun H34 s34 => ⟨_, rfl, iteF ?_⟩⟩
    have u34 := s33.trans s34
    refine ⟨.ref kp, rfl, .ref J, rfl, kp, J, _, mergeT tr tl, rfl, ⟨_, _, wk.mono u34⟩, u34 _ _ eJ, nM, nJn, gM, by omega, eqM, fun H35 s35 => ⟨_, rfl, iteF ?_⟩⟩
    have u35 := u34.trans s35
    have eL := u35 _ _ eL
    have eRd := u35 _ _ eRd
    have w2 := w2.mono u35
    have wt := wt.mono u35
    refine ⟨.ref p2, rfl, .ref L, rfl, L, _, rfl, .inl eL, fun dd ndd => ?_⟩
    have sdd := same_upd (o := .dK (fkv tl)) ndd
    have w2 := w2.mono sdd
    refine ⟨p2, x2, _, rfl, w2.1, p2, x2, e2, .ref dd, dd, tr, tl, rfl, w2, .inr ⟨rfl, upd_same⟩, gr, gl, nr, by omega, by omega, fun H36 d36 k36 w2 => ⟨p2, rfl, ?_⟩⟩
    have eL := k36 _ _ (sdd _ _ eL) L2
    have eRd := k36 _ _ (sdd _ _ eRd) R2_
    have wt := wt.mono sdd
    have wt : WatchO D H36 tw tx te tl := ⟨k36 _ _ wt.1 ntp2, k36 _ _ wt.2 te2⟩
    obtain ⟨gM2, lM2⟩ := merge_good gr gl (by omega) (by omega)
    refine ⟨.ref p2, rfl, .ref Rd, rfl, .ref L, rfl, Rd, L, tr, tl, rfl, eRd, eL, by omega, by omega, fun H37 J2 s37 _ eJ2 => ?_⟩
    refine ⟨p2, J2, _, mergeT tl tr, rfl, ⟨_, _, w2.mono s37⟩, eJ2, mergeT_nd _ _ (mergeT_nd _ _ List.nodup_nil), mergeT_nd _ _ nl, gM2, by omega, merge_look nr nl, fun H38 s38 => ⟨true, rfl, ?_⟩⟩
    have u38 := s37.trans s38
    exact ⟨.ref tw, rfl, .ref L, rfl, tw, L, tl, tl, rfl, ⟨_, _, wt.mono u38⟩, u38 _ _ eL, nl, nl, gl, by omega, (fun _ => rfl), fun H39 s39 => q _⟩

end
end Kn

set_option Elab.async false
set_option linter.all false
set_option maxRecDepth 100000
set_option maxHeartbeats 4000000
namespace Kn
open PySem PySem.Spec PyProof.Rows L2
open C8 (Cal pe_c pe_gc Mak pe_mk)
theorem all_mk {l : PySem.W.OpenLaw} {w : World} {K : PySem.W.Frag} {h : Heap} {mg : Str → Option Value} {fa : Addr} (X : K.In h) (G : h.Ns mainGlobals mg) (hfa : mg "law" = some (.ref fa))
    {t7 : Addr} {tc7 : Value} {td7 : Option Addr} {tn7 : Nat} {ts7 : Array (Option Value)}
    {od0 an0 : Option Addr} {sl0 : Array (Option Value)} {oc0 kV0 dc0 pm0 cd0 ct0 : Value} {f0 : Addr}
    {od1 an1 : Option Addr} {sl1 : Array (Option Value)} {oc1 kV1 dc1 pm1 cd1 ct1 : Value} {f1 : Addr}
    {od2 an2 : Option Addr} {sl2 : Array (Option Value)} {oc2 kV2 dc2 pm2 cd2 ct2 : Value} {f2 : Addr}
    {od3 an3 : Option Addr} {sl3 : Array (Option Value)} {oc3 kV3 dc3 pm3 cd3 ct3 : Value} {f3 : Addr}
    {od4 an4 : Option Addr} {sl4 : Array (Option Value)} {oc4 kV4 dc4 pm4 cd4 ct4 : Value} {f4 : Addr}
    {od5 an5 : Option Addr} {sl5 : Array (Option Value)} {oc5 kV5 dc5 pm5 cd5 ct5 : Value} {f5 : Addr}
    {od6 an6 : Option Addr} {sl6 : Array (Option Value)} {oc6 kV6 dc6 pm6 cd6 ct6 : Value} {f6 : Addr}
    {od7 an7 : Option Addr} {sl7 : Array (Option Value)} {oc7 kV7 dc7 pm7 cd7 ct7 : Value} {f7 : Addr}
    {od8 an8 : Option Addr} {sl8 : Array (Option Value)} {oc8 kV8 dc8 pm8 cd8 ct8 : Value} {f8 : Addr}
    {od9 an9 : Option Addr} {sl9 : Array (Option Value)} {oc9 kV9 dc9 pm9 cd9 ct9 : Value} {f9 : Addr}
    {od10 an10 : Option Addr} {sl10 : Array (Option Value)} {oc10 kV10 dc10 pm10 cd10 ct10 : Value} {f10 : Addr}
    {od11 an11 : Option Addr} {sl11 : Array (Option Value)} {oc11 kV11 dc11 pm11 cd11 ct11 : Value} {f11 : Addr}
    {od12 an12 : Option Addr} {sl12 : Array (Option Value)} {oc12 kV12 dc12 pm12 cd12 ct12 : Value} {f12 : Addr}
    {od13 an13 : Option Addr} {sl13 : Array (Option Value)} {oc13 kV13 dc13 pm13 cd13 ct13 : Value} {f13 : Addr}
    {od14 an14 : Option Addr} {sl14 : Array (Option Value)} {oc14 kV14 dc14 pm14 cd14 ct14 : Value} {f14 : Addr}
    {od15 an15 : Option Addr} {sl15 : Array (Option Value)} {oc15 kV15 dc15 pm15 cd15 ct15 : Value} {f15 : Addr}
    {od16 an16 : Option Addr} {sl16 : Array (Option Value)} {oc16 kV16 dc16 pm16 cd16 ct16 : Value} {f16 : Addr}
    {od17 an17 : Option Addr} {sl17 : Array (Option Value)} {oc17 kV17 dc17 pm17 cd17 ct17 : Value} {f17 : Addr}
    {od18 an18 : Option Addr} {sl18 : Array (Option Value)} {oc18 kV18 dc18 pm18 cd18 ct18 : Value} {f18 : Addr}
    {od19 an19 : Option Addr} {sl19 : Array (Option Value)} {oc19 kV19 dc19 pm19 cd19 ct19 : Value} {f19 : Addr}
    {od20 an20 : Option Addr} {sl20 : Array (Option Value)} {oc20 kV20 dc20 pm20 cd20 ct20 : Value} {f20 : Addr}
    {od21 an21 : Option Addr} {sl21 : Array (Option Value)} {oc21 kV21 dc21 pm21 cd21 ct21 : Value} {f21 : Addr}
    {od22 an22 : Option Addr} {sl22 : Array (Option Value)} {oc22 kV22 dc22 pm22 cd22 ct22 : Value} {f22 : Addr}
    {od23 an23 : Option Addr} {sl23 : Array (Option Value)} {oc23 kV23 dc23 pm23 cd23 ct23 : Value} {f23 : Addr}
    {od24 an24 : Option Addr} {sl24 : Array (Option Value)} {oc24 kV24 dc24 pm24 cd24 ct24 : Value} {f24 : Addr}
    {od25 an25 : Option Addr} {sl25 : Array (Option Value)} {oc25 kV25 dc25 pm25 cd25 ct25 : Value} {f25 : Addr}
    {od26 an26 : Option Addr} {sl26 : Array (Option Value)} {oc26 kV26 dc26 pm26 cd26 ct26 : Value} {f26 : Addr}
    {od27 an27 : Option Addr} {sl27 : Array (Option Value)} {oc27 kV27 dc27 pm27 cd27 ct27 : Value} {f27 : Addr}
    {od28 an28 : Option Addr} {sl28 : Array (Option Value)} {oc28 kV28 dc28 pm28 cd28 ct28 : Value} {f28 : Addr}
    {od29 an29 : Option Addr} {sl29 : Array (Option Value)} {oc29 kV29 dc29 pm29 cd29 ct29 : Value} {f29 : Addr}
    {od30 an30 : Option Addr} {sl30 : Array (Option Value)} {oc30 kV30 dc30 pm30 cd30 ct30 : Value} {f30 : Addr}
    {od31 an31 : Option Addr} {sl31 : Array (Option Value)} {oc31 kV31 dc31 pm31 cd31 ct31 : Value} {f31 : Addr}
    {od32 an32 : Option Addr} {sl32 : Array (Option Value)} {oc32 kV32 dc32 pm32 cd32 ct32 : Value} {f32 : Addr}
    {D : Addr} (aD : PySem.W.nsIn K mainGlobals "Watch" = some (some (.ref D)))
    (ihn : PySem.W.specialIn K (.builtin "object.__class__") "__get__" = some (some (.builtin "getset_descriptor.__get__"))) (ihtk : PySem.W.takesIn K (.builtin "object.__class__") = some true)
    (a0 : PySem.W.nsIn K mainGlobals "_law_mix" = some (some (.ref f0)))
    (l0 : K.lookup f0 = some ⟨oc0, od0, .func (PySem.W.fnOf "_law_mix" "_law_mix" (defArgs s__law_mix) (defBody s__law_mix) (defScope s__law_mix) .none kV0 dc0 pm0 an0 cd0 ct0), sl0⟩) (d0 : PySem.W.codeIn K cd0 "_law_mix" = true) (k0 : PySem.W.keepIn K (.ref f0) = true)
    (a1 : PySem.W.nsIn K mainGlobals "_law_row" = some (some (.ref f1)))
    (l1 : K.lookup f1 = some ⟨oc1, od1, .func (PySem.W.fnOf "_law_row" "_law_row" (defArgs s__law_row) (defBody s__law_row) (defScope s__law_row) .none kV1 dc1 pm1 an1 cd1 ct1), sl1⟩) (d1 : PySem.W.codeIn K cd1 "_law_row" = true) (k1 : PySem.W.keepIn K (.ref f1) = true)
    (a2 : PySem.W.nsIn K mainGlobals "_law_names" = some (some (.ref f2)))
    (l2 : K.lookup f2 = some ⟨oc2, od2, .func (PySem.W.fnOf "_law_names" "_law_names" (defArgs s__law_names) (defBody s__law_names) (defScope s__law_names) .none kV2 dc2 pm2 an2 cd2 ct2), sl2⟩) (d2 : PySem.W.codeIn K cd2 "_law_names" = true) (k2 : PySem.W.keepIn K (.ref f2) = true)
    (a3 : PySem.W.nsIn K mainGlobals "_law_cell" = some (some (.ref f3)))
    (l3 : K.lookup f3 = some ⟨oc3, od3, .func (PySem.W.fnOf "_law_cell" "_law_cell" (defArgs s__law_cell) (defBody s__law_cell) (defScope s__law_cell) .none kV3 dc3 pm3 an3 cd3 ct3), sl3⟩) (d3 : PySem.W.codeIn K cd3 "_law_cell" = true) (k3 : PySem.W.keepIn K (.ref f3) = true)
    (a4 : PySem.W.nsIn K mainGlobals "_law_table" = some (some (.ref f4)))
    (l4 : K.lookup f4 = some ⟨oc4, od4, .func (PySem.W.fnOf "_law_table" "_law_table" (defArgs s__law_table) (defBody s__law_table) (defScope s__law_table) .none kV4 dc4 pm4 an4 cd4 ct4), sl4⟩) (d4 : PySem.W.codeIn K cd4 "_law_table" = true) (k4 : PySem.W.keepIn K (.ref f4) = true)
    (a5 : PySem.W.nsIn K mainGlobals "is_name" = some (some (.ref f5)))
    (l5 : K.lookup f5 = some ⟨oc5, od5, .func (PySem.W.fnOf "is_name" "is_name" (defArgs s_is_name) (defBody s_is_name) (defScope s_is_name) .none kV5 dc5 pm5 an5 cd5 ct5), sl5⟩) (d5 : PySem.W.codeIn K cd5 "is_name" = true) (k5 : PySem.W.keepIn K (.ref f5) = true)
    (a6 : PySem.W.nsIn K mainGlobals "is_sights" = some (some (.ref f6)))
    (l6 : K.lookup f6 = some ⟨oc6, od6, .func (PySem.W.fnOf "is_sights" "is_sights" (defArgs s_is_sights) (defBody s_is_sights) (defScope s_is_sights) .none kV6 dc6 pm6 an6 cd6 ct6), sl6⟩) (d6 : PySem.W.codeIn K cd6 "is_sights" = true) (k6 : PySem.W.keepIn K (.ref f6) = true)
    (a7 : PySem.W.findIn K (.ref D) "__init__" = some (some (.ref f7))) (i7 : PySem.W.isFn K (.ref f7) = true)
    (l7 : K.lookup f7 = some ⟨oc7, od7, .func (PySem.W.fnOf "__init__" "Watch.__init__" (defArgs s_Watch_init) (defBody s_Watch_init) (defScope s_Watch_init) (.ref t7) kV7 dc7 pm7 an7 cd7 ct7), sl7⟩) (d7 : PySem.W.codeIn K cd7 "Watch.__init__" = true) (k7 : PySem.W.keepIn K (.ref f7) = true)
    (tl7 : K.lookup t7 = some ⟨tc7, td7, .seq #[.none] tn7, ts7⟩)
    (a8 : PySem.W.nsIn K mainGlobals "_law_is_integer" = some (some (.ref f8)))
    (l8 : K.lookup f8 = some ⟨oc8, od8, .func (PySem.W.fnOf "_law_is_integer" "_law_is_integer" (defArgs s__law_is_integer) (defBody s__law_is_integer) (defScope s__law_is_integer) .none kV8 dc8 pm8 an8 cd8 ct8), sl8⟩) (d8 : PySem.W.codeIn K cd8 "_law_is_integer" = true) (k8 : PySem.W.keepIn K (.ref f8) = true)
    (a9 : PySem.W.nsIn K mainGlobals "_law_exact" = some (some (.ref f9)))
    (l9 : K.lookup f9 = some ⟨oc9, od9, .func (PySem.W.fnOf "_law_exact" "_law_exact" (defArgs s__law_exact) (defBody s__law_exact) (defScope s__law_exact) .none kV9 dc9 pm9 an9 cd9 ct9), sl9⟩) (d9 : PySem.W.codeIn K cd9 "_law_exact" = true) (k9 : PySem.W.keepIn K (.ref f9) = true)
    {p10 : Addr} {rs10 : List Value} (a10 : PySem.W.findIn K (.ref D) "sights" = some (some (.ref p10))) (g10 : PySem.W.specialIn K (.ref p10) "__get__" = some (some (.builtin "property.__get__"))) (w10 : PySem.W.takesIn K (.ref p10) = some true) (r10 : PySem.W.recIn K p10 "property" = some (.ref f10 :: rs10))
    (l10 : K.lookup f10 = some ⟨oc10, od10, .func (PySem.W.fnOf "sights" "Watch.sights" (defArgs s_Watch_sights) (defBody s_Watch_sights) (defScope s_Watch_sights) .none kV10 dc10 pm10 an10 cd10 ct10), sl10⟩) (d10 : PySem.W.codeIn K cd10 "Watch.sights" = true) (k10 : PySem.W.keepIn K (.ref f10) = true)
    {p11 : Addr} {rs11 : List Value} (a11 : PySem.W.findIn K (.ref D) "words" = some (some (.ref p11))) (g11 : PySem.W.specialIn K (.ref p11) "__get__" = some (some (.builtin "property.__get__"))) (w11 : PySem.W.takesIn K (.ref p11) = some true) (r11 : PySem.W.recIn K p11 "property" = some (.ref f11 :: rs11))
    (l11 : K.lookup f11 = some ⟨oc11, od11, .func (PySem.W.fnOf "words" "Watch.words" (defArgs s_Watch_words) (defBody s_Watch_words) (defScope s_Watch_words) .none kV11 dc11 pm11 an11 cd11 ct11), sl11⟩) (d11 : PySem.W.codeIn K cd11 "Watch.words" = true) (k11 : PySem.W.keepIn K (.ref f11) = true)
    (a12 : PySem.W.findIn K (.ref D) "__len__" = some (some (.ref f12))) (i12 : PySem.W.isFn K (.ref f12) = true)
    (y12 : PySem.W.fnIn K f12 = true)
    (l12 : K.lookup f12 = some ⟨oc12, od12, .func (PySem.W.fnOf "__len__" "Watch.__len__" (defArgs s_Watch_len) (defBody s_Watch_len) (defScope s_Watch_len) .none kV12 dc12 pm12 an12 cd12 ct12), sl12⟩) (d12 : PySem.W.codeIn K cd12 "Watch.__len__" = true) (k12 : PySem.W.keepIn K (.ref f12) = true)
    (a13 : PySem.W.findIn K (.ref D) "__getitem__" = some (some (.ref f13))) (i13 : PySem.W.isFn K (.ref f13) = true)
    (y13 : PySem.W.fnIn K f13 = true)
    (l13 : K.lookup f13 = some ⟨oc13, od13, .func (PySem.W.fnOf "__getitem__" "Watch.__getitem__" (defArgs s_Watch_getitem) (defBody s_Watch_getitem) (defScope s_Watch_getitem) .none kV13 dc13 pm13 an13 cd13 ct13), sl13⟩) (d13 : PySem.W.codeIn K cd13 "Watch.__getitem__" = true) (k13 : PySem.W.keepIn K (.ref f13) = true)
    (a14 : PySem.W.nsIn K mainGlobals "_law_is" = some (some (.ref f14)))
    (l14 : K.lookup f14 = some ⟨oc14, od14, .func (PySem.W.fnOf "_law_is" "_law_is" (defArgs s__law_is) (defBody s__law_is) (defScope s__law_is) .none kV14 dc14 pm14 an14 cd14 ct14), sl14⟩) (d14 : PySem.W.codeIn K cd14 "_law_is" = true) (k14 : PySem.W.keepIn K (.ref f14) = true)
    (a15 : PySem.W.findIn K (.ref D) "__setitem__" = some (some (.ref f15))) (i15 : PySem.W.isFn K (.ref f15) = true)
    (y15 : PySem.W.fnIn K f15 = true)
    (l15 : K.lookup f15 = some ⟨oc15, od15, .func (PySem.W.fnOf "__setitem__" "Watch.__setitem__" (defArgs s_Watch_setitem) (defBody s_Watch_setitem) (defScope s_Watch_setitem) .none kV15 dc15 pm15 an15 cd15 ct15), sl15⟩) (d15 : PySem.W.codeIn K cd15 "Watch.__setitem__" = true) (k15 : PySem.W.keepIn K (.ref f15) = true)
    (a16 : PySem.W.nsIn K mainGlobals "_law_own_table" = some (some (.ref f16)))
    (l16 : K.lookup f16 = some ⟨oc16, od16, .func (PySem.W.fnOf "_law_own_table" "_law_own_table" (defArgs s__law_own_table) (defBody s__law_own_table) (defScope s__law_own_table) .none kV16 dc16 pm16 an16 cd16 ct16), sl16⟩) (d16 : PySem.W.codeIn K cd16 "_law_own_table" = true) (k16 : PySem.W.keepIn K (.ref f16) = true)
    (a17 : PySem.W.nsIn K mainGlobals "_law_join" = some (some (.ref f17)))
    (l17 : K.lookup f17 = some ⟨oc17, od17, .func (PySem.W.fnOf "_law_join" "_law_join" (defArgs s__law_join) (defBody s__law_join) (defScope s__law_join) .none kV17 dc17 pm17 an17 cd17 ct17), sl17⟩) (d17 : PySem.W.codeIn K cd17 "_law_join" = true) (k17 : PySem.W.keepIn K (.ref f17) = true)
    (a18 : PySem.W.nsIn K mainGlobals "_law_share" = some (some (.ref f18)))
    (l18 : K.lookup f18 = some ⟨oc18, od18, .func (PySem.W.fnOf "_law_share" "_law_share" (defArgs s__law_share) (defBody s__law_share) (defScope s__law_share) .none kV18 dc18 pm18 an18 cd18 ct18), sl18⟩) (d18 : PySem.W.codeIn K cd18 "_law_share" = true) (k18 : PySem.W.keepIn K (.ref f18) = true)
    (a19 : PySem.W.nsIn K mainGlobals "_law_less" = some (some (.ref f19)))
    (l19 : K.lookup f19 = some ⟨oc19, od19, .func (PySem.W.fnOf "_law_less" "_law_less" (defArgs s__law_less) (defBody s__law_less) (defScope s__law_less) .none kV19 dc19 pm19 an19 cd19 ct19), sl19⟩) (d19 : PySem.W.codeIn K cd19 "_law_less" = true) (k19 : PySem.W.keepIn K (.ref f19) = true)
    (a20 : PySem.W.nsIn K mainGlobals "sights_of_side" = some (some (.ref f20)))
    (l20 : K.lookup f20 = some ⟨oc20, od20, .func (PySem.W.fnOf "sights_of_side" "sights_of_side" (defArgs s_sights_of_side) (defBody s_sights_of_side) (defScope s_sights_of_side) .none kV20 dc20 pm20 an20 cd20 ct20), sl20⟩) (d20 : PySem.W.codeIn K cd20 "sights_of_side" = true) (k20 : PySem.W.keepIn K (.ref f20) = true)
    (a21 : PySem.W.findIn K (.ref D) "__or__" = some (some (.ref f21))) (i21 : PySem.W.isFn K (.ref f21) = true)
    (y21 : PySem.W.fnIn K f21 = true)
    (l21 : K.lookup f21 = some ⟨oc21, od21, .func (PySem.W.fnOf "__or__" "Watch.__or__" (defArgs s_Watch_or) (defBody s_Watch_or) (defScope s_Watch_or) .none kV21 dc21 pm21 an21 cd21 ct21), sl21⟩) (d21 : PySem.W.codeIn K cd21 "Watch.__or__" = true) (k21 : PySem.W.keepIn K (.ref f21) = true)
    (a22 : PySem.W.findIn K (.ref D) "__ror__" = some (some (.ref f22))) (i22 : PySem.W.isFn K (.ref f22) = true)
    (y22 : PySem.W.fnIn K f22 = true)
    (l22 : K.lookup f22 = some ⟨oc22, od22, .func (PySem.W.fnOf "__ror__" "Watch.__ror__" (defArgs s_Watch_ror) (defBody s_Watch_ror) (defScope s_Watch_ror) .none kV22 dc22 pm22 an22 cd22 ct22), sl22⟩) (d22 : PySem.W.codeIn K cd22 "Watch.__ror__" = true) (k22 : PySem.W.keepIn K (.ref f22) = true)
    (a23 : PySem.W.nsIn K mainGlobals "shared_sights" = some (some (.ref f23)))
    (l23 : K.lookup f23 = some ⟨oc23, od23, .func (PySem.W.fnOf "shared_sights" "shared_sights" (defArgs s_shared_sights) (defBody s_shared_sights) (defScope s_shared_sights) .none kV23 dc23 pm23 an23 cd23 ct23), sl23⟩) (d23 : PySem.W.codeIn K cd23 "shared_sights" = true) (k23 : PySem.W.keepIn K (.ref f23) = true)
    (a24 : PySem.W.findIn K (.ref D) "__and__" = some (some (.ref f24))) (i24 : PySem.W.isFn K (.ref f24) = true)
    (y24 : PySem.W.fnIn K f24 = true)
    (l24 : K.lookup f24 = some ⟨oc24, od24, .func (PySem.W.fnOf "__and__" "Watch.__and__" (defArgs s_Watch_and) (defBody s_Watch_and) (defScope s_Watch_and) .none kV24 dc24 pm24 an24 cd24 ct24), sl24⟩) (d24 : PySem.W.codeIn K cd24 "Watch.__and__" = true) (k24 : PySem.W.keepIn K (.ref f24) = true)
    (a25 : PySem.W.findIn K (.ref D) "__rand__" = some (some (.ref f25))) (i25 : PySem.W.isFn K (.ref f25) = true)
    (y25 : PySem.W.fnIn K f25 = true)
    (l25 : K.lookup f25 = some ⟨oc25, od25, .func (PySem.W.fnOf "__rand__" "Watch.__rand__" (defArgs s_Watch_rand) (defBody s_Watch_rand) (defScope s_Watch_rand) .none kV25 dc25 pm25 an25 cd25 ct25), sl25⟩) (d25 : PySem.W.codeIn K cd25 "Watch.__rand__" = true) (k25 : PySem.W.keepIn K (.ref f25) = true)
    (a26 : PySem.W.nsIn K mainGlobals "is_row" = some (some (.ref f26)))
    (l26 : K.lookup f26 = some ⟨oc26, od26, .func (PySem.W.fnOf "is_row" "is_row" (defArgs s_is_row) (defBody s_is_row) (defScope s_is_row) .none kV26 dc26 pm26 an26 cd26 ct26), sl26⟩) (d26 : PySem.W.codeIn K cd26 "is_row" = true) (k26 : PySem.W.keepIn K (.ref f26) = true)
    (a27 : PySem.W.nsIn K mainGlobals "check_words" = some (some (.ref f27)))
    (l27 : K.lookup f27 = some ⟨oc27, od27, .func (PySem.W.fnOf "check_words" "check_words" (defArgs s_check_words) (defBody s_check_words) (defScope s_check_words) .none kV27 dc27 pm27 an27 cd27 ct27), sl27⟩) (d27 : PySem.W.codeIn K cd27 "check_words" = true) (k27 : PySem.W.keepIn K (.ref f27) = true)
    (a28 : PySem.W.findIn K (.ref D) "__sub__" = some (some (.ref f28))) (i28 : PySem.W.isFn K (.ref f28) = true)
    (y28 : PySem.W.fnIn K f28 = true)
    (l28 : K.lookup f28 = some ⟨oc28, od28, .func (PySem.W.fnOf "__sub__" "Watch.__sub__" (defArgs s_Watch_sub) (defBody s_Watch_sub) (defScope s_Watch_sub) .none kV28 dc28 pm28 an28 cd28 ct28), sl28⟩) (d28 : PySem.W.codeIn K cd28 "Watch.__sub__" = true) (k28 : PySem.W.keepIn K (.ref f28) = true)
    (a29 : PySem.W.findIn K (.ref D) "__ior__" = some (some (.ref f29))) (i29 : PySem.W.isFn K (.ref f29) = true)
    (y29 : PySem.W.fnIn K f29 = true)
    (l29 : K.lookup f29 = some ⟨oc29, od29, .func (PySem.W.fnOf "__ior__" "Watch.__ior__" (defArgs s_Watch_ior) (defBody s_Watch_ior) (defScope s_Watch_ior) .none kV29 dc29 pm29 an29 cd29 ct29), sl29⟩) (d29 : PySem.W.codeIn K cd29 "Watch.__ior__" = true) (k29 : PySem.W.keepIn K (.ref f29) = true)
    (a30 : PySem.W.findIn K (.ref D) "__isub__" = some (some (.ref f30))) (i30 : PySem.W.isFn K (.ref f30) = true)
    (y30 : PySem.W.fnIn K f30 = true)
    (l30 : K.lookup f30 = some ⟨oc30, od30, .func (PySem.W.fnOf "__isub__" "Watch.__isub__" (defArgs s_Watch_isub) (defBody s_Watch_isub) (defScope s_Watch_isub) .none kV30 dc30 pm30 an30 cd30 ct30), sl30⟩) (d30 : PySem.W.codeIn K cd30 "Watch.__isub__" = true) (k30 : PySem.W.keepIn K (.ref f30) = true)
    (a31 : PySem.W.findIn K (.ref D) "copy" = some (some (.ref f31))) (i31 : PySem.W.isFn K (.ref f31) = true)
    (l31 : K.lookup f31 = some ⟨oc31, od31, .func (PySem.W.fnOf "copy" "Watch.copy" (defArgs s_Watch_copy) (defBody s_Watch_copy) (defScope s_Watch_copy) .none kV31 dc31 pm31 an31 cd31 ct31), sl31⟩) (d31 : PySem.W.codeIn K cd31 "Watch.copy" = true) (k31 : PySem.W.keepIn K (.ref f31) = true)
    (a32 : PySem.W.nsIn K mainGlobals "law" = some (some (.ref f32)))
    (l32 : K.lookup f32 = some ⟨oc32, od32, .func (PySem.W.fnOf "law" "law" (defArgs s_law) (defBody s_law) (defScope s_law) .none kV32 dc32 pm32 an32 cd32 ct32), sl32⟩) (d32 : PySem.W.codeIn K cd32 "law" = true) (k32 : PySem.W.keepIn K (.ref f32) = true)
    (pgD : PySem.W.plainGet K D Str.empty = true) (hdD : PySem.W.hasDictIn K D = true) (poD : PySem.W.plainOver K D = true) (saD : PySem.W.findIn K (.ref D) "__setattr__" = some (some (.builtin "object.__setattr__"))) (mkD : PySem.W.makesIn K D = true) (kcD : PySem.W.keepIn K (.ref D) = true)
    (ihaD : PySem.W.findIn K (.ref D) "__class__" = some (some (.builtin "object.__class__"))) (ihmD : PySem.W.mroIn K D (.type "object") = some true)
    (n__sights : PySem.W.findIn K (.ref D) "_sights" = some none)
    (sfD : PySem.W.selfFirst K D = true)
    (nqD : PySem.W.noSeq K D = true)
    (nsdD : PySem.W.subIn K (.ref D) (.type "dict") = some false)
    (icD : PySem.W.isClsIn K D = true) (itD : PySem.W.typeIn K (.ref D) = some (.type "type"))
    (nrsD : PySem.W.findIn K (.ref D) "__rsub__" = some none)
    (z_all : PySem.W.nsIn K mainGlobals "all" = some none)
    (z_bool : PySem.W.nsIn K mainGlobals "bool" = some none)
    (z_dict : PySem.W.nsIn K mainGlobals "dict" = some none)
    (z_int : PySem.W.nsIn K mainGlobals "int" = some none)
    (z_isinstance : PySem.W.nsIn K mainGlobals "isinstance" = some none)
    (z_len : PySem.W.nsIn K mainGlobals "len" = some none)
    (z_list : PySem.W.nsIn K mainGlobals "list" = some none)
    (z_range : PySem.W.nsIn K mainGlobals "range" = some none)
    (z_set : PySem.W.nsIn K mainGlobals "set" = some none)
    (z_sorted : PySem.W.nsIn K mainGlobals "sorted" = some none)
    (z_str : PySem.W.nsIn K mainGlobals "str" = some none)
    (z_tuple : PySem.W.nsIn K mainGlobals "tuple" = some none)
    {u_LONGEST_NAME : Value} (g_LONGEST_NAME : PySem.W.nsIn K mainGlobals "LONGEST_NAME" = some (some u_LONGEST_NAME)) (r_LONGEST_NAME : RelV (.int 12) u_LONGEST_NAME)
    {u_LETTERS : Value} (g_LETTERS : PySem.W.nsIn K mainGlobals "LETTERS" = some (some u_LETTERS)) (r_LETTERS : RelV (.str "abcdefghijklmnopqrstuvwxyz") u_LETTERS) :
    ∃ fd : FuncData, (∀ (s : Shared) (v : Value), BindsTo s fd ⟨[v], []⟩ [("_law_script", v)]) ∧ ∀ base : Heap, K.In base → base.Ns mainGlobals mg → FnOk l.prog w K mg base CX0 9 fa fd ["_law_script"] (sp_law K) := by
  have e := hfa.symm.trans (PySem.W.mg_of X G a32)
  cases e
  have T : Txt K mg D := ⟨PySem.W.mg_none_of X G z_all, PySem.W.mg_none_of X G z_bool, PySem.W.mg_none_of X G z_dict, PySem.W.mg_none_of X G z_int, PySem.W.mg_none_of X G z_isinstance, PySem.W.mg_none_of X G z_len, PySem.W.mg_none_of X G z_list, PySem.W.mg_none_of X G z_range, PySem.W.mg_none_of X G z_set, PySem.W.mg_none_of X G z_sorted, PySem.W.mg_none_of X G z_str, PySem.W.mg_none_of X G z_tuple, ⟨_, PySem.W.mg_of X G g_LONGEST_NAME, r_LONGEST_NAME⟩, ⟨_, PySem.W.mg_of X G g_LETTERS, r_LETTERS⟩, ⟨pgD, hdD, poD, saD⟩, PySem.W.mg_of X G aD, ⟨⟨pgD, hdD, poD, saD⟩, ihaD, ihn, ihtk, ihmD, by unfold PySem.W.kitOne; rw [if_pos (by simp)]⟩, n__sights, sfD, nqD, nsdD, KnW.kit_dict icD itD, nrsD⟩
  have F0 := fun_mk (st := s__law_mix) l0 d0 k0
  have b0 := L2.Fun.binds F0 (ps := ["_law_cell_here", "_law_k"]) fun _ _ _ _ _ _ us hl => match us, hl with | [_, _], _ => rfl
  have F1 := fun_mk (st := s__law_row) l1 d1 k1
  have b1 := L2.Fun.binds F1 (ps := ["_law_cell_here", "_law_sizes"]) fun _ _ _ _ _ _ us hl => match us, hl with | [_, _], _ => rfl
  have F2 := fun_mk (st := s__law_names) l2 d2 k2
  have b2 := L2.Fun.binds F2 (ps := ["_law_cell_here", "_law_many"]) fun _ _ _ _ _ _ us hl => match us, hl with | [_, _], _ => rfl
  have F3 := fun_mk (st := s__law_cell) l3 d3 k3
  have b3 := L2.Fun.binds F3 (ps := ["_law_script", "_law_k"]) fun _ _ _ _ _ _ us hl => match us, hl with | [_, _], _ => rfl
  have F4 := fun_mk (st := s__law_table) l4 d4 k4
  have b4 := L2.Fun.binds F4 (ps := ["_law_row_here", "_law_names_here"]) fun _ _ _ _ _ _ us hl => match us, hl with | [_, _], _ => rfl
  have F5 := fun_mk (st := s_is_name) l5 d5 k5
  have b5 := L2.Fun.binds F5 (ps := ["value"]) fun _ _ _ _ _ _ us hl => match us, hl with | [_], _ => rfl
  have F6 := fun_mk (st := s_is_sights) l6 d6 k6
  have b6 := L2.Fun.binds F6 (ps := ["value"]) fun _ _ _ _ _ _ us hl => match us, hl with | [_], _ => rfl
  have F7 : KnD.FunX K "__init__" "Watch.__init__" s_Watch_init f7 _ := ⟨⟨_, _, _, _, _, _, _, _, _, _, rfl, l7, d7⟩⟩
  have b7 := KnD.binds_full (st := s_Watch_init) (ps := ["self", "sights"]) (dvs := [.non]) (its := [.none]) l7 d7 k7 tl7 rfl (.cons rfl .nil) (by simp) fun _ _ _ _ _ _ _ us its h1 h2 => match us, its, h1, h2 with | [_, _], [_], _, _ => ⟨_, rfl, rfl⟩
  have F8 := fun_mk (st := s__law_is_integer) l8 d8 k8
  have b8 := L2.Fun.binds F8 (ps := ["_law_thing"]) fun _ _ _ _ _ _ us hl => match us, hl with | [_], _ => rfl
  have F9 := fun_mk (st := s__law_exact) l9 d9 k9
  have b9 := L2.Fun.binds F9 (ps := ["_law_told", "_law_due"]) fun _ _ _ _ _ _ us hl => match us, hl with | [_, _], _ => rfl
  have F10 := fun_mk (st := s_Watch_sights) l10 d10 k10
  have b10 := L2.Fun.binds F10 (ps := ["self"]) fun _ _ _ _ _ _ us hl => match us, hl with | [_], _ => rfl
  have F11 := fun_mk (st := s_Watch_words) l11 d11 k11
  have b11 := L2.Fun.binds F11 (ps := ["self"]) fun _ _ _ _ _ _ us hl => match us, hl with | [_], _ => rfl
  have F12 := fun_mk (st := s_Watch_len) l12 d12 k12
  have b12 := L2.Fun.binds F12 (ps := ["self"]) fun _ _ _ _ _ _ us hl => match us, hl with | [_], _ => rfl
  have F13 := fun_mk (st := s_Watch_getitem) l13 d13 k13
  have b13 := L2.Fun.binds F13 (ps := ["self", "at"]) fun _ _ _ _ _ _ us hl => match us, hl with | [_, _], _ => rfl
  have F14 := fun_mk (st := s__law_is) l14 d14 k14
  have b14 := L2.Fun.binds F14 (ps := ["_law_watch", "_law_table_here"]) fun _ _ _ _ _ _ us hl => match us, hl with | [_, _], _ => rfl
  have F15 := fun_mk (st := s_Watch_setitem) l15 d15 k15
  have b15 := L2.Fun.binds F15 (ps := ["self", "at", "worth"]) fun _ _ _ _ _ _ us hl => match us, hl with | [_, _, _], _ => rfl
  have F16 := fun_mk (st := s__law_own_table) l16 d16 k16
  have b16 := L2.Fun.binds F16 (ps := ["_law_left", "_law_names_here"]) fun _ _ _ _ _ _ us hl => match us, hl with | [_, _], _ => rfl
  have F17 := fun_mk (st := s__law_join) l17 d17 k17
  have b17 := L2.Fun.binds F17 (ps := ["_law_first", "_law_second"]) fun _ _ _ _ _ _ us hl => match us, hl with | [_, _], _ => rfl
  have F18 := fun_mk (st := s__law_share) l18 d18 k18
  have b18 := L2.Fun.binds F18 (ps := ["_law_first", "_law_second"]) fun _ _ _ _ _ _ us hl => match us, hl with | [_, _], _ => rfl
  have F19 := fun_mk (st := s__law_less) l19 d19 k19
  have b19 := L2.Fun.binds F19 (ps := ["_law_first", "_law_words"]) fun _ _ _ _ _ _ us hl => match us, hl with | [_, _], _ => rfl
  have F20 := fun_mk (st := s_sights_of_side) l20 d20 k20
  have b20 := L2.Fun.binds F20 (ps := ["value"]) fun _ _ _ _ _ _ us hl => match us, hl with | [_], _ => rfl
  have F21 := fun_mk (st := s_Watch_or) l21 d21 k21
  have b21 := L2.Fun.binds F21 (ps := ["self", "other"]) fun _ _ _ _ _ _ us hl => match us, hl with | [_, _], _ => rfl
  have F22 := fun_mk (st := s_Watch_ror) l22 d22 k22
  have b22 := L2.Fun.binds F22 (ps := ["self", "other"]) fun _ _ _ _ _ _ us hl => match us, hl with | [_, _], _ => rfl
  have F23 := fun_mk (st := s_shared_sights) l23 d23 k23
  have b23 := L2.Fun.binds F23 (ps := ["one", "other"]) fun _ _ _ _ _ _ us hl => match us, hl with | [_, _], _ => rfl
  have F24 := fun_mk (st := s_Watch_and) l24 d24 k24
  have b24 := L2.Fun.binds F24 (ps := ["self", "other"]) fun _ _ _ _ _ _ us hl => match us, hl with | [_, _], _ => rfl
  have F25 := fun_mk (st := s_Watch_rand) l25 d25 k25
  have b25 := L2.Fun.binds F25 (ps := ["self", "other"]) fun _ _ _ _ _ _ us hl => match us, hl with | [_, _], _ => rfl
  have F26 := fun_mk (st := s_is_row) l26 d26 k26
  have b26 := L2.Fun.binds F26 (ps := ["value"]) fun _ _ _ _ _ _ us hl => match us, hl with | [_], _ => rfl
  have F27 := fun_mk (st := s_check_words) l27 d27 k27
  have b27 := L2.Fun.binds F27 (ps := ["words"]) fun _ _ _ _ _ _ us hl => match us, hl with | [_], _ => rfl
  have F28 := fun_mk (st := s_Watch_sub) l28 d28 k28
  have b28 := L2.Fun.binds F28 (ps := ["self", "other"]) fun _ _ _ _ _ _ us hl => match us, hl with | [_, _], _ => rfl
  have F29 := fun_mk (st := s_Watch_ior) l29 d29 k29
  have b29 := L2.Fun.binds F29 (ps := ["self", "other"]) fun _ _ _ _ _ _ us hl => match us, hl with | [_, _], _ => rfl
  have F30 := fun_mk (st := s_Watch_isub) l30 d30 k30
  have b30 := L2.Fun.binds F30 (ps := ["self", "other"]) fun _ _ _ _ _ _ us hl => match us, hl with | [_, _], _ => rfl
  have F31 := fun_mk (st := s_Watch_copy) l31 d31 k31
  have b31 := L2.Fun.binds F31 (ps := ["self"]) fun _ _ _ _ _ _ us hl => match us, hl with | [_], _ => rfl
  have F32 := fun_mk (st := s_law) l32 d32 k32
  refine ⟨PySem.W.fnOf "law" "law" (defArgs s_law) (defBody s_law) (defScope s_law) .none kV32 dc32 pm32 an32 cd32 ct32, fun s v => .of_eq rfl, fun base _ _ => ?_⟩
  have c__law_mix : Cal l.prog w K mg base 1 "_law_mix" (sp__law_mix K) [] := ⟨_, _, _, _, ok__law_mix T F0 , PySem.W.mg_of X G a0, F0.kp, b0, .nil⟩
  have c__law_row : Cal l.prog w K mg base 2 "_law_row" (sp__law_row K) [] := ⟨_, _, _, _, ok__law_row T F1 c__law_mix, PySem.W.mg_of X G a1, F1.kp, b1, .nil⟩
  have c__law_names : Cal l.prog w K mg base 3 "_law_names" (sp__law_names K) [] := ⟨_, _, _, _, ok__law_names T F2 c__law_row, PySem.W.mg_of X G a2, F2.kp, b2, .nil⟩
  have c__law_cell : Cal l.prog w K mg base 2 "_law_cell" (sp__law_cell K) [] := ⟨_, _, _, _, ok__law_cell T F3 c__law_mix, PySem.W.mg_of X G a3, F3.kp, b3, .nil⟩
  have c__law_table : Cal l.prog w K mg base 1 "_law_table" (sp__law_table K) [] := ⟨_, _, _, _, ok__law_table T F4 , PySem.W.mg_of X G a4, F4.kp, b4, .nil⟩
  have c_is_name : Cal l.prog w K mg base 1 "is_name" (sp_is_name K) [] := ⟨_, _, _, _, ok_is_name T F5 , PySem.W.mg_of X G a5, F5.kp, b5, .nil⟩
  have c_is_sights : Cal l.prog w K mg base 2 "is_sights" (sp_is_sights K) [] := ⟨_, _, _, _, ok_is_sights T F6 c_is_name, PySem.W.mg_of X G a6, F6.kp, b6, .nil⟩
  have c_Watch_init : Mak l.prog w K mg base 3 "Watch" D (sp_Watch_init K D) [] := ⟨_, _, _, _, ⟨mkD, a7, i7, kcD⟩, ok_Watch_init T F7 c_is_sights, PySem.W.mg_of X G aD, b7, .nil⟩
  have c__law_is_integer : Cal l.prog w K mg base 1 "_law_is_integer" (sp__law_is_integer K) [] := ⟨_, _, _, _, ok__law_is_integer T F8 , PySem.W.mg_of X G a8, F8.kp, b8, .nil⟩
  have ce0 : Cal l.prog w K mg base 1 "_law_exact" (spEx 0 K) [] := ⟨_, _, _, _, ok_ex0 F9, PySem.W.mg_of X G a9, F9.kp, b9, .nil⟩
  have ce1 : Cal l.prog w K mg base 2 "_law_exact" (spEx 1 K) [] := ⟨_, _, _, _, ok_exs T F9 0 c__law_is_integer ce0, PySem.W.mg_of X G a9, F9.kp, b9, .nil⟩
  have ce2 : Cal l.prog w K mg base 3 "_law_exact" (spEx 2 K) [] := ⟨_, _, _, _, ok_exs T F9 1 c__law_is_integer ce1, PySem.W.mg_of X G a9, F9.kp, b9, .nil⟩
  have ce3 : Cal l.prog w K mg base 4 "_law_exact" (spEx 3 K) [] := ⟨_, _, _, _, ok_exs T F9 2 c__law_is_integer ce2, PySem.W.mg_of X G a9, F9.kp, b9, .nil⟩
  have c__law_exact : Cal l.prog w K mg base 5 "_law_exact" (sp__law_exact K) [] := ⟨_, _, _, _, ok_exs T F9 3 c__law_is_integer ce3, PySem.W.mg_of X G a9, F9.kp, b9, .nil⟩
  have c_Watch_sights : KnP.Prp l.prog w K mg base 1 D "sights" (sp_Watch_sights K D) := ⟨_, _, _, _, ⟨a10, g10, w10, ⟨_, r10⟩⟩, ok_Watch_sights T F10 , b10⟩
  have c_Watch_words : KnP.Prp l.prog w K mg base 1 D "words" (sp_Watch_words K D) := ⟨_, _, _, _, ⟨a11, g11, w11, ⟨_, r11⟩⟩, ok_Watch_words T F11 , b11⟩
  have c_Watch_len : KnW.Own l.prog w K mg base 1 D "__len__" (sp_Watch_len K D) := ⟨_, _, _, a12, i12, y12, ok_Watch_len T F12 , b12⟩
  have c_Watch_getitem : KnW.Own l.prog w K mg base 2 D "__getitem__" (sp_Watch_getitem K D) := ⟨_, _, _, a13, i13, y13, ok_Watch_getitem T F13 c_is_name, b13⟩
  have c__law_is : Cal l.prog w K mg base 6 "_law_is" (sp__law_is K D) [] := ⟨_, _, _, _, ok__law_is T F14 c__law_exact c_Watch_sights c_Watch_words c_Watch_len c_Watch_getitem, PySem.W.mg_of X G a14, F14.kp, b14, .nil⟩
  have c_Watch_setitem : KnW.Own l.prog w K mg base 2 D "__setitem__" (sp_Watch_setitem K D) := ⟨_, _, _, a15, i15, y15, ok_Watch_setitem T F15 c_is_name, b15⟩
  have c__law_own_table : Cal l.prog w K mg base 7 "_law_own_table" (sp__law_own_table K D) [] := ⟨_, _, _, _, ok__law_own_table T F16 c_Watch_init c__law_is c_Watch_setitem, PySem.W.mg_of X G a16, F16.kp, b16, .nil⟩
  have c__law_join : Cal l.prog w K mg base 1 "_law_join" (sp__law_join K) [] := ⟨_, _, _, _, ok__law_join T F17 , PySem.W.mg_of X G a17, F17.kp, b17, .nil⟩
  have c__law_share : Cal l.prog w K mg base 1 "_law_share" (sp__law_share K) [] := ⟨_, _, _, _, ok__law_share T F18 , PySem.W.mg_of X G a18, F18.kp, b18, .nil⟩
  have c__law_less : Cal l.prog w K mg base 1 "_law_less" (sp__law_less K) [] := ⟨_, _, _, _, ok__law_less T F19 , PySem.W.mg_of X G a19, F19.kp, b19, .nil⟩
  have c_sights_of_side : Cal l.prog w K mg base 3 "sights_of_side" (sp_sights_of_side K D) [] := ⟨_, _, _, _, ok_sights_of_side T F20 c_is_sights, PySem.W.mg_of X G a20, F20.kp, b20, .nil⟩
  have c_Watch_or : KnW.Own l.prog w K mg base 5 D "__or__" (sp_Watch_or K D) := ⟨_, _, _, a21, i21, y21, ok_Watch_or T F21 c_sights_of_side c_Watch_init, b21⟩
  have c_Watch_ror : KnW.Own l.prog w K mg base 5 D "__ror__" (sp_Watch_ror K D) := ⟨_, _, _, a22, i22, y22, ok_Watch_ror T F22 c_sights_of_side c_Watch_init, b22⟩
  have c_shared_sights : Cal l.prog w K mg base 1 "shared_sights" (sp_shared_sights K) [] := ⟨_, _, _, _, ok_shared_sights T F23 , PySem.W.mg_of X G a23, F23.kp, b23, .nil⟩
  have c_Watch_and : KnW.Own l.prog w K mg base 5 D "__and__" (sp_Watch_and K D) := ⟨_, _, _, a24, i24, y24, ok_Watch_and T F24 c_Watch_init c_shared_sights c_sights_of_side, b24⟩
  have c_Watch_rand : KnW.Own l.prog w K mg base 5 D "__rand__" (sp_Watch_rand K D) := ⟨_, _, _, a25, i25, y25, ok_Watch_rand T F25 c_Watch_init c_shared_sights c_sights_of_side, b25⟩
  have c_is_row : Cal l.prog w K mg base 1 "is_row" (sp_is_row K) [] := ⟨_, _, _, _, ok_is_row T F26 , PySem.W.mg_of X G a26, F26.kp, b26, .nil⟩
  have c_check_words : Cal l.prog w K mg base 2 "check_words" (sp_check_words K) [] := ⟨_, _, _, _, ok_check_words T F27 c_is_row c_is_name, PySem.W.mg_of X G a27, F27.kp, b27, .nil⟩
  have c_Watch_sub : KnW.Own l.prog w K mg base 5 D "__sub__" (sp_Watch_sub K D) := ⟨_, _, _, a28, i28, y28, ok_Watch_sub T F28 c_check_words c_Watch_init, b28⟩
  have c_Watch_ior : KnW.Own l.prog w K mg base 7 D "__ior__" (sp_Watch_ior K D) := ⟨_, _, _, a29, i29, y29, ok_Watch_ior T F29 c_Watch_or c_Watch_ror, b29⟩
  have c_Watch_isub : KnW.Own l.prog w K mg base 7 D "__isub__" (sp_Watch_isub K D) := ⟨_, _, _, a30, i30, y30, ok_Watch_isub T F30 c_Watch_sub, b30⟩
  have c_Watch_copy : C8.Met l.prog w K mg base 5 D "copy" (sp_Watch_copy K D) [] := ⟨_, _, _, _, ⟨pgD, hdD, poD, saD⟩, ⟨a31, i31, k31⟩, ok_Watch_copy T F31 c_Watch_init, b31, .nil⟩
  exact ok_law T F32 c__law_names c__law_cell c__law_table c__law_row c__law_own_table c_Watch_init c__law_join c__law_share c__law_is c__law_less c_Watch_or c_Watch_ror c_Watch_and c_Watch_rand c_Watch_sub c_Watch_ior c_Watch_isub c_Watch_setitem c_Watch_copy
end Kn
open PySem PySem.W PyProof.Rows
set_option maxHeartbeats 0 in
theorem PySem.Challenge.cw_knownlate_k12_joining_watches_holds : PySem.Challenge.rw_knownlate_k12_joining_watches.Holds := by
  w_on; o_law; k_head; (case hw => w_witness2)
  k_fill
  refine L2.walk_of (l := PySem.Challenge.rw_knownlate_k12_joining_watches) (n := 63) (k := 9) (x := "_law_script") (CX := fun _ => L2.CX0) (sp := fun w => Kn.sp_law _) rfl (by decide) rfl ⟨rfl, by decide, by decide⟩ (fun w h Y => PySem.W.kIn_of Y) ?F (fun _ _ a ns hl _ hS => ⟨a, ns, rfl, hS, hl, fun _ => rfl⟩) (fun _ _ _ _ _ h => h)
  case F =>
    intro w mg fa h KX G hmg
    refine' Kn.all_mk KX G hmg ?aD ?ihn ?ihtk ?a0 ?l0 ?d0 ?k0 ?a1 ?l1 ?d1 ?k1 ?a2 ?l2 ?d2 ?k2 ?a3 ?l3 ?d3 ?k3 ?a4 ?l4 ?d4 ?k4 ?a5 ?l5 ?d5 ?k5 ?a6 ?l6 ?d6 ?k6 ?a7 ?i7 ?l7 ?d7 ?k7 ?tl7 ?a8 ?l8 ?d8 ?k8 ?a9 ?l9 ?d9 ?k9 ?a10 ?g10 ?w10 ?r10 ?l10 ?d10 ?k10 ?a11 ?g11 ?w11 ?r11 ?l11 ?d11 ?k11 ?a12 ?i12 ?y12 ?l12 ?d12 ?k12 ?a13 ?i13 ?y13 ?l13 ?d13 ?k13 ?a14 ?l14 ?d14 ?k14 ?a15 ?i15 ?y15 ?l15 ?d15 ?k15 ?a16 ?l16 ?d16 ?k16 ?a17 ?l17 ?d17 ?k17 ?a18 ?l18 ?d18 ?k18 ?a19 ?l19 ?d19 ?k19 ?a20 ?l20 ?d20 ?k20 ?a21 ?i21 ?y21 ?l21 ?d21 ?k21 ?a22 ?i22 ?y22 ?l22 ?d22 ?k22 ?a23 ?l23 ?d23 ?k23 ?a24 ?i24 ?y24 ?l24 ?d24 ?k24 ?a25 ?i25 ?y25 ?l25 ?d25 ?k25 ?a26 ?l26 ?d26 ?k26 ?a27 ?l27 ?d27 ?k27 ?a28 ?i28 ?y28 ?l28 ?d28 ?k28 ?a29 ?i29 ?y29 ?l29 ?d29 ?k29 ?a30 ?i30 ?y30 ?l30 ?d30 ?k30 ?a31 ?i31 ?l31 ?d31 ?k31 ?a32 ?l32 ?d32 ?k32 ?pgD ?hdD ?poD ?saD ?mkD ?kcD ?ihaD ?ihmD ?n__sights ?sfD ?nqD ?nsdD ?icD ?itD ?nrsD ?z_all ?z_bool ?z_dict ?z_int ?z_isinstance ?z_len ?z_list ?z_range ?z_set ?z_sorted ?z_str ?z_tuple ?g_LONGEST_NAME ?r_LONGEST_NAME ?g_LETTERS ?r_LETTERS
    (case aD => k_is); (case ihn => k_is); (case ihtk => k_is); (case a0 => k_is); (case l0 => k_is); (case d0 => k_is); (case k0 => k_is); (case a1 => k_is); (case l1 => k_is); (case d1 => k_is); (case k1 => k_is); (case a2 => k_is); (case l2 => k_is); (case d2 => k_is); (case k2 => k_is); (case a3 => k_is); (case l3 => k_is); (case d3 => k_is); (case k3 => k_is); (case a4 => k_is); (case l4 => k_is); (case d4 => k_is); (case k4 => k_is); (case a5 => k_is); (case l5 => k_is); (case d5 => k_is); (case k5 => k_is); (case a6 => k_is); (case l6 => k_is); (case d6 => k_is); (case k6 => k_is); (case a7 => k_is); (case i7 => k_is); (case l7 => k_is); (case d7 => k_is); (case k7 => k_is); (case tl7 => k_is); (case a8 => k_is); (case l8 => k_is); (case d8 => k_is); (case k8 => k_is); (case a9 => k_is); (case l9 => k_is); (case d9 => k_is); (case k9 => k_is); (case a10 => k_is); (case g10 => k_is); (case w10 => k_is); (case r10 => k_is); (case l10 => k_is); (case d10 => k_is); (case k10 => k_is); (case a11 => k_is); (case g11 => k_is); (case w11 => k_is); (case r11 => k_is); (case l11 => k_is); (case d11 => k_is); (case k11 => k_is); (case a12 => k_is); (case i12 => k_is); (case y12 => k_is); (case l12 => k_is); (case d12 => k_is); (case k12 => k_is); (case a13 => k_is); (case i13 => k_is); (case y13 => k_is); (case l13 => k_is); (case d13 => k_is); (case k13 => k_is); (case a14 => k_is); (case l14 => k_is); (case d14 => k_is); (case k14 => k_is); (case a15 => k_is); (case i15 => k_is); (case y15 => k_is); (case l15 => k_is); (case d15 => k_is); (case k15 => k_is); (case a16 => k_is); (case l16 => k_is); (case d16 => k_is); (case k16 => k_is); (case a17 => k_is); (case l17 => k_is); (case d17 => k_is); (case k17 => k_is); (case a18 => k_is); (case l18 => k_is); (case d18 => k_is); (case k18 => k_is); (case a19 => k_is); (case l19 => k_is); (case d19 => k_is); (case k19 => k_is); (case a20 => k_is); (case l20 => k_is); (case d20 => k_is); (case k20 => k_is); (case a21 => k_is); (case i21 => k_is); (case y21 => k_is); (case l21 => k_is); (case d21 => k_is); (case k21 => k_is); (case a22 => k_is); (case i22 => k_is); (case y22 => k_is); (case l22 => k_is); (case d22 => k_is); (case k22 => k_is); (case a23 => k_is); (case l23 => k_is); (case d23 => k_is); (case k23 => k_is); (case a24 => k_is); (case i24 => k_is); (case y24 => k_is); (case l24 => k_is); (case d24 => k_is); (case k24 => k_is); (case a25 => k_is); (case i25 => k_is); (case y25 => k_is); (case l25 => k_is); (case d25 => k_is); (case k25 => k_is); (case a26 => k_is); (case l26 => k_is); (case d26 => k_is); (case k26 => k_is); (case a27 => k_is); (case l27 => k_is); (case d27 => k_is); (case k27 => k_is); (case a28 => k_is); (case i28 => k_is); (case y28 => k_is); (case l28 => k_is); (case d28 => k_is); (case k28 => k_is); (case a29 => k_is); (case i29 => k_is); (case y29 => k_is); (case l29 => k_is); (case d29 => k_is); (case k29 => k_is); (case a30 => k_is); (case i30 => k_is); (case y30 => k_is); (case l30 => k_is); (case d30 => k_is); (case k30 => k_is); (case a31 => k_is); (case i31 => k_is); (case l31 => k_is); (case d31 => k_is); (case k31 => k_is); (case a32 => k_is); (case l32 => k_is); (case d32 => k_is); (case k32 => k_is); (case pgD => k_is); (case hdD => k_is); (case poD => k_is); (case saD => k_is); (case mkD => k_is); (case kcD => k_is); (case ihaD => k_is); (case ihmD => k_is); (case n__sights => k_is); (case sfD => k_is); (case nqD => k_is); (case nsdD => k_is); (case icD => k_is); (case itD => k_is); (case nrsD => k_is); (case z_all => k_is); (case z_bool => k_is); (case z_dict => k_is); (case z_int => k_is); (case z_isinstance => k_is); (case z_len => k_is); (case z_list => k_is); (case z_range => k_is); (case z_set => k_is); (case z_sorted => k_is); (case z_str => k_is); (case z_tuple => k_is); (case g_LONGEST_NAME => k_is); (case r_LONGEST_NAME => exact ⟨_, rfl⟩); (case g_LETTERS => k_is); (case r_LETTERS => exact ⟨_, rfl⟩)

