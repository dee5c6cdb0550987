import PyProof.Rows.All
import Wide.All
import OpenK.AllK
import Wide.FinOn
import HandS.ForMost
import HandS.IsInst
import HandS.Codes
import HandS.Set
import HandS.SetBool
import HandS.SetKeys
import PyProof.Rows.SortShellAny
import HandS.More
import HandS.Comp
import PyProof.Rows.SetFrom
import KE.GoesMore
import KE.GoesEnum
import HandS.DictComp
import KE.KDictList
import HandS.Property
import HandS.List
import HandS.Words
import HandS.ForExc
import HandS.Defaults
import HandS.TupSets
import HandS.Dict
import KE.KeyNested
import KE.KDictKeyed
import KE.SortData
import KE.OsArith
import KE.KBits
import HandS.Zip
import HandS.ListItems
import HandS.SortInts
import KE.SortLaws
import PyProof.WalksMore
import KE.LtData
import HandS.Ends
import HandS.Deep
import PyProof.Rows.ReprR
import HandS.Call
import PyProof.Rows.IntBool
import PyProof.Rows.EqBoolInt
import HandS.TupAny
import HandS.TryOnly
import HandS.Finally
import PySem.Challenge.RW_knownlate_k66_is_answers
set_option Elab.async false
set_option linter.all false
set_option maxRecDepth 100000
set_option maxHeartbeats 4000000
namespace Kn
open PySem PySem.Spec PyProof.Rows L2
/-! ### heaps -/
theorem same_upd {H : Hp} {p : Addr} {o : HO} (h : H p = none) : Same H (upd H p o) := fun b x e => by
  rw [upd_ne (ne_of_none e h)]
  exact e
theorem same_set {H0 H : Hp} {p : Addr} {o : HO} (h : H0 p = none) (s : Same H0 H) : Same H0 (upd H p o) := fun b x e => by
  rw [upd_ne (ne_of_none e h)]
  exact s b x e
theorem Same.none {H H' : Hp} {p : Addr} (s : Same H H') (h : H' p = none) : H p = none := s.free h
theorem seqLt {K : PySem.W.Frag} {H H' : Hp} {a : Addr} {xs : List V} (e : Same H H') (h : SqT K H a xs) : SqT K H' a xs := by
  rcases h with (h | ⟨o, h⟩) | h
  · exact .inl (.inl (e _ _ h))
  · exact .inl (.inr ⟨o, e _ _ h⟩)
  · exact .inr h
theorem take_more {α : Type} {l : List α} {i : Nat} {x : α} (h : l[i]? = some x) : l.take (i + 1) = l.take i ++ [x] := by
  rw [List.take_add_one, h]; rfl
theorem small {n : Nat} (h : n ≤ 100000) : n < sizeLine := Nat.lt_of_le_of_lt h (by decide)
theorem smallE {n : Nat} (h : n ≤ 100000) : n ≤ sizeLine := Nat.le_of_lt (small h)
/-- a comprehension over a text's signs -/
theorem lc_text {x : Str} {g : TG} {tt : TT} {te : TE} {vs : List Nat} {σ : L2.St} {H1 : Hp} {D : Addr} {Qd : Hp → Prop} (Pv : Nat → Hp → Prop) (h0 : Pv 0 (upd H1 D (.lst [])))
    (hs : ∀ i c H, x.cps.toList[i]? = some c → Pv i H → g (.str ⟨#[c]⟩) (wipe σ vs) H fun σ2 H2 => wipe σ2 vs = wipe σ vs ∧ tt σ2 H2 fun b H3 =>
      if b = true then te σ2 H3 fun y H4 => ∃ acc, H4 D = some (.lst acc) ∧ acc.length < sizeLine ∧ Pv (i + 1) (upd H4 D (.lst (acc ++ [y]))) else Pv (i + 1) H3) (hd : ∀ H, Pv x.cps.toList.length H → Qd H) :
    ∃ W : Nat → Nat → Hp → Prop, (∃ m, W 0 m (upd H1 D (.lst []))) ∧ ∀ i m H, W i m H →
      ((Its x).stop i H ∧ Qd H) ∨ ((Its x).go i H ∧ ∃ Nx : Hp → Prop, (∀ H', Nx H' → ∃ m', m' < m ∧ W (i + 1) m' H') ∧ ∀ v H', (Its x).yld i H v H' → g v (wipe σ vs) H' fun σ2 H2 => wipe σ2 vs = wipe σ vs ∧ tt σ2 H2 fun b H3 =>
        if b = true then te σ2 H3 fun y H4 => ∃ acc, H4 D = some (.lst acc) ∧ acc.length < sizeLine ∧ Nx (upd H4 D (.lst (acc ++ [y]))) else Nx H3) := by
  refine ⟨fun i m H => m = x.cps.size - i ∧ i ≤ x.cps.size ∧ Pv i H, ⟨x.cps.size, by simp, Nat.zero_le _, h0⟩, ?_⟩
  rintro i m H ⟨rfl, hi, p⟩
  by_cases hlt : i < x.cps.size
  · refine .inr ⟨hlt, Pv (i + 1), fun H' p' => ⟨x.cps.size - (i + 1), by omega, rfl, hlt, p'⟩, fun v H' y => ?_⟩
    obtain ⟨rfl, c, hc, rfl⟩ := y
    exact hs i c _ (by simpa using hc) p
  · have e : i = x.cps.size := by omega
    subst e
    exact .inl ⟨Nat.le_refl _, hd H (by simpa using p)⟩
end Kn

set_option Elab.async false
set_option linter.all false
set_option maxRecDepth 100000
set_option maxHeartbeats 4000000
/-! Sets whose members are told in a list: made, filled, told as a sorted list; set comprehensions of ints and texts. -/
namespace KnS
open PySem PySem.Spec PyProof.Rows L2
section
variable {κ : Type} [DecidableEq κ] {P : Program} {w : World} {knd : PySem.KeyKind P w κ}
/-- one entry of a table, of the key k -/
def Ent (knd : PySem.KeyKind P w κ) (k : κ) (e : Int × Value) : Prop := knd.is k e.2 = true ∧ e.1 = knd.hash k ∧ e.2.scannable = true
theorem paired_perm {α β : Type} {F : α → β → Prop} {l m : List β} (p : l.Perm m) : ∀ {ks : List α}, Paired F ks l → ∃ ks', ks'.Perm ks ∧ Paired F ks' m := by
  induction p with
  | nil => intro ks h; exact ⟨ks, .refl _, h⟩
  | cons x _ ih =>
    intro ks h
    cases h with
    | cons r t =>
      obtain ⟨ks', q, t'⟩ := ih t
      exact ⟨_, .cons _ q, .cons r t'⟩
  | swap x y l =>
    intro ks h
    cases h with
    | cons r t =>
      cases t with
      | cons r' t' => exact ⟨_, .swap _ _ _, .cons r' (.cons r t')⟩
  | trans _ _ ih1 ih2 =>
    intro ks h
    obtain ⟨k1, q1, h1⟩ := ih1 h
    obtain ⟨k2, q2, h2⟩ := ih2 h1
    exact ⟨k2, q2.trans q1, h2⟩
theorem ents_elems {ks : List κ} {l : List (Int × Value)} (h : Paired (Ent knd) ks l) : ElemsOf knd l := by
  induction h with
  | nil => exact fun e he => nomatch he
  | cons r _ ih =>
    intro e he
    rcases List.mem_cons.mp he with z | z
    · rw [z]; exact ⟨⟨_, r.1, r.2.1⟩, r.2.2⟩
    · exact ih e z
theorem ents_find {ks : List κ} {l : List (Int × Value)} (h : Paired (Ent knd) ks l) {k : κ} : (∃ e ∈ l, knd.is k e.2 = true) ↔ k ∈ ks := by
  induction h with
  | nil => exact ⟨fun ⟨e, he, _⟩ => (nomatch he), fun z => nomatch z⟩
  | @cons k' e ks l r _ ih =>
    constructor
    · rintro ⟨e', he, q⟩
      rcases List.mem_cons.mp he with z | z
      · rw [z] at q
        rw [knd.inj e.2 k k' q r.1]
        exact List.mem_cons_self
      · exact List.mem_cons_of_mem _ (ih.mp ⟨e', z, q⟩)
    · intro z
      rcases List.mem_cons.mp z with z | z
      · exact ⟨e, List.mem_cons_self, z ▸ r.1⟩
      · obtain ⟨e', he, q⟩ := ih.mpr z
        exact ⟨e', List.mem_cons_of_mem _ he, q⟩
end
/-- the set at a holds just the keys ks, each once; its table can be walked -/
def Holds (P : Program) (w : World) (h : Heap) (a : Addr) (ks : List Key) : Prop :=
  ∃ o es ep t ls, (h.get? a = some o ∧ o.ExactSet ∧ o.data = .set es ep t) ∧ (Paired (Ent (mixKind P w)) ls es.toList ∧ ls.Perm ks ∧ ks.Nodup) ∧
    (es.size < scanBound ∧ t.fits es.size = true) ∧ Ris t.place.toList ∧ (w.params.followText "set-order" = true ∨ t.led = true)
/-- .. as a tracked thing -/
def SetL (P : Program) (w : World) (a : Addr) (ks : List Key) : HO := .ext fun h => Holds P w h a ks
def hasL (ks : List Key) (k : Key) : Bool := ks.any fun j => decide (j = k)
theorem hasL_iff {ks : List Key} {k : Key} : hasL ks k = true ↔ k ∈ ks := by
  unfold hasL
  rw [List.any_eq_true]
  exact ⟨fun ⟨j, hj, e⟩ => of_decide_eq_true e ▸ hj, fun h => ⟨k, h, decide_eq_true rfl⟩⟩
def addL (ks : List Key) (k : Key) : List Key := if hasL ks k = true then ks else ks ++ [k]
section
variable {P : Program} {w : World} {A : Around} {E : Value → Shared → Prop} {s : Shared} {a : Addr} {ks : List Key}
theorem Holds.keep {h h' : Heap} (R : Holds P w h a ks) (k : ∀ o, h.get? a = some o → h'.get? a = some o) : Holds P w h' a ks :=
  let ⟨o, es, ep, t, ls, ⟨ho, r⟩, q⟩ := R; ⟨o, es, ep, t, ls, ⟨k o ho, r⟩, q⟩
theorem Holds.there {h : Heap} (R : Holds P w h a ks) : ∃ o, h.get? a = some o ∧ o.cls = .type "set" := let ⟨o, _, _, _, _, ⟨ho, hx, _⟩, _⟩ := R; ⟨o, ho, hx.1⟩
theorem Holds.new {H : Hp} {h : Heap} (R : Holds P w h a ks) : ObjOk P w H h a (SetL P w a ks) :=
  ⟨R, let ⟨o, ho, _⟩ := R.there; ⟨o, ho⟩, fun _ _ p k => p.keep k⟩
theorem mem_addL {k x : Key} : x ∈ addL ks k ↔ x ∈ ks ∨ x = k := by
  unfold addL
  by_cases z : k ∈ ks
  · rw [if_pos (hasL_iff.mpr z)]
    exact ⟨.inl, fun y => y.elim id fun e => e ▸ z⟩
  · rw [if_neg fun q => z (hasL_iff.mp q), List.mem_append, List.mem_singleton]
theorem stored {h : Heap} {o : Obj} {es es' : Array (Int × Value)} {ep : Nat} {t t' : SetTable} (ho : h.get? a = some o) (hd : o.data = .set es ep t) :
    (h.update a (Obj.putSet es' t')).get? a = some { o with data := .set es' (ep + 1) t' } :=
  (Heap.get?_update_self (Obj.putSet es' t') ho (by rw [putSet_of es' t' hd] <;> rfl)).trans (by rw [putSet_of es' t' hd])
/-- what an add does behind its search, where the key is new -/
theorem laid {k : Key} {x : Value} (hk : (mixKind P w).is k x = true) (hsc : x.scannable = true) {o : Obj} {es : Array (Int × Value)} {ep : Nat} {t : SetTable} {ls : List Key}
    (ho : s.heap.get? a = some o) (hx : o.ExactSet) (hd : o.data = .set es ep t) (pe : Paired (Ent (mixKind P w)) ls es.toList) (pm : ls.Perm ks) (nd : ks.Nodup) (room : es.size + 1 < scanBound)
    {es1 : Array (Int × Value)} {t1 : SetTable} (p1 : es1.toList.Perm (es.push ((mixKind P w).hash k, x)).toList) (f1 : t1.fits es1.size = true) (r1 : Ris t1.place.toList) (l1 : w.params.followText "set-order" = true ∨ t1.led = true) (hnk : k ∉ ks) :
    es1.size < scanBound ∧ Holds P w (s.heap.update a (Obj.putSet es1 t1)) a (ks ++ [k]) := by
  have z1 : es1.size = es.size + 1 := by
    have q := p1.length_eq
    rw [Array.length_toList, Array.length_toList, Array.size_push] at q
    exact q
  have pe' : Paired (Ent (mixKind P w)) (ls ++ [k]) (es.push ((mixKind P w).hash k, x)).toList := by
    rw [Array.toList_push]
    exact pe.snoc ⟨hk, rfl, hsc⟩
  obtain ⟨ls1, q1, pe1⟩ := paired_perm p1.symm pe'
  have nd1 : (ks ++ [k]).Nodup := List.nodup_append.mpr ⟨nd, List.nodup_cons.mpr ⟨(fun z => nomatch z), List.nodup_nil⟩, fun u hu v hv e => hnk (by rw [← List.mem_singleton.mp hv, ← e]; exact hu)⟩
  exact ⟨by omega, _, es1, _, t1, ls1, ⟨stored ho hd, hx, rfl⟩, ⟨pe1, q1.trans (pm.append_right [k]), nd1⟩, ⟨by omega, f1⟩, r1, l1⟩
/-- .. and a table that is laid anew -/
theorem relaid {o : Obj} {es1 es2 : Array (Int × Value)} {ep : Nat} {t1 t2 : SetTable} {h : Heap} (R : Holds P w h a ks) (ho : h.get? a = some o) (hd : o.data = .set es1 ep t1)
    (p2 : es2.toList.Perm es1.toList) (f2 : t2.fits es2.size = true) (r2 : Ris t2.place.toList) (l2 : t1.led = true → t2.led = true) : Holds P w (h.update a (Obj.putSet es2 t2)) a ks := by
  obtain ⟨o', es, ep', t, ls, ⟨ho', hx, hd'⟩, ⟨pe, pm, nd⟩, ⟨hb, _⟩, _, hl⟩ := R
  obtain rfl : o = o' := Option.some.inj (ho.symm.trans ho')
  rw [hd] at hd'
  cases hd'
  obtain ⟨ls2, q2, pe2⟩ := paired_perm p2.symm pe
  have z : es2.size = es1.size := by
    have q := p2.length_eq
    rw [Array.length_toList, Array.length_toList] at q
    exact q
  exact ⟨_, es2, _, t2, ls2, ⟨stored ho hd, hx, rfl⟩, ⟨pe2, q2.trans pm, nd⟩, ⟨z ▸ hb, f2⟩, r2, hl.imp id l2⟩
theorem Holds.size {h : Heap} (R : Holds P w h a ks) {o : Obj} {es : Array (Int × Value)} {ep : Nat} {t : SetTable} (ho : h.get? a = some o) (hd : o.data = .set es ep t) : es.size = ks.length := by
  obtain ⟨o', es', ep', t', ls, ⟨ho', _, hd'⟩, ⟨pe, pm, _⟩, _⟩ := R
  obtain rfl : o = o' := Option.some.inj (ho.symm.trans ho')
  rw [hd] at hd'
  cases hd'
  rw [← Array.length_toList, ← pe.length, pm.length_eq]
theorem add_scan {k : Key} {x : Value} (hk : (mixKind P w).is k x = true) (hsc : x.scannable = true) (R : Holds P w s.heap a ks) (room : ks.length + 1 < scanBound) {Q : Bool → Shared → Prop}
    (hQ : ∀ b h', Heap.SameBut a s.heap h' → Holds P w h' a (addL ks k) → Q b { s with heap := h' }) : wpAny (model P w) A (setAddHashed a x ((mixKind P w).hash k)) Q E s := by
  have R0 := R
  obtain ⟨o, es, ep, t, ls, ⟨ho, hx, hd⟩, ⟨pe, pm, nd⟩, ⟨hb, hf⟩, hr, hl⟩ := R
  have el := ents_elems pe
  have sz := R0.size ho hd
  have fd : (∃ e ∈ es.toList, (mixKind P w).is k e.2 = true) ↔ k ∈ ks := (ents_find pe).trans pm.mem_iff
  unfold setAddHashed setAddHashedIn
  refine wpAny_holding (wpAny_bind (wpAny_setState_of ho hd hf ?_))
  show wpAny _ _ (if byScan x es = true then _ else _) _ _ _
  rw [byScan_of hsc hb el]
  refine wpAny_bind (wpAny_bind (wpAny_rule (wpAny_bind (wpAny_setScan_of hk ho hd hf el ?_))))
  cases ix : es.toList.findIdx? (fun e => (mixKind P w).is k e.2) with
  | some j =>
    obtain ⟨hj, pj, _⟩ := List.findIdx?_eq_some_iff_getElem.mp ix
    have hin : k ∈ ks := fd.mp ⟨_, List.getElem_mem hj, pj⟩
    refine wpAny_pure (wpAny_pure (hQ _ s.heap (Heap.SameBut.refl a s.heap) ?_))
    rw [addL, if_pos (hasL_iff.mpr hin)]
    exact R0
  | none =>
    have hnk : k ∉ ks := fun z => by
      obtain ⟨e, he, q⟩ := fd.mpr z
      have := List.findIdx?_eq_none_iff.mp ix e he
      rw [q] at this
      cases this
    have p1 := layNew_perm t es ((mixKind P w).hash k) x
    have f1 := layNew_fits t es ((mixKind P w).hash k) x
    have r1 := layNew_ris t es ((mixKind P w).hash k) x hr
    have l1 := layNew_led t es ((mixKind P w).hash k) x
    dsimp only
    generalize layNew t es ((mixKind P w).hash k) x = Z at p1 f1 r1 l1 ⊢
    obtain ⟨es1, t1, was, gave⟩ := Z
    dsimp only at p1 f1 r1 l1 ⊢
    have gate : ∀ (b : Bool) {s' : Shared} {Q' : Unit → Shared → Prop}, Q' () s' → wpAny (model P w) A (match b with | true => rule "set.scan.the-table-gave-way" | false => pure ()) Q' E s' := fun b => by
      cases b
      · exact fun q => wpAny_pure q
      · exact fun q => wpAny_rule q
    have e1 : addL ks k = ks ++ [k] := if_neg fun q => hnk (hasL_iff.mp q)
    have more : ∀ {g : Bool → Sem Unit} (_ : ∀ (b : Bool) (s' : Shared) (Q' : Unit → Shared → Prop), Q' () s' → wpAny (model P w) A (g b) Q' E s') (t2 : SetTable), t2.fits es1.size = true → Ris t2.place.toList → t2.led = t1.led →
        wpAny (model P w) A (do
          storeSet a es1 t2
          if (!was && t2.tooFull) = true then do
            g (relayAll t2 es1 (SetTable.grown es1.size)).2.2
            storeSet a (relayAll t2 es1 (SetTable.grown es1.size)).1 (relayAll t2 es1 (SetTable.grown es1.size)).2.1
            pure (some true)
          else pure (some true)) (fun r s' => ∃ h', s' = { s with heap := h' } ∧ r = some true ∧ Heap.SameBut a s.heap h' ∧ Holds P w h' a (addL ks k)) E s := by
      intro g hg t2 f2 r2 l2
      obtain ⟨b1, H1⟩ := laid hk hsc ho hx hd pe pm nd (by omega) p1 f2 r2 (hl.imp id fun q => by rw [l2, l1]; exact q) hnk
      rw [e1]
      refine wpAny_bind (wpAny_storeSet_of ho hd ?_ (fits_of_scanBound b1))
      have sb := Heap.SameBut.update s.heap a (Obj.putSet es1 t2)
      by_cases full : (!was && t2.tooFull) = true
      · rw [if_pos full]
        refine wpAny_bind (hg _ _ _ (wpAny_bind (wpAny_storeSet_of (stored ho hd) rfl ?_ ?_)))
        · refine wpAny_pure ⟨_, rfl, rfl, sb.trans (Heap.SameBut.update _ a _), relaid H1 (stored ho hd) rfl (relayAll_perm _ _ _) (relayAll_fits _ _ _) (relayAll_ris _ _ _) fun q => ?_⟩
          rw [relayAll_led]
          exact q
        · have q := (relayAll_perm t2 es1 (SetTable.grown es1.size)).length_eq
          rw [Array.length_toList, Array.length_toList] at q
          rw [q]
          exact fits_of_scanBound b1
      · rw [if_neg full]
        exact wpAny_pure ⟨_, rfl, rfl, sb, H1⟩
    refine wpAny_bind (gate gave ?_)
    have go : ∀ v : Bool, wpAny (model P w) A (do
          storeSet a es1 (if v = true then t1 else { t1 with plain := false })
          if (!was && (if v = true then t1 else { t1 with plain := false }).tooFull) = true then do
            (match (relayAll (if v = true then t1 else { t1 with plain := false }) es1 (SetTable.grown es1.size)).2.2 with | true => rule "set.scan.the-table-gave-way" | false => pure ())
            storeSet a (relayAll (if v = true then t1 else { t1 with plain := false }) es1 (SetTable.grown es1.size)).1 (relayAll (if v = true then t1 else { t1 with plain := false }) es1 (SetTable.grown es1.size)).2.1
            pure (some true)
          else pure (some true)) (fun r s' => ∃ h', s' = { s with heap := h' } ∧ r = some true ∧ Heap.SameBut a s.heap h' ∧ Holds P w h' a (addL ks k)) E s := fun v => by
      cases v
      · exact more (g := fun b => match b with | true => rule "set.scan.the-table-gave-way" | false => pure ()) (fun b s' Q' q => gate b q) { t1 with plain := false } (SetTable.fits_plain_off f1) r1 rfl
      · exact more (g := fun b => match b with | true => rule "set.scan.the-table-gave-way" | false => pure ()) (fun b s' Q' q => gate b q) t1 f1 r1 rfl
    have fin : ∀ (r : Option Bool) (s' : Shared), (∃ h', s' = { s with heap := h' } ∧ r = some true ∧ Heap.SameBut a s.heap h' ∧ Holds P w h' a (addL ks k)) → ∃ h', r = some true ∧ s' = { s with heap := h' } ∧ Q true s' := by
      rintro r s' ⟨h', rfl, rfl, sb, H'⟩
      exact ⟨h', rfl, rfl, hQ true h' sb H'⟩
    by_cases pl : t1.plain = true
    · rw [if_pos pl]
      refine wpAny_bind ?_
      rw [hashByValue_scannable 8 hsc]
      refine wpAny_pure (wpAny_mono (go _) (fun r s' q => ?_) fun _ _ z => z)
      obtain ⟨h', rfl, rfl, q⟩ := fin r s' q
      exact wpAny_pure q
    · rw [if_neg pl]
      refine wpAny_bind (wpAny_pure (wpAny_mono (go true) (fun r s' q => ?_) fun _ _ z => z))
      obtain ⟨h', rfl, rfl, q⟩ := fin r s' q
      exact wpAny_pure q

/-- set.add, called -/
theorem add_call {k : Key} {x : Value} (hk : (mixKind P w).is k x = true) (hsc : x.scannable = true) (R : Holds P w s.heap a ks) (room : ks.length + 1 < scanBound) {Q : Value → Shared → Prop}
    (hQ : ∀ h', Heap.SameBut a s.heap h' → Holds P w h' a (addL ks k) → Q .none { s with heap := h', toks := s.toks + 1 }) : wpAny (model P w) A (call (.builtin "set.add") [.ref a, x]) Q E s := by
  refine wpAny_call_entry F.slot_set_add (show s.TypeIs (.ref a) "set" from R.there) F.entry_set_add ?_ (F.args_set_add_2 _ _)
  unfold Builtin.«set.add» Builtin.Frozenset.oneOther
  simp only [List.isEmpty_nil, bind_assoc]
  unfold Builtin.Frozenset.addrOf setAdd
  refine wpAny_bind (wpAny_pure (wpAny_bind (wpAny_pure (wpAny_bind (wpAny_holding (wpAny_bind ((mixKind P w).pyHash hk ?_)))))))
  refine add_scan (s := { s with toks := s.toks + 1 }) hk hsc R room fun b h' sb r => ?_
  exact (show wpAny _ _ (ret Value.none) _ _ _ from wpAny_pure ⟨_, rfl, hQ h' sb r⟩)
theorem fresh_set (h : Heap) : Holds P w (h.push { cls := .type "set", dict := none, data := .set #[] 0 (.fresh 0 0 (!w.params.followText "set-order")) }) h.objs.size [] := by
  refine ⟨_, #[], 0, _, [], ⟨Heap.get?_push_size _ rfl, ⟨rfl, rfl, rfl⟩, rfl⟩, ⟨.nil, .refl _, List.nodup_nil⟩, ⟨by decide, by rfl⟩, List.Pairwise.nil, ?_⟩
  cases q : w.params.followText "set-order" with
  | true => exact .inl rfl
  | false => exact .inr rfl
end
/-! ### sorted(a set of texts) -/
theorem strs_of_paired {P : Program} {w : World} : ∀ {ks : List Key} {vs : List Value}, Paired (fun k v => (mixKind P w).is k v = true) ks vs → ∀ {xs : List Str}, ks.Perm (xs.map Sum.inr) → ∃ zs, zs.Perm xs ∧ StrsAre vs zs := by
  intro ks vs h xs p
  have all : ∀ k ∈ ks, ∃ x, k = Sum.inr x := fun k hk => by
    obtain ⟨x, _, e⟩ := List.mem_map.mp (p.mem_iff.mp hk)
    exact ⟨x, e.symm⟩
  have q := p.filterMap (fun k : Key => match k with | .inr x => some x | .inl _ => none)
  have e : (xs.map Sum.inr : List Key).filterMap (fun k : Key => match k with | .inr x => some x | .inl _ => none) = xs := by
    rw [List.filterMap_map]
    exact List.filterMap_some
  rw [e] at q
  refine ⟨_, q, ?_⟩
  clear p q e
  induction h with
  | nil => exact .nil
  | @cons k v ks vs r _ ih =>
    obtain ⟨x, rfl⟩ := all k List.mem_cons_self
    rcases keyIs_shape (show keyIs (.inr x) v = true from r) with ⟨_, _, z, _⟩ | ⟨y, t, z, rfl⟩
    · cases z
    · cases z
      exact .cons _ _ (ih fun k hk => all k (List.mem_cons_of_mem _ hk))
theorem paired_snd {P : Program} {w : World} {ks : List Key} {es : List (Int × Value)} (h : Paired (Ent (mixKind P w)) ks es) : Paired (fun k v => (mixKind P w).is k v = true) ks (es.map (·.2)) := by
  induction h with
  | nil => exact .nil
  | cons r _ ih => exact .cons r.1 ih
section
variable {P : Program} {w : World} {A : Around} {E : Value → Shared → Prop} {s : Shared} {a : Addr}
theorem sorted_call {xs : List Str} {Q : Value → Shared → Prop} (R : Holds P w s.heap a (xs.map Sum.inr)) (hh : A.handled = none)
    (hQ : ∀ s' p (out : Array Value) (c : Nat) (ys : List Str), (∀ b o, s.heap.get? b = some o → s'.heap.get? b = some o) → s'.gens = s.gens ∧ s'.os = s.os → s.heap.objs.size ≤ p →
      s'.heap.get? p = some (seqObj "list" out c) → StrsAre out.toList ys → ys.Perm xs → sortedS ys = true → Q (.ref p) s') : wpAny (model P w) A (call (.builtin "sorted") [.ref a]) Q E s := by
  obtain ⟨o, es, ep, t, ls, ⟨ho, hx, hd⟩, ⟨pe, pm, nd⟩, ⟨hb, hf⟩, hr, hl⟩ := R
  refine Calls.call_function_entry kind_sorted plain_sorted entry_sorted (args_sorted1 _) ?_
  unfold Builtin.«sorted»
  refine wpAny_bind (m := checkCount "sorted" 1 1 _) (wpAny_pure (wpAny_bind (collect_set (A := A.in1) hh ⟨o, ho, hx.1, hd⟩ hf hb hr hl fun s1 vs k1 hz g1 o1 pv => ?_)))
  obtain ⟨ls', q', pe'⟩ := paired_perm pv.symm (paired_snd pe)
  obtain ⟨zs, pz, hS⟩ := strs_of_paired pe' (q'.trans pm)
  have hsz : vs.length ≤ sizeLine := by
    rw [pv.length_eq, List.length_map, Array.length_toList]
    exact fits_of_scanBound hb
  refine wpAny_bind (wpAny_newList ?_ hsz)
  have hoL : (s1.heap.push (seqObj "list" vs.toArray 0)).get? s1.heap.objs.size = some (seqObj "list" vs.toArray 0) := Heap.get?_push_size _ rfl
  refine wpAny_bind (wpAny_holding (wpAny_call_entry slot_list_sort ⟨_, hoL, rfl⟩ entry_list_sort (list_sort_treeKAny strKind_oneLt hoL hS.keysOf (fun v₁ v₂ rest e => keyKind_strs (by rw [← e]; exact hS)) hsz fun st' hp hs => ?_) (args_list_sort _)))
  obtain ⟨ys, y1, y2, y3⟩ := sorted_out_str hS hp hs
  obtain ⟨c, hc⟩ := sortedHeap_at (vs := vs) (out := (arrOf st').map (·.2)) hoL
  refine ⟨_, rfl, wpAny_pure ⟨_, rfl, hQ _ _ _ c ys (fun b u e => ?_) ⟨g1, o1⟩ hz hc y1 (y2.trans pz) y3⟩⟩
  have q := k1 b u e
  have hlt := Heap.lt_size q
  refine (sortedHeap_old (Nat.ne_of_lt hlt) ?_).trans (Heap.get?_push_of_some _ q)
  rw [size_push']
  exact Nat.lt_succ_of_lt hlt
end
section
variable {X : Cx} {pins : List (Addr × Obj)} {σ : L2.St} {H : Hp} {s : Shared}
theorem held {a : Addr} {ks : List Key} (I : Inv X pins σ H s) (h : H a = some (SetL X.prog X.w a ks)) : Holds X.prog X.w s.heap a ks := (I.hok a _ h).1
theorem key_rel {k : Key} {u : Value} (r : RelV (kV k) u) (P : Program) (w : World) : (mixKind P w).is k u = true ∧ u.scannable = true := by
  cases k with
  | inl i => obtain ⟨t, rfl⟩ := r; exact ⟨mixKind_int P w i t, rfl⟩
  | inr x => obtain ⟨t, rfl⟩ := r; exact ⟨mixKind_str P w x t, rfl⟩
theorem add_inv {a : Addr} {ks : List Key} {k : Key} {u : Value} {A : Around} {E : Value → Shared → Prop} {Q : Value → Shared → Prop} (I : Inv X pins σ H s) (h : H a = some (SetL X.prog X.w a ks)) (r : RelV (kV k) u) (room : ks.length + 1 < scanBound)
    (hQ : ∀ s', Inv X pins σ (upd H a (SetL X.prog X.w a (addL ks k))) s' → Q .none s') : wpAny (model X.prog X.w) A (call (.builtin "set.add") [.ref a, u]) Q E s := by
  obtain ⟨r1, r2⟩ := key_rel r X.prog X.w
  refine add_call r1 r2 (held I h) room fun h' sb R => hQ _ ?_
  exact I.write (e := a) (t' := s.toks + 1) (by rw [h]; trivial) (.inl rfl) (fun b o hb ho => (sb.2 b hb).trans ho) (let ⟨o, ho, _⟩ := R.there; ⟨o, ho⟩) R.new
/-- sorted(found), found a set of texts -/
def rSortedL (P : Program) (w : World) : List V → Hp → VK → Prop := fun vs H Q => ∃ (a : Addr) (xs : List Str), vs = [.ref a] ∧ H a = some (SetL P w a (xs.map Sum.inr)) ∧
  ∀ (ys : List Str) (p : Addr), ys.Perm xs → sortedS ys = true → H p = none → Q (.ref p) (upd H p (.lst (ys.map V.str)))
theorem cr_sortedL (hc : X.calm = true) : CallR X (.builtin "sorted") (rSortedL X.prog X.w) := by
  intro pins s σ H vs us Q I r h
  obtain ⟨a, xs, rfl, ha, q⟩ := h
  rw [Vals.ref1 r]
  have R := held I ha
  have bound : xs.length ≤ sizeLine := by
    obtain ⟨o, es, ep, t, ls, ⟨ho, hx, hd⟩, ⟨pe, pm, nd⟩, ⟨hb, hf⟩, _⟩ := R
    have := pm.length_eq
    rw [pe.length, Array.length_toList, List.length_map] at this
    rw [← this]
    exact fits_of_scanBound hb
  refine sorted_call R (I.ok.hd hc) fun s' p out c ys k go hp hg hi hperm hs => ?_
  have hn : H p = none := I.hok.fresh hp
  have hlen : (ys.map V.str).length ≤ sizeLine := by rw [List.length_map, hperm.length_eq]; exact bound
  have J : Inv X pins σ (upd H p (.lst (ys.map V.str))) s' := I.call' (ch := []) go.2 (Un.laid k hp hn) (I.hok.laid k hp ⟨hlen, out.toList, c, vals_of_strs hi, hg⟩) (by rw [go.1]; exact I.bare) (fun _ z => nomatch z)
  exact ⟨.ref p, _, J, rfl, q ys p hperm hs hn⟩
end
end KnS

set_option Elab.async false
set_option linter.all false
set_option maxRecDepth 100000
set_option maxHeartbeats 4000000
/-! {elt for target in iter if ..}, elt an int or a text. -/
namespace KnS
open PySem PySem.Spec PyProof.Rows L2
section
variable {X : Cx}
abbrev set0 (w : World) : Obj := { cls := .type "set", dict := none, data := .set #[] 0 (.fresh 0 0 (!w.params.followText "set-order")) }
/-- what a turn may reach, and how a comprehension into a set reads -/
def tScL (P : Program) (w : World) (wi : TI) (g : TG) (tt : TT) (te : TE) (vs : List Nat) : TE := fun σ H Q => wi σ H fun J H1 => ∀ D, H1 D = none →
  ∃ W : Nat → Nat → Hp → Prop, (∃ m, W 0 m (upd H1 D (SetL P w D []))) ∧ ∀ i m H, W i m H → (J.stop i H ∧ Q (.ref D) H) ∨
    (J.go i H ∧ ∃ Nx : Hp → Prop, (∀ H', Nx H' → ∃ m', m' < m ∧ W (i + 1) m' H') ∧
      ∀ x H', J.yld i H x H' → g x (wipe σ vs) H' fun σ2 H2 => wipe σ2 vs = wipe σ vs ∧ tt σ2 H2 fun b H3 =>
        if b = true then te σ2 H3 fun y H4 => ∃ (k : Key) (ks : List Key), y = kV k ∧ H4 D = some (SetL P w D ks) ∧ ks.length + 1 < scanBound ∧ Nx (upd H4 D (SetL P w D (addL ks k))) else Nx H3)
theorem scL {elt tg iter : Expr} {ifs : List Expr} {scope : Scope} {own : List (Str × Nat)} {pos : Pos} {wi : TI} {g : TG} {tt : TT} {te : TE}
    (hc : X.calm = true) (hN : X.N.Nodup) (hi : PI X tg iter wi) (ok : BlkOk X.N X.env.scope scope own)
    (hg : ∀ (s : Shared) (H : Hp) (C : Addr) (cl : List (Str × Addr)) (fp : List Addr), PG (X.blk s H scope (compEnvC scope cl C X.env) fp) tg g)
    (ht : ∀ (s : Shared) (H : Hp) (C : Addr) (cl : List (Str × Addr)) (fp : List Addr), PTs (X.blk s H scope (compEnvC scope cl C X.env) fp) ifs tt)
    (he : ∀ (s : Shared) (H : Hp) (C : Addr) (cl : List (Str × Addr)) (fp : List Addr), PE (X.blk s H scope (compEnvC scope cl C X.env) fp) elt te)
    (hs : ∀ x, foldedSetIterable iter X.env x = pure x := by intro _; rfl) :
    PE X (.SetComp elt [⟨tg, iter, ifs, 0⟩] scope pos) (tScL X.prog X.w wi g tt te (own.map (·.2))) := by
  refine ⟨fun pins s σ H Q I h => ?_⟩
  rw [PpSet.eval_SetComp]
  have captured : ∀ y ∈ scope.names, y.2 = .free → ∃ c, X.env.cells.lookup y.1 = some c := fun y hy e =>
    (ok.free y hy e).elim (fun k => I.ok.has _ (.inl k)) fun k => I.ok.has _ (.inr k)
  refine wpAny_comprehension_free (use := none) rfl hs (closure_ok captured) ok.kind (fun y hy e => by rw [ok.uniq y hy, e]) ?_
  refine thn (hi.run pins s σ H _ I h) fun xv s1 hx => thn hx fun itv s2 ⟨it, fp, tn, J, H2, eit, I2, T, st2, f2, q⟩ => ?_
  subst eit
  refine PpSet.newSet_ok (newEnv_comp ?_)
  generalize hD : s2.heap.objs.size = D
  have freeD : H2 D = none := I2.hok.fresh (Nat.le_of_eq hD)
  obtain ⟨W, ⟨m0, w0⟩, turn⟩ := q D freeD
  -- the new set stands
  generalize h3 : s2.heap.push (set0 X.w) = hp3
  have keep3 : ∀ b o, s2.heap.get? b = some o → hp3.get? b = some o := fun b o e => h3 ▸ Heap.get?_push_of_some _ e
  have size3 : hp3.objs.size = s2.heap.objs.size + 1 := by rw [← h3, Heap.size_push]
  have I3 : Inv X pins σ (upd H2 D (SetL X.prog X.w D [])) { s2 with heap := hp3 } := by
    refine I2.laid (t' := s2.toks) keep3 (Nat.le_of_eq hD) (Holds.new ?_)
    rw [← h3, ← hD]
    exact fresh_set _
  have inFp : ∀ b ∈ fp, b < s2.heap.objs.size := fun b hb => let ⟨_, e, _⟩ := T.obj _ _ st2 b hb; Heap.lt_size e
  have f3 : ∀ b ∈ fp, FpOk X pins (upd H2 D (SetL X.prog X.w D [])) b ∧ b < hp3.objs.size := fun b hb =>
    ⟨⟨(upd_ne (by rw [← hD]; exact Nat.ne_of_lt (inFp b hb))).trans (f2 b hb).1, (f2 b hb).2⟩, by rw [size3]; exact Nat.lt_succ_of_lt (inFp b hb)⟩
  have st3 : tn 0 hp3 := T.keep _ _ _ st2 fun b _ => keep3 b
  generalize hH3 : upd H2 D (SetL X.prog X.w D []) = H3 at I3 f3 w0
  generalize hs3 : ({ s2 with heap := hp3 } : Shared) = s3 at I3
  have e3 : s3.heap = hp3 := by rw [← hs3]
  have I4 := block_start I3 ok hN (fun b hb => ⟨(f3 b hb).1, by rw [e3]; exact (f3 b hb).2⟩)
  have clear0 : ∀ b ∈ fp, H3 b = none := fun b hb => (f3 b hb).1.1
  show codeAny _ _ (.compStart (.SetComp elt [⟨tg, iter, ifs, 0⟩] scope pos) 0 (.ref it) (.ref D) (compEnvC scope (cellsFrom (s3.heap.objs.size + 1) scope.names (cloFrom X.env.cells scope.names [])) s3.heap.objs.size X.env))
    (compPost (model X.prog X.w) X.A X.xe none (EP X pins σ Q) (.ref D) s3.heap.objs.size) { s3 with heap := pushCells (s3.heap.push { cls := .type "dict", data := .dict #[] }) scope.names }
  have pg := hg s3 H3 s3.heap.objs.size (cellsFrom (s3.heap.objs.size + 1) scope.names (cloFrom X.env.cells scope.names [])) fp
  have pt := ht s3 H3 s3.heap.objs.size (cellsFrom (s3.heap.objs.size + 1) scope.names (cloFrom X.env.cells scope.names [])) fp
  have pe := he s3 H3 s3.heap.objs.size (cellsFrom (s3.heap.objs.size + 1) scope.names (cloFrom X.env.cells scope.names [])) fp
  have home : (compEnvC scope (cellsFrom (s3.heap.objs.size + 1) scope.names (cloFrom X.env.cells scope.names [])) s3.heap.objs.size X.env).locals = s3.heap.objs.size := rfl
  generalize compEnvC scope (cellsFrom (s3.heap.objs.size + 1) scope.names (cloFrom X.env.cells scope.names [])) s3.heap.objs.size X.env = ce at I4 pg pt pe home ⊢
  have st4 : tn 0 ({ s3 with heap := pushCells (s3.heap.push { cls := .type "dict", data := .dict #[] }) scope.names } : Shared).heap := by
    refine T.keep _ _ _ st3 fun b _ o e => pushCells_keeps _ _ _ _ (Heap.get?_push_of_some _ ?_)
    rw [e3]
    exact e
  generalize ({ s3 with heap := pushCells (s3.heap.push { cls := .type "dict", data := .dict #[] }) scope.names } : Shared) = s4 at I4 ⊢ st4
  have own0 : ∀ {σ' : L2.St} {H' : Hp} {s' : Shared}, Inv (X.blk s3 H3 scope ce fp) [] σ' H' s' → (∀ b ∈ fp, H' b = none) → ∀ b ∈ fp, FpOk (X.blk s3 H3 scope ce fp) [] H' b := fun I' cl b hb =>
    ⟨cl b hb, (I'.ok.exf b hb).1, I'.ok.exfs b hb, .inl hb, (fun x c e => (I'.ok.exf b hb).2 x c e), fun p hp => by cases List.mem_append.mp hp <;> rename_i z <;> exact absurd z List.not_mem_nil⟩
  have loop : codeAny (model X.prog X.w) X.A (.compLoop (.SetComp elt [⟨tg, iter, ifs, 0⟩] scope pos) 0 (.ref it) (.ref D) ce) (compPost (model X.prog X.w) X.A X.xe none (EP X pins σ Q) (.ref D) s3.heap.objs.size) s4 := by
    refine PpSet.compLoopS_any (fun n s' => ∃ i H', (Inv (X.blk s3 H3 scope ce fp) [] (wipe σ (own.map (·.2))) H' s' ∧ tn i s'.heap) ∧ (∀ b ∈ fp, H' b = none) ∧ W i n H') ?_ m0 ⟨0, H3, ⟨I4, st4⟩, clear0, w0⟩
    rintro n s5 ⟨i, H5, ⟨I5, st5⟩, cl5, w5⟩
    rcases turn i n H5 w5 with ⟨stop, fine⟩ | ⟨go, Nx, hNx, step⟩
    · refine thnF (T.done (X.blk s3 H3 scope ce fp) rfl rfl rfl hc i [] s5 _ H5 (fun _ _ => False) I5 (own0 I5 cl5) st5 stop) fun r s6 ⟨er, I6⟩ => ?_
      subst er
      have I7 : Inv X pins σ H5 s6 := I3.call' (ch := fp) I6.os I6.base I6.hok I6.bare fun b hb =>
        let f := (f3 b hb).1.2; ⟨f.2.2.1, f.1, f.2.2.2.1, f.2.2.2.2⟩
      have free5 : H5 s3.heap.objs.size = none := home ▸ I6.free
      obtain ⟨m, hn, _⟩ := I6.loc
      obtain ⟨_, k1, k2, k3, k4, k5⟩ := I3.fpOk (Nat.le_refl _) free5
      exact ⟨m, home ▸ hn, fun h'' sb => ⟨.ref D, H5, I7.turned (t' := s6.toks) (fun b o hb e => (sb.2 b hb).trans e) free5 k1 k3 k4 k5, rfl, fine⟩⟩
    · refine thnF (T.item (X.blk s3 H3 scope ce fp) rfl rfl rfl hc i [] s5 _ H5 (fun _ _ => False) I5 (own0 I5 cl5) st5 go) fun r s6 ⟨u, er, h6⟩ => ?_
      subst er
      refine thnF h6 fun _ s7 ⟨x, H7, I7, r7, y7, st7, cl7⟩ => ?_
      refine thnF (pg.run _ s7 _ H7 x u _ (I7.pinned (own0 I7 cl7) (T.obj _ _ st7)) r7 (step x H7 y7)) fun _ s8 ⟨σ8, H8, I8, same8, q8⟩ => thnF (pt.run _ s8 σ8 H8 _ I8 q8) fun b s9 ⟨H9, I9, q9⟩ => ?_
      have closed : ∀ {s' : Shared} {H' : Hp}, Inv (X.blk s3 H3 scope ce fp) ([] ++ pinsAt fp s7.heap) σ8 H' s' → Nx H' → ∃ m, m < n ∧ ∃ i H', (Inv (X.blk s3 H3 scope ce fp) [] (wipe σ (own.map (·.2))) H' s' ∧ tn i s'.heap) ∧ (∀ b ∈ fp, H' b = none) ∧ W i m H' := fun {s' H'} I' nx => by
        obtain ⟨m', less, w'⟩ := hNx H' nx
        have pinned : ∀ b ∈ fp, ∀ o, s7.heap.get? b = some o → s'.heap.get? b = some o ∧ H' b = none := fun b hb o e =>
          have z := I'.pin (b, o) (List.mem_append_right _ (List.mem_append_right _ (mem_pinsAt hb e)))
          ⟨z.1, z.2.1⟩
        have len8 : (wipe σ (own.map (·.2))).length = σ8.length := (congrArg List.length same8).symm.trans (wipe_length _ _)
        refine ⟨m', less, i + 1, H', ⟨(I'.unpinned (pins := [])).weak len8 fun j v e => ?_, T.keep _ _ _ st7 fun b hb o e => (pinned b hb o e).1⟩, fun b hb => ?_, w'⟩
        · exact (wipe_some (same8 ▸ e)).1
        · obtain ⟨o, e, _⟩ := T.obj _ _ st7 b hb
          exact (pinned b hb o e).2
      cases b with
      | false => exact closed I9 q9
      | true =>
        refine thnF (pe.run _ s9 σ8 H9 _ I9 q9) fun z s10 ⟨yv, H10, I10, r10, k, ks, ey, eD, room, nx⟩ => ?_
        subst ey
        exact add_inv (X := X.blk s3 H3 scope ce fp) I10 eD r10 room fun s11 I11 => closed I11 nx
  exact PpSet.codeAny_compStart_set loop (T.self X.A 0 _ _ _ st4 loop)
end
end KnS

set_option Elab.async false
set_option linter.all false
set_option maxRecDepth 100000
set_option maxHeartbeats 4000000
/-! set(a list of ints and texts). -/
namespace KnS
open PySem PySem.Spec PyProof.Rows L2
def allL (ks : List Key) : List Key := ks.foldl addL []
theorem mem_foldL {x : Key} : ∀ {l acc : List Key}, x ∈ l.foldl addL acc ↔ x ∈ acc ∨ x ∈ l := by
  intro l
  induction l with
  | nil => intro acc; exact ⟨.inl, fun h => h.elim id (fun z => nomatch z)⟩
  | cons y l ih =>
    intro acc
    rw [List.foldl_cons, ih, mem_addL, List.mem_cons]
    constructor
    · rintro ((h | h) | h)
      · exact .inl h
      · exact .inr (.inl h)
      · exact .inr (.inr h)
    · rintro (h | h | h)
      · exact .inl (.inl h)
      · exact .inl (.inr h)
      · exact .inr h
theorem mem_allL {x : Key} {l : List Key} : x ∈ allL l ↔ x ∈ l := mem_foldL.trans ⟨fun h => h.elim (fun z => nomatch z) id, .inr⟩
theorem addL_nodup {ks : List Key} {k : Key} (h : ks.Nodup) : (addL ks k).Nodup := by
  unfold addL
  by_cases z : hasL ks k = true
  · rw [if_pos z]; exact h
  · rw [if_neg z]
    exact List.nodup_append.mpr ⟨h, List.nodup_cons.mpr ⟨(fun z => nomatch z), List.nodup_nil⟩, fun u hu v hv e => z (hasL_iff.mpr (by rw [← List.mem_singleton.mp hv, ← e]; exact hu))⟩
theorem foldL_nodup : ∀ {l acc : List Key}, acc.Nodup → (l.foldl addL acc).Nodup
  | [], _, h => h
  | k :: l, _, h => foldL_nodup (l := l) (addL_nodup h)
theorem addL_length (ks : List Key) (k : Key) : (addL ks k).length ≤ ks.length + 1 := by
  unfold addL
  by_cases z : hasL ks k = true
  · rw [if_pos z]; omega
  · rw [if_neg z, List.length_append]; exact Nat.le_refl _
theorem foldL_length : ∀ (l acc : List Key), (l.foldl addL acc).length ≤ acc.length + l.length
  | [], _ => Nat.le_refl _
  | k :: l, acc => by
    have h1 := foldL_length l (addL acc k)
    have h2 := addL_length acc k
    rw [List.foldl_cons, List.length_cons]
    omega
section
variable {P : Program} {w : World} {A : Around} {E : Value → Shared → Prop} {s : Shared}
/-- set.__new__(set, a): a new empty set, led where the order is not by the text -/
theorem new_set (a : Value) {Q₁ : Value → Shared → Prop} (h : Q₁ (.ref s.heap.objs.size) { s with heap := s.heap.push { cls := .type "set", dict := none, data := .set #[] 0 (.fresh 0 0 (!w.params.followText "set-order")) } }) :
    codeAny (model P w) A (.call (.builtin "set.__new__") ⟨[.type "set", a], []⟩) (wants Q₁ E) s := by
  refine codeAny_of_tree (show wpAny _ A.in1 (do checkBuiltinCall "set.__new__" ⟨[.type "set", a], []⟩; again (.builtin "set.__new__" ⟨[.type "set", a], []⟩)) _ _ s from ?_)
  refine wpAny_bind (wpAny_of_eq (F.newCall_set_1 a) (wpAny_pure ⟨plainId_quiet F.plain_set_new _, codeAny_builtin F.entry_set_new ?_⟩))
  rw [Around.under_plainId F.plain_set_new _]
  unfold Builtin.«set.__new__» Builtin.Frozenset.newClass
  have hsub := sub_set_self
  obtain ⟨hp, g, d, tk, os⟩ := s
  dsimp only
  wp_walk
  refine wpAny_askSetting (wpAny_pure ?_)
  dsimp only
  simp only [newObj]
  exact wpAny_bind (wpAny_alloc (wpAny_pure (wpAny_pure h)))
/-- the loop of set(v) -/
theorem update_loop {I S : Addr} {fp wr : List Addr} {G : Array GenState → Array GenState → Prop} {ks : List Key} {Pv : Nat → Value → Prop} {St : Nat → Shared → Prop} {R : Result → Shared → Prop}
    (W : WalksS P w A.in1 I fp wr G ks.length Pv St) (hSf : S ∉ fp) (hval : ∀ i v k, Pv i v → ks[i]? = some k → (mixKind P w).is k v = true ∧ v.scannable = true) (room : ks.length + 1 < scanBound) :
    ∀ (k i : Nat) (s : Shared), ks.length - i = k → i ≤ ks.length → St i s → Holds P w s.heap S (allL (ks.take i)) →
      (∀ s', Moved (S :: wr) G s s' → Holds P w s'.heap S (allL ks) → R (.ok (.ret .none)) s') → codeAny (model P w) A (.builtin "set.update.loop" ⟨[.ref S, .ref I], []⟩) R s := by
  have hSw : S ∉ wr := fun h => hSf (W.sub _ h)
  have more : ∀ b ∈ wr, b ∈ S :: wr := fun b hb => List.mem_cons_of_mem _ hb
  intro k
  induction k with
  | zero =>
    intro i s hk hi hst hS hR
    obtain rfl : i = ks.length := by omega
    refine codeAny_builtin PyProof.Rows.F.entry_set_update_loop ?_
    rw [Around.under_plainId PyProof.Rows.F.plain_set_update_loop _]
    show wpAny _ A.in1 (pyNext (.ref I) >>= _) _ _ s
    refine wpAny_bind (W.done s _ _ hst fun s' hm => (show wpAny _ A.in1 (ret Value.none) _ _ s' from wpAny_pure (hR s' (hm.mono more) ?_)))
    rw [List.take_length] at hS
    exact hS.keep fun o ho => hm.heap S o hSw ho
  | succ k ih =>
    intro i s hk hi hst hS hR
    have lt : i < ks.length := by omega
    have at_ : ks[i]? = some ks[i] := List.getElem?_eq_getElem lt
    refine codeAny_builtin PyProof.Rows.F.entry_set_update_loop ?_
    rw [Around.under_plainId PyProof.Rows.F.plain_set_update_loop _]
    show wpAny _ A.in1 (pyNext (.ref I) >>= _) _ _ s
    refine wpAny_bind (W.item i s _ _ lt hst fun v s' hP hst' hm => ?_)
    obtain ⟨v1, v2⟩ := hval i v _ hP at_
    have hS' : Holds P w s'.heap S (allL (ks.take i)) := hS.keep fun o ho => hm.heap S o hSw ho
    have len : (allL (ks.take i)).length + 1 < scanBound := by
      have h1 := foldL_length (ks.take i) []
      rw [List.length_take] at h1
      have h2 : ([] : List Key).length = 0 := rfl
      unfold allL
      omega
    show wpAny _ A.in1 (holding [v] (setAdd S v) >>= _) _ _ s'
    refine wpAny_bind (wpAny_holding ?_)
    unfold setAdd
    refine wpAny_holding (wpAny_bind ((mixKind P w).pyHash v1 ?_))
    refine add_scan (s := { s' with toks := s'.toks + 1 }) v1 v2 hS' len fun b h' hsb hS2 => ?_
    have e2 : allL (ks.take (i + 1)) = addL (allL (ks.take i)) ks[i] := by
      unfold allL
      rw [List.take_add_one, at_, List.foldl_append]
      rfl
    refine wpAny_pure ⟨plainId_quiet PyProof.Rows.F.plain_set_update_loop _, ih (i + 1) _ (by omega) lt (W.frame _ s' _ _ hst' (Nat.le_succ _) fun b hb o e => ?_) (by rw [e2]; exact hS2) fun s'' hm'' hS'' => ?_⟩
    · exact (hsb.2 b fun h => hSf (h ▸ hb)).trans e
    · refine hR s'' (Moved.trans W.gtrans ((hm.mono more).then_heap (Nat.le_succ _) fun b o hb e => ?_) hm'') hS''
      exact (hsb.2 b fun h => hb (h ▸ List.mem_cons_self)).trans e

set_option maxHeartbeats 3200000 in
theorem set_call {l : Addr} {items : List Value} {ks : List Key} {Q : Value → Shared → Prop} (hh : A.handled = none) (hl : s.heap.IsList l items.toArray) (hk : Paired (fun k v => (mixKind P w).is k v = true ∧ v.scannable = true) ks items) (room : ks.length + 1 < scanBound)
    (h : ∀ (h' : Heap) (tk : Nat), Holds P w h' s.heap.objs.size (allL ks) → (∀ b o, b < s.heap.objs.size → s.heap.get? b = some o → h'.get? b = some o) → Q (.ref s.heap.objs.size) { s with heap := h', toks := tk }) :
    wpAny (model P w) A (call (.type "set") [.ref l]) Q E s := by
  have ⟨c, tl, hmro⟩ := PySem.F.called_set.mro
  have made := PySem.F.called_set.made
  have sub := PySem.F.called_set.sub
  refine wpAny_call (codeAny_of_tree (show wpAny _ _ (callAny (.type "set") _) _ _ _ from wpAny_pure ⟨Code.quiet_builtin _ (by decide +kernel), codeAny_builtin PySem.F.entry_type_call ?_⟩))
  rw [Around.under_plain (weight_type_call_type "set" [.ref l] []) rfl]
  have u1 := PySem.F.called_set.notType
  have u2 := PySem.F.called_set.canCreate
  have u3 := PySem.F.typeCall_set_1 (.ref l)
  repeat (any_goals (first | assumption | wp_step))
  have R0 := fresh_set (P := P) (w := w) s.heap
  have made0 := new_set (P := P) (w := w) (A := A.in1) (s := s) (.ref l) (E := E) (Q₁ := fun obj s₁ => obj = .ref s.heap.objs.size ∧ s₁ = { s with heap := s.heap.push { cls := .type "set", dict := none, data := .set #[] 0 (.fresh 0 0 (!w.params.followText "set-order")) } }) ⟨rfl, rfl⟩
  generalize (!w.params.followText "set-order") = led at made0 R0
  refine codeAny_mono made0 fun r s₁ hr => ?_
  match r, hr with
  | .error e, hr => exact hr
  | .ok .next, hr => exact hr.elim
  | .ok .brk, hr => exact hr.elim
  | .ok .cont, hr => exact hr.elim
  | .ok (.ret obj), hr =>
    obtain ⟨rfl, rfl⟩ := hr
    have hS : (s.heap.push { cls := .type "set", dict := none, data := .set #[] 0 (.fresh 0 0 led) }).get? s.heap.objs.size = some { cls := .type "set", dict := none, data := .set #[] 0 (.fresh 0 0 led) } := Heap.get?_push_size _ rfl
    have hT : Shared.TypeIs { s with heap := s.heap.push { cls := .type "set", dict := none, data := .set #[] 0 (.fresh 0 0 led) } } (.ref s.heap.objs.size) "set" := ⟨_, hS, rfl⟩
    have i1 := PySem.F.called_set.init.lookup
    have i2 := PySem.F.called_set.init.bind (.ref s.heap.objs.size)
    repeat (any_goals (first | assumption | wp_step))
    refine codeAny_mono (codeAny_call_builtin (R := wants (fun r s₂ => r = .none ∧ ∃ h' tk, s₂ = { s with heap := h', toks := tk } ∧ Holds P w h' s.heap.objs.size (allL ks) ∧ ∀ b o, b < s.heap.objs.size → s.heap.get? b = some o → h'.get? b = some o) E)
      PySem.F.called_set.init.plain PySem.F.entry_set_init (check_set_init_1 hT ?_)) fun r₂ s₂ hr₂ => ?_
    · have hlS : l < s.heap.objs.size := let ⟨o, e, _⟩ := hl; Heap.lt_size e
      have hl1 : (s.heap.push { cls := .type "set", dict := none, data := .set #[] 0 (.fresh 0 0 led) }).IsList l items.toArray := hl.at fun o e => Heap.get?_push_of_some _ e
      obtain ⟨⟨ocls, odict, odata, oslots⟩, hol, hcl, nl, hdl⟩ := hl1
      simp only at hcl hdl
      subst hcl hdl
      have n1 := PySem.F.sub_list_set
      have n2 := PySem.F.sub_list_frozenset
      have n3 : (Value.type "list" == Value.type "dict") = false := by decide
      unfold Builtin.«set.__init__» noKeywords Builtin.Frozenset.updateFrom
      generalize hPI : pyIter = PI
      wp_walk
      subst hPI
      have hl2 : (s.heap.push { cls := .type "set", dict := none, data := .set #[] 0 (.fresh 0 0 led) }).IsList l items.toArray := ⟨_, hol, rfl, nl, rfl⟩
      refine wpAny_pyIter_list hl2 ?_
      refine wpAny_bind (wpAny_runValue ?_)
      have zz : (s.heap.push { cls := .type "set", dict := none, data := .set #[] 0 (.fresh 0 0 led) }).objs.size = s.heap.objs.size + 1 := Heap.size_push ..
      have hneI : l ≠ (s.heap.push { cls := .type "set", dict := none, data := .set #[] 0 (.fresh 0 0 led) }).objs.size := by rw [zz]; exact Nat.ne_of_lt (Nat.lt_succ_of_lt hlS)
      have len : ks.length = items.toArray.size := hk.length.trans List.size_toArray.symm
      have W := (Walks.list (prog := P) (w := w) (A := A.in1.in1.in1) (by simpa using hh) (s.heap.push { cls := .type "set", dict := none, data := .set #[] 0 (.fresh 0 0 led) }).objs.size l hneI items.toArray).toS
      rw [← len] at W
      refine update_loop W (fun z => ?_) (fun i v k hv hki => ?_) room (ks.length - 0) 0 _ rfl (Nat.zero_le _) ⟨⟨_, Heap.get?_push_size _ rfl, rfl, rfl⟩, hl2.at fun o e => Heap.get?_push_of_some _ e⟩ ?_ fun s' hm hS' => ?_
      · rcases List.mem_cons.mp z with z | z
        · rw [zz] at z
          exact Nat.ne_of_lt (Nat.lt_succ_self _) z
        · exact Nat.ne_of_lt hlS (List.mem_singleton.mp z).symm
      · rw [List.getElem?_toArray] at hv
        have : ∀ {ks : List Key} {its : List Value} {i : Nat}, Paired (fun k v => (mixKind P w).is k v = true ∧ v.scannable = true) ks its → ks[i]? = some k → its[i]? = some v → (mixKind P w).is k v = true ∧ v.scannable = true := by
          intro ks its i hp
          induction hp generalizing i with
          | nil => intro z; cases z
          | cons r _ ih =>
            cases i with
            | zero => intro a b; cases a; cases b; exact r
            | succ i => exact fun a b => ih (i := i) a b
        exact this hk hki hv
      · exact R0.keep fun o e => Heap.get?_push_of_some _ e
      · obtain ⟨h', g', d', tk', os'⟩ := s'
        obtain rfl : g' = s.gens := hm.gens
        obtain rfl : d' = s.drawn := hm.drawn
        obtain rfl : os' = s.os := hm.os
        refine wpAny_pure (show wpAny _ _ (ret Value.none) _ _ _ from wpAny_pure ⟨rfl, h', tk', rfl, hS', fun b o hb e => ?_⟩)
        refine hm.heap b o (fun z => ?_) (Heap.get?_push_of_some _ (Heap.get?_push_of_some _ e))
        rcases List.mem_cons.mp z with z | z
        · exact Nat.ne_of_lt hb z
        · have e1 := List.mem_singleton.mp z
          rw [zz] at e1
          exact Nat.ne_of_lt (Nat.lt_succ_of_lt hb) e1
    · match r₂, hr₂ with
      | .error e, hr₂ => exact hr₂
      | .ok .next, hr₂ => exact hr₂.elim
      | .ok .brk, hr₂ => exact hr₂.elim
      | .ok .cont, hr₂ => exact hr₂.elim
      | .ok (.ret r), hr₂ =>
        obtain ⟨rfl, h', tk, rfl, hS', hk'⟩ := hr₂
        repeat (any_goals (first | assumption | wp_step))
        exact h _ _ hS' hk'
end
section
variable {X : Cx}
/-- set(xs), xs a list of ints and texts -/
def rSetOf (K : PySem.W.Frag) (P : Program) (w : World) : List V → Hp → VK → Prop := fun vs H Q => ∃ (a : Addr) (ks : List Key), vs = [.ref a] ∧ SqL K H a (ks.map kV) ∧ ks.length + 1 < scanBound ∧ ∀ p, H p = none → Q (.ref p) (upd H p (SetL P w p (allL ks)))
theorem cr_setOf (hc : X.calm = true) : CallR X (.type "set") (rSetOf X.K X.prog X.w) := by
  intro pins s σ H vs us Q I r h
  obtain ⟨a, ks, rfl, hs, room, q⟩ := h
  rw [Vals.ref1 r]
  obtain ⟨its, rv, pl, hz⟩ := I.list hs
  have hk : ∀ {ks : List Key} {its : List Value}, Vals (ks.map kV) its → Paired (fun k v => (mixKind X.prog X.w).is k v = true ∧ v.scannable = true) ks its := by
    intro ks
    induction ks with
    | nil => intro its hp; cases hp; exact .nil
    | cons k ks ih =>
      intro its hp
      cases hp with
      | cons r t => exact .cons (key_rel r X.prog X.w) (ih t)
  refine set_call (I.ok.hd hc) pl.isList (hk rv) room fun h' tk R k => ?_
  have J : Inv X pins σ (upd H s.heap.objs.size (SetL X.prog X.w s.heap.objs.size (allL ks))) { s with heap := h', toks := tk } :=
    I.laid (t' := tk) (fun b o e => k b o (Heap.lt_size e) e) (Nat.le_refl _) R.new
  exact ⟨.ref _, _, J, rfl, q _ (I.hok.fresh (Nat.le_refl _))⟩
end
end KnS

set_option Elab.async false
set_option linter.all false
set_option maxRecDepth 100000
set_option maxHeartbeats 4000000
/-! What is walked may be a list or a tuple: the for loop over it, and over enumerate of it. -/
namespace KnE
open PySem PySem.Spec PyProof.Rows L2
/-- a list (true) or a tuple (false) -/
def Sq (K : PySem.W.Frag) (b : Bool) (H : Hp) (a : Addr) (xs : List V) : Prop := match b with | true => SqL K H a xs | false => SqT K H a xs
def ItS (K : PySem.W.Frag) (b : Bool) (a : Addr) : It := match b with | true => Itl K a | false => Itt K a
def iSeq (K : PySem.W.Frag) (te : TE) : TI := fun σ H R => te σ H fun x H1 => ∃ a b, x = .ref a ∧ (∃ xs, Sq K b H1 a xs) ∧ R (ItS K b a) H1
section
variable {X : Cx} {tg : Expr}
theorem pi_seq {e : Expr} {te : TE} (he : PE X e te) : PI X tg e (iSeq X.K te) := by
  refine ⟨fun pins s σ H R I h => thn (he.run pins s σ H _ I h) fun v s1 ⟨x, H1, I1, r1, a, b, ex, ⟨xs, hq⟩, q⟩ => ?_⟩
  subst ex
  cases r1
  cases b with
  | true =>
    obtain ⟨its, rv, p, hz⟩ := I1.list hq
    exact wpAny_pyIter_list p.isList (pi_one (tk := s1.toks) I1 _ (turn_list a _) ⟨_, Heap.get?_push_size _ rfl, rfl, rfl⟩ q)
  | false =>
    obtain ⟨its, rv, p, hz⟩ := I1.tuple hq
    exact wpAny_pyIter_tuple (show s1.heap.IsTuple a its.toArray from p) (pi_one (tk := s1.toks) I1 _ (turn_tuple a _) ⟨_, Heap.get?_push_size _ rfl, rfl, rfl⟩ q)
end
theorem Sq.inj {X : Cx} {pins : List (Addr × Obj)} {σ : L2.St} {H : Hp} {s : Shared} {b : Bool} {a : Addr} {xs ys : List V} (I : Inv X pins σ H s) (h : Sq X.K b H a xs) (h' : Sq X.K b H a ys) : xs = ys := by
  cases b with
  | true => exact I.list_inj h h'
  | false => exact I.tuple_inj h h'
/-- the for loop over a list or tuple that the body leaves as it is -/
theorem for_seq {K : PySem.W.Frag} {b : Bool} {a : Addr} {xs : List V} {g : TG} {tb : TS} {D : Ends} {σ : L2.St} {H : Hp} (Pv : Nat → L2.St → Hp → Prop) (h0 : Pv 0 σ H) (hl : ∀ i σ H, i ≤ xs.length → Pv i σ H → Sq K b H a xs)
    (hs : ∀ i x σ H, xs[i]? = some x → Pv i σ H → g x σ H fun σ2 H2 => tb { D with nx := Pv (i + 1), ct := Pv (i + 1), bk := D.nx } σ2 H2) (hd : ∀ σ H, Pv xs.length σ H → D.nx σ H) :
    ∃ W : Nat → Nat → L2.St → Hp → Prop, (∃ m, W 0 m σ H) ∧ ∀ i m σ H, W i m σ H →
      ((ItS K b a).stop i H ∧ D.nx σ H) ∨ ((ItS K b a).go i H ∧ ∃ N : L2.St → Hp → Prop, (∀ σ' H', N σ' H' → ∃ m', m' < m ∧ W (i + 1) m' σ' H') ∧
        ∀ x H', (ItS K b a).yld i H x H' → g x σ H' fun σ2 H2 => tb { D with nx := N, ct := N, bk := D.nx } σ2 H2) := by
  cases b with
  | true => exact for_list (K := K) (a := a) (xs := xs) Pv h0 hl hs hd
  | false => exact for_tup (K := K) (a := a) (xs := xs) Pv h0 hl hs hd
/-! ### enumerate -/
def Liv (b : Bool) (h : Heap) (a : Addr) (its : List Value) : Prop := match b with | true => h.IsList a its.toArray | false => h.IsTuple a its.toArray
def iterAt (b : Bool) (h : Heap) (it a : Addr) (i : Nat) : Prop := match b with | true => h.IsListIter it a i | false => h.IsTupleIter it a i
/-- (0, x0), (1, x1), .., each a new tuple -/
def ItN (K : PySem.W.Frag) (b : Bool) (a : Addr) : It where
  go := fun i H => ∃ (xs : List V) (x : V), Sq K b H a xs ∧ xs[i]? = some x
  yld := fun i H v H' => ∃ T x, v = .ref T ∧ H T = none ∧ H' = upd H T (.tup [.int (i : Nat), x]) ∧ ∀ xs, Sq K b H a xs → xs[i]? = some x
  stop := fun i H => ∃ xs : List V, Sq K b H a xs ∧ xs.length = i
theorem iterAt.mono {b : Bool} {h h' : Heap} {it a : Addr} {i : Nat} (x : iterAt b h it a i) (k : ∀ o, h.get? it = some o → h'.get? it = some o) : iterAt b h' it a i := by
  cases b with
  | true => exact Heap.IsListIter.at x k
  | false => exact Heap.IsTupleIter.at x k
theorem iterAt.plain {b : Bool} {h : Heap} {it a : Addr} {i : Nat} (x : iterAt b h it a i) : ∃ o, h.get? it = some o ∧ ∀ v, o.data ≠ .cell v := by
  cases b with
  | true => obtain ⟨o, e, _, d⟩ := x; exact ⟨o, e, fun v z => by rw [d] at z; cases z⟩
  | false => obtain ⟨o, e, _, d⟩ := x; exact ⟨o, e, fun v z => by rw [d] at z; cases z⟩
section
variable {P : Program} {w : World} {A : Around} {E : Value → Shared → Prop} {s : Shared}
/-- one more of an enumeration, of either kind -/
theorem enum_item {b : Bool} {e it a : Addr} {i : Nat} {its : List Value} {u old : Value} {Q : Option Value → Shared → Prop} (hh : A.handled = none) (he : IsEnum s.heap e it i old) (hit : iterAt b s.heap it a i)
    (hp : Liv b s.heap a its) (hu : its[i]? = some u) (hne : e ≠ it) (hae : a ≠ e) (hai : a ≠ it)
    (hQ : ∀ h' tk, IsEnumOut h' e it ((i : Int) + 1) u s.heap.objs.size → iterAt b h' it a (i + 1) → h'.get? s.heap.objs.size = some { cls := .type "tuple", data := .seq #[.int i tk, u] } →
      (∀ b o, b ≠ e → b ≠ it → s.heap.get? b = some o → h'.get? b = some o) → Q (some (.ref s.heap.objs.size)) { s with heap := h', toks := tk + 1 }) : wpAny (model P w) A (pyNext (.ref e)) Q E s := by
  have hlt : i < its.toArray.size := by
    rw [List.size_toArray]
    exact (List.getElem?_eq_some_iff.mp hu).1
  have hef : e ∉ [it, a] := fun z => by
    rcases List.mem_cons.mp z with z | z
    · exact hne z
    · exact hae (List.mem_singleton.mp z).symm
  have same : ∀ {x : Value}, its.toArray[i]? = some x → x = u := fun {x} z => by
    rw [List.getElem?_toArray, hu] at z
    exact (Option.some.inj z).symm
  cases b with
  | true =>
    refine wpAny_pyNext_enum_itemD (Draws.list (A := A.in1) hh it a hai its.toArray) he ⟨hit, hp⟩ hlt hne hef fun x h' tk hP ho hs' hT hsz hk => ?_
    rw [same hP] at ho hT
    exact hQ h' tk ho hs'.1 hT hk
  | false =>
    refine wpAny_pyNext_enum_itemD (Draws.tuple (A := A.in1) hh it a hai its.toArray) he ⟨hit, hp⟩ hlt hne hef fun x h' tk hP ho hs' hT hsz hk => ?_
    rw [same hP] at ho hT
    exact hQ h' tk ho hs'.1 hT hk
theorem enum_end {b : Bool} {e it a : Addr} {i : Nat} {its : List Value} {old : Value} {Q : Option Value → Shared → Prop} (hh : A.handled = none) (he : IsEnum s.heap e it i old) (hit : iterAt b s.heap it a i)
    (hp : Liv b s.heap a its) (hi : i = its.length) (hai : a ≠ it)
    (hQ : ∀ h', Heap.ExtBut it s.heap h' → Q none { s with heap := h' }) : wpAny (model P w) A (pyNext (.ref e)) Q E s := by
  subst hi
  have z : its.toArray.size = its.length := List.size_toArray
  cases b with
  | true => exact wpAny_pyNext_enum_endD (Draws.list (A := A.in1) hh it a hai its.toArray) he ⟨z ▸ hit, hp⟩ hQ
  | false => exact wpAny_pyNext_enum_endD (Draws.tuple (A := A.in1) hh it a hai its.toArray) he ⟨z ▸ hit, hp⟩ hQ
end
theorem sq_lives {X : Cx} {pins : List (Addr × Obj)} {σ : L2.St} {H : Hp} {s : Shared} {b : Bool} {a : Addr} {xs : List V} (I : Inv X pins σ H s) (h : Sq X.K b H a xs) :
    ∃ its : List Value, Vals xs its ∧ Liv b s.heap a its := by
  cases b with
  | true => obtain ⟨its, rv, p, _⟩ := I.list h; exact ⟨its, rv, p.isList⟩
  | false => obtain ⟨its, rv, p, _⟩ := I.tuple h; exact ⟨its, rv, p⟩
theorem lives_ne {b : Bool} {h : Heap} {a : Addr} {its : List Value} {e : Addr} {o : Obj} {n : String} (p : Liv b h a its) (he : h.get? e = some o) (hc : o.cls = .type n) (n1 : n ≠ "list") (n2 : n ≠ "tuple") : a ≠ e := by
  rintro rfl
  cases b with
  | true => obtain ⟨o', e', c', _⟩ := p; rw [he] at e'; cases e'; rw [hc] at c'; cases c'; exact n1 rfl
  | false => obtain ⟨o', e', c', _⟩ := p; rw [he] at e'; cases e'; rw [hc] at c'; cases c'; exact n2 rfl
theorem iterAt.cls {b : Bool} {h : Heap} {it a : Addr} {i : Nat} (x : iterAt b h it a i) : ∃ o n, h.get? it = some o ∧ o.cls = .type n ∧ n ≠ "list" ∧ n ≠ "tuple" := by
  cases b with
  | true => obtain ⟨o, e, c, _⟩ := x; exact ⟨o, _, e, c, by decide, by decide⟩
  | false => obtain ⟨o, e, c, _⟩ := x; exact ⟨o, _, e, c, by decide, by decide⟩
theorem turn_en {P : Program} {w : World} {K : PySem.W.Frag} {elts : List Expr} {kk : Nat} {tpos : Pos} (b : Bool) (a e it : Addr) :
    Turn P w K (.Tuple elts kk tpos) (ItN K b a) [e, it] e (fun i h => (∃ old, IsEnum h e it ((i : Nat) : Int) old) ∧ iterAt b h it a i ∧ e ≠ it) where
  mem := List.mem_cons_self
  obj := fun i h ⟨⟨old, he⟩, hi, _⟩ c hc => by
    rcases List.mem_cons.mp hc with z | z
    · rw [z]; exact ⟨_, he, fun v q => nomatch q⟩
    · rw [List.mem_singleton.mp z]; exact hi.plain
  keep := fun i h h' ⟨⟨old, he⟩, hi, hne⟩ k => ⟨⟨old, k e List.mem_cons_self _ he⟩, hi.mono fun o q => k it (List.mem_cons_of_mem _ List.mem_cons_self) o q, hne⟩
  self := fun A i s Q E ⟨⟨_, he⟩, _⟩ h => wpAny_pyIter_enum he h
  done := by
    intro X hP hw hK hc i pins s σ H E I hf ⟨⟨old, he⟩, hit, hne⟩ ⟨xs, hq, hx⟩
    subst hP hw hK
    obtain ⟨its, rv, p⟩ := sq_lives I hq
    obtain ⟨oi, ni, hoi, ci, ni1, ni2⟩ := hit.cls
    obtain ⟨f0, f1, f2, f3, f4, f5⟩ := hf it (List.mem_cons_of_mem _ List.mem_cons_self)
    refine enum_end (I.ok.hd hc) he hit p (hx.symm.trans rv.length) (lives_ne p hoi ci ni1 ni2) fun h' eb => ?_
    exact ⟨rfl, I.turned (t' := s.toks) (fun c o hb q => eb c o hb q) f0 f1 f3 f4 f5⟩
  item := by
    intro X hP hw hK hc i pins s σ H E I hf ⟨⟨old, he⟩, hit, hne⟩ ⟨xs, x, hq, hx⟩
    subst hP hw hK
    obtain ⟨its, rv, p⟩ := sq_lives I hq
    obtain ⟨u, hu, ru⟩ := rv.get hx
    have he0 := he
    have hel : e < s.heap.objs.size := Heap.lt_size he
    obtain ⟨oi, ni, hoi, ci, ni1, ni2⟩ := hit.cls
    have hil : it < s.heap.objs.size := Heap.lt_size hoi
    refine enum_item (I.ok.hd hc) he hit p hu hne (lives_ne p he0 rfl (by decide) (by decide)) (lives_ne p hoi ci ni1 ni2) fun h' tk ho hit' hT hk => ?_
    refine ⟨_, rfl, wpAny_letOwnedTupleGo_enum (s := { s with heap := h', toks := tk + 1 }) ho fun h'' he' sb => ?_⟩
    have hT2 := (sb.2 s.heap.objs.size (Nat.ne_of_gt hel)).trans hT
    have I1 : Inv X pins σ (upd H s.heap.objs.size (.tup [.int (i : Nat), x])) { s with heap := h'', toks := tk + 1 } :=
      I.turnedNew (ch := [e, it]) (fun c ob hb q => (sb.2 c fun z => hb (z ▸ List.mem_cons_self)).trans (hk c ob (fun z => hb (z ▸ List.mem_cons_self)) (fun z => hb (z ▸ List.mem_cons_of_mem _ List.mem_cons_self)) q)) hf (Nat.le_refl _)
        (show ObjOk X.prog X.w _ h'' _ (.tup [.int (i : Nat), x]) from ⟨by show 2 ≤ sizeLine; decide, [.int i tk, u], .cons ⟨_, rfl⟩ (.cons ru .nil), _, hT2, rfl, _, rfl⟩)
    refine ⟨.ref s.heap.objs.size, _, I1, rfl, ⟨_, x, rfl, I.hok.fresh (Nat.le_refl _), rfl, fun ys hy => by rw [hy.inj I hq]; exact hx⟩, ⟨⟨u, ?_⟩, hit'.mono fun o q => (sb.2 it hne.symm).trans q, hne⟩, fun c hcm => ?_⟩
    · have e1 : ((i + 1 : Nat) : Int) = (i : Int) + 1 := by omega
      rw [e1]
      exact he'
    · rcases List.mem_cons.mp hcm with z | z
      · rw [z, upd_ne (Nat.ne_of_lt hel)]
        exact (hf e List.mem_cons_self).1
      · rw [List.mem_singleton.mp z, upd_ne (Nat.ne_of_lt hil)]
        exact (hf it (List.mem_cons_of_mem _ List.mem_cons_self)).1

/-! ### enumerate(v), its making -/
set_option maxHeartbeats 1000000 in
theorem new_enum {v : Value} {o : Obj} {Hv : Heap → Prop} (B : Begins v o Hv) : Meets (Builtin.«enumerate.__new__» ⟨[.type "enumerate", v], []⟩) (fun _ R s => Hv s.heap ∧
      R (.ok (.ret (.ref (s.heap.push o).objs.size))) { s with heap := (s.heap.push o).push { cls := .type "enumerate", data := .fields #[.none, .bool false, .ref s.heap.objs.size, rawInt 0, .none, .none] } }) :=
  .of_wp fun prog w A R s ⟨h1, h⟩ => by
    obtain ⟨hp, g, d, tk, os⟩ := s
    have hsub := sub_enumerate
    have q1 : ∀ {A' : Around} {E : Value → Shared → Prop} {Q : Value → Shared → Prop}, Q (.ref hp.objs.size) ⟨hp.push o, g, d, tk, os⟩ → wpAny (model prog w) A' (pyIter v) Q E ⟨hp, g, d, tk, os⟩ := B.iter prog w _ _ ⟨hp, g, d, tk, os⟩ _ h1
    wp_walk using q1
    refine wpAny_stack_any fun st => wpAny_pure ?_
    split
    · rename_i c _ _ _ _ _
      cases (c == Value.type "enumerate") <;> (wp_walk using q1; exact ⟨_, rfl, h⟩)
    · wp_walk using q1
      exact ⟨_, rfl, h⟩
section
variable {P : Program} {w : World} {A : Around} {E : Value → Shared → Prop} {s : Shared}
theorem enum_made {v : Value} {o : Obj} {Hv : Heap → Prop} {Q : Value → Shared → Prop} (B : Begins v o Hv) (h1 : Hv s.heap)
    (h : ∀ h', IsEnum h' (s.heap.objs.size + 1) s.heap.objs.size 0 .none → h'.get? s.heap.objs.size = some o → (∀ b o, s.heap.get? b = some o → h'.get? b = some o) → Q (.ref (s.heap.objs.size + 1)) { s with heap := h' }) :
    wpAny (model P w) A (call (.type "enumerate") [v]) Q E s := by
  refine callType_new F.called_enumerate (by decide) (F.typeCall_enumerate_1 _) (F.newCall_enumerate_1 _) (fun obj => F.args_object_init_2 obj _) F.entry_enumerate_new (new_enum B) ⟨h1, ?_⟩
  have hz : (s.heap.push o).objs.size = s.heap.objs.size + 1 := Heap.size_push ..
  have he := Heap.get?_push_size (s.heap.push o) (o := { cls := .type "enumerate", data := .fields #[.none, .bool false, .ref s.heap.objs.size, rawInt 0, .none, .none] }) rfl
  show _ ∧ _
  rw [hz] at he ⊢
  exact ⟨⟨_, he, rfl⟩, h _ he (Heap.get?_push_of_some _ (Heap.get?_push_size _ B.free)) fun b o x => Heap.get?_push_of_some _ (Heap.get?_push_of_some _ x)⟩
end
def iEnS (K : PySem.W.Frag) (ta : TA) : TI := fun σ H R => ta σ H fun vs H1 => ∃ a b xs, vs = [.ref a] ∧ Sq K b H1 a xs ∧ R (ItN K b a) H1
theorem pi_en {X : Cx} {e : Expr} {ta : TA} {p pos tpos : Pos} {elts : List Expr} {kk : Nat} (hg : Gl X "enumerate") (hm : X.mg "enumerate" = none) (ha : PA X [e] ta) (hs : starEach [e] X.env = [(false, eval e X.env)] := by rfl) :
    PI X (.Tuple elts kk tpos) (.Call (.Name "enumerate" p) [e] [] pos) (iEnS X.K ta) := by
  refine ⟨fun pins s σ H R I h => Call_ (ld_blt I hg hm boot_enumerate (PyProof.Rows.callWith_type1 (thn (ha.run pos pins s σ H _ I h) fun us s1 ⟨vs, H1, I1, r1, a, b, xs, ex, hq, q⟩ => ?_) hs rfl))⟩
  subst ex
  cases r1 with
  | cons r rr =>
    cases rr
    cases r
    obtain ⟨its, rv, p'⟩ := sq_lives I1 hq
    have fin : ∀ (h' : Heap), IsEnum h' (s1.heap.objs.size + 1) s1.heap.objs.size 0 .none → iterAt b h' s1.heap.objs.size a 0 → (∀ c o, s1.heap.get? c = some o → h'.get? c = some o) →
        wpAny (model X.prog X.w) X.A (pyIter (.ref (s1.heap.objs.size + 1))) (PIE X pins σ (.Tuple elts kk tpos) R) X.xe { s1 with heap := h' } := fun h' he hit hk => by
      refine wpAny_pyIter_enum (s := { s1 with heap := h' }) he ⟨s1.heap.objs.size + 1, [s1.heap.objs.size + 1, s1.heap.objs.size], _, _, H1, rfl, I1.kept (t' := s1.toks) hk, turn_en b a (s1.heap.objs.size + 1) s1.heap.objs.size, ⟨⟨.none, he⟩, hit, Nat.succ_ne_self _⟩, fun c hc => ?_, q⟩
      have hle : s1.heap.objs.size ≤ c := by
        rcases List.mem_cons.mp hc with z | z
        · rw [z]; exact Nat.le_add_right _ _
        · rw [List.mem_singleton.mp z]; exact Nat.le_refl _
      exact I1.fpOk hle (I1.hok.fresh hle)
    cases b with
    | true => exact enum_made (begins_list a its.toArray) p' fun h' he ho hk => fin h' he ⟨_, ho, rfl, rfl⟩ hk
    | false => exact enum_made (begins_tuple a its.toArray) p' fun h' he ho hk => fin h' he ⟨_, ho, rfl, rfl⟩ hk
theorem for_en {K : PySem.W.Frag} {b : Bool} {a : Addr} {xs : List V} {g : TG} {tb : TS} {D : Ends} {σ : L2.St} {H : Hp} (Pv : Nat → L2.St → Hp → Prop) (h0 : Pv 0 σ H) (hl : ∀ i σ H, i ≤ xs.length → Pv i σ H → Sq K b H a xs)
    (hs : ∀ (i : Nat) (x : V) (T : Addr) (σ : L2.St) (H : Hp), xs[i]? = some x → H T = none → Pv i σ H → g (.ref T) σ (upd H T (.tup [.int (i : Nat), x])) fun σ2 H2 => tb { D with nx := Pv (i + 1), ct := Pv (i + 1), bk := D.nx } σ2 H2) (hd : ∀ σ H, Pv xs.length σ H → D.nx σ H) :
    ∃ W : Nat → Nat → L2.St → Hp → Prop, (∃ m, W 0 m σ H) ∧ ∀ i m σ H, W i m σ H →
      ((ItN K b a).stop i H ∧ D.nx σ H) ∨ ((ItN K b a).go i H ∧ ∃ N : L2.St → Hp → Prop, (∀ σ' H', N σ' H' → ∃ m', m' < m ∧ W (i + 1) m' σ' H') ∧
        ∀ x H', (ItN K b a).yld i H x H' → g x σ H' fun σ2 H2 => tb { D with nx := N, ct := N, bk := D.nx } σ2 H2) := by
  refine ⟨fun i m σ H => m = xs.length - i ∧ i ≤ xs.length ∧ Pv i σ H, ⟨xs.length, rfl, Nat.zero_le _, h0⟩, fun i m σ H ⟨em, hi, p⟩ => ?_⟩
  have q := hl i σ H hi p
  rcases Nat.lt_or_eq_of_le hi with lt | e
  · refine .inr ⟨⟨xs, xs[i], q, List.getElem?_eq_getElem lt⟩, Pv (i + 1), fun σ' H' p' => ⟨xs.length - (i + 1), by omega, rfl, lt, p'⟩, fun v H' ⟨T, x, ev, nT, eH, at_⟩ => ?_⟩
    subst ev eH
    exact hs i x T σ H (at_ xs q) nT p
  · subst e
    exact .inl ⟨⟨xs, q, rfl⟩, hd σ H p⟩
end KnE

set_option Elab.async false
set_option linter.all false
set_option maxRecDepth 100000
set_option maxHeartbeats 4000000
/-! What a walk of a comprehension asks: into a set over a list or a tuple, into a dict over a list. -/
namespace KnC
open PySem PySem.Spec PyProof.Rows L2
theorem sc_seq {P : Program} {w : World} {K : PySem.W.Frag} {b : Bool} {a : Addr} {xs : List V} {g : TG} {tt : TT} {te : TE} {vs : List Nat} {σ : L2.St} {H1 : Hp} {D : Addr} {Qd : Hp → Prop} (Pv : Nat → Hp → Prop) (h0 : Pv 0 (upd H1 D (KnS.SetL P w D []))) (hl : ∀ i H, i ≤ xs.length → Pv i H → KnE.Sq K b H a xs)
    (hs : ∀ i x H, xs[i]? = some x → Pv i H → g x (wipe σ vs) H fun σ2 H2 => wipe σ2 vs = wipe σ vs ∧ tt σ2 H2 fun c H3 =>
      if c = true then te σ2 H3 fun y H4 => ∃ (k : Key) (ks : List Key), y = kV k ∧ H4 D = some (KnS.SetL P w D ks) ∧ ks.length + 1 < scanBound ∧ Pv (i + 1) (upd H4 D (KnS.SetL P w D (KnS.addL ks k))) else Pv (i + 1) H3) (hd : ∀ H, Pv xs.length H → Qd H) :
    ∃ W : Nat → Nat → Hp → Prop, (∃ m, W 0 m (upd H1 D (KnS.SetL P w D []))) ∧ ∀ i m H, W i m H → ((KnE.ItS K b a).stop i H ∧ Qd H) ∨
      ((KnE.ItS K b a).go i H ∧ ∃ Nx : Hp → Prop, (∀ H', Nx H' → ∃ m', m' < m ∧ W (i + 1) m' H') ∧ ∀ x H', (KnE.ItS K b a).yld i H x H' → g x (wipe σ vs) H' fun σ2 H2 => wipe σ2 vs = wipe σ vs ∧ tt σ2 H2 fun c H3 =>
        if c = true then te σ2 H3 fun y H4 => ∃ (k : Key) (ks : List Key), y = kV k ∧ H4 D = some (KnS.SetL P w D ks) ∧ ks.length + 1 < scanBound ∧ Nx (upd H4 D (KnS.SetL P w D (KnS.addL ks k))) else Nx H3) := by
  refine ⟨fun i m H => m = xs.length - i ∧ i ≤ xs.length ∧ Pv i H, ⟨xs.length, by simp, Nat.zero_le _, h0⟩, ?_⟩
  rintro i m H ⟨rfl, hi, p⟩
  have q := hl i H hi p
  cases b with
  | true =>
    by_cases hlt : i < xs.length
    · refine .inr ⟨⟨xs, xs[i], q, by simp [hlt]⟩, Pv (i + 1), fun H' p' => ⟨xs.length - (i + 1), by omega, rfl, hlt, p'⟩, fun x H' y => ?_⟩
      obtain ⟨e, y⟩ := y
      subst e
      exact hs i x _ (y xs q) p
    · have e : i = xs.length := by omega
      subst e
      exact .inl ⟨⟨xs, q, Nat.le_refl _⟩, hd H p⟩
  | false =>
    by_cases hlt : i < xs.length
    · refine .inr ⟨⟨xs, xs[i], q, by simp [hlt]⟩, Pv (i + 1), fun H' p' => ⟨xs.length - (i + 1), by omega, rfl, hlt, p'⟩, fun x H' y => ?_⟩
      obtain ⟨e, y⟩ := y
      subst e
      exact hs i x _ (y xs q) p
    · have e : i = xs.length := by omega
      subst e
      exact .inl ⟨⟨xs, q, Nat.le_refl _⟩, hd H p⟩
theorem dc_list {K : PySem.W.Frag} {a : Addr} {xs : List V} {g : TG} {tt : TT} {tk tv : TE} {vs : List Nat} {σ : L2.St} {H1 : Hp} {D : Addr} {Qd : Hp → Prop} (Pv : Nat → Hp → Prop) (h0 : Pv 0 (upd H1 D (.dK []))) (hl : ∀ i H, i ≤ xs.length → Pv i H → SqL K H a xs)
    (hs : ∀ i x H, xs[i]? = some x → Pv i H → g x (wipe σ vs) H fun σ2 H2 => wipe σ2 vs = wipe σ vs ∧ tt σ2 H2 fun b H3 =>
      if b = true then tk σ2 H3 fun y H4 => tv σ2 H4 fun z H5 => ∃ kvs k, y = kV k ∧ H5 D = some (.dK kvs) ∧ kvs.length < sizeLine ∧ Pv (i + 1) (upd H5 D (.dK (putK kvs k z))) else Pv (i + 1) H3) (hd : ∀ H, Pv xs.length H → Qd H) :
    ∃ W : Nat → Nat → Hp → Prop, (∃ m, W 0 m (upd H1 D (.dK []))) ∧ ∀ i m H, W i m H →
      ((Itl K a).stop i H ∧ Qd H) ∨ ((Itl K a).go i H ∧ ∃ Nx : Hp → Prop, (∀ H', Nx H' → ∃ m', m' < m ∧ W (i + 1) m' H') ∧ ∀ x H', (Itl K a).yld i H x H' → g x (wipe σ vs) H' fun σ2 H2 => wipe σ2 vs = wipe σ vs ∧ tt σ2 H2 fun b H3 =>
        if b = true then tk σ2 H3 fun y H4 => tv σ2 H4 fun z H5 => ∃ kvs k, y = kV k ∧ H5 D = some (.dK kvs) ∧ kvs.length < sizeLine ∧ Nx (upd H5 D (.dK (putK kvs k z))) else Nx H3) := by
  refine ⟨fun i m H => m = xs.length - i ∧ i ≤ xs.length ∧ Pv i H, ⟨xs.length, by simp, Nat.zero_le _, h0⟩, ?_⟩
  rintro i m H ⟨rfl, hi, p⟩
  have q := hl i H hi p
  by_cases hlt : i < xs.length
  · refine .inr ⟨⟨xs, xs[i], q, by simp [hlt]⟩, Pv (i + 1), fun H' p' => ⟨xs.length - (i + 1), by omega, rfl, hlt, p'⟩, fun x H' y => ?_⟩
    obtain ⟨e, y⟩ := y
    subst e
    exact hs i x _ (y xs q) p
  · have e : i = xs.length := by omega
    subst e
    exact .inl ⟨⟨xs, q, Nat.le_refl _⟩, hd H p⟩
/-- a list comprehension over a dict's keys -/
theorem lc_keys {d : Addr} {o : Obj} {kvs : List (Key × V)} {g : TG} {tt : TT} {te : TE} {vs : List Nat} {σ : L2.St} {H1 : Hp} {D : Addr} {Qd : Hp → Prop} (Pv : Nat → Hp → Prop) (h0 : Pv 0 (upd H1 D (.lst []))) (hl : ∀ i H, i ≤ kvs.length → Pv i H → H d = some (.frz o (.dK kvs)))
    (hs : ∀ i k v H, kvs[i]? = some (k, v) → Pv i H → g (kV k) (wipe σ vs) H fun σ2 H2 => wipe σ2 vs = wipe σ vs ∧ tt σ2 H2 fun b H3 =>
      if b = true then te σ2 H3 fun y H4 => ∃ acc, H4 D = some (.lst acc) ∧ acc.length < sizeLine ∧ Pv (i + 1) (upd H4 D (.lst (acc ++ [y]))) else Pv (i + 1) H3) (hd : ∀ H, Pv kvs.length H → Qd H) :
    ∃ W : Nat → Nat → Hp → Prop, (∃ m, W 0 m (upd H1 D (.lst []))) ∧ ∀ i m H, W i m H →
      ((Itk d o kvs).stop i H ∧ Qd H) ∨ ((Itk d o kvs).go i H ∧ ∃ Nx : Hp → Prop, (∀ H', Nx H' → ∃ m', m' < m ∧ W (i + 1) m' H') ∧ ∀ x H', (Itk d o kvs).yld i H x H' → g x (wipe σ vs) H' fun σ2 H2 => wipe σ2 vs = wipe σ vs ∧ tt σ2 H2 fun b H3 =>
        if b = true then te σ2 H3 fun y H4 => ∃ acc, H4 D = some (.lst acc) ∧ acc.length < sizeLine ∧ Nx (upd H4 D (.lst (acc ++ [y]))) else Nx H3) := by
  refine ⟨fun i m H => m = kvs.length - i ∧ i ≤ kvs.length ∧ Pv i H, ⟨kvs.length, by simp, Nat.zero_le _, h0⟩, ?_⟩
  rintro i m H ⟨rfl, hi, p⟩
  have q := hl i H hi p
  by_cases hlt : i < kvs.length
  · refine .inr ⟨⟨q, hlt⟩, Pv (i + 1), fun H' p' => ⟨kvs.length - (i + 1), by omega, rfl, hlt, p'⟩, fun x H' y => ?_⟩
    obtain ⟨e, k, v, ek, ex⟩ := y
    subst e ex
    exact hs i k v _ ek p
  · have e : i = kvs.length := by omega
    subst e
    exact .inl ⟨⟨q, Nat.le_refl _⟩, hd H p⟩
/-- texts as keys -/
theorem addL_strs {xs : List Str} {x : Str} : KnS.addL (xs.map Sum.inr) (Sum.inr x) = ((if x ∈ xs then xs else xs ++ [x]).map Sum.inr : List Key) := by
  unfold KnS.addL
  by_cases z : x ∈ xs
  · rw [if_pos z, if_pos (KnS.hasL_iff.mpr (List.mem_map.mpr ⟨x, z, rfl⟩))]
  · rw [if_neg z, if_neg (fun q => z (by obtain ⟨y, hy, e⟩ := List.mem_map.mp (KnS.hasL_iff.mp q); cases e; exact hy)), List.map_append]; rfl
/-- a list or a tuple by a place -/
def rIx (K : PySem.W.Frag) : R2 := fun x y H Q => rIxL K x y H Q ∨ rIxT K x y H Q
theorem ix_seq {X : Cx} {K : PySem.W.Frag} (h1 : IxR X (rIxL K)) (h2 : IxR X (rIxT K)) : IxR X (rIx K) := by
  intro value slice pins s σ H x y v u Q I rx ry h hs
  rcases h with h | h
  · exact h1 value slice pins s σ H x y v u Q I rx ry h hs
  · exact h2 value slice pins s σ H x y v u Q I rx ry h hs
/-- a branch, and what comes behind both its ways -/
theorem if_then {c : TT} {t u b : TS} {D : Ends} {σ : L2.St} {H : Hp} (T : L2.St → Hp → Prop) (h : (∀ σ2 H2, T σ2 H2 → b D σ2 H2) → tSeq (tIfS c t u) b D σ H) (k : ∀ σ2 H2, T σ2 H2 → b D σ2 H2) : tSeq (tIfS c t u) b D σ H := h k
theorem asg_if {i : Nat} {x : V} {c : TT} {t u b : TS} {D : Ends} {ra : VK} {rb rc : L2.St → Hp → Prop} {σ : L2.St} {H : Hp} (T : L2.St → Hp → Prop) (h : (∀ σ2 H2, T σ2 H2 → b D σ2 H2) → tSeq (tIfS c t u) b D (σ.set i (some x)) H) (k : ∀ σ2 H2, T σ2 H2 → b D σ2 H2) : gName i x σ H (Ends.nx { nx := tSeq (tIfS c t u) b D, rt := ra, ct := rb, bk := rc }) := h k
theorem nx_if {c : TT} {t u b : TS} {D : Ends} {ra : VK} {rb rc : L2.St → Hp → Prop} {σ : L2.St} {H : Hp} (T : L2.St → Hp → Prop) (h : (∀ σ2 H2, T σ2 H2 → b D σ2 H2) → tSeq (tIfS c t u) b D σ H) (k : ∀ σ2 H2, T σ2 H2 → b D σ2 H2) : Ends.nx { nx := tSeq (tIfS c t u) b D, rt := ra, ct := rb, bk := rc } σ H := h k
theorem un65 {k : Nat} {A : Around} (r : Room k A) : A.units + 65 < cLine := by have := r.un; omega
end KnC

set_option Elab.async false
set_option linter.all false
set_option maxRecDepth 100000
set_option maxHeartbeats 4000000
/-! list(d.values()). -/
namespace KnM
open PySem PySem.Spec PyProof.Rows L2
def tListVals (td : TE) : TE := fun σ H Q => td σ H fun x H1 => ∃ d kvs, x = .ref d ∧ Rd H1 d (.dK kvs) ∧ ∀ p, H1 p = none → Q (.ref p) (upd H1 p (.lst (kvs.map (·.2))))
theorem vals_kv {kvs : List (Key × V)} {vs : List (Key × Value)} (r : KV kvs vs) : Vals (kvs.map (·.2)) (vs.map (·.2)) := by
  unfold KV at r
  induction r with
  | nil => exact .nil
  | cons h _ ih => exact .cons h.2 ih
section
variable {X : Cx} {e : Expr} {td : TE} {p pos apos cpos : Pos}
theorem pe_listVals (hc : X.calm = true) (hg : Gl X "list") (hm : X.mg "list" = none) (he : PE X e td) (hbase : attributeBase e "values" X.env (eval e X.env) = eval e X.env := by rfl) (hline : (apos.endLine == cpos.line) = true := by rfl)
    (hs : starEach [.Call (.Attribute e "values" apos) [] [] cpos] X.env = (false, eval (.Call (.Attribute e "values" apos) [] [] cpos) X.env) :: starEach [] X.env := by rfl) :
    PE X (.Call (.Name "list" p) [.Call (.Attribute e "values" apos) [] [] cpos] [] pos) (tListVals td) := by
  refine ⟨fun pins s σ H Q I h => Call_ (ld_blt I hg hm boot_list ?_)⟩
  refine PyProof.Rows.callWith_type1 (PyProof.Rows.args_cons ?_ hs) hs rfl
  refine wpAny_Call_method (T := "dict") (id := "dict.values") hbase rfl hline F.plainAttrs_dict F.slot_dict_values F.type_dict_values (thn (he.run pins s σ H _ I h) fun u s1 ⟨x, H1, I1, rx, d, kvs, ex, hd, q⟩ => ?_)
  subst ex
  obtain rfl : u = Value.ref d := rx
  obtain ⟨z, lo, vs, rel, dd⟩ := dk_rd I1.hok hd
  obtain ⟨ep, hat⟩ := dd.dictAt
  refine ⟨dd.typeIs, dd.mapOf.noDict, ?_⟩
  show wpAny _ _ (callWith cpos (.builtin "dict.values") [.ref d] [] []) _ X.xe s1
  refine method_meetsIn F.slot_dict_values F.entry_dict_values rfl (PySem.evalArgs_none ⟨rfl, dd.typeIs, F.args_dict_values_1 _, _, meets_dict_values (mixKind X.prog X.w) d lo, ⟨vs, dd⟩, ?_⟩)
  refine PyProof.Rows.args_nil ?_
  generalize hh : s1.heap.push { cls := .type "dict_values", data := .fields #[.ref d] } = h2
  have k2 : ∀ b o, s1.heap.get? b = some o → h2.get? b = some o := fun b o e => hh ▸ Heap.get?_push_of_some _ e
  have view : h2.IsValuesView s1.heap.objs.size d := by
    rw [← hh]
    exact ⟨_, Heap.get?_push_size _ rfl, rfl, rfl⟩
  have hat2 : h2.DictAt (mixKind X.prog X.w) d vs ep := hh ▸ hat.push _
  have I2 : Inv X pins σ H1 { s1 with heap := h2 } := I1.kept (t' := s1.toks) k2
  refine PySem.W.kdl_call (s := { s1 with heap := h2 }) (PySem.W.kdl_values (knd := mixKind X.prog X.w) (kvs := vs) (ep := ep) (r := s1.heap.objs.size)) (I1.ok.hd hc) ⟨view, hat2⟩ (by rw [← rel.length]; exact z) fun h' tk acc c' hk hD hacc => ?_
  have e1 : acc.toList = vs.map (·.2) := PySem.W.kdl_vals_eq _ (by rw [Array.length_toList]; exact hacc.1) fun j v e => hacc.2 j v (by rw [← Array.getElem?_toList]; exact e)
  refine ⟨.ref h2.objs.size, upd H1 h2.objs.size (.lst (kvs.map (·.2))), I2.laid (t' := tk) hk (Nat.le_refl _) (show ObjOk X.prog X.w _ _ _ (.lst (kvs.map (·.2))) from ⟨by rw [List.length_map]; exact z, acc.toList, c', by rw [e1]; exact vals_kv rel, by rw [Array.toArray_toList]; exact hD⟩), rfl, q _ (I2.hok.fresh (Nat.le_refl _))⟩
end
end KnM

set_option Elab.async false
set_option linter.all false
set_option maxRecDepth 100000
set_option maxHeartbeats 4000000
/-! A property by its promise. -/
namespace KnP
open PySem PySem.Spec PyProof.Rows L2
structure Prp (P : Program) (w : World) (K : PySem.W.Frag) (mg : Str → Option Value) (base : Heap) (k : Nat) (C : Addr) (f : Str) (sp : Sp) : Prop where
  ex : ∃ (p g : Addr) (fd : FuncData) (ps : List Str), PropOf K C f p g ∧ FnOk P w K mg base CX0 k g fd ps sp ∧ Binds K fd ps []
theorem pe_prp {X : Cx} {k j : Nat} {C : Addr} {f : Str} {sp : Sp} {e : Expr} {ta : TE} {pos : Pos} (cl : Cls X.K C) (c : Prp X.prog X.w X.K X.mg X.base k C f sp) (hr : Room j X.A) (hk : k + 1 ≤ j) (he : PE X e ta)
    (hab : attributeBase e f X.env (eval e X.env) = eval e X.env := by rfl) : PE X (.Attribute e f pos) (tProp C sp [] E0 ta) := by
  obtain ⟨p, g, fd, ps, hp, F, b⟩ := c.ex
  exact pe_prop he cl hp F (hr.mono hk) b .nil pass0 hab
end KnP

set_option Elab.async false
set_option linter.all false
set_option maxRecDepth 100000
set_option maxHeartbeats 4000000
/-! Own special methods by their promises. -/
namespace KnW
open PySem PySem.Spec PyProof.Rows L2
structure Own (P : Program) (w : World) (K : PySem.W.Frag) (mg : Str → Option Value) (base : Heap) (k : Nat) (C : Addr) (m : Str) (sp : Sp) : Prop where
  ex : ∃ (f : Addr) (fd : FuncData) (ps : List Str), PySem.W.findIn K (.ref C) m = some (some (.ref f)) ∧ PySem.W.isFn K (.ref f) = true ∧ PySem.W.fnIn K f = true ∧ FnOk P w K mg base CX0 k f fd ps sp ∧ Binds K fd ps []
section
variable {X : Cx} {k j : Nat} {C : Addr} {sp : Sp} {a b : Expr} {ta tb : TE} {pos : Pos}
/-- a def run one frame below -/
theorem run_in1 {CX : CXT} {f : Addr} {fd : FuncData} {ps : List Str} {E : XK} {pins : List (Addr × Obj)} {σ : L2.St} {H : Hp} {s : Shared} {Q : VK} {us : List Value} {vs : List V} (F : FnOk X.prog X.w X.K X.mg X.base CX k f fd ps sp) (hr : Room (k + 1) X.A) (hb : Binds X.K fd ps []) (hx : Passes CX X E)
    (I : Inv X pins σ H s) (r : Vals vs us) (h : sp vs H Q E) : wpAny (model X.prog X.w) X.A.in1 (call (.ref f) us) (EP X pins σ Q) X.xe s := by
  have hl : us.length = ps.length := by rw [← r.length]; exact F.len _ _ _ _ h
  have hb' := hb s us I.kIn (by simpa using hl)
  rw [List.append_nil] at hb'
  refine wpAny_call (codeAny_mono (F.run X.A.in1 X.stack s H ⟨us, []⟩ us vs Q E hr.in1 I.env0.in1 hb' r h) fun r s' hq => ?_)
  cases r with
  | error e => exact hx pins σ H s e s' I hq
  | ok fl =>
    cases fl with
    | ret u => exact I.after hq
    | next => exact False.elim hq
    | brk => exact False.elim hq
    | cont => exact False.elim hq
/-- o[i] by an own __getitem__ -/
def rOwn (C : Addr) (sp : Sp) : R2 := fun x y H Q => ∃ a dx fs, x = .ref a ∧ H a = some (.ins C dx fs) ∧ sp [.ref a, y] H Q E0
theorem pe_get (c : Own X.prog X.w X.K X.mg X.base k C "__getitem__" sp) (hr : Room j X.A) (hk : k + 1 ≤ j) (ha : PE X a ta) (hb : PE X b tb)
    (hs : ∀ v u, subscripted b true v u = runValue (.builtin "lifetime.subscript" ⟨[v, u], []⟩) := by exact fun _ _ => rfl) : PE X (.Subscript a b pos) (tOp (rOwn C sp) ta tb) := by
  obtain ⟨f, fd, ps, h1, h2, h3, F, bb⟩ := c.ex
  refine ⟨fun pins s σ H Q I h => ?_⟩
  refine Subscript_ (binT ha hb I h fun v u s2 x y H2 I2 rx ry q => ?_)
  obtain ⟨o, dx, fs, rfl, eo, q⟩ := q
  cases rx
  obtain ⟨mA, O, _⟩ := ins_get I2.hok eo
  obtain ⟨od, J, _⟩ := O.look
  obtain ⟨m, hF⟩ := I2.fr
  exact PySem.W.sub_K hF I2.ok.mod.kin J h1 h3 h2 (run_in1 (vs := [.ref o, y]) F (hr.mono hk) bb pass0 I2 (.cons rfl (.cons ry .nil)) q) (hs _ _)
/-- two instances of the class compared by its own __eq__, which answers a bool -/
def rOwnEq (C : Addr) (sp : Sp) : R2 := fun x y H Q => ∃ a b dx dy fs gs, x = .ref a ∧ y = .ref b ∧ H a = some (.ins C dx fs) ∧ H b = some (.ins C dy gs) ∧ sp [.ref a, .ref b] H (fun v H' => ∃ c, v = .bl c ∧ Q (.bl c) H') E0
theorem op_ownEq (c : Own X.prog X.w X.K X.mg X.base k C "__eq__" sp) (hr : Room j X.A) (hk : k ≤ j) : OpR X (compareOp .Eq) (rOwnEq C sp) := by
  obtain ⟨f, fd, ps, h1, h2, h3, F, bb⟩ := c.ex
  intro pins s σ H x y v u Q I rx ry hq
  obtain ⟨a, b, dx, dy, fs, gs, rfl, rfl, ha, hb, q⟩ := hq
  cases rx
  cases ry
  obtain ⟨mA, J, _⟩ := ins_get I.hok ha
  obtain ⟨mB, J', _⟩ := ins_get I.hok hb
  obtain ⟨od, J, _⟩ := J.look
  obtain ⟨od', J', _⟩ := J'.look
  obtain ⟨m, hF⟩ := I.fr
  show wpAny (model X.prog X.w) X.A (richCompare .Eq (.ref a) (.ref b)) (EP X pins σ Q) X.xe s
  refine PySem.W.cmp_K (op := .Eq) (tb := .ref C) hr.units0 hF I.ok.mod.kin J J'.type (by simp [PySem.W.notFirst]) h1 h2 ?_
  have r2 : Vals [V.ref a, V.ref b] [Value.ref a, Value.ref b] := .cons rfl (.cons rfl .nil)
  refine wpAny_mono (run_fn (vs := [.ref a, .ref b]) (us := [.ref a, .ref b]) (dvs := []) (ds := []) F (hr.mono hk) bb .nil pass0 I r2 q) (fun r s' hv => ?_) fun _ _ e => e
  obtain ⟨z, H', I', rz, c, ez, q2⟩ := hv
  subst ez
  cases rz
  exact ⟨.bl c, H', I', rfl, q2⟩
end
end KnW

set_option Elab.async false
set_option linter.all false
set_option maxRecDepth 100000
/-! Order of texts, of ints; the states that steps reach. -/
namespace KnA
open PySem PySem.Spec PyProof.Rows
theorem lt_irr : ∀ a : List Nat, ltCps a a = false
  | [] => rfl
  | x :: r => by
    show (decide (x < x) || (x == x && ltCps r r)) = false
    rw [lt_irr r, decide_eq_false (Nat.lt_irrefl x)]; simp
theorem le_trans_ : ∀ {a b c : List Nat}, ltCps b a = false → ltCps c b = false → ltCps c a = false
  | [], [], [], _, _ => rfl
  | [], [], _ :: _, _, _ => rfl
  | [], _ :: _, [], _, h => by cases h
  | [], _ :: _, _ :: _, _, _ => rfl
  | _ :: _, [], _, h, _ => by cases h
  | _ :: _, _ :: _, [], _, h => by cases h
  | x :: r, y :: t, z :: u, h1, h2 => by
    have h1' : (decide (y < x) || (y == x && ltCps t r)) = false := h1
    have h2' : (decide (z < y) || (z == y && ltCps u t)) = false := h2
    show (decide (z < x) || (z == x && ltCps u r)) = false
    rw [Bool.or_eq_false_iff, decide_eq_false_iff_not, Bool.and_eq_false_iff, beq_eq_false_iff_ne] at h1' h2' ⊢
    refine ⟨by omega, ?_⟩
    by_cases e : z = x
    · right
      have e1 : y = x := by omega
      have e2 : z = y := by omega
      exact le_trans_ (h1'.2.resolve_left fun q => q e1) (h2'.2.resolve_left fun q => q e2)
    · exact .inl e
theorem le_anti : ∀ {a b : List Nat}, ltCps b a = false → ltCps a b = false → a = b
  | [], [], _, _ => rfl
  | [], _ :: _, _, h2 => by cases h2
  | _ :: _, [], h1, _ => by cases h1
  | x :: r, y :: t, h1, h2 => by
    have h1' : (decide (y < x) || (y == x && ltCps t r)) = false := h1
    have h2' : (decide (x < y) || (x == y && ltCps r t)) = false := h2
    rw [Bool.or_eq_false_iff, decide_eq_false_iff_not, Bool.and_eq_false_iff, beq_eq_false_iff_ne] at h1' h2'
    have e : x = y := by omega
    subst e
    rw [le_anti (h1'.2.resolve_left fun q => q rfl) (h2'.2.resolve_left fun q => q rfl)]
def leS (a b : Str) : Prop := ltCps b.cps.toList a.cps.toList = false
theorem leS_trans {a b c : Str} (h1 : leS a b) (h2 : leS b c) : leS a c := le_trans_ h1 h2
theorem str_ext {a b : Str} (h : a.cps.toList = b.cps.toList) : a = b := by
  cases a; cases b
  exact congrArg Str.mk (Array.toList_inj.mp h)
theorem leS_anti {a b : Str} (h1 : leS a b) (h2 : leS b a) : a = b := str_ext (le_anti h1 h2)
theorem rising_pair : ∀ {p : Str} {l : List Str}, risingS p l = true → (p :: l).Pairwise leS
  | p, [], _ => List.pairwise_singleton _ _
  | p, x :: r, h => by
    have h' : (!ltCps x.cps.toList p.cps.toList && risingS x r) = true := h
    rw [Bool.and_eq_true, Bool.not_eq_true'] at h'
    have ih := rising_pair h'.2
    refine List.pairwise_cons.mpr ⟨fun y hy => ?_, ih⟩
    rcases List.mem_cons.mp hy with z | z
    · rw [z]; exact h'.1
    · exact leS_trans h'.1 ((List.pairwise_cons.mp ih).1 y z)
theorem sorted_pair {l : List Str} (h : sortedS l = true) : l.Pairwise leS := by
  cases l with
  | nil => exact List.Pairwise.nil
  | cons x r => exact rising_pair h
theorem perm_sorted {α : Type} {R : α → α → Prop} (anti : ∀ {a b}, R a b → R b a → a = b) : ∀ {l m : List α}, l.Perm m → l.Pairwise R → m.Pairwise R → l = m
  | [], m, p, _, _ => (List.Perm.nil_eq p)
  | x :: l, [], p, _, _ => absurd p.length_eq (by simp)
  | x :: l, y :: m, p, h1, h2 => by
    have e : x = y := by
      have hx : x ∈ y :: m := p.mem_iff.mp List.mem_cons_self
      have hy : y ∈ x :: l := p.mem_iff.mpr List.mem_cons_self
      rcases List.mem_cons.mp hx with z | z
      · exact z
      · rcases List.mem_cons.mp hy with z' | z'
        · exact z'.symm
        · exact anti ((List.pairwise_cons.mp h1).1 y z') ((List.pairwise_cons.mp h2).1 x z)
    subst e
    rw [perm_sorted anti (List.perm_cons x |>.mp p) (List.pairwise_cons.mp h1).2 (List.pairwise_cons.mp h2).2]
theorem nodup_perm {α : Type} [DecidableEq α] {l m : List α} (h1 : l.Nodup) (h2 : m.Nodup) (h : ∀ x, x ∈ l ↔ x ∈ m) : l.Perm m := (List.perm_ext_iff_of_nodup h1 h2).mpr h
/-- the sorted list of these texts, each once -/
structure Words (ys : List Str) (xs : List Str) : Prop where
  up : ys.Pairwise leS
  nd : ys.Nodup
  mem : ∀ x, x ∈ ys ↔ x ∈ xs
theorem Words.uniq {ys zs xs : List Str} (a : Words ys xs) (b : Words zs xs) : ys = zs :=
  perm_sorted leS_anti (nodup_perm a.nd b.nd fun x => (a.mem x).trans (b.mem x).symm) a.up b.up
/-! ### states -/
abbrev Stp := Int × Str × Int
inductive Reach (ss : List Stp) (s0 : Int) : Int → Prop where
  | start : Reach ss s0 s0
  | step {x : Int} {w : Str} {y : Int} (h : Reach ss s0 x) (m : (x, w, y) ∈ ss) : Reach ss s0 y
structure States (ns : List Int) (ss : List Stp) (s0 : Int) : Prop where
  up : ns.Pairwise (· < ·)
  mem : ∀ x, x ∈ ns ↔ Reach ss s0 x
theorem States.uniq {a b : List Int} {ss : List Stp} {s0 : Int} (h : States a ss s0) (k : States b ss s0) : a = b := by
  have nd : ∀ {l : List Int}, l.Pairwise (· < ·) → l.Nodup := fun p => p.imp fun h e => by omega
  exact perm_sorted (R := fun x y : Int => x < y) (fun h1 h2 => by omega) (nodup_perm (nd h.up) (nd k.up) fun x => (h.mem x).trans (k.mem x).symm) h.up k.up
theorem lt_of_le {l : List Int} (h : l.Pairwise (· ≤ ·)) (d : l.Nodup) : l.Pairwise (· < ·) := by
  induction l with
  | nil => exact List.Pairwise.nil
  | cons x r ih =>
    obtain ⟨h1, h2⟩ := List.pairwise_cons.mp h
    obtain ⟨d1, d2⟩ := List.nodup_cons.mp d
    refine List.pairwise_cons.mpr ⟨fun y hy => ?_, ih h2 d2⟩
    have := h1 y hy
    have ne : x ≠ y := fun e => d1 (e ▸ hy)
    omega
/-- closed under the steps, from the start, and nothing else -/
theorem reach_of {ss : List Stp} {s0 : Int} {l : List Int} (h0 : s0 ∈ l) (hc : ∀ x w y, x ∈ l → (x, w, y) ∈ ss → y ∈ l) (hr : ∀ x ∈ l, Reach ss s0 x) (x : Int) : x ∈ l ↔ Reach ss s0 x := by
  refine ⟨hr x, fun h => ?_⟩
  induction h with
  | start => exact h0
  | step _ m ih => exact hc _ _ _ ih m
end KnA

set_option Elab.async false
set_option linter.all false
set_option maxRecDepth 100000
set_option maxHeartbeats 4000000
/-! xs[::-1] of a list. -/
namespace KnR
open PySem PySem.Spec PyProof.Rows L2
theorem pick_rev (its : List Value) : slicePick its.toArray none none (some (-1)) = its.reverse.toArray := by
  unfold slicePick
  have b : sliceBounds none none (some (-1)) its.toArray.size = ((its.length : Int) - 1, -1, -1) := by
    unfold sliceBounds
    simp
  rw [b]
  refine congrArg List.toArray ?_
  show (sliceRange ((its.length : Int) - 1) (-1) (-1)).filterMap (its.toArray[·]?) = its.reverse
  have r : sliceRange ((its.length : Int) - 1) (-1) (-1) = (List.range its.length).map fun k => its.length - 1 - k := by
    unfold sliceRange
    have c : (if (-1 : Int) > 0 then (if (its.length : Int) - 1 < -1 then (-1 - ((its.length : Int) - 1) + -1 - 1) / -1 else 0) else (if (its.length : Int) - 1 > -1 then ((its.length : Int) - 1 - -1 - -1 - 1) / (- -1) else 0)) = (its.length : Int) := by
      rw [if_neg (by decide)]
      by_cases h : (its.length : Int) - 1 > -1
      · rw [if_pos h]
        have : (- -1 : Int) = 1 := rfl
        rw [this, Int.ediv_one]
        omega
      · rw [if_neg h]; omega
    show (List.range (Int.toNat _)).map _ = _
    rw [c, Int.toNat_natCast]
    refine List.map_congr_left fun k hk => ?_
    have := List.mem_range.mp hk
    omega
  rw [r, List.filterMap_map]
  refine List.ext_getElem? fun i => ?_
  have all : ∀ n, n ≤ its.length → ((List.range n).filterMap ((fun x : Nat => its.toArray[x]?) ∘ fun k => its.length - 1 - k)) = its.reverse.take n := by
    intro n
    induction n with
    | zero => intro _; rfl
    | succ n ih =>
      intro h
      have hk : its.length - 1 - n < its.length := by omega
      have e : its.toArray[its.length - 1 - n]? = some its[its.length - 1 - n] := by
        rw [List.getElem?_toArray, List.getElem?_eq_getElem hk]
      rw [List.range_succ, List.filterMap_append, ih (by omega), List.take_add_one]
      refine congrArg (its.reverse.take n ++ ·) ?_
      have g : its.reverse[n]? = some its[its.length - 1 - n] := by
        rw [List.getElem?_reverse (by omega), List.getElem?_eq_getElem hk]
      rw [g, List.filterMap_cons, List.filterMap_nil]
      have e2 : ((fun x : Nat => its.toArray[x]?) ∘ fun k => its.length - 1 - k) n = some its[its.length - 1 - n] := e
      rw [e2]; rfl
  rw [all its.length (Nat.le_refl _), List.take_of_length_le (by rw [List.length_reverse]; exact Nat.le_refl _)]
def tRev (K : PySem.W.Frag) (te : TE) (ts : TO) : TE := fun σ H Q => te σ H fun x H1 => ts σ H1 fun o H2 => ∃ a xs, x = .ref a ∧ o = some (-1) ∧ SqL K H2 a xs ∧ ∀ p, H2 p = none → Q (.ref p) (upd H2 p (.lst xs.reverse))
section
variable {X : Cx} {e st : Expr} {te ts : TE} {p2 pos : Pos}
theorem pe_rev (he : PE X e te) (hs : PE X st ts) : PE X (.Subscript e (.Slice none none (some st) p2) pos) (tRev X.K te (tPart ts)) := by
  refine ⟨fun pins s σ H Q I h => ?_⟩
  refine Subscript_ (thn (he.run pins s σ H _ I h) fun v s1 ⟨x, H1, I1, r1, q1⟩ => ?_)
  have po : PO X (some st) (tPart ts) := po_some hs
  refine wpAny_Slice ?_
  rw [evalPart_none]
  refine wpAny_pure (wpAny_pure ?_)
  refine thn (po.run pins s1 σ H1 _ I1 q1) fun vk s3 ⟨o, H3, I3, pk, a, xs, ex, eo, hx, q3⟩ => ?_
  subst ex eo
  cases r1
  have I4 : Inv X pins σ H3 { s3 with heap := s3.heap.push { cls := .type "slice", data := .fields #[.none, .none, vk] } } := I3.kept (t' := s3.toks) fun b ob q => Heap.get?_push_of_some _ q
  obtain ⟨its, r, ht, hz⟩ := I4.list hx
  have hlen := r.length
  have hg : wpAny (model X.prog X.w) X.A (getItem (.ref a) (.ref s3.heap.objs.size)) (EP X pins σ Q) X.xe { s3 with heap := s3.heap.push { cls := .type "slice", data := .fields #[.none, .none, vk] } } := by
    refine wpAny_getItem_list_slice ht.isList (Heap.IsSliceOf.new ..) .none .none pk (by simp) ?_ (by rw [List.size_toArray]; omega)
    rw [pick_rev]
    refine ⟨.ref _, _, I4.laid (t' := s3.toks) (o := .lst xs.reverse) (fun b ob q => Heap.get?_push_of_some _ q) (Nat.le_refl _) ?_, rfl, q3 _ (I4.hok.fresh (Nat.le_refl _))⟩
    exact ⟨by rw [List.length_reverse]; exact hz, _, 0, r.reverse, Heap.get?_push_size _ rfl⟩
  show wpAny (model X.prog X.w) X.A (subscriptTail e (.Slice none none (some st) p2) (.ref a) (.ref s3.heap.objs.size)) (EP X pins σ Q) X.xe { s3 with heap := s3.heap.push { cls := .type "slice", data := .fields #[.none, .none, vk] } }
  exact tail_any (ops := [.ref a, .ref s3.heap.objs.size]) ht.isList.typeIs slot_list_getitem.lookup hg (by with_unfolding_all rfl)
end
end KnR

set_option Elab.async false
set_option linter.all false
set_option maxRecDepth 100000
set_option maxHeartbeats 4000000
/-! A def that has defaults, all of its arguments given. -/
namespace KnD
open PySem PySem.Spec PyProof.Rows L2
structure FunX (K : PySem.W.Frag) (x qual : Str) (st : Stmt) (f : Addr) (fd : FuncData) : Prop where
  ex : ∃ (oc : Value) (od : Option Addr) (dV kV doc pm : Value) (an : Option Addr) (cdv ct : Value) (osl : Array (Option Value)),
    fd = PySem.W.fnOf x qual (defArgs st) (defBody st) (defScope st) dV kV doc pm an cdv ct ∧ K.lookup f = some ⟨oc, od, .func fd, osl⟩ ∧ PySem.W.codeIn K cdv qual = true
section
variable {P : Program} {w : World} {K : PySem.W.Frag} {mg : Str → Option Value} {base : Heap}
theorem FunX.ok {x qual : Str} {st : Stmt} {f : Addr} {fd : FuncData} {N ps : List Str} {k : Nat} {sp : Sp} (F : FunX K x qual st f fd) (S : FnScope N ps (defScope st)) (len : ∀ vs H Q E, sp vs H Q E → vs.length = ps.length)
    (hbody : ∀ (cdv : Value) (A : Around) (outer : List Env) (s : Shared) (H : Hp) (vs : List V) (Q : VK) (E : XK), Room k (A.deeper (envOfC qual (defScope st) s.heap.objs.size f cdv)) → sp vs H Q E →
      ∃ t, PSs (cxOf CX0 P w K mg base N qual (defScope st) f cdv A outer s H E).nox (defBody st) t ∧ t { nx := fun _ H' => Q .non H', rt := Q } (start N vs) H) : FnOk P w K mg base CX0 (k + 1) f fd ps sp := by
  obtain ⟨oc, od, dV, kV, doc, pm, an, cdv, ct, osl, rfl, lk, hcd⟩ := F.ex
  refine fn_of lk hcd S len fun A outer s H vs Q E hr hsp => ?_
  obtain ⟨t, h, q⟩ := hbody cdv A outer s H vs Q E hr hsp
  exact ⟨t, h.nox, q⟩
/-- .. that may raise -/
theorem FunX.okX {x qual : Str} {st : Stmt} {f : Addr} {fd : FuncData} {N ps : List Str} {k : Nat} {sp : Sp} (F : FunX K x qual st f fd) (S : FnScope N ps (defScope st)) (len : ∀ vs H Q E, sp vs H Q E → vs.length = ps.length)
    (hbody : ∀ (cdv : Value) (A : Around) (outer : List Env) (s : Shared) (H : Hp) (vs : List V) (Q : VK) (E : XK), Room k (A.deeper (envOfC qual (defScope st) s.heap.objs.size f cdv)) → sp vs H Q E →
      ∃ t, PSs (cxOf (L2.CX P w) P w K mg base N qual (defScope st) f cdv A outer s H E) (defBody st) t ∧ t { nx := fun _ H' => Q .non H', rt := Q } (start N vs) H) : FnOk P w K mg base (L2.CX P w) (k + 1) f fd ps sp := by
  obtain ⟨oc, od, dV, kV, doc, pm, an, cdv, ct, osl, rfl, lk, hcd⟩ := F.ex
  exact fn_of lk hcd S len fun A outer s H vs Q E hr hsp => hbody cdv A outer s H vs Q E hr hsp
theorem binds_full {x qual : Str} {st : Stmt} {f T : Addr} {oc : Value} {od an : Option Addr} {osl : Array (Option Value)} {kV doc pm cdv ct : Value} {to : Obj} {tn : Nat} {its : List Value} {dvs : List V} {ps : List Str}
    (l : K.lookup f = some ⟨oc, od, .func (PySem.W.fnOf x qual (defArgs st) (defBody st) (defScope st) (.ref T) kV doc pm an cdv ct), osl⟩) (c : PySem.W.codeIn K cdv qual = true) (k : PySem.W.keepIn K (.ref f) = true)
    (lT : K.lookup T = some to) (oT : to.data = .seq its.toArray tn) (rT : Vals dvs its) (hd : dvs ≠ [])
    (h : ∀ (T : Addr) (kV doc pm : Value) (an : Option Addr) (cdv ct : Value) (us its : List Value), us.length = ps.length → its.length = dvs.length →
      ∃ k, bindArgs (PySem.W.fnOf x qual (defArgs st) (defBody st) (defScope st) (.ref T) kV doc pm an cdv ct) ⟨us, []⟩ = seqItems? (.ref T) >>= k ∧ k (some its.toArray) = pure (ps.zip (us ++ its.drop dvs.length))) : Binds K (PySem.W.fnOf x qual (defArgs st) (defBody st) (defScope st) (.ref T) kV doc pm an cdv ct) ps [] := by
  have F : FunD K x qual (defArgs st) (defBody st) (defScope st) dvs [] f (PySem.W.fnOf x qual (defArgs st) (defBody st) (defScope st) (.ref T) kV doc pm an cdv ct) :=
    ⟨⟨oc, od, .ref T, kV, doc, pm, an, cdv, ct, osl, rfl, l, c, .inr ⟨hd, T, to, its, tn, rfl, lT, oT, rT⟩, .inl rfl⟩, k⟩
  obtain ⟨ds, v, b⟩ := FunD.binds1 F (ps := ps) ps.length dvs.length hd (by omega) h
  rw [List.drop_length] at v
  cases v
  exact b
end
end KnD

set_option Elab.async false
set_option linter.all false
set_option maxRecDepth 100000
set_option maxHeartbeats 4000000
/-! xs[i] += e, xs a list. -/
namespace KnL
open PySem PySem.Spec PyProof.Rows L2
section
variable {X : Cx}
theorem get_list : PGet X (rIxL X.K) := by
  intro pins s σ H x y v u Q I rx ry h
  obtain ⟨p, xs, i, z, rfl, rfl, hq, he, q⟩ := h
  cases rx
  obtain ⟨t, rfl⟩ := ry
  obtain ⟨its, r, pl, hz⟩ := I.list hq
  obtain ⟨j, h1, h2, h3, h4, h5⟩ := atI_get he
  obtain ⟨w, ew, rw'⟩ := r.get h2
  have hl := r.length
  have hn := line63
  have fin : EP X pins σ Q w s := ⟨z, H, I, rw', q⟩
  by_cases h0 : 0 ≤ i
  · have hj : i.toNat = j := by
      rw [seqIndex_of h0 h5] at h1
      exact Option.some.inj h1
    exact wpAny_getItem_list pl.isList h0 (by omega) (by rw [hj]; simpa using ew) fin
  · have hj : (i + (its.toArray.size : Int)).toNat = j := by
      rw [seqIndex_neg (by omega) h4] at h1
      rw [List.size_toArray, ← hl]
      exact Option.some.inj h1
    exact wpAny_getItem_list_neg pl.isList (by omega) (by rw [List.size_toArray] <;> omega) (by omega) (by rw [hj]; simpa using ew) fin
end
end KnL

set_option Elab.async false
set_option linter.all false
set_option maxRecDepth 100000
/-! a dict comprehension that is given to a local name on the same line -/
namespace KnDc
open PySem PySem.Spec PyProof.Rows L2
variable {X : Cx}
theorem ps_setDc {i : Nat} {y : Str} {py : Pos} {kx vx tg iter : Expr} {ifs : List Expr} {scope : Scope} {own : List (Str × Nat)} {pos spos : Pos} {wi : TI} {g : TG} {tt : TT} {tk tv : TE} (cm : X.calm = true) (dn : X.N.Nodup) (iy : X.N[i]? = some y) (ly : X.env.scope.names.lookup y = some .local)
    (sw : swapsWith (.DictComp kx vx [⟨tg, iter, ifs, 0⟩] scope pos) (some (.Name y py)) spos.line X.env = pure true) (pi : PI X tg iter wi) (bo : BlkOk X.N X.env.scope scope own)
    (pg : ∀ s H C cl fp, PG (X.blk s H scope (compEnvC scope cl C X.env) fp) tg g) (pt : ∀ s H C cl fp, PTs (X.blk s H scope (compEnvC scope cl C X.env) fp) ifs tt)
    (pk : ∀ s H C cl fp, PE (X.blk s H scope (compEnvC scope cl C X.env) fp) kx tk) (pv : ∀ s H C cl fp, PE (X.blk s H scope (compEnvC scope cl C X.env) fp) vx tv)
    (hs : ∀ x, foldedSetIterable iter X.env x = pure x := by intro _; rfl) :
    PS X (.Assign [.Name y py] (.DictComp kx vx [⟨tg, iter, ifs, 0⟩] scope pos) spos) (tAsg (tDc wi g tt tk tv (own.map (·.2))) (gName i)) := by
  refine ⟨fun pins s σ H D I h => ?_⟩
  rw [exec_Assign_Name_used _ _ _ _ sw]
  refine wpAny_bind (wpAny_standAt (wpAny_bind (?_)))
  show wpAny _ X.A (do let _ ← comprehension (.DictComp kx vx [⟨tg, iter, ifs, 0⟩] scope pos) scope X.env (firstIterPos [⟨tg, iter, ifs, 0⟩] pos) newDict false (eval iter X.env) (some (assign (.Name y py) X.env))) _ _ s
  have h : tDc wi g tt tk tv (own.map (·.2)) σ H (fun x H1 => gName i x σ H1 D.nx) := h
  refine wpAny_bind (thn (dc_core (Qf := fun _ s' => SP X pins D .next s') cm dn I pi bo pg pt pk pv hs h fun L C s' m H' I' q hn f => ?_) fun _ s' hq => wpAny_pure (wpAny_pure hq))
  show wpAny _ X.A (assign (.Name y py) X.env (.ref L)) _ _ _
  refine wpAny_assign_Name (store_ok2 (v := V.ref L) I' dn iy (.inl ly) rfl (fun s2 I2 ⟨a, sb, ha⟩ => ?_) (.inr ly))
  obtain ⟨g0, g1, g2, g3, g4, g5⟩ := f
  have nCa : C ≠ a := by
    rcases ha with z | z
    · rw [z]; exact g1
    · exact fun e => (g4 y a z) e.symm
  refine ⟨m, hn.sameBut sb nCa, fun h3 sb3 => ?_⟩
  exact ⟨_, H', I2.turned (t' := s2.toks) (fun b o hb e => ((sb3.2 b hb).trans e)) g0 g1 g3 g4 g5, q⟩
theorem swD {kx vx : Expr} {gs : List Comprehension} {scope : Scope} {pos py : Pos} {y : Str} {l : Nat} {env : Env} (hk : env.scope.kind = .function) (hy : env.scope.names.lookup y = some .local) (hl : (py.line == pos.line) = true)
    (ha : (scope.names.any fun (n, k) => n == y && (k == .local || k == .cell)) = false) : swapsWith (.DictComp kx vx gs scope pos) (some (.Name y py)) l env = pure true := by
  have e1 : env.kindOf y = some .local := hy
  have e2 : env.blockKind = .function := by unfold Env.blockKind; rw [hk]; rfl
  unfold swapsWith
  simp only [e2, e1, ha, Expr.pos, hl]
  rfl
end KnDc

set_option Elab.async false
set_option linter.all false
set_option maxRecDepth 100000
set_option maxHeartbeats 4000000
/-! len(a set of ints and texts). -/
namespace KnS
open PySem PySem.Spec PyProof.Rows L2
variable {X : Cx}
theorem cr_lenL : CallR X (.builtin "len") (fun xs H Q => ∃ (a : Addr) (ks : List Key), xs = [.ref a] ∧ H a = some (SetL X.prog X.w a ks) ∧ Q (.int ks.length) H) := by
  intro pins s σ H vs us Q I r h
  obtain ⟨a, ks, rfl, ha, q⟩ := h
  rw [Vals.ref1 r]
  obtain ⟨o, es, ep, t, ls, ⟨ho, hx, hd⟩, ⟨pe, pm, nd⟩, ⟨hb, hf⟩, _⟩ := held I ha
  have hn : es.size = ks.length := by
    have e1 : ls.length = es.size := pe.length
    rw [← pm.length_eq, e1]
  unfold scanBound at hb
  exact call_len_set ho hx hd hf (by omega) ⟨.int ks.length, H, I.tok _, ⟨_, by rw [hn]⟩, q⟩
end KnS

set_option Elab.async false
set_option linter.all false
set_option maxRecDepth 100000
set_option maxHeartbeats 4000000
/-! Sets whose members are flat tuples, with items of any kind of keys by value: one more put in. -/
namespace KnZ
open PySem PySem.Spec PyProof.Rows L2
open PySem renaming wpAny_bind → seqAny
section
variable {κ : Type} [DecidableEq κ] {P : Program} {w : World}
/-- no item is of a class of the text; each is hashed by what it is -/
structure Flat (knd : PySem.KeyKind P w κ) : Prop where
  cls : ∀ (n : Nat) (k : κ) (v : Value), knd.is k v = true → ofAClassStatement n v = pure false
  val : ∀ (n : Nat) (k : κ) (v : Value), knd.is k v = true → ∃ b, hashByValue n v = pure b
theorem flat_mix : Flat (mixKind P w) where
  cls := fun n k v h => by rcases keyIs_shape h with ⟨i, t, rfl, rfl⟩ | ⟨x, t, rfl, rfl⟩ <;> cases n <;> rfl
  val := fun n k v h => by rcases keyIs_shape h with ⟨i, t, rfl, rfl⟩ | ⟨x, t, rfl, rfl⟩ <;> cases n <;> exact ⟨_, rfl⟩
variable {knd : PySem.KeyKind P w κ} {A : Around} {E : Value → Shared → Prop} {s : Shared}
theorem each_is {ks : List κ} {vs : List Value} (h : PySem.ItemsAre knd ks vs) : ∀ v ∈ vs, ∃ k, knd.is k v = true := by
  induction h with
  | nil => exact fun v hv => nomatch hv
  | cons r _ ih => exact fun v hv => (List.mem_cons.mp hv).elim (fun e => ⟨_, e ▸ r⟩) (ih v)
/-- a loop that asks each item of a tuple and leaves all as it is -/
theorem asks_all {α : Type} {B : Value → Sem (ForInStep (Option α × Unit))} {vs : List Value} {ok : Value → Prop} (hv : ∀ v ∈ vs, ok v)
    (hb : ∀ v, ok v → ∀ (s : Shared) (Q : ForInStep (Option α × Unit) → Shared → Prop), Q (.yield (none, ())) s → wpAny (model P w) A (B v) Q E s) {Q : Option α × Unit → Shared → Prop} (h : Q (none, ()) s) :
    wpAny (model P w) A (forIn vs ((none : Option α), ()) fun v _ => B v) Q E s := by
  refine wpAny_forIn_list _ (fun rest r s' => r = (none, ()) ∧ s' = s ∧ ∀ v ∈ rest, ok v) _ ?_ ?_ _ _ ⟨rfl, rfl, hv⟩
  · rintro v rest r s' ⟨hr, rfl, all⟩
    exact hb v (all v List.mem_cons_self) _ _ ⟨rfl, rfl, fun u hu => all u (List.mem_cons_of_mem _ hu)⟩
  · rintro r s' ⟨hr, rfl, _⟩
    rw [hr]; exact h
theorem no_class (fl : Flat knd) {k : List κ} {b : Addr} {Q : Bool → Shared → Prop} (hk : IsTupleKey knd s.heap k b) (h : Q false s) : wpAny (model P w) A (ofAClassStatement 8 (.ref b)) Q E s := by
  have hT := hk.typeIs
  obtain ⟨o, its, n, ho, _, hd, hi⟩ := hk
  unfold ofAClassStatement
  refine seqAny (wpAny_typeOf hT ?_)
  dsimp only
  have same : (("tuple" : String) == "tuple") = true := by decide
  simp only [same, if_false, if_true, Bool.not_true, Bool.false_eq_true]
  try refine seqAny (wpAny_pure ?_)
  try simp only [Bool.not_true, if_false, Bool.false_eq_true]
  show wpAny _ _ (seqItems? (.ref b) >>= _) _ _ _; refine seqAny (wpAny_seqItems ho hd ?_)
  dsimp only
  refine seqAny ?_
  show wpAny _ _ (forIn its _ _) _ _ s
  rw [← Array.forIn_toList]
  refine asks_all (ok := fun v => ∃ k, knd.is k v = true) (each_is hi) (fun v ⟨k, hv⟩ s Q q => ?_) (wpAny_pure h)
  rw [fl.cls _ k v hv]
  refine seqAny (wpAny_pure ?_)
  simp only [if_false, Bool.false_eq_true]
  exact wpAny_pure q
theorem by_value (fl : Flat knd) {k : List κ} {b : Addr} {Q : Bool → Shared → Prop} (hk : IsTupleKey knd s.heap k b) (h : ∀ b, Q b s) : wpAny (model P w) A (hashByValue 8 (.ref b)) Q E s := by
  have hT := hk.typeIs
  obtain ⟨o, its, n, ho, _, hd, hi⟩ := hk
  unfold hashByValue
  refine seqAny (wpAny_specialOf hT F.slot_tuple_hash.lookup ?_)
  show wpAny _ _ (seqItems? (.ref b) >>= _) _ _ _; refine seqAny (wpAny_seqItems ho hd ?_)
  refine seqAny ?_
  show wpAny _ _ (forIn its _ _) _ _ s
  rw [← Array.forIn_toList]
  refine wpAny_forIn_list _ (fun rest r s' => s' = s ∧ ∀ v ∈ rest, ∃ k, knd.is k v = true) _ ?_ ?_ _ _ ⟨rfl, each_is hi⟩
  · rintro v rest r s' ⟨rfl, all⟩
    obtain ⟨k, hv⟩ := all v List.mem_cons_self
    obtain ⟨b, e⟩ := fl.val 7 k v hv
    rw [e]
    refine seqAny (wpAny_pure ?_)
    cases b with
    | true =>
      simp only [Bool.not_true, if_false, Bool.false_eq_true]
      exact wpAny_pure ⟨rfl, fun u hu => all u (List.mem_cons_of_mem _ hu)⟩
    | false =>
      simp only [Bool.not_false, if_true]
      exact wpAny_pure (wpAny_pure (h false))
  · rintro ⟨r1, r2⟩ s' ⟨rfl, _⟩
    cases r1 with
    | none => exact wpAny_pure (h true)
    | some b => exact wpAny_pure (h b)
theorem unseen (fl : Flat knd) {k : List κ} {b : Addr} {Q : Bool → Shared → Prop} (hk : IsTupleKey knd s.heap k b) {ys : List Value} (hy : ∀ y ∈ ys, ∃ k' c, y = Value.ref c ∧ IsTupleKey knd s.heap k' c) (h : Q false s) :
    wpAny (model P w) A (searchCouldBeSeen (.ref b) ys) Q E s := by
  unfold searchCouldBeSeen
  refine seqAny ?_
  refine wpAny_forIn_list _ (fun rest r s' => r.1 = none ∧ s' = s ∧ ∀ y ∈ rest, ∃ k' c, y = Value.ref c ∧ IsTupleKey knd s.heap k' c) _ ?_ ?_ _ _ ⟨rfl, rfl, hy⟩
  · rintro v rest r s' ⟨hr, rfl, all⟩
    obtain ⟨k', c, rfl, hc⟩ := all v List.mem_cons_self
    have left : ∀ y ∈ rest, ∃ k' c, y = Value.ref c ∧ IsTupleKey knd s'.heap k' c := fun u hu => all u (List.mem_cons_of_mem _ hu)
    dsimp only
    by_cases hv : (b == c || (carriedByValue (.ref b) && carriedByValue (.ref c))) = true
    · exact wp_if_pos hv (wpAny_pure ⟨rfl, rfl, left⟩)
    · refine wp_if_neg hv (wpAny_bind (wpAny_eqIsQuiet_tuple hk ?_))
      simp only [Bool.not_true, if_false, Bool.false_eq_true]
      refine seqAny (wpAny_eqIsQuiet_tuple hc ?_)
      simp only [Bool.not_true, if_false, Bool.false_eq_true]
      refine seqAny (no_class fl hk ?_)
      simp only [if_false, Bool.false_eq_true]
      refine seqAny (no_class fl hc ?_)
      simp only [if_false, Bool.false_eq_true]
      exact wpAny_pure ⟨rfl, rfl, left⟩
  · rintro ⟨r1, r2⟩ s' ⟨hr, rfl, _⟩
    simp only at hr
    subst hr
    exact wpAny_pure h
/-! ### what stands in the table -/
abbrev Row (κ : Type) := Addr × List κ
def ents (knd : PySem.KeyKind P w κ) (M : List (Row κ)) : List (Int × Value) := M.map fun p => (tupleKeyHash knd p.2, Value.ref p.1)
def hashes (knd : PySem.KeyKind P w κ) (M : List (Row κ)) : List Int := M.map fun p => tupleKeyHash knd p.2
structure Tups (knd : PySem.KeyKind P w κ) (h : Heap) (a : Addr) (M : List (Row κ)) (es : Array (Int × Value)) (ep : Nat) (t : SetTable) : Prop where
  obj : ∃ o, h.get? a = some o ∧ o.ExactSet ∧ o.data = .set es ep t
  rows : es.toList = ents knd M
  tab : TabOk t (hashes knd M)
  once : (M.map (·.2)).Nodup
  tup : ∀ p ∈ M, IsTupleKey knd h p.2 p.1
  led : w.params.followText "set-order" = true ∨ t.led = true
  room : M.length * 5 < t.mask * 3
  few : M.length < 64
variable {a : Addr} {M : List (Row κ)} {es : Array (Int × Value)} {ep : Nat} {t : SetTable}
/-- a table without dummies, as many places as entries -/
theorem fits_of {es : Array (Int × Value)} {t : SetTable} (h0 : t.dummies = #[]) (h1 : t.place.size = es.size) (h2 : es.size ≤ t.mask) : t.fits es.size = true := by
  unfold SetTable.fits SetTable.fill; rw [h0, Bool.and_eq_true, beq_iff_eq, decide_eq_true_eq]
  exact ⟨h1, by show t.place.size + 0 ≤ _; omega⟩
theorem len_of (h : es.toList = ents knd M) : es.size = M.length := by
  have z := congrArg List.length h
  rwa [Array.length_toList, show (ents knd M).length = M.length from List.length_map _] at z
theorem Tups.size (R : Tups knd s.heap a M es ep t) : es.size = M.length := len_of R.rows
theorem Tups.fits (R : Tups knd s.heap a M es ep t) : t.fits es.size = true := by
  have z1 : t.place.size = M.length := R.tab.sz.trans (List.length_map _)
  have z2 := R.size
  have z3 := R.room
  exact fits_of R.tab.dm (by omega) (by omega)
theorem ent_at (h : es.toList = ents knd M) {i : Nat} {p : Row κ} (hp : M[i]? = some p) : es[i]? = some (tupleKeyHash knd p.2, Value.ref p.1) := by
  rw [← Array.getElem?_toList, h]
  unfold ents
  rw [List.getElem?_map, hp]; rfl
theorem Tups.stay (R : Tups knd s.heap a M es ep t) : ¬ t.gaveWay = true := by
  unfold SetTable.gaveWay
  rw [mask_odd R.tab.mok]
  decide
/-- the place of a hash's way, c steps on -/
abbrev spot (t : SetTable) (h : Int) (c : Nat) : SetTable.Probe := nth t.mask (runAt t.mask (SetTable.bits h % (t.mask + 1)) (SetTable.bits h)) c
theorem spot_more (t : SetTable) (h : Int) (c q : Nat) : nth t.mask (spot t h c) q = spot t h (c + q) := (nth_add t.mask c _ q).symm
theorem no_dummy (m : Nat) : ∀ (n : Nat) (p : SetTable.Probe), p.dummy = none → (nth m p n).dummy = none
  | 0, _, h => h
  | n + 1, p, h => no_dummy m n (adv m p) (by unfold adv; split <;> exact h)
/-- the search, from the c-th step on: it ends at the key, or at the free place Z -/
theorem seek (fl : Flat knd) (R : Tups knd s.heap a M es ep t) {x : Addr} {k : List κ} (hx : IsTupleKey knd s.heap k x) (hu : A.units < cLine) {Z : Nat} (z1 : Z < 10 * SetTable.turns t.mask)
    (z2 : way t.mask (tupleKeyHash knd k) Z ∉ t.place.toList) (z3 : ∀ c, c < Z → way t.mask (tupleKeyHash knd k) c ∈ t.place.toList) {Q : SetFound → Shared → Prop}
    (yes : k ∈ M.map (·.2) → Q (.there none) s) (no : k ∉ M.map (·.2) → Q (.free (way t.mask (tupleKeyHash knd k) Z) false) s) :
    ∀ (f c : Nat) (at_ : Option SetTable.Probe), at_.getD (t.probeStart (tupleKeyHash knd k)) = spot t (tupleKeyHash knd k) c → c ≤ Z → Z - c < f →
      (∀ (i : Nat) p, M[i]? = some p → p.2 = k → ∃ c', c ≤ c' ∧ c' < Z ∧ t.place.toList[i]? = some (way t.mask (tupleKeyHash knd k) c')) →
      wpAny (model P w) A (setSearchFrom a (.ref x) (tupleKeyHash knd k) true f at_) Q E s := by
  intro f
  induction f with
  | zero => intro c at_ _ _ hf _; exact absurd hf (Nat.not_lt_zero _)
  | succ f ih =>
  intro c at_ hst hc hf ahead
  obtain ⟨o, ho, hex, hd⟩ := R.obj
  rw [setSearchFrom_succ]
  refine seqAny (wpAny_setState_of ho hd R.fits ?_)
  dsimp only
  refine wp_if_neg R.stay ?_
  try refine seqAny (wpAny_pure ?_)
  have way_at : ∀ q, (nth t.mask (spot t (tupleKeyHash knd k) c) q).j = way t.mask (tupleKeyHash knd k) (c + q) := fun q => congrArg SetTable.Probe.j (spot_more t _ c q)
  have to_end : c + (Z - c) = Z := by omega
  have told := go_spec t R.tab.ris R.tab.dm (fun i => (es[i]?.map (·.1)).getD 0) (tupleKeyHash knd k) (10 * SetTable.turns t.mask) (Z - c) _ (no_dummy t.mask c _ rfl) (by omega)
    (fun q hq => by rw [way_at]; exact z3 (c + q) (by omega)) (by rw [way_at, to_end]; exact z2)
  have hash_at : ∀ (i : Nat) p, M[i]? = some p → (fun i => (es[i]?.map (·.1)).getD 0) i = tupleKeyHash knd p.2 := fun i p hp => by
    show (es[i]?.map (·.1)).getD 0 = _
    rw [ent_at R.rows hp]; rfl
  rcases told with ⟨q, i, hq, hi, hh, before, hpr⟩ | ⟨before, hpr⟩
  · have met : t.probe (fun i => (es[i]?.map (·.1)).getD 0) (tupleKeyHash knd k) (at_.getD (t.probeStart (tupleKeyHash knd k))) = some (.candidate (way t.mask (tupleKeyHash knd k) (c + q)) i (spot t (tupleKeyHash knd k) (c + (q + 1)))) := by
      rw [hst, ← way_at, ← spot_more]
      exact hpr
    rw [met]
    dsimp only
    rw [way_at] at hi
    have lt : i < M.length := by
      have z := (List.getElem?_eq_some_iff.mp hi).1
      rw [Array.length_toList, R.tab.sz, show (hashes knd M).length = M.length from List.length_map _] at z
      exact z
    obtain ⟨p, hp⟩ : ∃ p, M[i]? = some p := ⟨_, List.getElem?_eq_getElem lt⟩
    have mem : p ∈ M := List.mem_of_getElem? hp
    have go_on : wpAny (model P w) A (searchRest a (.ref x) (tupleKeyHash knd k) true f es t (way t.mask (tupleKeyHash knd k) (c + q)) i (spot t (tupleKeyHash knd k) (c + (q + 1)))) Q E s := by
      unfold searchRest
      rw [ent_at R.rows hp]
      dsimp only
      refine seqAny (wpAny_holding (wpAny_eqBool_tuple hu (R.tup p mem) hx (wpAny_bind (wpAny_setState_of ho hd R.fits ?_))))
      dsimp only
      by_cases same : p.2 = k
      · refine wp_if_pos (by simp [same]) (wpAny_pure (yes (List.mem_map.mpr ⟨p, mem, same⟩)))
      · refine wp_if_neg (by simp [same]) ?_
        try refine seqAny (wpAny_pure ?_)
        rw [sameMem]
        dsimp only
        have live : t.slot (way t.mask (tupleKeyHash knd k) (c + q)) = .live i := slot_live R.tab.ris hi
        simp only [if_true, live, ent_at R.rows hp]
        refine seqAny (wpAny_isSame_ref_self (wpAny_bind (wpAny_pure ?_)))
        simp only [if_true]
        refine wp_if_neg (by simp [same]) ?_
        refine ih (c + (q + 1)) _ rfl (by omega) (by omega) fun i0 p0 h0 k0 => ?_
        obtain ⟨c', a1, a2, a3⟩ := ahead i0 p0 h0 k0
        refine ⟨c', ?_, a2, a3⟩
        rcases Nat.lt_trichotomy c' (c + q) with lo | eq | hi'
        · refine (before (c' - c) i0 (by omega) (by rw [way_at, show c + (c' - c) = c' by omega]; exact a3) ?_).elim
          exact (hash_at i0 p0 h0).trans (congrArg (tupleKeyHash knd) k0)
        · rw [eq] at a3
          have s0 := slot_live R.tab.ris a3
          rw [live] at s0
          injection s0 with s0
          rw [← s0, hp] at h0
          exact (same ((congrArg Prod.snd (Option.some.inj h0)).trans k0)).elim
        · omega
    by_cases led : t.led = true
    · refine wp_if_neg (by simp [led]) ?_
      try refine seqAny (wpAny_pure ?_)
      exact go_on
    · refine wp_if_pos (by simp [led]) (wpAny_bind (unseen fl hx (fun y hy => ?_) ?_))
      · obtain ⟨e, he, ee⟩ := List.mem_map.mp hy
        have he1 : e ∈ es ∧ e.1 = tupleKeyHash knd k := by simpa using he
        have he2 : e ∈ es.toList := by simpa using he1.1
        rw [R.rows] at he2
        obtain ⟨p2, hp2, e2⟩ := List.mem_map.mp he2
        exact ⟨p2.2, p2.1, by rw [← ee, ← e2], R.tup p2 hp2⟩
      · refine wp_if_neg (by decide) ?_
        try refine seqAny (wpAny_pure ?_)
        exact go_on
  · have met : t.probe (fun i => (es[i]?.map (·.1)).getD 0) (tupleKeyHash knd k) (at_.getD (t.probeStart (tupleKeyHash knd k))) = some (.empty (way t.mask (tupleKeyHash knd k) Z) none) := by
      have e2 : way t.mask (tupleKeyHash knd k) Z = (nth t.mask (spot t (tupleKeyHash knd k) c) (Z - c)).j := by rw [way_at, to_end]
      rw [hst, e2]
      exact hpr
    rw [met]
    dsimp only
    refine wpAny_pure (no fun hm => ?_)
    obtain ⟨p0, h0, k0⟩ := List.mem_map.mp hm
    obtain ⟨i0, hi0, e0⟩ := List.getElem_of_mem h0
    have h00 : M[i0]? = some p0 := by rw [List.getElem?_eq_getElem hi0, e0]
    obtain ⟨c', a1, a2, a3⟩ := ahead i0 p0 h00 k0
    refine before (c' - c) i0 (by omega) (by rw [way_at, show c + (c' - c) = c' by omega]; exact a3) ?_
    exact (hash_at i0 p0 h00).trans (congrArg (tupleKeyHash knd) k0)
theorem search (fl : Flat knd) (R : Tups knd s.heap a M es ep t) {x : Addr} {k : List κ} (hx : IsTupleKey knd s.heap k x) (hu : A.units < cLine) {Q : SetFound → Shared → Prop} (yes : k ∈ M.map (·.2) → Q (.there none) s)
    (no : ∀ Z, k ∉ M.map (·.2) → way t.mask (tupleKeyHash knd k) Z ∉ t.place.toList → (∀ c, c < Z → way t.mask (tupleKeyHash knd k) c ∈ t.place.toList) → Q (.free (way t.mask (tupleKeyHash knd k) Z) false) s) :
    wpAny (model P w) A (setSearch a (.ref x) (tupleKeyHash knd k) true) Q E s := by
  have lm : (hashes knd M).length = M.length := List.length_map _
  obtain ⟨Z, z1, z2, z3⟩ := R.tab.first (by have := R.room; omega) (tupleKeyHash knd k)
  have small : Z < 100000 := by
    have : 10 * SetTable.turns t.mask ≤ 1420 := by
      unfold SetTable.turns
      rcases R.tab.mok with e | e | e <;> omega
    omega
  unfold setSearch
  refine seek fl R hx hu z1 z2 z3 yes (fun hn => no Z hn z2 z3) 100000 0 none rfl (Nat.zero_le _) (by omega) fun i p hp hk => ?_
  have hi : (hashes knd M)[i]? = some (tupleKeyHash knd k) := by
    unfold hashes
    rw [List.getElem?_map, hp, ← hk]; rfl
  have lt : i < t.place.toList.length := by
    rw [Array.length_toList, R.tab.sz, lm]
    exact (List.getElem?_eq_some_iff.mp hp).1
  have hj := List.getElem?_eq_getElem lt
  obtain ⟨c, hc, e⟩ := R.tab.before z2 hi hj
  exact ⟨c, Nat.zero_le _, hc, by rw [hj, e]⟩
/-! ### put in -/
theorem tup_still {h h' : Heap} {k : List κ} {b : Addr} {o : Obj} (hb : IsTupleKey knd h k b) (ho : h.get? a = some o) (hd : o.data = .set es ep t) (sb : Heap.SameBut a h h') : IsTupleKey knd h' k b := by
  obtain ⟨o', its, n, g, hc, hd', hi⟩ := hb
  have ne : b ≠ a := fun e => by
    rw [e, ho] at g
    rw [Option.some.inj g, hd'] at hd
    exact nomatch hd
  exact ⟨o', its, n, (sb.2 b ne).trans g, hc, hd', hi⟩
theorem ins_perm {α : Type} (l : List α) (p : Nat) (x : α) : (l.take p ++ x :: l.drop p).Perm (x :: l) := by
  have z : (l.take p ++ x :: l.drop p).Perm (x :: (l.take p ++ l.drop p)) := List.perm_middle
  rwa [List.take_append_drop] at z
theorem pick {α β : Type} (f : Nat → Option α) (l : List α) (hf : ∀ i, f i = l[i]?) {o : List Nat} (hp : o.Perm (List.range l.length)) : (o.filterMap f).Perm l := by
  have z : ∀ n, n ≤ l.length → (List.range n).filterMap f = l.take n := by
    intro n
    induction n with
    | zero => intro _; rfl
    | succ n ih =>
      intro hn
      have lt : n < l.length := hn
      rw [List.range_succ, List.filterMap_append, ih (Nat.le_of_lt lt), List.take_succ, List.getElem?_eq_getElem lt, List.filterMap_cons_some ((hf n).trans (List.getElem?_eq_getElem lt))]; rfl
  have y := hp.filterMap f
  rw [z _ (Nat.le_refl _), List.take_length] at y
  exact y
theorem reorder (hr : es.toList = ents knd M) {ord : Array Nat} (hp : ord.toList.Perm (List.range M.length)) :
    ∃ M2 : List (Row κ), (ord.filterMap (es[·]?)).toList = ents knd M2 ∧ M2.Perm M ∧ hashes knd M2 = ord.toList.map fun i => (es.map (·.1)).getD i 0 := by
  refine ⟨ord.toList.filterMap fun i => M[i]?, ?_, pick (β := Unit) _ M (fun _ => rfl) hp, ?_⟩
  · rw [Array.toList_filterMap]
    have : ∀ l : List Nat, l.filterMap (fun i => es[i]?) = ents knd (l.filterMap fun i => M[i]?) := by
      intro l
      induction l with
      | nil => rfl
      | cons i l ih =>
        cases g : M[i]? with
        | none =>
          have g2 : es[i]? = none := by rw [← Array.getElem?_toList, hr]; unfold ents; rw [List.getElem?_map, g]; rfl
          rw [List.filterMap_cons_none g, List.filterMap_cons_none g2, ih]
        | some p => rw [List.filterMap_cons_some g, List.filterMap_cons_some (ent_at hr g), ih]; rfl
    exact this _
  · have sz := len_of hr
    have : ∀ l : List Nat, (∀ i ∈ l, i < M.length) → hashes knd (l.filterMap fun i => M[i]?) = l.map fun i => (es.map (·.1)).getD i 0 := by
      intro l
      induction l with
      | nil => intro _; rfl
      | cons i l ih =>
        intro hl
        have g : M[i]? = some (M[i]'(hl i List.mem_cons_self)) := List.getElem?_eq_getElem _
        generalize (M[i]'(hl i List.mem_cons_self)) = p at g
        rw [List.filterMap_cons_some g, List.map_cons, ← ih fun j hj => hl j (List.mem_cons_of_mem _ hj)]
        have e5 : (es.map (·.1))[i]? = some (tupleKeyHash knd p.2) := by rw [Array.getElem?_map, ent_at hr g]; rfl
        have e4 : (es.map (·.1)).getD i 0 = tupleKeyHash knd p.2 := by simp [Array.getD_eq_getD_getElem?, e5]
        rw [e4]; rfl
    exact this _ fun i hi => List.mem_range.mp (hp.mem_iff.mp hi)
/-- the table laid anew, larger -/
theorem relay (fl : Flat knd) {o : Obj} (ho : s.heap.get? a = some o) (hex : o.ExactSet) (hd : o.data = .set es ep t) (hr : es.toList = ents knd M) (hsz : t.place.size = es.size) (hdm : t.dummies = #[]) (hfl : es.size ≤ t.mask)
    (once : (M.map (·.2)).Nodup) (tup : ∀ p ∈ M, IsTupleKey knd s.heap p.2 p.1) (ld : w.params.followText "set-order" = true ∨ t.led = true) (few : M.length < 64) {many N : Nat}
    (hw : SetTable.sizeAbove many - 1 = N) (hN : MaskOk N) (hw2 : SetTable.sizeAbove many ≤ 128) (hn : M.length * 5 < N * 3) {Q : Unit → Shared → Prop}
    (hQ : ∀ h' M' es' ep' t', Heap.SameBut a s.heap h' → Tups knd h' a M' es' ep' t' → M'.Perm M → Q () { s with heap := h' }) : wpAny (model P w) A (setRelay a many) Q E s := by
  have sz := len_of hr
  have fits : t.fits es.size = true := by
    exact fits_of hdm hsz hfl
  obtain ⟨t', ord, e, hp, T, em, el, epl, ed⟩ := relaid_ok t (hs := es.map (·.1)) (wanted := many) hw hN (by rw [Array.size_map, sz]; omega)
  rw [Array.size_map, sz] at hp
  obtain ⟨M2, r1, r2, r3⟩ := reorder hr hp
  rw [← r3] at T
  have z2 : (ord.filterMap (es[·]?)).size = es.size := by rw [len_of r1, r2.length_eq, sz]
  rw [setRelay_eq]
  refine seqAny (wpAny_setState_of ho hd fits ?_)
  dsimp only
  refine wp_if_neg (by rw [sizeLine_eq]; omega) ?_
  try refine seqAny (wpAny_pure ?_)
  rw [e]
  dsimp only
  refine seqAny (wp_if_neg (by rw [z2]; simp) ?_)
  try refine seqAny (wpAny_pure ?_)
  refine wpAny_pure ?_
  dsimp only
  refine wpAny_storeSet_of ho hd ?_ (by rw [z2, sz, sizeLine_eq]; omega)
  have sb : Heap.SameBut a s.heap (s.heap.update a (Obj.putSet (ord.filterMap (es[·]?)) t')) := Heap.SameBut.update ..
  refine hQ _ M2 (ord.filterMap (es[·]?)) (ep + 1) t' sb ⟨⟨_, store_at ho hd, ⟨hex.1, hex.2.1, hex.2.2⟩, rfl⟩, r1, T, ?_, fun p hpm => tup_still (tup p (r2.mem_iff.mp hpm)) ho hd sb, by rw [el]; exact ld, ?_, by rw [r2.length_eq]; exact few⟩ r2
  · exact (r2.map (·.2)).nodup_iff.mpr once
  · rw [r2.length_eq, em]; exact hn
theorem put (fl : Flat knd) (R : Tups knd s.heap a M es ep t) {x : Addr} {k : List κ} (hx : IsTupleKey knd s.heap k x) (hu : A.units < cLine) (lt : M.length + 1 < 64) {Q : Bool → Shared → Prop}
    (hQ : ∀ b h' M' es' ep' t', Heap.SameBut a s.heap h' → Tups knd h' a M' es' ep' t' → (k ∈ M.map (·.2) → M' = M) → (k ∉ M.map (·.2) → M'.Perm ((x, k) :: M)) → Q b { s with heap := h' }) :
    wpAny (model P w) A (setAddHashed a (.ref x) (tupleKeyHash knd k)) Q E s := by
  obtain ⟨o, ho, hex, hd⟩ := R.obj
  have sz := R.size
  have room := R.room
  unfold setAddHashed
  refine wpAny_holding ?_
  rw [show (100000 : Nat) = 99999 + 1 from rfl, setAddHashedIn_succ]
  refine seqAny (wpAny_setState_of ho hd R.fits ?_)
  dsimp only
  refine wp_if_neg (by simp [byScan, Value.scannable]) ?_
  try refine seqAny (wpAny_pure ?_)
  refine seqAny (search fl R hx hu (fun hm => ?_) fun Z hm hZ hb => ?_)
  · dsimp only
    exact wpAny_pure (hQ false s.heap M es ep t (Heap.SameBut.refl a s.heap) R (fun _ => rfl) fun z => absurd hm z)
  · dsimp only
    refine seqAny (wpAny_setState_of ho hd R.fits ?_)
    dsimp only
    obtain ⟨q1, q2, q3, q4, q5, q6, q7, q8, q9⟩ := R.tab.put hZ hb
    generalize hpt : t.put (way t.mask (tupleKeyHash knd k) Z) = pt at q1 q3 q4 q5 q6 q7 q8 q9 ⊢
    obtain ⟨t0, p⟩ := pt
    dsimp only at q1 q3 q4 q5 q6 q7 q8 q9 ⊢
    subst q1
    have rest : ∀ (b : Bool) (t1 : SetTable), t1.place = t0.place → t1.dummies = t0.dummies → t1.mask = t0.mask → t1.led = t0.led → wpAny (model P w) A (do
        storeSet a (SetTable.insertAt es (SetTable.below t.place (way t.mask (tupleKeyHash knd k) Z)) (tupleKeyHash knd k, Value.ref x)) t1
        if !false && t1.tooFull then setRelay a (SetTable.grown (es.size + 1))
        return true) Q E s := by
     intro b t1 w1 w2 w3 w4
     replace q3 : TabOk t1 (List.take (SetTable.below t.place (way t.mask (tupleKeyHash knd k) Z)) (hashes knd M) ++ tupleKeyHash knd k :: List.drop (SetTable.below t.place (way t.mask (tupleKeyHash knd k) Z)) (hashes knd M)) := ⟨by rw [w1]; exact q3.ris, by rw [w2]; exact q3.dm, by rw [w1]; exact q3.sz, by rw [w3]; exact q3.mok, by rw [w1, w3]; exact q3.bd, by rw [w1, w3]; exact q3.reach⟩
     replace q4 := w3.trans q4
     replace q5 := w4.trans q5
     replace q9 : t1.fill = (hashes knd M).length + 1 := by
       have z := q9
       unfold SetTable.fill at z ⊢
       rw [w1, w2]; exact z
     clear w1 w2 w3 w4 hpt
     have put1 : ∀ q, (SetTable.insertAt es q (tupleKeyHash knd k, Value.ref x)).toList = ents knd (M.take q ++ (x, k) :: M.drop q) := fun q => by
       rw [SetTable.toList_insertAt, R.rows]
       unfold ents
       rw [List.map_append, List.map_cons, List.map_take, List.map_drop]
     have hin := put1 (SetTable.below t.place (way t.mask (tupleKeyHash knd k) Z))
     generalize hpp : SetTable.below t.place (way t.mask (tupleKeyHash knd k) Z) = p at q2 q3 hin ⊢
     have pm := ins_perm M p (x, k)
     have len1 : (M.take p ++ (x, k) :: M.drop p).length = M.length + 1 := pm.length_eq
     have hash1 : hashes knd (M.take p ++ (x, k) :: M.drop p) = (hashes knd M).take p ++ tupleKeyHash knd k :: (hashes knd M).drop p := by
       unfold hashes
       rw [List.map_append, List.map_cons, List.map_take, List.map_drop]
     rw [← hash1] at q3
     have once1 : ((M.take p ++ (x, k) :: M.drop p).map (·.2)).Nodup := (pm.map (·.2)).nodup_iff.mpr (by rw [List.map_cons]; exact List.nodup_cons.mpr ⟨hm, R.once⟩)
     have size1 := (len_of hin).trans len1
     generalize SetTable.insertAt es p (tupleKeyHash knd k, Value.ref x) = es1 at hin size1 ⊢
     generalize M.take p ++ (x, k) :: M.drop p = M1 at pm len1 q3 once1 hin
     refine seqAny (wpAny_storeSet_of ho hd ?_ (by rw [size1, sizeLine_eq]; omega))
     have sb : Heap.SameBut a s.heap (s.heap.update a (Obj.putSet es1 t1)) := Heap.SameBut.update ..
     have ho1 := store_at (es' := es1) (t' := t1) ho hd
     generalize s.heap.update a (Obj.putSet es1 t1) = h1 at sb ho1 ⊢
     have tup1 : ∀ p ∈ M1, IsTupleKey knd h1 p.2 p.1 := fun p hp => by
       rcases List.mem_cons.mp (pm.mem_iff.mp hp) with e | hp
       · rw [e]; exact tup_still hx ho hd sb
       · exact tup_still (R.tup p hp) ho hd sb
     have led1 : w.params.followText "set-order" = true ∨ t1.led = true := by rw [q5]; exact R.led
     have lh : (hashes knd M).length = M.length := List.length_map _
     have lh1 : (hashes knd M1).length = M.length + 1 := (List.length_map _).trans len1
     by_cases full : t1.tooFull = true
     · first
         | (refine wpAny_bind ?_; refine wp_if_pos (by simp [full]) ?_)
         | (refine wp_if_pos (by simp [full]) ?_; refine wpAny_bind ?_)
       have much : (M.length + 1) * 5 ≥ t1.mask * 3 := by
         have z := full
         unfold SetTable.tooFull at z
         rw [decide_eq_true_eq, q9, lh] at z
         exact z
       rw [sz]
       have size2 : t1.place.size = es1.size := by rw [q3.sz, lh1, size1]
       have two : (t.mask = 7 ∧ M.length = 4) ∨ (t.mask = 31 ∧ M.length = 18) := by
         rw [q4] at much
         rcases R.tab.mok with e | e | e <;> rw [e] at much room
         · exact .inl ⟨e, by omega⟩
         · exact .inr ⟨e, by omega⟩
         · omega
       have go : ∀ N, SetTable.sizeAbove (SetTable.grown (M.length + 1)) - 1 = N → MaskOk N → SetTable.sizeAbove (SetTable.grown (M.length + 1)) ≤ 128 → (M.length + 1) * 5 < N * 3 →
           wpAny (model P w) A (setRelay a (SetTable.grown (M.length + 1))) (fun _ s' => wpAny (model P w) A (pure true) Q E s') E { s with heap := h1 } := fun N g1 g2 g3 g4 => by
         refine relay fl (s := { s with heap := h1 }) ho1 ⟨hex.1, hex.2.1, hex.2.2⟩ rfl hin size2 q3.dm (by rw [size1, q4]; rcases two with ⟨e, e2⟩ | ⟨e, e2⟩ <;> omega) once1 tup1 led1 (by rw [len1]; exact lt) g1 g2 g3 (by rw [len1]; exact g4) ?_
         intro h2 M2 es2 ep2 t2 sb2 R2 pm2
         exact wpAny_pure (hQ true h2 M2 es2 ep2 t2 (sb.trans sb2) R2 (fun z => absurd z hm) fun _ => pm2.trans pm)
       rcases two with ⟨_, e2⟩ | ⟨_, e2⟩
       · exact go 31 (by rw [e2, size_20]) (.inr (.inl rfl)) (by rw [e2, size_20]; decide) (by omega)
       · exact go 127 (by rw [e2, size_76]) (.inr (.inr rfl)) (by rw [e2, size_76]; decide) (by omega)
     · first
         | refine wp_if_neg (by simp [full]) ?_
         | (refine wpAny_bind ?_; refine wp_if_neg (by simp [full]) ?_; refine wpAny_pure ?_)
       refine wpAny_pure (hQ true h1 M1 es1 (ep + 1) t1 sb ⟨⟨_, ho1, ⟨hex.1, hex.2.1, hex.2.2⟩, rfl⟩, hin, q3, once1, tup1, led1, ?_, by rw [len1]; exact lt⟩ (fun z => absurd z hm) fun _ => pm)
       have z := full
       unfold SetTable.tooFull at z
       rw [decide_eq_true_eq, q9, lh] at z
       rw [len1]
       omega

    by_cases pl : t0.plain = true
    · first
        | (refine wpAny_bind ?_; refine wp_if_pos pl ?_; refine by_value fl hx fun b => ?_)
        | refine wp_if_pos pl (wpAny_bind (by_value fl hx fun b => ?_))
      cases b with
      | true => exact rest true t0 rfl rfl rfl rfl
      | false => exact rest false _ rfl rfl rfl rfl
    · first
        | (refine wpAny_bind ?_; refine wp_if_neg pl ?_; refine wpAny_pure ?_)
        | refine wp_if_neg pl (wpAny_bind (wpAny_pure ?_))
      exact rest true t0 rfl rfl rfl rfl
end
/-! ### as a tracked thing -/
/-- the set's own object: the addresses of its tuples, and what they hold -/
structure Part (P : Program) (w : World) (h : Heap) (a : Addr) (M : List (Row Key)) (es : Array (Int × Value)) (ep : Nat) (t : SetTable) : Prop where
  obj : ∃ o, h.get? a = some o ∧ o.ExactSet ∧ o.data = .set es ep t
  rows : es.toList = ents (mixKind P w) M
  tab : TabOk t (hashes (mixKind P w) M)
  once : (M.map (·.2)).Nodup
  led : w.params.followText "set-order" = true ∨ t.led = true
  room : M.length * 5 < t.mask * 3
  few : M.length < 64
def Is (P : Program) (w : World) (a : Addr) (M : List (Row Key)) (h : Heap) : Prop := ∃ es ep t, Part P w h a M es ep t
def SetF (P : Program) (w : World) (a : Addr) (M : List (Row Key)) : HO := .ext fun h => Is P w a M h
theorem Is.keep {P : Program} {w : World} {a : Addr} {M : List (Row Key)} {h h' : Heap} (R : Is P w a M h) (k : ∀ o, h.get? a = some o → h'.get? a = some o) : Is P w a M h' :=
  let ⟨es, ep, t, q⟩ := R; let ⟨o, ho, r⟩ := q.obj; ⟨es, ep, t, ⟨o, k o ho, r⟩, q.rows, q.tab, q.once, q.led, q.room, q.few⟩
theorem Is.there {P : Program} {w : World} {a : Addr} {M : List (Row Key)} {h : Heap} (R : Is P w a M h) : ∃ o, h.get? a = some o ∧ o.cls = .type "set" := let ⟨_, _, _, q⟩ := R; let ⟨o, ho, hx, _⟩ := q.obj; ⟨o, ho, hx.1⟩
theorem part_ok {P : Program} {w : World} {a : Addr} {M : List (Row Key)} {H : Hp} {h : Heap} (R : Is P w a M h) : ObjOk P w H h a (SetF P w a M) := ⟨R, let ⟨o, ho, _⟩ := R.there; ⟨o, ho⟩, fun _ _ p k => p.keep k⟩
theorem fresh_tups {P : Program} {w : World} (h : Heap) : Is P w h.objs.size [] (h.push (KnS.set0 w)) := by
  refine ⟨#[], 0, _, ⟨_, Heap.get?_push_size _ rfl, ⟨rfl, rfl, rfl⟩, rfl⟩, rfl, ⟨List.Pairwise.nil, rfl, rfl, .inl rfl, (fun x hx => nomatch hx), fun i z j hi => (by simp [hashes] at hi)⟩, List.nodup_nil, ?_, (show 0 * 5 < 7 * 3 by decide), (show 0 < 64 by decide)⟩
  cases q : w.params.followText "set-order" with
  | true => exact .inl rfl
  | false => exact .inr rfl
/-- .. and its tuples -/
def TupsAt (P : Program) (w : World) (H : Hp) (a : Addr) (M : List (Row Key)) : Prop := H a = some (SetF P w a M) ∧ ∀ p ∈ M, H p.1 = some (.tup (p.2.map kV))
theorem setF_ne {P : Program} {w : World} {a : Addr} {M : List (Row Key)} {xs : List V} : SetF P w a M ≠ .tup xs := fun z => by unfold SetF at z; cases z
section
variable {X : Cx} {pins : List (Addr × Obj)} {σ : L2.St} {H : Hp} {s : Shared} {a : Addr} {M : List (Row Key)}
theorem tup_is {P : Program} {w : World} {H : Hp} {h : Heap} {b : Addr} {k : List Key} (ok : HOk P w H h) (e : H b = some (.tup (k.map kV))) : IsTupleKey (mixKind P w) h k b := by
  obtain ⟨_, its, rv, o, h1, h2, n, h3⟩ := (show ObjOk P w H h b (.tup (k.map kV)) from ok b _ e)
  exact ⟨o, _, n, h1, h2, h3, by simpa using items_are rv⟩
theorem tups_of (I : Inv X pins σ H s) (D : TupsAt X.prog X.w H a M) : ∃ es ep t, Tups (mixKind X.prog X.w) s.heap a M es ep t := by
  obtain ⟨⟨es, ep, t, q⟩, _⟩ := (show ObjOk X.prog X.w H s.heap a (SetF X.prog X.w a M) from I.hok a _ D.1)
  exact ⟨es, ep, t, q.obj, q.rows, q.tab, q.once, fun p hp => tup_is I.hok (D.2 p hp), q.led, q.room, q.few⟩
theorem n_addT {A : Around} {E : Value → Shared → Prop} {Q : Value → Shared → Prop} {b : Addr} {k : List Key} {u : Value} (hu : A.units + 65 < cLine) (I : Inv X pins σ H s) (D : TupsAt X.prog X.w H a M) (eb : H b = some (.tup (k.map kV))) (r : RelV (.ref b) u) (lt : M.length + 1 < 64)
    (hQ : ∀ M' s', Inv X pins σ (upd H a (SetF X.prog X.w a M')) s' → (k ∈ M.map (·.2) → M' = M) → (k ∉ M.map (·.2) → M'.Perm ((b, k) :: M)) → TupsAt X.prog X.w (upd H a (SetF X.prog X.w a M')) a M' → Q .none s') :
    wpAny (model X.prog X.w) A (call (.builtin "set.add") [.ref a, u]) Q E s := by
  obtain rfl : u = Value.ref b := r
  obtain ⟨es, ep, t, R⟩ := tups_of I D
  have hx := tup_is I.hok eb
  have there : ∃ o, s.heap.get? a = some o ∧ o.cls = .type "set" := let ⟨o, ho, hex, _⟩ := R.obj; ⟨o, ho, hex.1⟩
  refine wpAny_call_entry F.slot_set_add (show s.TypeIs (.ref a) "set" from there) F.entry_set_add ?_ (F.args_set_add_2 _ _)
  unfold Builtin.«set.add» Builtin.Frozenset.oneOther
  simp only [List.isEmpty_nil, bind_assoc]
  unfold Builtin.Frozenset.addrOf setAdd
  refine seqAny (wpAny_pure (wpAny_bind (wpAny_pure (wpAny_bind (wpAny_holding (wpAny_bind (wpAny_pyHash_tuple (show A.in1.units < cLine by have : A.in1.units ≤ A.units + 1 := Nat.le_refl _; omega) hx ?_)))))))
  refine put (s := { s with toks := s.toks + (k.length + 1) }) flat_mix R hx (show A.in1.units < cLine by have : A.in1.units ≤ A.units + 1 := Nat.le_refl _; omega) lt fun _ h' M' es' ep' t' sb R' c1 c2 => ?_
  have sub : ∀ p ∈ M', p ∈ (b, k) :: M := fun p hp => by
    rcases Classical.em (k ∈ M.map (·.2)) with c | c
    · rw [c1 c] at hp; exact List.mem_cons_of_mem _ hp
    · exact (c2 c).mem_iff.mp hp
  have ob : ObjOk X.prog X.w (upd H a (SetF X.prog X.w a M')) h' a (SetF X.prog X.w a M') := part_ok ⟨es', ep', t', R'.obj, R'.rows, R'.tab, R'.once, R'.led, R'.room, R'.few⟩
  refine (show wpAny _ _ (ret Value.none) _ _ _ from wpAny_pure ⟨_, rfl, hQ M' _ (I.write (e := a) (t' := s.toks + (k.length + 1)) (by rw [D.1]; trivial) (.inl rfl) (fun b o hb ho => (sb.2 b hb).trans ho) (let ⟨o, ho, _⟩ := R'.obj; ⟨o, ho⟩) ob) c1 c2 ⟨upd_same, fun p hp => ?_⟩⟩)
  have e : H p.1 = some (.tup (p.2.map kV)) := by
    rcases List.mem_cons.mp (sub p hp) with z | z
    · rw [z]; exact eb
    · exact D.2 p z
  exact (upd_ne fun z => by rw [z, D.1] at e; exact setF_ne (Option.some.inj e)).trans e
theorem cr_lenT : CallR X (.builtin "len") (fun xs H Q => ∃ (a : Addr) (M : List (Row Key)), xs = [.ref a] ∧ H a = some (SetF X.prog X.w a M) ∧ Q (.int M.length) H) := by
  intro pins s σ H vs us Q I r h
  obtain ⟨a, M, rfl, ha, q⟩ := h
  rw [Vals.ref1 r]
  obtain ⟨⟨es, ep, t, ⟨o, ho, hex, hd⟩, hr, ht, _, _, hm, hf⟩, _⟩ := (show ObjOk X.prog X.w H s.heap a (SetF X.prog X.w a M) from I.hok a _ ha)
  have n := len_of hr
  have fits : t.fits es.size = true := by
    have z1 : t.place.size = M.length := ht.sz.trans (List.length_map _)
    have z2 : t.place.size = es.size := z1.trans n.symm
    exact fits_of ht.dm z2 (by omega)
  exact call_len_set ho hex hd fits (by omega) ⟨.int M.length, H, I.tok _, ⟨_, by rw [n]⟩, q⟩
end
/-! ### a set comprehension whose members are tuples -/
def tScT (P : Program) (w : World) (wi : TI) (g : TG) (tt : TT) (te : TE) (vs : List Nat) : TE := fun σ H Q => wi σ H fun J H1 => ∀ D, H1 D = none →
  ∃ W : Nat → Nat → Hp → Prop, (∃ m, W 0 m (upd H1 D (SetF P w D []))) ∧ ∀ i m H, W i m H → (J.stop i H ∧ Q (.ref D) H) ∨
    (J.go i H ∧ ∃ Nx : Hp → Prop, (∀ H', Nx H' → ∃ m', m' < m ∧ W (i + 1) m' H') ∧
      ∀ x H', J.yld i H x H' → g x (wipe σ vs) H' fun σ2 H2 => wipe σ2 vs = wipe σ vs ∧ tt σ2 H2 fun b H3 =>
        if b = true then te σ2 H3 fun y H4 => ∃ (b : Addr) (k : List Key) (M : List (Row Key)), y = .ref b ∧ TupsAt P w H4 D M ∧ H4 b = some (.tup (k.map kV)) ∧ M.length + 1 < 64 ∧
          ∀ M', (k ∈ M.map (·.2) → M' = M) → (k ∉ M.map (·.2) → M'.Perm ((b, k) :: M)) → TupsAt P w (upd H4 D (SetF P w D M')) D M' → Nx (upd H4 D (SetF P w D M')) else Nx H3)
section
variable {X : Cx}
theorem scT {elt tg iter : Expr} {ifs : List Expr} {scope : Scope} {own : List (Str × Nat)} {pos : Pos} {wi : TI} {g : TG} {tt : TT} {te : TE}
    (hu : X.A.units + 65 < cLine) (hc : X.calm = true) (hN : X.N.Nodup) (hi : PI X tg iter wi) (ok : BlkOk X.N X.env.scope scope own)
    (hg : ∀ (s : Shared) (H : Hp) (C : Addr) (cl : List (Str × Addr)) (fp : List Addr), PG (X.blk s H scope (compEnvC scope cl C X.env) fp) tg g)
    (ht : ∀ (s : Shared) (H : Hp) (C : Addr) (cl : List (Str × Addr)) (fp : List Addr), PTs (X.blk s H scope (compEnvC scope cl C X.env) fp) ifs tt)
    (he : ∀ (s : Shared) (H : Hp) (C : Addr) (cl : List (Str × Addr)) (fp : List Addr), PE (X.blk s H scope (compEnvC scope cl C X.env) fp) elt te)
    (hs : ∀ x, foldedSetIterable iter X.env x = pure x := by intro _; rfl) :
    PE X (.SetComp elt [⟨tg, iter, ifs, 0⟩] scope pos) (tScT X.prog X.w wi g tt te (own.map (·.2))) := by
  refine ⟨fun pins s σ H Q I h => ?_⟩
  rw [PpSet.eval_SetComp]
  have captured : ∀ y ∈ scope.names, y.2 = .free → ∃ c, X.env.cells.lookup y.1 = some c := fun y hy e =>
    (ok.free y hy e).elim (fun k => I.ok.has _ (.inl k)) fun k => I.ok.has _ (.inr k)
  refine wpAny_comprehension_free (use := none) rfl hs (closure_ok captured) ok.kind (fun y hy e => by rw [ok.uniq y hy, e]) ?_
  refine thn (hi.run pins s σ H _ I h) fun xv s1 hx => thn hx fun itv s2 ⟨it, fp, tn, J, H2, eit, I2, T, st2, f2, q⟩ => ?_
  subst eit
  refine PpSet.newSet_ok (newEnv_comp ?_)
  generalize hD : s2.heap.objs.size = D
  have freeD : H2 D = none := I2.hok.fresh (Nat.le_of_eq hD)
  obtain ⟨W, ⟨m0, w0⟩, turn⟩ := q D freeD
  -- the new set stands
  generalize h3 : s2.heap.push (KnS.set0 X.w) = hp3
  have keep3 : ∀ b o, s2.heap.get? b = some o → hp3.get? b = some o := fun b o e => h3 ▸ Heap.get?_push_of_some _ e
  have size3 : hp3.objs.size = s2.heap.objs.size + 1 := by rw [← h3, Heap.size_push]
  have I3 : Inv X pins σ (upd H2 D (SetF X.prog X.w D [])) { s2 with heap := hp3 } := by
    refine I2.laid (t' := s2.toks) keep3 (Nat.le_of_eq hD) (part_ok ?_)
    rw [← h3, ← hD]
    exact fresh_tups _
  have inFp : ∀ b ∈ fp, b < s2.heap.objs.size := fun b hb => let ⟨_, e, _⟩ := T.obj _ _ st2 b hb; Heap.lt_size e
  have f3 : ∀ b ∈ fp, FpOk X pins (upd H2 D (SetF X.prog X.w D [])) b ∧ b < hp3.objs.size := fun b hb =>
    ⟨⟨(upd_ne (by rw [← hD]; exact Nat.ne_of_lt (inFp b hb))).trans (f2 b hb).1, (f2 b hb).2⟩, by rw [size3]; exact Nat.lt_succ_of_lt (inFp b hb)⟩
  have st3 : tn 0 hp3 := T.keep _ _ _ st2 fun b _ => keep3 b
  generalize hH3 : upd H2 D (SetF X.prog X.w D []) = H3 at I3 f3 w0
  generalize hs3 : ({ s2 with heap := hp3 } : Shared) = s3 at I3
  have e3 : s3.heap = hp3 := by rw [← hs3]
  have I4 := block_start I3 ok hN (fun b hb => ⟨(f3 b hb).1, by rw [e3]; exact (f3 b hb).2⟩)
  have clear0 : ∀ b ∈ fp, H3 b = none := fun b hb => (f3 b hb).1.1
  show codeAny _ _ (.compStart (.SetComp elt [⟨tg, iter, ifs, 0⟩] scope pos) 0 (.ref it) (.ref D) (compEnvC scope (cellsFrom (s3.heap.objs.size + 1) scope.names (cloFrom X.env.cells scope.names [])) s3.heap.objs.size X.env))
    (compPost (model X.prog X.w) X.A X.xe none (EP X pins σ Q) (.ref D) s3.heap.objs.size) { s3 with heap := pushCells (s3.heap.push { cls := .type "dict", data := .dict #[] }) scope.names }
  have pg := hg s3 H3 s3.heap.objs.size (cellsFrom (s3.heap.objs.size + 1) scope.names (cloFrom X.env.cells scope.names [])) fp
  have pt := ht s3 H3 s3.heap.objs.size (cellsFrom (s3.heap.objs.size + 1) scope.names (cloFrom X.env.cells scope.names [])) fp
  have pe := he s3 H3 s3.heap.objs.size (cellsFrom (s3.heap.objs.size + 1) scope.names (cloFrom X.env.cells scope.names [])) fp
  have home : (compEnvC scope (cellsFrom (s3.heap.objs.size + 1) scope.names (cloFrom X.env.cells scope.names [])) s3.heap.objs.size X.env).locals = s3.heap.objs.size := rfl
  generalize compEnvC scope (cellsFrom (s3.heap.objs.size + 1) scope.names (cloFrom X.env.cells scope.names [])) s3.heap.objs.size X.env = ce at I4 pg pt pe home ⊢
  have st4 : tn 0 ({ s3 with heap := pushCells (s3.heap.push { cls := .type "dict", data := .dict #[] }) scope.names } : Shared).heap := by
    refine T.keep _ _ _ st3 fun b _ o e => pushCells_keeps _ _ _ _ (Heap.get?_push_of_some _ ?_)
    rw [e3]
    exact e
  generalize ({ s3 with heap := pushCells (s3.heap.push { cls := .type "dict", data := .dict #[] }) scope.names } : Shared) = s4 at I4 ⊢ st4
  have own0 : ∀ {σ' : L2.St} {H' : Hp} {s' : Shared}, Inv (X.blk s3 H3 scope ce fp) [] σ' H' s' → (∀ b ∈ fp, H' b = none) → ∀ b ∈ fp, FpOk (X.blk s3 H3 scope ce fp) [] H' b := fun I' cl b hb =>
    ⟨cl b hb, (I'.ok.exf b hb).1, I'.ok.exfs b hb, .inl hb, (fun x c e => (I'.ok.exf b hb).2 x c e), fun p hp => by cases List.mem_append.mp hp <;> rename_i z <;> exact absurd z List.not_mem_nil⟩
  have loop : codeAny (model X.prog X.w) X.A (.compLoop (.SetComp elt [⟨tg, iter, ifs, 0⟩] scope pos) 0 (.ref it) (.ref D) ce) (compPost (model X.prog X.w) X.A X.xe none (EP X pins σ Q) (.ref D) s3.heap.objs.size) s4 := by
    refine PpSet.compLoopS_any (fun n s' => ∃ i H', (Inv (X.blk s3 H3 scope ce fp) [] (wipe σ (own.map (·.2))) H' s' ∧ tn i s'.heap) ∧ (∀ b ∈ fp, H' b = none) ∧ W i n H') ?_ m0 ⟨0, H3, ⟨I4, st4⟩, clear0, w0⟩
    rintro n s5 ⟨i, H5, ⟨I5, st5⟩, cl5, w5⟩
    rcases turn i n H5 w5 with ⟨stop, fine⟩ | ⟨go, Nx, hNx, step⟩
    · refine thnF (T.done (X.blk s3 H3 scope ce fp) rfl rfl rfl hc i [] s5 _ H5 (fun _ _ => False) I5 (own0 I5 cl5) st5 stop) fun r s6 ⟨er, I6⟩ => ?_
      subst er
      have I7 : Inv X pins σ H5 s6 := I3.call' (ch := fp) I6.os I6.base I6.hok I6.bare fun b hb =>
        let f := (f3 b hb).1.2; ⟨f.2.2.1, f.1, f.2.2.2.1, f.2.2.2.2⟩
      have free5 : H5 s3.heap.objs.size = none := home ▸ I6.free
      obtain ⟨m, hn, _⟩ := I6.loc
      obtain ⟨_, k1, k2, k3, k4, k5⟩ := I3.fpOk (Nat.le_refl _) free5
      exact ⟨m, home ▸ hn, fun h'' sb => ⟨.ref D, H5, I7.turned (t' := s6.toks) (fun b o hb e => (sb.2 b hb).trans e) free5 k1 k3 k4 k5, rfl, fine⟩⟩
    · refine thnF (T.item (X.blk s3 H3 scope ce fp) rfl rfl rfl hc i [] s5 _ H5 (fun _ _ => False) I5 (own0 I5 cl5) st5 go) fun r s6 ⟨u, er, h6⟩ => ?_
      subst er
      refine thnF h6 fun _ s7 ⟨x, H7, I7, r7, y7, st7, cl7⟩ => ?_
      refine thnF (pg.run _ s7 _ H7 x u _ (I7.pinned (own0 I7 cl7) (T.obj _ _ st7)) r7 (step x H7 y7)) fun _ s8 ⟨σ8, H8, I8, same8, q8⟩ => thnF (pt.run _ s8 σ8 H8 _ I8 q8) fun b s9 ⟨H9, I9, q9⟩ => ?_
      have closed : ∀ {s' : Shared} {H' : Hp}, Inv (X.blk s3 H3 scope ce fp) ([] ++ pinsAt fp s7.heap) σ8 H' s' → Nx H' → ∃ m, m < n ∧ ∃ i H', (Inv (X.blk s3 H3 scope ce fp) [] (wipe σ (own.map (·.2))) H' s' ∧ tn i s'.heap) ∧ (∀ b ∈ fp, H' b = none) ∧ W i m H' := fun {s' H'} I' nx => by
        obtain ⟨m', less, w'⟩ := hNx H' nx
        have pinned : ∀ b ∈ fp, ∀ o, s7.heap.get? b = some o → s'.heap.get? b = some o ∧ H' b = none := fun b hb o e =>
          have z := I'.pin (b, o) (List.mem_append_right _ (List.mem_append_right _ (mem_pinsAt hb e)))
          ⟨z.1, z.2.1⟩
        have len8 : (wipe σ (own.map (·.2))).length = σ8.length := (congrArg List.length same8).symm.trans (wipe_length _ _)
        refine ⟨m', less, i + 1, H', ⟨(I'.unpinned (pins := [])).weak len8 fun j v e => ?_, T.keep _ _ _ st7 fun b hb o e => (pinned b hb o e).1⟩, fun b hb => ?_, w'⟩
        · exact (wipe_some (same8 ▸ e)).1
        · obtain ⟨o, e, _⟩ := T.obj _ _ st7 b hb
          exact (pinned b hb o e).2
      cases b with
      | false => exact closed I9 q9
      | true =>
        refine thnF (pe.run _ s9 σ8 H9 _ I9 q9) fun z s10 ⟨yv, H10, I10, r10, b, k, M, ey, D10, eb, room, nx⟩ => ?_
        subst ey
        exact n_addT (X := X.blk s3 H3 scope ce fp) hu I10 D10 eb r10 room fun M1 s11 I11 c1 c2 d1 => closed I11 (nx M1 c1 c2 d1)
  exact PpSet.codeAny_compStart_set loop (T.self X.A 0 _ _ _ st4 loop)
end
end KnZ

set_option Elab.async false
set_option linter.all false
set_option maxRecDepth 100000
set_option maxHeartbeats 2000000
/-! Dicts whose keys are nested tuples (of ints, texts, None and such tuples). -/
namespace KnN
open PySem PySem.Spec PyProof.Rows L2
abbrev NKey := NestedKey
mutual
/-- the value is the key, as the heap stands -/
inductive NIs (H : Hp) : NKey → V → Prop
  | none : NIs H .none .non
  | int (i : Int) : NIs H (.num i) (.int i)
  | text (z : Str) : NIs H (.text z) (.str z)
  | tup {a : Addr} {vs : List V} {ks : List NKey} : H a = some (.tup vs) → NAll H ks vs → NIs H (.tup ks) (.ref a)
inductive NAll (H : Hp) : List NKey → List V → Prop
  | nil : NAll H [] []
  | cons {k : NKey} {v : V} {ks : List NKey} {vs : List V} : NIs H k v → NAll H ks vs → NAll H (k :: ks) (v :: vs)
end
mutual
theorem NIs.ext {H H' : Hp} (s : ∀ a vs, H a = some (.tup vs) → H' a = some (.tup vs)) : ∀ (k : NKey) (v : V), NIs H k v → NIs H' k v
  | .none, _, h => by cases h; exact .none
  | .num i, _, h => by cases h; exact .int i
  | .text z, _, h => by cases h; exact .text z
  | .tup ks, _, h => by
    cases h with
    | tup e a => exact .tup (s _ _ e) (NAll.ext s ks _ a)
theorem NAll.ext {H H' : Hp} (s : ∀ a vs, H a = some (.tup vs) → H' a = some (.tup vs)) : ∀ (ks : List NKey) (vs : List V), NAll H ks vs → NAll H' ks vs
  | [], _, h => by cases h; exact .nil
  | k :: ks, _, h => by
    cases h with
    | cons a b => exact .cons (NIs.ext s k _ a) (NAll.ext s ks _ b)
end
mutual
theorem nis_at {P : Program} {w : World} {H : Hp} {h : Heap} (ok : HOk P w H h) : ∀ (k : NKey) (v : V) (u : Value), NIs H k v → RelV v u → NestedIs h k u
  | .none, _, u, x, r => by cases x; rw [show u = Value.none from r]; exact .none
  | .num i, _, u, x, r => by
    cases x
    obtain ⟨t, rfl⟩ := (show ∃ t, u = Value.int i t from r)
    exact .int i t
  | .text z, _, u, x, r => by
    cases x
    obtain ⟨t, rfl⟩ := (show ∃ t, u = Value.str z t from r)
    exact .text z t
  | .tup ks, _, u, x, r => by
    cases x with
    | @tup a vs _ e al =>
      obtain rfl : u = Value.ref a := r
      obtain ⟨_, its, rv, o, h1, h2, n, h3⟩ := (show ObjOk P w H h a (.tup vs) from ok a _ e)
      exact .tup h1 h2 h3 (by simpa using nall_at ok ks vs its al rv)
theorem nall_at {P : Program} {w : World} {H : Hp} {h : Heap} (ok : HOk P w H h) : ∀ (ks : List NKey) (vs : List V) (us : List Value), NAll H ks vs → Vals vs us → NestedAll h ks us
  | [], _, us, x, r => by cases x; cases r; exact .nil
  | k :: ks, _, us, x, r => by
    cases x with
    | cons a b =>
      cases r with
      | cons q t => exact .cons (nis_at ok k _ _ a q) (nall_at ok ks _ _ b t)
end
/-- the entries: key, where it stands, value -/
abbrev Ent := NKey × Addr × V
def entRel (p : Ent) (x : NKey × Addr × Value) : Prop := p.1 = x.1 ∧ p.2.1 = x.2.1 ∧ RelV p.2.2 x.2.2
def DN (P : Program) (w : World) (d : Addr) (es : List Ent) : HO := .ext fun h => ∃ o ents ep xs, h.get? d = some o ∧ o.ExactDict ∧ o.data = .dict ents ep ∧ ents.toList = xs.map (entryOfKey (nestedKind P w)) ∧ (xs.map (·.1)).Nodup ∧ Paired entRel es xs
/-- a dict with these keys and values stands at d -/
def DNAt (P : Program) (w : World) (H : Hp) (d : Addr) (kvs : List (NKey × V)) : Prop := ∃ es : List Ent, H d = some (DN P w d es) ∧ es.map (fun e => (e.1, e.2.2)) = kvs ∧ (d == sysModules) = false ∧ kvs.length ≤ sizeLine ∧ ∀ e ∈ es, NIs H e.1 (.ref e.2.1) ∧ e.1.depth ≤ 8
theorem DN_ne {P : Program} {w : World} {d : Addr} {es : List Ent} {xs : List V} : DN P w d es ≠ .tup xs := fun z => by unfold DN at z; cases z
theorem DNAt.mono {P : Program} {w : World} {H H' : Hp} {d : Addr} {kvs : List (NKey × V)} (h : DNAt P w H d kvs) (s : ∀ b o, H b = some o → H' b = some o) : DNAt P w H' d kvs := by
  obtain ⟨es, e, ek, hs, hl, hk⟩ := h
  exact ⟨es, s _ _ e, ek, hs, hl, fun x hx => ⟨NIs.ext (fun a vs q => s _ _ q) _ _ (hk x hx).1, (hk x hx).2⟩⟩
/-- another cell is changed, no tuple -/
theorem DNAt.set {P : Program} {w : World} {H : Hp} {d b : Addr} {kvs : List (NKey × V)} {o o' : HO} (h : DNAt P w H d kvs) (n : b ≠ d) (e : H b = some o) (no : ∀ xs, o ≠ .tup xs) : DNAt P w (upd H b o') d kvs := by
  obtain ⟨es, e1, ek, hs, hl, hk⟩ := h
  exact ⟨es, (upd_ne n.symm).trans e1, ek, hs, hl, fun x hx => ⟨NIs.ext (fun a vs q => (upd_ne fun z => by rw [z, e] at q; exact no _ (Option.some.inj q)).trans q) _ _ (hk x hx).1, (hk x hx).2⟩⟩
theorem DNAt.some {P : Program} {w : World} {H : Hp} {d : Addr} {kvs : List (NKey × V)} (h : DNAt P w H d kvs) : ∃ es, H d = some (DN P w d es) := let ⟨es, e, _⟩ := h; ⟨es, e⟩
theorem DNAt.ne {P : Program} {w : World} {H : Hp} {d b : Addr} {kvs : List (NKey × V)} (h : DNAt P w H d kvs) (n : H b = none) : b ≠ d := fun z => by
  obtain ⟨es, e⟩ := h.some
  rw [z, e] at n
  cases n
theorem ent_val : ∀ {es : List Ent} {xs : List (NKey × Addr × Value)}, Paired entRel es xs → ∀ k, RelO (valV (es.map fun e => (e.1, e.2.2)) k) ((atKey xs k).map (·.2))
  | _, _, .nil, k => True.intro
  | _, _, @Paired.cons _ _ _ p x ps xs h t, k => by
    obtain ⟨h1, _, h3⟩ := h
    have ih := ent_val t k
    rw [List.map_cons]
    by_cases e : p.1 = k
    · have e' : x.1 = k := h1.symm.trans e
      rw [valV_pos (p := (p.1, p.2.2)) e]
      have b : atKey (x :: xs) k = some x.2 := by simp [atKey, List.find?_cons, e']
      rw [b]; exact h3
    · have e' : ¬ x.1 = k := fun z => e (h1.trans z)
      rw [valV_neg (p := (p.1, p.2.2)) e]
      have b : atKey (x :: xs) k = atKey xs k := by simp [atKey, List.find?_cons, e']
      rw [b]; exact ih
theorem ent_len {es : List Ent} {xs : List (NKey × Addr × Value)} (h : Paired entRel es xs) : es.length = xs.length := Paired.length h
section
variable {X : Cx} {pins : List (Addr × Obj)} {σ : L2.St} {H : Hp} {s : Shared} {d : Addr} {kvs : List (NKey × V)} {A : Around} {E : Value → Shared → Prop}
/-- the dict itself -/
theorem dn_of {P : Program} {w : World} {h : Heap} (ok : HOk P w H h) (D : DNAt P w H d kvs) : ∃ es xs, H d = some (DN P w d es) ∧ es.map (fun e => (e.1, e.2.2)) = kvs ∧ (∀ e ∈ es, NIs H e.1 (.ref e.2.1) ∧ e.1.depth ≤ 8) ∧ Paired entRel es xs ∧ h.DictOfH (nestedKind P w) d xs := by
  obtain ⟨es, e, ek, hs, hl, hk⟩ := D
  obtain ⟨⟨o, ents, ep, xs, h1, h2, h3, h4, h5, h6⟩, _⟩ := (show ObjOk P w H h d (DN P w d es) from ok d _ e)
  refine ⟨es, xs, e, ek, hk, h6, o, ents, ep, h1, h2, h3, h4, fun x hx => ?_, h5⟩
  have all : ∀ {l : List Ent} {m : List (NKey × Addr × Value)}, Paired entRel l m → (∀ e ∈ l, NIs H e.1 (.ref e.2.1) ∧ e.1.depth ≤ 8) → ∀ x ∈ m, (nestedKind P w).is h x.1 x.2.1 := by
    intro l m q
    induction q with
    | nil => intro _ x hx; exact nomatch hx
    | @cons p q ps qs hq t ih =>
      intro hk x hx
      rcases List.mem_cons.mp hx with e | hx
      · subst e
        obtain ⟨a1, a2⟩ := hk p List.mem_cons_self
        refine ⟨?_, by rw [← hq.1]; exact a2⟩
        rw [← hq.1, ← hq.2.1]
        exact nis_at ok _ _ _ a1 rfl
      · exact ih (fun e he => hk e (List.mem_cons_of_mem _ he)) x hx
  exact all h6 hk x hx
theorem key_is {P : Program} {w : World} {h : Heap} {k : NKey} {b : Addr} (ok : HOk P w H h) (x : NIs H k (.ref b)) (dp : k.depth ≤ 8) : (nestedKind P w).is h k b := ⟨nis_at ok _ _ _ x rfl, dp⟩
theorem n_getItem {k : NKey} {b : Addr} {v : V} {Q : Value → Shared → Prop} (hu : A.units + 65 < cLine) (I : Inv X pins σ H s) (D : DNAt X.prog X.w H d kvs) (x : NIs H k (.ref b)) (dp : k.depth ≤ 8) (l : valV kvs k = some v) (h : ∀ w' s', Inv X pins σ H s' → RelV v w' → Q w' s') :
    wpAny (model X.prog X.w) A (getItem (.ref d) (.ref b)) Q E s := by
  obtain ⟨es, xs, e, ek, hk, hp, dd⟩ := dn_of I.hok D
  have r := ent_val hp k
  rw [ek, l] at r
  obtain ⟨w', hw, rw'⟩ := RelO.some_of r
  obtain ⟨p, hp1, hp2⟩ := Option.map_eq_some_iff.mp hw
  refine wpAny_getItem_heap (knd := nestedKind X.prog X.w) (show A.in1.units + 8 < cLine by have : A.in1.units ≤ A.units + 1 := Nat.le_refl _; omega) (key_is I.hok x dp) dd hp1 ?_
  rw [hp2]
  exact h w' _ (I.tok _) rw'
theorem n_in {k : NKey} {b : Addr} {Q : Value → Shared → Prop} (hu : A.units + 65 < cLine) (I : Inv X pins σ H s) (D : DNAt X.prog X.w H d kvs) (x : NIs H k (.ref b)) (dp : k.depth ≤ 8) (h : ∀ s', Inv X pins σ H s' → Q (.bool (valV kvs k).isSome) s') :
    wpAny (model X.prog X.w) A (compareOp .In (.ref b) (.ref d)) Q E s := by
  obtain ⟨es, xs, e, ek, hk, hp, dd⟩ := dn_of I.hok D
  have r := ent_val hp k
  rw [ek] at r
  have q := r.isSome_eq
  rw [Option.isSome_map] at q
  obtain ⟨_, _, _, hs, _⟩ := D
  refine wpAny_in_heap (knd := nestedKind X.prog X.w) (show A.in1.units + 8 < cLine by have : A.in1.units ≤ A.units + 1 := Nat.le_refl _; omega) (key_is I.hok x dp) hs dd ?_
  rw [← q]
  exact h _ (I.tok _)
theorem n_notIn {k : NKey} {b : Addr} {Q : Value → Shared → Prop} (hu : A.units + 65 < cLine) (I : Inv X pins σ H s) (D : DNAt X.prog X.w H d kvs) (x : NIs H k (.ref b)) (dp : k.depth ≤ 8) (h : ∀ s', Inv X pins σ H s' → Q (.bool (!(valV kvs k).isSome)) s') :
    wpAny (model X.prog X.w) A (compareOp .NotIn (.ref b) (.ref d)) Q E s := by
  obtain ⟨es, xs, e, ek, hk, hp, dd⟩ := dn_of I.hok D
  have r := ent_val hp k
  rw [ek] at r
  have q := r.isSome_eq
  rw [Option.isSome_map] at q
  obtain ⟨_, _, _, hs, _⟩ := D
  refine wpAny_notIn_heap (knd := nestedKind X.prog X.w) (show A.in1.units + 8 < cLine by have : A.in1.units ≤ A.units + 1 := Nat.le_refl _; omega) (key_is I.hok x dp) hs dd ?_
  rw [← q]
  exact h _ (I.tok _)
/-- an entry stored -/
def putE (es : List Ent) (k : NKey) (b : Addr) (v : V) : List Ent := if (valV (es.map fun e => (e.1, e.2.2)) k).isSome = true then es.map (fun e => if e.1 = k then (e.1, e.2.1, v) else e) else es ++ [(k, b, v)]
theorem putE_kvs (es : List Ent) (k : NKey) (b : Addr) (v : V) : (putE es k b v).map (fun e => (e.1, e.2.2)) = putK (es.map fun e => (e.1, e.2.2)) k v := by
  unfold putE putK
  rw [valV_any]
  by_cases c : (valV (es.map fun e => (e.1, e.2.2)) k).isSome = true
  · rw [if_pos c, if_pos c, List.map_map, List.map_map]
    refine List.map_congr_left fun e _ => ?_
    show (((if e.1 = k then (e.1, e.2.1, v) else e) : Ent).1, ((if e.1 = k then (e.1, e.2.1, v) else e) : Ent).2.2) = if e.1 = k then (e.1, v) else (e.1, e.2.2)
    by_cases z : e.1 = k
    · rw [if_pos z, if_pos z]
    · rw [if_neg z, if_neg z]
  · rw [if_neg c, if_neg c, List.map_append]; rfl
theorem putE_rel {es : List Ent} {xs : List (NKey × Addr × Value)} (h : Paired entRel es xs) (k : NKey) (b : Addr) {v : V} {u : Value} (r : RelV v u) : Paired entRel (putE es k b v) (storedH xs k b u) := by
  have q := (ent_val h k).isSome_eq
  rw [Option.isSome_map] at q
  unfold putE storedH
  rw [q]
  by_cases c : (atKey xs k).isSome = true
  · rw [if_pos c, if_pos c]
    clear q c
    induction h with
    | nil => exact .nil
    | @cons p x ps xs hq t ih =>
      refine .cons ?_ ih
      obtain ⟨h1, h2, h3⟩ := hq
      unfold putAt
      show entRel (if p.1 = k then (p.1, p.2.1, v) else p) (if x.1 = k then (x.1, x.2.1, u) else x)
      by_cases z : p.1 = k
      · rw [if_pos z, if_pos (h1.symm.trans z)]; exact ⟨h1, h2, r⟩
      · rw [if_neg z, if_neg fun y => z (h1.trans y)]; exact ⟨h1, h2, h3⟩
  · rw [if_neg c, if_neg c]
    exact Paired.snoc h ⟨rfl, rfl, r⟩
theorem putE_mem {es : List Ent} {k : NKey} {b : Addr} {v : V} {e : Ent} (h : e ∈ putE es k b v) : (∃ e' ∈ es, e.1 = e'.1 ∧ e.2.1 = e'.2.1) ∨ (e.1 = k ∧ e.2.1 = b) := by
  unfold putE at h
  split at h
  · obtain ⟨x, hx, rfl⟩ := List.mem_map.mp h
    refine .inl ⟨x, hx, ?_⟩
    split <;> exact ⟨rfl, rfl⟩
  · rcases List.mem_append.mp h with h | h
    · exact .inl ⟨e, h, rfl, rfl⟩
    · rw [List.mem_singleton.mp h]; exact .inr ⟨rfl, rfl⟩
theorem dn_ok {P : Program} {w : World} {H' : Hp} {h' : Heap} {es : List Ent} {xs : List (NKey × Addr × Value)} (r : Paired entRel es xs) (dd : h'.DictOfH (nestedKind P w) d xs) : ObjOk P w H' h' d (DN P w d es) := by
  obtain ⟨o, ents, ep, h1, h2, h3, h4, _, h6⟩ := dd
  refine ⟨⟨o, ents, ep, xs, h1, h2, h3, h4, h6, r⟩, ⟨o, h1⟩, fun g1 g2 ⟨o', ents', ep', xs', a1, a2, a3, a4, a5, a6⟩ st => ⟨o', ents', ep', xs', st _ a1, a2, a3, a4, a5, a6⟩⟩
theorem n_setItem {k : NKey} {b : Addr} {v : V} {u : Value} {Q : Unit → Shared → Prop} (hu : A.units + 65 < cLine) (I : Inv X pins σ H s) (D : DNAt X.prog X.w H d kvs) (x : NIs H k (.ref b)) (dp : k.depth ≤ 8) (lt : kvs.length < sizeLine) (rv : RelV v u)
    (h : ∀ H' s', Inv X pins σ H' s' → (∀ c, c ≠ d → H' c = H c) → DNAt X.prog X.w H' d (putK kvs k v) → Q () s') : wpAny (model X.prog X.w) A (setItem (.ref d) (.ref b) u) Q E s := by
  obtain ⟨es, xs, e, ek, hk, hp, dd⟩ := dn_of I.hok D
  obtain ⟨_, _, _, hs, _⟩ := D
  have hl : es.length = kvs.length := by rw [← ek, List.length_map]
  have hz : xs.length ≤ sizeLine := by rw [← ent_len hp, hl]; omega
  refine wpAny_setItem_heap (knd := nestedKind X.prog X.w) (hsz := hz) (show A.in1.units + 8 < cLine by have : A.in1.units ≤ A.units + 1 := Nat.le_refl _; omega) (key_is I.hok x dp) dd fun h' dd' sb => ?_
  have he : ∃ q, h'.get? d = some q := let ⟨q, _, _, hq, _⟩ := dd'; ⟨q, hq⟩
  have nt : ∀ (c : Addr) (vs : List V), H c = some (.tup vs) → (upd H d (DN X.prog X.w d (putE es k b v))) c = some (.tup vs) := fun c vs q => (upd_ne fun z => by rw [z, e] at q; exact DN_ne (Option.some.inj q)).trans q
  refine h (upd H d (DN X.prog X.w d (putE es k b v))) _ (d_write I (by rw [e]; exact True.intro) sb he (dn_ok (putE_rel hp k b rv) dd')) (fun c hc => upd_ne hc) ⟨putE es k b v, upd_same, by rw [putE_kvs, ek], hs, ?_, fun y hy => ?_⟩
  · have := length_putK kvs k v
    omega
  · rcases putE_mem hy with ⟨e', he', h1, h2⟩ | ⟨h1, h2⟩
    · rw [h1, h2]; exact ⟨NIs.ext nt _ _ (hk e' he').1, (hk e' he').2⟩
    · rw [h1, h2]; exact ⟨NIs.ext nt _ _ x, dp⟩
end
/-! ### expressions, statements -/
def tNNew (P : Program) (w : World) : TE := fun _ H Q => ∀ d H', H d = none → (∀ c, c ≠ d → H' c = H c) → DNAt P w H' d [] → Q (.ref d) H'
def tNGet (P : Program) (w : World) (td ty : TE) : TE := fun σ H Q => td σ H fun x H1 => ty σ H1 fun y H2 => ∃ a kvs k b v, x = .ref a ∧ y = .ref b ∧ DNAt P w H2 a kvs ∧ NIs H2 k (.ref b) ∧ k.depth ≤ 8 ∧ valV kvs k = some v ∧ Q v H2
def tNIn (P : Program) (w : World) (ty td : TE) : TE := fun σ H Q => ty σ H fun y H1 => td σ H1 fun x H2 => ∃ a kvs k b, x = .ref a ∧ y = .ref b ∧ DNAt P w H2 a kvs ∧ NIs H2 k (.ref b) ∧ k.depth ≤ 8 ∧ Q (.bl (valV kvs k).isSome) H2
def tNNotIn (P : Program) (w : World) (ty td : TE) : TE := fun σ H Q => ty σ H fun y H1 => td σ H1 fun x H2 => ∃ a kvs k b, x = .ref a ∧ y = .ref b ∧ DNAt P w H2 a kvs ∧ NIs H2 k (.ref b) ∧ k.depth ≤ 8 ∧ Q (.bl (!(valV kvs k).isSome)) H2
def sNPut (P : Program) (w : World) (td ty tv : TE) : TS := fun D σ H => tv σ H fun v H1 => td σ H1 fun x H2 => ty σ H2 fun y H3 => ∃ a kvs k b, x = .ref a ∧ y = .ref b ∧ DNAt P w H3 a kvs ∧ NIs H3 k (.ref b) ∧ k.depth ≤ 8 ∧ kvs.length < sizeLine ∧ ∀ H4, (∀ c, c ≠ a → H4 c = H3 c) → DNAt P w H4 a (putK kvs k v) → D.nx σ H4
section
variable {X : Cx} {o i e value : Expr} {pos pos' tpos : Pos} {td ty tv : TE}
theorem nd_type {pins : List (Addr × Obj)} {σ : L2.St} {H : Hp} {s : Shared} {d : Addr} {kvs : List (NKey × V)} (I : Inv X pins σ H s) (D : DNAt X.prog X.w H d kvs) : s.TypeIs (.ref d) "dict" := by
  obtain ⟨_, _, _, _, _, _, dd⟩ := dn_of I.hok D
  exact dd.typeIs
theorem pe_nnew : PE X (.Dict [] [] pos) (tNNew X.prog X.w) := ⟨fun pins s σ H Q I h => by
  refine wpAny_Dict_empty ⟨.ref s.heap.objs.size, upd H s.heap.objs.size (DN X.prog X.w s.heap.objs.size []), I.laid (a := s.heap.objs.size) (o := DN X.prog X.w s.heap.objs.size []) (t' := s.toks) (fun _ _ q => Heap.get?_push_of_some _ q) (Nat.le_refl _) (dn_ok (xs := []) .nil (Heap.DictOfH.new s.heap)), rfl, ?_⟩
  exact h _ _ (I.hok.fresh (Nat.le_refl _)) (fun c hc => upd_ne hc) ⟨[], upd_same, rfl, beq_eq_false_iff_ne.mpr (Ne.symm (Nat.ne_of_lt I.big)), Nat.zero_le _, fun e he => nomatch he⟩⟩
theorem pe_nget (hu : X.A.units + 65 < cLine) (ho : PE X o td) (hi : PE X i ty) (hs : NoSl i) : PE X (.Subscript o i pos) (tNGet X.prog X.w td ty) := by
  refine ⟨fun pins s σ H Q I h => ?_⟩
  refine subD_of PySem.F.slot_dict_getitem.lookup hs (thn (ho.run pins s σ H _ I h) fun u s1 ⟨x, H1, I1, rx, q1⟩ => thn (hi.run pins s1 σ H1 _ I1 q1) fun iv s2 ⟨y, H2, I2, ry, a, kvs, k, b, v, ex, ey, D, n, dp, l, q2⟩ => ?_)
  subst ex ey
  obtain rfl : u = Value.ref a := rx
  obtain rfl : iv = Value.ref b := ry
  exact ⟨nd_type I2 D, n_getItem hu I2 D n dp l fun w' s3 I3 rw' => ⟨v, H2, I3, rw', q2⟩⟩
theorem pc_nin (hu : X.A.units + 65 < cLine) (hi : PE X i ty) (ho : PE X o td) : PC X .In i o (tNIn X.prog X.w ty td) := by
  refine ⟨fun pins s σ H Q I h => ?_⟩
  refine thn (hi.run pins s σ H _ I h) fun iv s1 ⟨y, H1, I1, ry, q1⟩ => thn (ho.run pins s1 σ H1 _ I1 q1) fun u s2 ⟨x, H2, I2, rx, a, kvs, k, b, ex, ey, D, n, dp, q2⟩ => ?_
  subst ex ey
  obtain rfl : u = Value.ref a := rx
  obtain rfl : iv = Value.ref b := ry
  exact n_in hu I2 D n dp fun s3 I3 => ⟨.bl (valV kvs k).isSome, H2, I3, rfl, q2⟩
theorem pc_nnotin (hu : X.A.units + 65 < cLine) (hi : PE X i ty) (ho : PE X o td) : PC X .NotIn i o (tNNotIn X.prog X.w ty td) := by
  refine ⟨fun pins s σ H Q I h => ?_⟩
  refine thn (hi.run pins s σ H _ I h) fun iv s1 ⟨y, H1, I1, ry, q1⟩ => thn (ho.run pins s1 σ H1 _ I1 q1) fun u s2 ⟨x, H2, I2, rx, a, kvs, k, b, ex, ey, D, n, dp, q2⟩ => ?_
  subst ex ey
  obtain rfl : u = Value.ref a := rx
  obtain rfl : iv = Value.ref b := ry
  exact n_notIn hu I2 D n dp fun s3 I3 => ⟨.bl (!(valV kvs k).isSome), H2, I3, rfl, q2⟩
theorem ps_nput (hu : X.A.units + 65 < cLine) (ho : PE X o td) (hi : PE X i ty) (hv : PE X value tv) (hs : swapsWith value (some (.Subscript o i pos')) pos.line X.env = pure false) :
    PS X (.Assign [.Subscript o i pos'] value pos) (sNPut X.prog X.w td ty tv) := by
  refine ⟨fun pins s σ H D I h => ?_⟩
  refine wpAny_Assign_Subscript (thn (hv.run pins s σ H _ I h) fun r s1 ⟨v, H1, I1, rv, q1⟩ => thn (ho.run pins s1 σ H1 _ I1 q1) fun u s2 ⟨x, H2, I2, rx, q2⟩ => thn (hi.run pins s2 σ H2 _ I2 q2) fun iv s3 ⟨y, H3, I3, ry, a, kvs, k, b, ex, ey, dn, n, dp, lt, q3⟩ => ?_) hs
  subst ex ey
  obtain rfl : u = Value.ref a := rx
  obtain rfl : iv = Value.ref b := ry
  exact n_setItem hu I3 dn n dp lt rv fun H4 s4 I4 k1 k2 => ⟨σ, H4, I4, q3 H4 k1 k2⟩
end
/-! ### a dict comprehension -/
theorem n_dictSet {X : Cx} {pins : List (Addr × Obj)} {σ : L2.St} {H : Hp} {s : Shared} {d : Addr} {kvs : List (NKey × V)} {E : Value → Shared → Prop} {k : NKey} {b : Addr} {v : V} {r u : Value} {Q : Unit → Shared → Prop} (hu : X.A.units + 65 < cLine) (I : Inv X pins σ H s) (D : DNAt X.prog X.w H d kvs) (x : NIs H k (.ref b)) (dp : k.depth ≤ 8) (lt : kvs.length < sizeLine) (ry : RelV (.ref b) r) (rv : RelV v u)
    (h : ∀ H' s', Inv X pins σ H' s' → (∀ c, c ≠ d → H' c = H c) → DNAt X.prog X.w H' d (putK kvs k v) → Q () s') : wpAny (model X.prog X.w) X.A (dictSet d r u) Q E s := by
  obtain rfl : r = Value.ref b := ry
  obtain ⟨es, xs, e, ek, hk, hp, dd⟩ := dn_of I.hok D
  obtain ⟨_, _, _, hs, _⟩ := D
  have hl : es.length = kvs.length := by rw [← ek, List.length_map]
  have hz : xs.length ≤ sizeLine := by rw [← ent_len hp, hl]; omega
  refine wpAny_dictSet_heap (knd := nestedKind X.prog X.w) (hsz := hz) (show X.A.units + 8 < cLine by omega) (key_is I.hok x dp) dd fun h' dd' sb => ?_
  have he : ∃ q, h'.get? d = some q := let ⟨q, _, _, hq, _⟩ := dd'; ⟨q, hq⟩
  have nt : ∀ (c : Addr) (vs : List V), H c = some (.tup vs) → (upd H d (DN X.prog X.w d (putE es k b v))) c = some (.tup vs) := fun c vs q => (upd_ne fun z => by rw [z, e] at q; exact DN_ne (Option.some.inj q)).trans q
  refine h (upd H d (DN X.prog X.w d (putE es k b v))) _ (d_write I (by rw [e]; exact True.intro) sb he (dn_ok (putE_rel hp k b rv) dd')) (fun c hc => upd_ne hc) ⟨putE es k b v, upd_same, by rw [putE_kvs, ek], hs, ?_, fun y hy => ?_⟩
  · have := length_putK kvs k v
    omega
  · rcases putE_mem hy with ⟨e', he', h1, h2⟩ | ⟨h1, h2⟩
    · rw [h1, h2]; exact ⟨NIs.ext nt _ _ (hk e' he').1, (hk e' he').2⟩
    · rw [h1, h2]; exact ⟨NIs.ext nt _ _ x, dp⟩
def tDcN (P : Program) (w : World) (wi : TI) (g : TG) (tt : TT) (tk tv : TE) (vs : List Nat) : TE := fun σ H Q => wi σ H fun J H1 => ∀ D H2, H1 D = none → (∀ c, c ≠ D → H2 c = H1 c) → DNAt P w H2 D [] → ∃ W : Nat → Nat → Hp → Prop, (∃ m, W 0 m H2) ∧ ∀ i m H, W i m H →
  (J.stop i H ∧ Q (.ref D) H) ∨ (J.go i H ∧ ∃ Nx : Hp → Prop, (∀ H', Nx H' → ∃ m', m' < m ∧ W (i + 1) m' H') ∧ ∀ x H', J.yld i H x H' → g x (wipe σ vs) H' fun σ2 H2 => wipe σ2 vs = wipe σ vs ∧ tt σ2 H2 fun b H3 =>
    if b = true then tk σ2 H3 fun y H4 => tv σ2 H4 fun z H5 => ∃ kvs k kb, y = .ref kb ∧ DNAt P w H5 D kvs ∧ NIs H5 k (.ref kb) ∧ k.depth ≤ 8 ∧ kvs.length < sizeLine ∧ ∀ H6, (∀ c, c ≠ D → H6 c = H5 c) → DNAt P w H6 D (putK kvs k z) → Nx H6 else Nx H3)
section
variable {X : Cx}
/-- as a value -/
theorem pe_dcn {kx vx tg iter : Expr} {ifs : List Expr} {scope : Scope} {own : List (Str × Nat)} {pos : Pos} {wi : TI} {g : TG} {tt : TT} {tk tv : TE} (hu : X.A.units + 65 < cLine) (hc : X.calm = true) (hN : X.N.Nodup) (hi : PI X tg iter wi) (ok : BlkOk X.N X.env.scope scope own)
    (hg : ∀ (s : Shared) (H : Hp) (C : Addr) (cl : List (Str × Addr)) (fp : List Addr), PG (X.blk s H scope (compEnvC scope cl C X.env) fp) tg g)
    (ht : ∀ (s : Shared) (H : Hp) (C : Addr) (cl : List (Str × Addr)) (fp : List Addr), PTs (X.blk s H scope (compEnvC scope cl C X.env) fp) ifs tt)
    (hk : ∀ (s : Shared) (H : Hp) (C : Addr) (cl : List (Str × Addr)) (fp : List Addr), PE (X.blk s H scope (compEnvC scope cl C X.env) fp) kx tk) (he : ∀ (s : Shared) (H : Hp) (C : Addr) (cl : List (Str × Addr)) (fp : List Addr), PE (X.blk s H scope (compEnvC scope cl C X.env) fp) vx tv) (hs : ∀ x, foldedSetIterable iter X.env x = pure x := by intro _; rfl) :
    PE X (.DictComp kx vx [⟨tg, iter, ifs, 0⟩] scope pos) (tDcN X.prog X.w wi g tt tk tv (own.map (·.2))) := by
  refine ⟨fun pins s σ H Q I h => ?_⟩
  rw [arm_eval_DictComp]
  have captured : ∀ y ∈ scope.names, y.2 = .free → ∃ c, X.env.cells.lookup y.1 = some c := fun y hy e =>
    (ok.free y hy e).elim (fun k => I.ok.has _ (.inl k)) fun k => I.ok.has _ (.inr k)
  refine wpAny_comprehension_free (use := none) rfl hs (closure_ok captured) ok.kind (fun y hy e => by rw [ok.uniq y hy, e]) ?_
  refine thn (hi.run pins s σ H _ I h) fun xv s1 hx => thn hx fun itv s2 ⟨it, fp, tn, J, H2, eit, I2, T, st2, f2, q⟩ => ?_
  subst eit
  refine wpAny_newObj_type (newEnv_comp ?_)
  generalize hD : s2.heap.objs.size = D
  have freeD : H2 D = none := I2.hok.fresh (Nat.le_of_eq hD)
  have dict0 : DNAt X.prog X.w (upd H2 D (DN X.prog X.w D [])) D [] := ⟨[], upd_same, rfl, beq_eq_false_iff_ne.mpr (by rw [← hD]; exact Ne.symm (Nat.ne_of_lt I2.big)), Nat.zero_le _, fun e he => nomatch he⟩
  obtain ⟨W, ⟨m0, w0⟩, turn⟩ := q D _ freeD (fun c hc => upd_ne hc) dict0
  -- the new set stands
  generalize h3 : s2.heap.push ({ cls := .type "dict", data := .dict #[] } : Obj) = hp3
  have keep3 : ∀ b o, s2.heap.get? b = some o → hp3.get? b = some o := fun b o e => h3 ▸ Heap.get?_push_of_some _ e
  have size3 : hp3.objs.size = s2.heap.objs.size + 1 := by rw [← h3, Heap.size_push]
  have I3 : Inv X pins σ (upd H2 D (DN X.prog X.w D [])) { s2 with heap := hp3 } := by
    refine I2.laid (t' := s2.toks) keep3 (Nat.le_of_eq hD) ?_
    rw [← h3, ← hD]
    exact dn_ok (xs := []) .nil (Heap.DictOfH.new s2.heap)
  have inFp : ∀ b ∈ fp, b < s2.heap.objs.size := fun b hb => let ⟨_, e, _⟩ := T.obj _ _ st2 b hb; Heap.lt_size e
  have f3 : ∀ b ∈ fp, FpOk X pins (upd H2 D (DN X.prog X.w D [])) b ∧ b < hp3.objs.size := fun b hb =>
    ⟨⟨(upd_ne (by rw [← hD]; exact Nat.ne_of_lt (inFp b hb))).trans (f2 b hb).1, (f2 b hb).2⟩, by rw [size3]; exact Nat.lt_succ_of_lt (inFp b hb)⟩
  have st3 : tn 0 hp3 := T.keep _ _ _ st2 fun b _ => keep3 b
  generalize hH3 : upd H2 D (DN X.prog X.w D []) = H3 at I3 f3 w0
  generalize hs3 : ({ s2 with heap := hp3 } : Shared) = s3 at I3
  have e3 : s3.heap = hp3 := by rw [← hs3]
  have I4 := block_start I3 ok hN (fun b hb => ⟨(f3 b hb).1, by rw [e3]; exact (f3 b hb).2⟩)
  have clear0 : ∀ b ∈ fp, H3 b = none := fun b hb => (f3 b hb).1.1
  show codeAny _ _ (.compStart (.DictComp kx vx [⟨tg, iter, ifs, 0⟩] scope pos) 0 (.ref it) (.ref D) (compEnvC scope (cellsFrom (s3.heap.objs.size + 1) scope.names (cloFrom X.env.cells scope.names [])) s3.heap.objs.size X.env))
    (compPost (model X.prog X.w) X.A X.xe none (EP X pins σ Q) (.ref D) s3.heap.objs.size) { s3 with heap := pushCells (s3.heap.push { cls := .type "dict", data := .dict #[] }) scope.names }
  have pg := hg s3 H3 s3.heap.objs.size (cellsFrom (s3.heap.objs.size + 1) scope.names (cloFrom X.env.cells scope.names [])) fp
  have pt := ht s3 H3 s3.heap.objs.size (cellsFrom (s3.heap.objs.size + 1) scope.names (cloFrom X.env.cells scope.names [])) fp
  have pk := hk s3 H3 s3.heap.objs.size (cellsFrom (s3.heap.objs.size + 1) scope.names (cloFrom X.env.cells scope.names [])) fp
  have pe := he s3 H3 s3.heap.objs.size (cellsFrom (s3.heap.objs.size + 1) scope.names (cloFrom X.env.cells scope.names [])) fp
  have home : (compEnvC scope (cellsFrom (s3.heap.objs.size + 1) scope.names (cloFrom X.env.cells scope.names [])) s3.heap.objs.size X.env).locals = s3.heap.objs.size := rfl
  generalize compEnvC scope (cellsFrom (s3.heap.objs.size + 1) scope.names (cloFrom X.env.cells scope.names [])) s3.heap.objs.size X.env = ce at I4 pg pt pk pe home ⊢
  have st4 : tn 0 ({ s3 with heap := pushCells (s3.heap.push { cls := .type "dict", data := .dict #[] }) scope.names } : Shared).heap := by
    refine T.keep _ _ _ st3 fun b _ o e => pushCells_keeps _ _ _ _ (Heap.get?_push_of_some _ ?_)
    rw [e3]
    exact e
  generalize ({ s3 with heap := pushCells (s3.heap.push { cls := .type "dict", data := .dict #[] }) scope.names } : Shared) = s4 at I4 ⊢ st4
  have own0 : ∀ {σ' : L2.St} {H' : Hp} {s' : Shared}, Inv (X.blk s3 H3 scope ce fp) [] σ' H' s' → (∀ b ∈ fp, H' b = none) → ∀ b ∈ fp, FpOk (X.blk s3 H3 scope ce fp) [] H' b := fun I' cl b hb =>
    ⟨cl b hb, (I'.ok.exf b hb).1, I'.ok.exfs b hb, .inl hb, (fun x c e => (I'.ok.exf b hb).2 x c e), fun p hp => by cases List.mem_append.mp hp <;> rename_i z <;> exact absurd z List.not_mem_nil⟩
  have loop : codeAny (model X.prog X.w) X.A (.compLoop (.DictComp kx vx [⟨tg, iter, ifs, 0⟩] scope pos) 0 (.ref it) (.ref D) ce) (compPost (model X.prog X.w) X.A X.xe none (EP X pins σ Q) (.ref D) s3.heap.objs.size) s4 := by
    refine compLoop_anyD (fun n s' => ∃ i H', (Inv (X.blk s3 H3 scope ce fp) [] (wipe σ (own.map (·.2))) H' s' ∧ tn i s'.heap) ∧ (∀ b ∈ fp, H' b = none) ∧ W i n H') ?_ m0 ⟨0, H3, ⟨I4, st4⟩, clear0, w0⟩
    rintro n s5 ⟨i, H5, ⟨I5, st5⟩, cl5, w5⟩
    rcases turn i n H5 w5 with ⟨stop, fine⟩ | ⟨go, Nx, hNx, step⟩
    · refine thnF (T.done (X.blk s3 H3 scope ce fp) rfl rfl rfl hc i [] s5 _ H5 (fun _ _ => False) I5 (own0 I5 cl5) st5 stop) fun r s6 ⟨er, I6⟩ => ?_
      subst er
      have I7 : Inv X pins σ H5 s6 := I3.call' (ch := fp) I6.os I6.base I6.hok I6.bare fun b hb =>
        let f := (f3 b hb).1.2; ⟨f.2.2.1, f.1, f.2.2.2.1, f.2.2.2.2⟩
      have free5 : H5 s3.heap.objs.size = none := home ▸ I6.free
      obtain ⟨m, hn, _⟩ := I6.loc
      obtain ⟨_, k1, k2, k3, k4, k5⟩ := I3.fpOk (Nat.le_refl _) free5
      exact ⟨m, home ▸ hn, fun h'' sb => ⟨.ref D, H5, I7.turned (t' := s6.toks) (fun b o hb e => (sb.2 b hb).trans e) free5 k1 k3 k4 k5, rfl, fine⟩⟩
    · refine thnF (T.item (X.blk s3 H3 scope ce fp) rfl rfl rfl hc i [] s5 _ H5 (fun _ _ => False) I5 (own0 I5 cl5) st5 go) fun r s6 ⟨u, er, h6⟩ => ?_
      subst er
      refine thnF h6 fun _ s7 ⟨x, H7, I7, r7, y7, st7, cl7⟩ => ?_
      refine thnF (pg.run _ s7 _ H7 x u _ (I7.pinned (own0 I7 cl7) (T.obj _ _ st7)) r7 (step x H7 y7)) fun _ s8 ⟨σ8, H8, I8, same8, q8⟩ => thnF (pt.run _ s8 σ8 H8 _ I8 q8) fun b s9 ⟨H9, I9, q9⟩ => ?_
      have closed : ∀ {s' : Shared} {H' : Hp}, Inv (X.blk s3 H3 scope ce fp) ([] ++ pinsAt fp s7.heap) σ8 H' s' → Nx H' → ∃ m, m < n ∧ ∃ i H', (Inv (X.blk s3 H3 scope ce fp) [] (wipe σ (own.map (·.2))) H' s' ∧ tn i s'.heap) ∧ (∀ b ∈ fp, H' b = none) ∧ W i m H' := fun {s' H'} I' nx => by
        obtain ⟨m', less, w'⟩ := hNx H' nx
        have pinned : ∀ b ∈ fp, ∀ o, s7.heap.get? b = some o → s'.heap.get? b = some o ∧ H' b = none := fun b hb o e =>
          have z := I'.pin (b, o) (List.mem_append_right _ (List.mem_append_right _ (mem_pinsAt hb e)))
          ⟨z.1, z.2.1⟩
        have len8 : (wipe σ (own.map (·.2))).length = σ8.length := (congrArg List.length same8).symm.trans (wipe_length _ _)
        refine ⟨m', less, i + 1, H', ⟨(I'.unpinned (pins := [])).weak len8 fun j v e => ?_, T.keep _ _ _ st7 fun b hb o e => (pinned b hb o e).1⟩, fun b hb => ?_, w'⟩
        · exact (wipe_some (same8 ▸ e)).1
        · obtain ⟨o, e, _⟩ := T.obj _ _ st7 b hb
          exact (pinned b hb o e).2
      cases b with
      | false => exact closed I9 q9
      | true =>
        refine thnF (pk.run _ s9 σ8 H9 _ I9 q9) fun kv s10 ⟨yk, H10, I10, rk, q10⟩ => thnF (pe.run _ s10 σ8 H10 _ I10 q10) fun vv s11 ⟨yv, H11, I11, rv, kvs, k, kb, ek, D11, nk, dp, room, nx⟩ => ?_
        subst ek
        exact n_dictSet (X := X.blk s3 H3 scope ce fp) hu I11 D11 nk dp room rk rv fun H12 s12 I12 same new => closed I12 (nx H12 same new)
  exact codeAny_compStart_dict loop (T.self X.A 0 _ _ _ st4 loop)
end
end KnN

set_option Elab.async false
set_option linter.all false
set_option maxRecDepth 100000
set_option maxHeartbeats 4000000
/-! Walks of any comprehension; sorted of rows (an int, a tuple of texts); sets of places as numbers. -/
namespace KnA
open PySem PySem.Spec PyProof.Rows L2
/-- n turns of a comprehension, over whatever it goes -/
theorem turns {J : It} {H0 : Hp} {Qd : Hp → Prop} {B : V → Hp → (Hp → Prop) → Prop} (n : Nat) (Pv : Nat → Hp → Prop) (h0 : Pv 0 H0) (hst : ∀ H, Pv n H → J.stop n H) (hgo : ∀ i H, i < n → Pv i H → J.go i H)
    (hs : ∀ i x H H', i < n → Pv i H → J.yld i H x H' → B x H' (Pv (i + 1))) (hd : ∀ H, Pv n H → Qd H) :
    ∃ W : Nat → Nat → Hp → Prop, (∃ m, W 0 m H0) ∧ ∀ i m H, W i m H → (J.stop i H ∧ Qd H) ∨ (J.go i H ∧ ∃ Nx : Hp → Prop, (∀ H', Nx H' → ∃ m', m' < m ∧ W (i + 1) m' H') ∧ ∀ x H', J.yld i H x H' → B x H' Nx) := by
  refine ⟨fun i m H => m = n - i ∧ i ≤ n ∧ Pv i H, ⟨n, by simp, Nat.zero_le _, h0⟩, ?_⟩
  rintro i m H ⟨rfl, hi, p⟩
  by_cases lt : i < n
  · exact .inr ⟨hgo i H lt p, Pv (i + 1), fun H' p' => ⟨n - (i + 1), by omega, rfl, lt, p'⟩, fun x H' y => hs i x H H' lt p y⟩
  · have e : i = n := by omega
    subst e
    exact .inl ⟨hst H p, hd H p⟩
/-! ### rows -/
/-- x is the row (i, zs) -/
def RowAt (H : Hp) (x : V) (i : Int) (zs : List Str) : Prop := ∃ t f, x = .ref t ∧ H t = some (.tup [.int i, .ref f]) ∧ H f = some (.tup (zs.map V.str))
theorem RowAt.ext {H H' : Hp} {x : V} {i : Int} {zs : List Str} (h : RowAt H x i zs) (s : ∀ a vs, H a = some (.tup vs) → H' a = some (.tup vs)) : RowAt H' x i zs := by
  obtain ⟨t, f, e, h1, h2⟩ := h
  exact ⟨t, f, e, s _ _ h1, s _ _ h2⟩
theorem str_inj : ∀ {xs ys : List Str}, xs.map V.str = ys.map V.str → xs = ys
  | [], [], _ => rfl
  | [], _ :: _, h => by cases h
  | _ :: _, [], h => by cases h
  | x :: xs, y :: ys, h => by
    rw [List.map_cons, List.map_cons] at h
    obtain ⟨a, b⟩ := List.cons.inj h
    rw [V.str.inj a, str_inj b]
theorem RowAt.inj {H : Hp} {x : V} {i j : Int} {zs ys : List Str} (h : RowAt H x i zs) (h' : RowAt H x j ys) : i = j ∧ zs = ys := by
  obtain ⟨t, f, e, h1, h2⟩ := h
  obtain ⟨t', f', e', h1', h2'⟩ := h'
  rw [e] at e'
  cases e'
  rw [h1] at h1'
  cases h1'
  rw [h2] at h2'
  exact ⟨rfl, str_inj (HO.tup.inj (Option.some.inj h2'))⟩
def rowD (p : Int × List Str) : PyData := .tuple [.int p.1, .tuple (p.2.map PyData.str)]
theorem alike_texts : ∀ xs ys : List Str, PySem.W.alikeAll (xs.map PyData.str) (ys.map PyData.str) = true
  | [], _ => by simp [PySem.W.alikeAll]
  | _ :: _, [] => by simp [PySem.W.alikeAll]
  | x :: xs, y :: ys => by
    rw [List.map_cons, List.map_cons, PySem.W.alikeAll, alike_texts xs ys]
    simp [PySem.W.alike]
theorem alike_rows (p q : Int × List Str) : PySem.W.alike (rowD p) (rowD q) = true := by
  unfold rowD
  simp [PySem.W.alike, PySem.W.alikeAll, alike_texts]
theorem depth_texts : ∀ xs : List Str, PyData.depthAll (xs.map PyData.str) = 0
  | [] => rfl
  | x :: xs => by rw [List.map_cons]; show max 0 (PyData.depthAll (xs.map PyData.str)) = 0; rw [depth_texts xs]; rfl
theorem reads_texts {h : Heap} : ∀ {xs : List Str} {us : List Value}, Vals (xs.map V.str) us → ReadsAll h us (xs.map PyData.str) []
  | [], _, r => by cases r; exact .nil
  | x :: xs, _, r => by
    rw [List.map_cons] at r
    cases r with
    | cons a b =>
      obtain ⟨t, rfl⟩ := (show ∃ t, _ = Value.str x t from a)
      exact .cons (as := []) (bs := []) (.str x t) (reads_texts b)
theorem reads_row {P : Program} {w : World} {H : Hp} {h : Heap} (ok : HOk P w H h) {x : V} {u : Value} {i : Int} {zs : List Str} (r : RelV x u) (e : RowAt H x i zs) : Reads h u (rowD (i, zs)) [] := by
  obtain ⟨t, f, rfl, h1, h2⟩ := e
  obtain rfl : u = Value.ref t := r
  obtain ⟨_, its, rv, o, g1, g2, n, g3⟩ := (show ObjOk P w H h t (.tup [.int i, .ref f]) from ok t _ h1)
  obtain ⟨_, its2, rv2, o2, k1, k2, n2, k3⟩ := (show ObjOk P w H h f (.tup (zs.map V.str)) from ok f _ h2)
  cases rv with
  | cons a b =>
    cases b with
    | cons c d =>
      cases d
      obtain ⟨tk, rfl⟩ := (show ∃ t, _ = Value.int i t from a)
      obtain rfl := (show _ = Value.ref f from c)
      exact .tuple g1 g2 g3 (.cons (as := []) (bs := []) (.int i tk) (.cons (as := []) (bs := []) (.tuple k1 k2 k3 (by simpa using reads_texts rv2)) .nil))
def rSortedR (K : PySem.W.Frag) : List V → Hp → VK → Prop := fun vs H Q => ∃ (a : Addr) (xs : List V), vs = [V.ref a] ∧ SqL K H a xs ∧ (∀ x ∈ xs, ∃ i zs, RowAt H x i zs) ∧ ∀ (ys : List V) (p : Addr), ys.Perm xs → H p = none → Q (.ref p) (upd H p (.lst ys))
theorem each_rows {P : Program} {w : World} {H : Hp} {h : Heap} (ok : HOk P w H h) : ∀ {xs : List V} {us : List Value}, Vals xs us → (∀ x ∈ xs, ∃ i zs, RowAt H x i zs) → ∃ bs : List (V × (Int × List Str)), bs.map (·.1) = xs ∧
    PySem.W.EachIs (fun v b => RelV b.1 v) us bs ∧ PySem.W.EachIs (fun v b => ∃ as, Reads h v (rowD b.2) as) us bs := by
  intro xs us r
  induction r with
  | nil => exact fun _ => ⟨[], rfl, .nil, .nil⟩
  | @cons x u xs us a _ ih =>
    intro hx
    obtain ⟨i, zs, e⟩ := hx x List.mem_cons_self
    obtain ⟨bs, h1, h2, h3⟩ := ih fun y hy => hx y (List.mem_cons_of_mem _ hy)
    exact ⟨(x, (i, zs)) :: bs, by rw [List.map_cons, h1], .cons a h2, .cons ⟨[], reads_row ok a e⟩ h3⟩
theorem each_vals : ∀ {us : List Value} {bs : List (V × (Int × List Str))}, PySem.W.EachIs (fun v b => RelV b.1 v) us bs → Vals (bs.map (·.1)) us
  | _, _, .nil => .nil
  | _, _, .cons a b => .cons a (each_vals b)
section
variable {X : Cx}
theorem cr_sortedR (hu : X.A.units + 65 < cLine) : CallR X (.builtin "sorted") (rSortedR X.K) := by
  intro pins s σ H vs us Q I r h
  obtain ⟨a, xs, rfl, hs, hx, q⟩ := h
  obtain ⟨its, rv, hl, hz⟩ := I.list hs
  rw [Vals.ref1 r]
  obtain ⟨bs, e1, e2, e3⟩ := each_rows I.hok rv hx
  have lb : bs.length = xs.length := by rw [← e1, List.length_map]
  refine PySem.W.sorted_data (enc := fun b : V × (Int × List Str) => rowD b.2) (R := fun v b => RelV b.1 v) hl.isList e2 e3 (PySem.W.AllAlike.of fun b b' => alike_rows _ _) (PySem.W.Sortable.tuples fun b => ⟨_, _, rfl⟩) (by rw [lb]; exact hz) (fun b _ => ?_) fun out ol oe => ?_
  · show X.A.units + 2 + (max 0 (max (PyData.depthAll (b.2.2.map PyData.str) + 1) 0) + 1) < cLine
    rw [depth_texts]
    show X.A.units + 2 + 2 < cLine
    omega
  · obtain ⟨ep, he'⟩ := PyProof.Rows.sortedAll_at s.heap its out.toArray
    have ov := each_vals oe
    have pm := (List.mergeSort_perm bs (PySem.W.dataLe false fun b : V × (Int × List Str) => rowD b.2)).map (·.1)
    rw [e1] at pm
    generalize (bs.mergeSort (PySem.W.dataLe false fun b : V × (Int × List Str) => rowD b.2)).map (·.1) = ys at ov pm
    exact ⟨.ref _, upd H (s.heap.objs.size + 1) (.lst ys), I.laid (t' := s.toks) (fun _ _ => PyProof.Rows.sortedAll_old) (Nat.le_succ _) ⟨by rw [pm.length_eq]; exact hz, out, ep, ov, he'⟩, rfl, q _ _ pm (I.hok.fresh (Nat.le_succ _))⟩
end
/-- list(a list or a tuple), told with the text's frame, for an element of a comprehension -/
def rListOf (K : PySem.W.Frag) : List V → Hp → VK → Prop := fun xs H Q => ∃ p ys, xs = [.ref p] ∧ (SqL K H p ys ∨ SqT K H p ys) ∧ ∀ l, H l = none → Q (.ref l) (upd H l (.lst ys))
theorem cr_listOf {X : Cx} : CallR X (.type "list") (rListOf X.K) := call_list_of
/-! ### sets of places as numbers -/
theorem b_not (a : Nat) : (Builtin.bitNot (Builtin.bitNot (a : Int))) = (a : Int) := by unfold Builtin.bitNot; omega
theorem b_or (a b : Nat) : Builtin.bitOr (a : Int) (b : Int) = ((a ||| b : Nat) : Int) := by
  unfold Builtin.bitOr
  have h1 : decide (0 ≤ Builtin.bitNot (a : Int)) = false := decide_eq_false (by unfold Builtin.bitNot; omega)
  have h2 : decide (0 ≤ Builtin.bitNot (b : Int)) = false := decide_eq_false (by unfold Builtin.bitNot; omega)
  unfold Builtin.bitAnd
  simp only [h1, h2, b_not, Int.toNat_natCast]
theorem b_and (a b : Nat) : Builtin.bitAnd (a : Int) (b : Int) = ((a &&& b : Nat) : Int) := PySem.W.os_band a b
theorem and_odd (a b : Nat) : (a &&& b) % 2 = (a % 2) * (b % 2) := by
  have h := Nat.testBit_and a b 0
  rw [Nat.testBit_zero, Nat.testBit_zero, Nat.testBit_zero] at h
  rcases Nat.mod_two_eq_zero_or_one a with c1 | c1 <;> rcases Nat.mod_two_eq_zero_or_one b with c2 | c2 <;> rcases Nat.mod_two_eq_zero_or_one (a &&& b) with c3 | c3 <;> rw [c1, c2, c3] at h ⊢ <;> first | rfl | exact absurd h (by decide)
theorem sub_test : ∀ (a b : Nat), a &&& b ≤ a ∧ ∀ i, (a - (a &&& b)).testBit i = (a.testBit i && !b.testBit i) := by
  intro a
  induction a using Nat.strongRecOn with
  | ind a ih =>
    intro b
    have le : a &&& b ≤ a := Nat.and_le_left
    refine ⟨le, ?_⟩
    by_cases a0 : a = 0
    · subst a0; intro i; simp
    · obtain ⟨l2, h2⟩ := ih (a / 2) (by omega) (b / 2)
      have dv : (a &&& b) / 2 = a / 2 &&& b / 2 := Nat.and_div_two
      have md := and_odd a b
      rw [← dv] at h2 l2
      generalize (a &&& b) = p at le md h2 l2
      intro i
      cases i with
      | zero =>
        rw [Nat.testBit_zero, Nat.testBit_zero, Nat.testBit_zero]
        rcases Nat.mod_two_eq_zero_or_one a with c1 | c1 <;> rcases Nat.mod_two_eq_zero_or_one b with c2 | c2 <;> rw [c1, c2] at md ⊢
        · have e : (a - p) % 2 = 0 := by omega
          rw [e]; rfl
        · have e : (a - p) % 2 = 0 := by omega
          rw [e]; rfl
        · have e : (a - p) % 2 = 1 := by omega
          rw [e]; rfl
        · have e : (a - p) % 2 = 0 := by omega
          rw [e]; rfl
      | succ i =>
        rw [Nat.testBit_succ, Nat.testBit_succ, Nat.testBit_succ, ← h2 i]
        have e : (a - p) / 2 = a / 2 - p / 2 := by
          rcases Nat.mod_two_eq_zero_or_one a with c1 | c1 <;> rcases Nat.mod_two_eq_zero_or_one b with c2 | c2 <;> rw [c1, c2] at md <;> omega
        rw [e]
theorem b_diff (a b : Nat) : Builtin.bitAnd (a : Int) (Builtin.bitNot (b : Int)) = ((a - (a &&& b) : Nat) : Int) := by
  have h1 : decide (0 ≤ (a : Int)) = true := decide_eq_true (by omega)
  have h2 : decide (0 ≤ Builtin.bitNot (b : Int)) = false := decide_eq_false (by unfold Builtin.bitNot; omega)
  unfold Builtin.bitAnd
  rw [h1, h2, b_not, Int.toNat_natCast, Int.toNat_natCast]
  have := (sub_test a b).1
  show (a : Int) - ((a &&& b : Nat) : Int) = _
  omega
end KnA

set_option Elab.async false
set_option linter.all false
set_option maxRecDepth 100000
set_option maxHeartbeats 4000000
/-! The order of rows (an int, a tuple of texts); sorted of rows, told with the order. -/
namespace KnA
open PySem PySem.Spec PyProof.Rows L2
abbrev Dat := Int × List Str
def rowLe (p q : Dat) : Bool := PySem.W.dataLe false rowD p q
theorem rowLe_eq (p q : Dat) : rowLe p q = !PyProof.Rows.lexLt itemOrd (PySem.W.keyToks (rowD q)) (PySem.W.keyToks (rowD p)) := rfl
theorem toks_texts : ∀ {xs ys : List Str}, PySem.W.keyToksAll (xs.map PyData.str) = PySem.W.keyToksAll (ys.map PyData.str) → xs = ys
  | [], [], _ => rfl
  | [], y :: ys, h => by
    rw [List.map_cons, PySem.W.toks_all_cons] at h
    exact nomatch (List.cons.inj h).1
  | x :: xs, [], h => by
    rw [List.map_cons, PySem.W.toks_all_cons] at h
    exact nomatch (List.cons.inj h).1
  | x :: xs, y :: ys, h => by
    rw [List.map_cons, List.map_cons, PySem.W.toks_all_cons, PySem.W.toks_all_cons] at h
    have h1 := (List.cons.inj h).2
    have h2 : (Sum.inr x.cps.toList : Int ⊕ List Nat) :: PySem.W.keyToksAll (xs.map PyData.str) = Sum.inr y.cps.toList :: PySem.W.keyToksAll (ys.map PyData.str) := h1
    obtain ⟨a, b⟩ := List.cons.inj h2
    rw [toks_texts b, PySem.W.str_of_cps (Sum.inr.inj a)]
theorem toks_row {p q : Dat} (h : PySem.W.keyToks (rowD p) = PySem.W.keyToks (rowD q)) : p = q := by
  obtain ⟨i, xs⟩ := p
  obtain ⟨j, ys⟩ := q
  have e : ∀ (i : Int) (xs : List Str), PySem.W.keyToks (rowD (i, xs)) = Sum.inl 1 :: Sum.inl i :: Sum.inl 1 :: (PySem.W.keyToksAll (xs.map PyData.str) ++ [Sum.inl 0]) := fun i xs => by
    show PySem.W.keyToksAll [.int i, .tuple (xs.map PyData.str)] = _
    rw [PySem.W.toks_all_cons, PySem.W.toks_all_cons]
    rfl
  rw [e, e] at h
  obtain ⟨_, h⟩ := List.cons.inj h
  obtain ⟨a, h⟩ := List.cons.inj h
  obtain ⟨_, h⟩ := List.cons.inj h
  rw [Sum.inl.inj a, toks_texts (List.append_cancel_right h)]
theorem rowLe_anti {p q : Dat} (a : rowLe p q = true) (b : rowLe q p = true) : p = q := by
  rw [rowLe_eq, Bool.not_eq_true'] at a b
  exact toks_row (lex_total (O := itemOrd) _ _ b a)
theorem rowLe_trans {p q r : Dat} (a : rowLe p q = true) (b : rowLe q r = true) : rowLe p r = true := (PySem.W.sortLe_total (listOrd itemOrd) false fun b : Dat => PySem.W.keyToks (rowD b)).trans p q r a b
theorem rowLe_total (p q : Dat) : rowLe p q = true ∨ rowLe q p = true := (PySem.W.sortLe_total (listOrd itemOrd) false fun b : Dat => PySem.W.keyToks (rowD b)).total p q
theorem rows_one : ∀ {xs ys : List Dat}, xs.Pairwise (fun p q => rowLe p q = true) → ys.Pairwise (fun p q => rowLe p q = true) → xs.Perm ys → xs = ys
  | [], ys, _, _, h => by rw [List.nil_perm.mp h]
  | x :: xs, [], _, _, h => by have := h.length_eq; cases this
  | x :: xs, y :: ys, hx, hy, h => by
    obtain ⟨x1, x2⟩ := List.pairwise_cons.mp hx
    obtain ⟨y1, y2⟩ := List.pairwise_cons.mp hy
    have refl : ∀ p : Dat, rowLe p p = true := fun p => (rowLe_total p p).elim id id
    have e : x = y := by
      have a : rowLe x y = true := by
        rcases List.mem_cons.mp (h.mem_iff.mpr (List.mem_cons_self (a := y) (l := ys))) with z | z
        · rw [z]; exact refl x
        · exact x1 y z
      have b : rowLe y x = true := by
        rcases List.mem_cons.mp (h.mem_iff.mp (List.mem_cons_self (a := x) (l := xs))) with z | z
        · rw [z]; exact refl y
        · exact y1 x z
      exact rowLe_anti a b
    subst e
    rw [rows_one x2 y2 (List.Perm.cons_inv h)]
/-- sorted(xs), rows: with the order -/
def rSortedRO (K : PySem.W.Frag) : List V → Hp → VK → Prop := fun vs H Q => ∃ (a : Addr) (bs : List (V × Dat)), vs = [V.ref a] ∧ SqL K H a (bs.map (·.1)) ∧ (∀ b ∈ bs, RowAt H b.1 b.2.1 b.2.2) ∧
  ∀ (bs' : List (V × Dat)) (p : Addr), bs'.Perm bs → (bs'.map (·.2)).Pairwise (fun p q => rowLe p q = true) → H p = none → Q (.ref p) (upd H p (.lst (bs'.map (·.1))))
theorem each_rowsB {P : Program} {w : World} {H : Hp} {h : Heap} (ok : HOk P w H h) : ∀ {bs : List (V × Dat)} {us : List Value}, Vals (bs.map (·.1)) us → (∀ b ∈ bs, RowAt H b.1 b.2.1 b.2.2) →
    PySem.W.EachIs (fun v b => RelV b.1 v) us bs ∧ PySem.W.EachIs (fun v b => Reads h v (rowD b.2) []) us bs
  | [], _, r, _ => by cases r; exact ⟨.nil, .nil⟩
  | b :: bs, _, r, hb => by
    rw [List.map_cons] at r
    cases r with
    | cons a t =>
      obtain ⟨h1, h2⟩ := each_rowsB ok t fun x hx => hb x (List.mem_cons_of_mem _ hx)
      exact ⟨.cons a h1, .cons (reads_row ok a (hb b List.mem_cons_self)) h2⟩
theorem sort_pair (bs : List (V × Dat)) : ((bs.mergeSort (PySem.W.dataLe false fun b : V × Dat => rowD b.2)).map (·.2)).Pairwise fun p q => rowLe p q = true := by
  have := PySem.W.sort_pairwise (PySem.W.sortLe_total (listOrd itemOrd) false fun b : V × Dat => PySem.W.keyToks (rowD b.2)) bs
  exact List.pairwise_map.mpr (this.imp fun h => h)
section
variable {X : Cx}
theorem cr_sortedRO (hu : X.A.units + 65 < cLine) : CallR X (.builtin "sorted") (rSortedRO X.K) := by
  intro pins s σ H vs us Q I r h
  obtain ⟨a, bs, rfl, hs, hb, q⟩ := h
  obtain ⟨its, rv, hl, hz⟩ := I.list hs
  rw [Vals.ref1 r]
  obtain ⟨e2, e3⟩ := each_rowsB I.hok rv hb
  rw [List.length_map] at hz
  refine PySem.W.sorted_data (enc := fun b : V × Dat => rowD b.2) (R := fun v b => RelV b.1 v) hl.isList e2 (e3.mono fun _ _ r => ⟨[], r⟩) (PySem.W.AllAlike.of fun b b' => alike_rows _ _) (PySem.W.Sortable.tuples fun b => ⟨_, _, rfl⟩) hz (fun b _ => ?_) fun out ol oe => ?_
  · show X.A.units + 2 + (max 0 (max (PyData.depthAll (b.2.2.map PyData.str) + 1) 0) + 1) < cLine
    rw [depth_texts]
    show X.A.units + 2 + 2 < cLine
    omega
  · obtain ⟨ep, he'⟩ := PyProof.Rows.sortedAll_at s.heap its out.toArray
    have ov := each_vals oe
    have pm := List.mergeSort_perm bs (PySem.W.dataLe false fun b : V × Dat => rowD b.2)
    have so := sort_pair bs
    generalize bs.mergeSort (PySem.W.dataLe false fun b : V × Dat => rowD b.2) = bs' at ov pm so
    exact ⟨.ref _, upd H (s.heap.objs.size + 1) (.lst (bs'.map (·.1))), I.laid (t' := s.toks) (fun _ _ => PyProof.Rows.sortedAll_old) (Nat.le_succ _) ⟨by rw [List.length_map, pm.length_eq]; exact hz, out, ep, ov, he'⟩, rfl, q _ _ pm so (I.hok.fresh (Nat.le_succ _))⟩
end
end KnA

set_option Elab.async false
set_option linter.all false
set_option maxRecDepth 100000
set_option maxHeartbeats 4000000
/-! Sets whose members are keys of any kind that has a place in memory: one more put in. -/
namespace KnH
open PySem PySem.Spec PyProof.Rows L2
open PySem renaming wpAny_bind → seqAny
section
variable {κ : Type} [DecidableEq κ] {P : Program} {w : World}
variable {knd : HeapKind P w κ} {A : Around} {E : Value → Shared → Prop} {s : Shared}
/-- a loop that asks each item of a tuple and leaves all as it is -/
theorem asks_all {α : Type} {B : Value → Sem (ForInStep (Option α × Unit))} {vs : List Value} {ok : Value → Prop} (hv : ∀ v ∈ vs, ok v)
    (hb : ∀ v, ok v → ∀ (s : Shared) (Q : ForInStep (Option α × Unit) → Shared → Prop), Q (.yield (none, ())) s → wpAny (model P w) A (B v) Q E s) {Q : Option α × Unit → Shared → Prop} (h : Q (none, ()) s) :
    wpAny (model P w) A (forIn vs ((none : Option α), ()) fun v _ => B v) Q E s := by
  refine wpAny_forIn_list _ (fun rest r s' => r = (none, ()) ∧ s' = s ∧ ∀ v ∈ rest, ok v) _ ?_ ?_ _ _ ⟨rfl, rfl, hv⟩
  · rintro v rest r s' ⟨hr, rfl, all⟩
    exact hb v (all v List.mem_cons_self) _ _ ⟨rfl, rfl, fun u hu => all u (List.mem_cons_of_mem _ hu)⟩
  · rintro r s' ⟨hr, rfl, _⟩
    rw [hr]; exact h
/-- what the search asks of a kind of keys -/
structure HFlat (knd : HeapKind P w κ) : Prop where
  stays : knd.Stays
  cls : ∀ {A : Around} {E : Value → Shared → Prop} {s : Shared} {k : κ} {b : Addr} {Q : Bool → Shared → Prop}, knd.is s.heap k b → Q false s → wpAny (model P w) A (ofAClassStatement 8 (.ref b)) Q E s
  val : ∀ {A : Around} {E : Value → Shared → Prop} {s : Shared} {k : κ} {b : Addr} {Q : Bool → Shared → Prop}, knd.is s.heap k b → (∀ b, Q b s) → wpAny (model P w) A (hashByValue 8 (.ref b)) Q E s
theorem unseen (fl : HFlat knd) {k : κ} {b : Addr} {Q : Bool → Shared → Prop} (hk : knd.is s.heap k b) {ys : List Value} (hy : ∀ y ∈ ys, ∃ k' c, y = Value.ref c ∧ knd.is s.heap k' c) (h : Q false s) :
    wpAny (model P w) A (searchCouldBeSeen (.ref b) ys) Q E s := by
  unfold searchCouldBeSeen
  refine seqAny ?_
  refine wpAny_forIn_list _ (fun rest r s' => r.1 = none ∧ s' = s ∧ ∀ y ∈ rest, ∃ k' c, y = Value.ref c ∧ knd.is s.heap k' c) _ ?_ ?_ _ _ ⟨rfl, rfl, hy⟩
  · rintro v rest r s' ⟨hr, rfl, all⟩
    obtain ⟨k', c, rfl, hc⟩ := all v List.mem_cons_self
    have left : ∀ y ∈ rest, ∃ k' c, y = Value.ref c ∧ knd.is s'.heap k' c := fun u hu => all u (List.mem_cons_of_mem _ hu)
    dsimp only
    by_cases hv : (b == c || (carriedByValue (.ref b) && carriedByValue (.ref c))) = true
    · exact wp_if_pos hv (wpAny_pure ⟨rfl, rfl, left⟩)
    · refine wp_if_neg hv (wpAny_bind (knd.quiet hk ?_))
      simp only [Bool.not_true, if_false, Bool.false_eq_true]
      refine seqAny (knd.quiet hc ?_)
      simp only [Bool.not_true, if_false, Bool.false_eq_true]
      refine seqAny (fl.cls hk ?_)
      simp only [if_false, Bool.false_eq_true]
      refine seqAny (fl.cls hc ?_)
      simp only [if_false, Bool.false_eq_true]
      exact wpAny_pure ⟨rfl, rfl, left⟩
  · rintro ⟨r1, r2⟩ s' ⟨hr, rfl, _⟩
    simp only at hr
    subst hr
    exact wpAny_pure h
/-! ### what stands in the table -/
abbrev Row (κ : Type) := Addr × κ
def ents (knd : HeapKind P w κ) (M : List (Row κ)) : List (Int × Value) := M.map fun p => (knd.hash p.2, Value.ref p.1)
def hashes (knd : HeapKind P w κ) (M : List (Row κ)) : List Int := M.map fun p => knd.hash p.2
structure Tups (knd : HeapKind P w κ) (h : Heap) (a : Addr) (M : List (Row κ)) (es : Array (Int × Value)) (ep : Nat) (t : SetTable) : Prop where
  obj : ∃ o, h.get? a = some o ∧ o.ExactSet ∧ o.data = .set es ep t
  rows : es.toList = ents knd M
  tab : TabOk t (hashes knd M)
  once : (M.map (·.2)).Nodup
  tup : ∀ p ∈ M, knd.is h p.2 p.1
  led : w.params.followText "set-order" = true ∨ t.led = true
  room : M.length * 5 < t.mask * 3
  few : M.length < 64
variable {a : Addr} {M : List (Row κ)} {es : Array (Int × Value)} {ep : Nat} {t : SetTable}
/-- a table without dummies, as many places as entries -/
theorem fits_of {es : Array (Int × Value)} {t : SetTable} (h0 : t.dummies = #[]) (h1 : t.place.size = es.size) (h2 : es.size ≤ t.mask) : t.fits es.size = true := by
  unfold SetTable.fits SetTable.fill; rw [h0, Bool.and_eq_true, beq_iff_eq, decide_eq_true_eq]
  exact ⟨h1, by show t.place.size + 0 ≤ _; omega⟩
theorem len_of (h : es.toList = ents knd M) : es.size = M.length := by
  have z := congrArg List.length h
  rwa [Array.length_toList, show (ents knd M).length = M.length from List.length_map _] at z
theorem Tups.size (R : Tups knd s.heap a M es ep t) : es.size = M.length := len_of R.rows
theorem Tups.fits (R : Tups knd s.heap a M es ep t) : t.fits es.size = true := by
  have z1 : t.place.size = M.length := R.tab.sz.trans (List.length_map _)
  have z2 := R.size
  have z3 := R.room
  exact fits_of R.tab.dm (by omega) (by omega)
theorem ent_at (h : es.toList = ents knd M) {i : Nat} {p : Row κ} (hp : M[i]? = some p) : es[i]? = some (knd.hash p.2, Value.ref p.1) := by
  rw [← Array.getElem?_toList, h]
  unfold ents
  rw [List.getElem?_map, hp]; rfl
theorem Tups.stay (R : Tups knd s.heap a M es ep t) : ¬ t.gaveWay = true := by
  unfold SetTable.gaveWay
  rw [mask_odd R.tab.mok]
  decide
/-- the place of a hash's way, c steps on -/
abbrev spot (t : SetTable) (h : Int) (c : Nat) : SetTable.Probe := nth t.mask (runAt t.mask (SetTable.bits h % (t.mask + 1)) (SetTable.bits h)) c
theorem spot_more (t : SetTable) (h : Int) (c q : Nat) : nth t.mask (spot t h c) q = spot t h (c + q) := (nth_add t.mask c _ q).symm
theorem no_dummy (m : Nat) : ∀ (n : Nat) (p : SetTable.Probe), p.dummy = none → (nth m p n).dummy = none
  | 0, _, h => h
  | n + 1, p, h => no_dummy m n (adv m p) (by unfold adv; split <;> exact h)
/-- the search, from the c-th step on: it ends at the key, or at the free place Z -/
theorem seek (fl : HFlat knd) (R : Tups knd s.heap a M es ep t) {x : Addr} {k : κ} (hx : knd.is s.heap k x) (hu : knd.room A) {Z : Nat} (z1 : Z < 10 * SetTable.turns t.mask)
    (z2 : way t.mask (knd.hash k) Z ∉ t.place.toList) (z3 : ∀ c, c < Z → way t.mask (knd.hash k) c ∈ t.place.toList) {Q : SetFound → Shared → Prop}
    (yes : k ∈ M.map (·.2) → Q (.there none) s) (no : k ∉ M.map (·.2) → Q (.free (way t.mask (knd.hash k) Z) false) s) :
    ∀ (f c : Nat) (at_ : Option SetTable.Probe), at_.getD (t.probeStart (knd.hash k)) = spot t (knd.hash k) c → c ≤ Z → Z - c < f →
      (∀ (i : Nat) p, M[i]? = some p → p.2 = k → ∃ c', c ≤ c' ∧ c' < Z ∧ t.place.toList[i]? = some (way t.mask (knd.hash k) c')) →
      wpAny (model P w) A (setSearchFrom a (.ref x) (knd.hash k) true f at_) Q E s := by
  intro f
  induction f with
  | zero => intro c at_ _ _ hf _; exact absurd hf (Nat.not_lt_zero _)
  | succ f ih =>
  intro c at_ hst hc hf ahead
  obtain ⟨o, ho, hex, hd⟩ := R.obj
  rw [setSearchFrom_succ]
  refine seqAny (wpAny_setState_of ho hd R.fits ?_)
  dsimp only
  refine wp_if_neg R.stay ?_
  try refine seqAny (wpAny_pure ?_)
  have way_at : ∀ q, (nth t.mask (spot t (knd.hash k) c) q).j = way t.mask (knd.hash k) (c + q) := fun q => congrArg SetTable.Probe.j (spot_more t _ c q)
  have to_end : c + (Z - c) = Z := by omega
  have told := go_spec t R.tab.ris R.tab.dm (fun i => (es[i]?.map (·.1)).getD 0) (knd.hash k) (10 * SetTable.turns t.mask) (Z - c) _ (no_dummy t.mask c _ rfl) (by omega)
    (fun q hq => by rw [way_at]; exact z3 (c + q) (by omega)) (by rw [way_at, to_end]; exact z2)
  have hash_at : ∀ (i : Nat) p, M[i]? = some p → (fun i => (es[i]?.map (·.1)).getD 0) i = knd.hash p.2 := fun i p hp => by
    show (es[i]?.map (·.1)).getD 0 = _
    rw [ent_at R.rows hp]; rfl
  rcases told with ⟨q, i, hq, hi, hh, before, hpr⟩ | ⟨before, hpr⟩
  · have met : t.probe (fun i => (es[i]?.map (·.1)).getD 0) (knd.hash k) (at_.getD (t.probeStart (knd.hash k))) = some (.candidate (way t.mask (knd.hash k) (c + q)) i (spot t (knd.hash k) (c + (q + 1)))) := by
      rw [hst, ← way_at, ← spot_more]
      exact hpr
    rw [met]
    dsimp only
    rw [way_at] at hi
    have lt : i < M.length := by
      have z := (List.getElem?_eq_some_iff.mp hi).1
      rw [Array.length_toList, R.tab.sz, show (hashes knd M).length = M.length from List.length_map _] at z
      exact z
    obtain ⟨p, hp⟩ : ∃ p, M[i]? = some p := ⟨_, List.getElem?_eq_getElem lt⟩
    have mem : p ∈ M := List.mem_of_getElem? hp
    have go_on : wpAny (model P w) A (searchRest a (.ref x) (knd.hash k) true f es t (way t.mask (knd.hash k) (c + q)) i (spot t (knd.hash k) (c + (q + 1)))) Q E s := by
      unfold searchRest
      rw [ent_at R.rows hp]
      dsimp only
      refine seqAny (wpAny_holding (knd.eqBool hu (R.tup p mem) hx (wpAny_bind (wpAny_setState_of ho hd R.fits ?_))))
      dsimp only
      by_cases same : p.2 = k
      · refine wp_if_pos (by simp [same]) (wpAny_pure (yes (List.mem_map.mpr ⟨p, mem, same⟩)))
      · refine wp_if_neg (by simp [same]) ?_
        try refine seqAny (wpAny_pure ?_)
        rw [sameMem]
        dsimp only
        have live : t.slot (way t.mask (knd.hash k) (c + q)) = .live i := slot_live R.tab.ris hi
        simp only [if_true, live, ent_at R.rows hp]
        refine seqAny (wpAny_isSame_ref_self (wpAny_bind (wpAny_pure ?_)))
        simp only [if_true]
        refine wp_if_neg (by simp [same]) ?_
        refine ih (c + (q + 1)) _ rfl (by omega) (by omega) fun i0 p0 h0 k0 => ?_
        obtain ⟨c', a1, a2, a3⟩ := ahead i0 p0 h0 k0
        refine ⟨c', ?_, a2, a3⟩
        rcases Nat.lt_trichotomy c' (c + q) with lo | eq | hi'
        · refine (before (c' - c) i0 (by omega) (by rw [way_at, show c + (c' - c) = c' by omega]; exact a3) ?_).elim
          exact (hash_at i0 p0 h0).trans (congrArg (knd.hash) k0)
        · rw [eq] at a3
          have s0 := slot_live R.tab.ris a3
          rw [live] at s0
          injection s0 with s0
          rw [← s0, hp] at h0
          exact (same ((congrArg Prod.snd (Option.some.inj h0)).trans k0)).elim
        · omega
    by_cases led : t.led = true
    · refine wp_if_neg (by simp [led]) ?_
      try refine seqAny (wpAny_pure ?_)
      exact go_on
    · refine wp_if_pos (by simp [led]) (wpAny_bind (unseen fl hx (fun y hy => ?_) ?_))
      · obtain ⟨e, he, ee⟩ := List.mem_map.mp hy
        have he1 : e ∈ es ∧ e.1 = knd.hash k := by simpa using he
        have he2 : e ∈ es.toList := by simpa using he1.1
        rw [R.rows] at he2
        obtain ⟨p2, hp2, e2⟩ := List.mem_map.mp he2
        exact ⟨p2.2, p2.1, by rw [← ee, ← e2], R.tup p2 hp2⟩
      · refine wp_if_neg (by decide) ?_
        try refine seqAny (wpAny_pure ?_)
        exact go_on
  · have met : t.probe (fun i => (es[i]?.map (·.1)).getD 0) (knd.hash k) (at_.getD (t.probeStart (knd.hash k))) = some (.empty (way t.mask (knd.hash k) Z) none) := by
      have e2 : way t.mask (knd.hash k) Z = (nth t.mask (spot t (knd.hash k) c) (Z - c)).j := by rw [way_at, to_end]
      rw [hst, e2]
      exact hpr
    rw [met]
    dsimp only
    refine wpAny_pure (no fun hm => ?_)
    obtain ⟨p0, h0, k0⟩ := List.mem_map.mp hm
    obtain ⟨i0, hi0, e0⟩ := List.getElem_of_mem h0
    have h00 : M[i0]? = some p0 := by rw [List.getElem?_eq_getElem hi0, e0]
    obtain ⟨c', a1, a2, a3⟩ := ahead i0 p0 h00 k0
    refine before (c' - c) i0 (by omega) (by rw [way_at, show c + (c' - c) = c' by omega]; exact a3) ?_
    exact (hash_at i0 p0 h00).trans (congrArg (knd.hash) k0)
theorem search (fl : HFlat knd) (R : Tups knd s.heap a M es ep t) {x : Addr} {k : κ} (hx : knd.is s.heap k x) (hu : knd.room A) {Q : SetFound → Shared → Prop} (yes : k ∈ M.map (·.2) → Q (.there none) s)
    (no : ∀ Z, k ∉ M.map (·.2) → way t.mask (knd.hash k) Z ∉ t.place.toList → (∀ c, c < Z → way t.mask (knd.hash k) c ∈ t.place.toList) → Q (.free (way t.mask (knd.hash k) Z) false) s) :
    wpAny (model P w) A (setSearch a (.ref x) (knd.hash k) true) Q E s := by
  have lm : (hashes knd M).length = M.length := List.length_map _
  obtain ⟨Z, z1, z2, z3⟩ := R.tab.first (by have := R.room; omega) (knd.hash k)
  have small : Z < 100000 := by
    have : 10 * SetTable.turns t.mask ≤ 1420 := by
      unfold SetTable.turns
      rcases R.tab.mok with e | e | e <;> omega
    omega
  unfold setSearch
  refine seek fl R hx hu z1 z2 z3 yes (fun hn => no Z hn z2 z3) 100000 0 none rfl (Nat.zero_le _) (by omega) fun i p hp hk => ?_
  have hi : (hashes knd M)[i]? = some (knd.hash k) := by
    unfold hashes
    rw [List.getElem?_map, hp, ← hk]; rfl
  have lt : i < t.place.toList.length := by
    rw [Array.length_toList, R.tab.sz, lm]
    exact (List.getElem?_eq_some_iff.mp hp).1
  have hj := List.getElem?_eq_getElem lt
  obtain ⟨c, hc, e⟩ := R.tab.before z2 hi hj
  exact ⟨c, Nat.zero_le _, hc, by rw [hj, e]⟩
/-! ### put in -/
theorem tup_still (fl : HFlat knd) {h h' : Heap} {k : κ} {b : Addr} {o : Obj} (hb : knd.is h k b) (ho : h.get? a = some o) (hd : o.data = .set es ep t) (sb : Heap.SameBut a h h') : knd.is h' k b :=
  fl.stays.stays (fun c oc vs n g hs => (sb.2 c fun e => by
    rw [e, ho] at g
    rw [Option.some.inj g, hs] at hd
    exact nomatch hd).trans g) hb
theorem ins_perm {α : Type} (l : List α) (p : Nat) (x : α) : (l.take p ++ x :: l.drop p).Perm (x :: l) := by
  have z : (l.take p ++ x :: l.drop p).Perm (x :: (l.take p ++ l.drop p)) := List.perm_middle
  rwa [List.take_append_drop] at z
theorem pick {α β : Type} (f : Nat → Option α) (l : List α) (hf : ∀ i, f i = l[i]?) {o : List Nat} (hp : o.Perm (List.range l.length)) : (o.filterMap f).Perm l := by
  have z : ∀ n, n ≤ l.length → (List.range n).filterMap f = l.take n := by
    intro n
    induction n with
    | zero => intro _; rfl
    | succ n ih =>
      intro hn
      have lt : n < l.length := hn
      rw [List.range_succ, List.filterMap_append, ih (Nat.le_of_lt lt), List.take_succ, List.getElem?_eq_getElem lt, List.filterMap_cons_some ((hf n).trans (List.getElem?_eq_getElem lt))]; rfl
  have y := hp.filterMap f
  rw [z _ (Nat.le_refl _), List.take_length] at y
  exact y
theorem reorder (hr : es.toList = ents knd M) {ord : Array Nat} (hp : ord.toList.Perm (List.range M.length)) :
    ∃ M2 : List (Row κ), (ord.filterMap (es[·]?)).toList = ents knd M2 ∧ M2.Perm M ∧ hashes knd M2 = ord.toList.map fun i => (es.map (·.1)).getD i 0 := by
  refine ⟨ord.toList.filterMap fun i => M[i]?, ?_, pick (β := Unit) _ M (fun _ => rfl) hp, ?_⟩
  · rw [Array.toList_filterMap]
    have : ∀ l : List Nat, l.filterMap (fun i => es[i]?) = ents knd (l.filterMap fun i => M[i]?) := by
      intro l
      induction l with
      | nil => rfl
      | cons i l ih =>
        cases g : M[i]? with
        | none =>
          have g2 : es[i]? = none := by rw [← Array.getElem?_toList, hr]; unfold ents; rw [List.getElem?_map, g]; rfl
          rw [List.filterMap_cons_none g, List.filterMap_cons_none g2, ih]
        | some p => rw [List.filterMap_cons_some g, List.filterMap_cons_some (ent_at hr g), ih]; rfl
    exact this _
  · have sz := len_of hr
    have : ∀ l : List Nat, (∀ i ∈ l, i < M.length) → hashes knd (l.filterMap fun i => M[i]?) = l.map fun i => (es.map (·.1)).getD i 0 := by
      intro l
      induction l with
      | nil => intro _; rfl
      | cons i l ih =>
        intro hl
        have g : M[i]? = some (M[i]'(hl i List.mem_cons_self)) := List.getElem?_eq_getElem _
        generalize (M[i]'(hl i List.mem_cons_self)) = p at g
        rw [List.filterMap_cons_some g, List.map_cons, ← ih fun j hj => hl j (List.mem_cons_of_mem _ hj)]
        have e5 : (es.map (·.1))[i]? = some (knd.hash p.2) := by rw [Array.getElem?_map, ent_at hr g]; rfl
        have e4 : (es.map (·.1)).getD i 0 = knd.hash p.2 := by simp [Array.getD_eq_getD_getElem?, e5]
        rw [e4]; rfl
    exact this _ fun i hi => List.mem_range.mp (hp.mem_iff.mp hi)
/-- the table laid anew, larger -/
theorem relay (fl : HFlat knd) {o : Obj} (ho : s.heap.get? a = some o) (hex : o.ExactSet) (hd : o.data = .set es ep t) (hr : es.toList = ents knd M) (hsz : t.place.size = es.size) (hdm : t.dummies = #[]) (hfl : es.size ≤ t.mask)
    (once : (M.map (·.2)).Nodup) (tup : ∀ p ∈ M, knd.is s.heap p.2 p.1) (ld : w.params.followText "set-order" = true ∨ t.led = true) (few : M.length < 64) {many N : Nat}
    (hw : SetTable.sizeAbove many - 1 = N) (hN : MaskOk N) (hw2 : SetTable.sizeAbove many ≤ 128) (hn : M.length * 5 < N * 3) {Q : Unit → Shared → Prop}
    (hQ : ∀ h' M' es' ep' t', Heap.SameBut a s.heap h' → Tups knd h' a M' es' ep' t' → M'.Perm M → Q () { s with heap := h' }) : wpAny (model P w) A (setRelay a many) Q E s := by
  have sz := len_of hr
  have fits : t.fits es.size = true := by
    exact fits_of hdm hsz hfl
  obtain ⟨t', ord, e, hp, T, em, el, epl, ed⟩ := relaid_ok t (hs := es.map (·.1)) (wanted := many) hw hN (by rw [Array.size_map, sz]; omega)
  rw [Array.size_map, sz] at hp
  obtain ⟨M2, r1, r2, r3⟩ := reorder hr hp
  rw [← r3] at T
  have z2 : (ord.filterMap (es[·]?)).size = es.size := by rw [len_of r1, r2.length_eq, sz]
  rw [setRelay_eq]
  refine seqAny (wpAny_setState_of ho hd fits ?_)
  dsimp only
  refine wp_if_neg (by rw [sizeLine_eq]; omega) ?_
  try refine seqAny (wpAny_pure ?_)
  rw [e]
  dsimp only
  refine seqAny (wp_if_neg (by rw [z2]; simp) ?_)
  try refine seqAny (wpAny_pure ?_)
  refine wpAny_pure ?_
  dsimp only
  refine wpAny_storeSet_of ho hd ?_ (by rw [z2, sz, sizeLine_eq]; omega)
  have sb : Heap.SameBut a s.heap (s.heap.update a (Obj.putSet (ord.filterMap (es[·]?)) t')) := Heap.SameBut.update ..
  refine hQ _ M2 (ord.filterMap (es[·]?)) (ep + 1) t' sb ⟨⟨_, store_at ho hd, ⟨hex.1, hex.2.1, hex.2.2⟩, rfl⟩, r1, T, ?_, fun p hpm => tup_still fl (tup p (r2.mem_iff.mp hpm)) ho hd sb, by rw [el]; exact ld, ?_, by rw [r2.length_eq]; exact few⟩ r2
  · exact (r2.map (·.2)).nodup_iff.mpr once
  · rw [r2.length_eq, em]; exact hn
theorem put (fl : HFlat knd) (R : Tups knd s.heap a M es ep t) {x : Addr} {k : κ} (hx : knd.is s.heap k x) (hu : knd.room A) (lt : M.length + 1 < 64) {Q : Bool → Shared → Prop}
    (hQ : ∀ b h' M' es' ep' t', Heap.SameBut a s.heap h' → Tups knd h' a M' es' ep' t' → (k ∈ M.map (·.2) → M' = M) → (k ∉ M.map (·.2) → M'.Perm ((x, k) :: M)) → Q b { s with heap := h' }) :
    wpAny (model P w) A (setAddHashed a (.ref x) (knd.hash k)) Q E s := by
  obtain ⟨o, ho, hex, hd⟩ := R.obj
  have sz := R.size
  have room := R.room
  unfold setAddHashed
  refine wpAny_holding ?_
  rw [show (100000 : Nat) = 99999 + 1 from rfl, setAddHashedIn_succ]
  refine seqAny (wpAny_setState_of ho hd R.fits ?_)
  dsimp only
  refine wp_if_neg (by simp [byScan, Value.scannable]) ?_
  try refine seqAny (wpAny_pure ?_)
  refine seqAny (search fl R hx hu (fun hm => ?_) fun Z hm hZ hb => ?_)
  · dsimp only
    exact wpAny_pure (hQ false s.heap M es ep t (Heap.SameBut.refl a s.heap) R (fun _ => rfl) fun z => absurd hm z)
  · dsimp only
    refine seqAny (wpAny_setState_of ho hd R.fits ?_)
    dsimp only
    obtain ⟨q1, q2, q3, q4, q5, q6, q7, q8, q9⟩ := R.tab.put hZ hb
    generalize hpt : t.put (way t.mask (knd.hash k) Z) = pt at q1 q3 q4 q5 q6 q7 q8 q9 ⊢
    obtain ⟨t0, p⟩ := pt
    dsimp only at q1 q3 q4 q5 q6 q7 q8 q9 ⊢
    subst q1
    have rest : ∀ (b : Bool) (t1 : SetTable), t1.place = t0.place → t1.dummies = t0.dummies → t1.mask = t0.mask → t1.led = t0.led → wpAny (model P w) A (do
        storeSet a (SetTable.insertAt es (SetTable.below t.place (way t.mask (knd.hash k) Z)) (knd.hash k, Value.ref x)) t1
        if !false && t1.tooFull then setRelay a (SetTable.grown (es.size + 1))
        return true) Q E s := by
     intro b t1 w1 w2 w3 w4
     replace q3 : TabOk t1 (List.take (SetTable.below t.place (way t.mask (knd.hash k) Z)) (hashes knd M) ++ knd.hash k :: List.drop (SetTable.below t.place (way t.mask (knd.hash k) Z)) (hashes knd M)) := ⟨by rw [w1]; exact q3.ris, by rw [w2]; exact q3.dm, by rw [w1]; exact q3.sz, by rw [w3]; exact q3.mok, by rw [w1, w3]; exact q3.bd, by rw [w1, w3]; exact q3.reach⟩
     replace q4 := w3.trans q4
     replace q5 := w4.trans q5
     replace q9 : t1.fill = (hashes knd M).length + 1 := by
       have z := q9
       unfold SetTable.fill at z ⊢
       rw [w1, w2]; exact z
     clear w1 w2 w3 w4 hpt
     have put1 : ∀ q, (SetTable.insertAt es q (knd.hash k, Value.ref x)).toList = ents knd (M.take q ++ (x, k) :: M.drop q) := fun q => by
       rw [SetTable.toList_insertAt, R.rows]
       unfold ents
       rw [List.map_append, List.map_cons, List.map_take, List.map_drop]
     have hin := put1 (SetTable.below t.place (way t.mask (knd.hash k) Z))
     generalize hpp : SetTable.below t.place (way t.mask (knd.hash k) Z) = p at q2 q3 hin ⊢
     have pm := ins_perm M p (x, k)
     have len1 : (M.take p ++ (x, k) :: M.drop p).length = M.length + 1 := pm.length_eq
     have hash1 : hashes knd (M.take p ++ (x, k) :: M.drop p) = (hashes knd M).take p ++ knd.hash k :: (hashes knd M).drop p := by
       unfold hashes
       rw [List.map_append, List.map_cons, List.map_take, List.map_drop]
     rw [← hash1] at q3
     have once1 : ((M.take p ++ (x, k) :: M.drop p).map (·.2)).Nodup := (pm.map (·.2)).nodup_iff.mpr (by rw [List.map_cons]; exact List.nodup_cons.mpr ⟨hm, R.once⟩)
     have size1 := (len_of hin).trans len1
     generalize SetTable.insertAt es p (knd.hash k, Value.ref x) = es1 at hin size1 ⊢
     generalize M.take p ++ (x, k) :: M.drop p = M1 at pm len1 q3 once1 hin
     refine seqAny (wpAny_storeSet_of ho hd ?_ (by rw [size1, sizeLine_eq]; omega))
     have sb : Heap.SameBut a s.heap (s.heap.update a (Obj.putSet es1 t1)) := Heap.SameBut.update ..
     have ho1 := store_at (es' := es1) (t' := t1) ho hd
     generalize s.heap.update a (Obj.putSet es1 t1) = h1 at sb ho1 ⊢
     have tup1 : ∀ p ∈ M1, knd.is h1 p.2 p.1 := fun p hp => by
       rcases List.mem_cons.mp (pm.mem_iff.mp hp) with e | hp
       · rw [e]; exact tup_still fl hx ho hd sb
       · exact tup_still fl (R.tup p hp) ho hd sb
     have led1 : w.params.followText "set-order" = true ∨ t1.led = true := by rw [q5]; exact R.led
     have lh : (hashes knd M).length = M.length := List.length_map _
     have lh1 : (hashes knd M1).length = M.length + 1 := (List.length_map _).trans len1
     by_cases full : t1.tooFull = true
     · first
         | (refine wpAny_bind ?_; refine wp_if_pos (by simp [full]) ?_)
         | (refine wp_if_pos (by simp [full]) ?_; refine wpAny_bind ?_)
       have much : (M.length + 1) * 5 ≥ t1.mask * 3 := by
         have z := full
         unfold SetTable.tooFull at z
         rw [decide_eq_true_eq, q9, lh] at z
         exact z
       rw [sz]
       have size2 : t1.place.size = es1.size := by rw [q3.sz, lh1, size1]
       have two : (t.mask = 7 ∧ M.length = 4) ∨ (t.mask = 31 ∧ M.length = 18) := by
         rw [q4] at much
         rcases R.tab.mok with e | e | e <;> rw [e] at much room
         · exact .inl ⟨e, by omega⟩
         · exact .inr ⟨e, by omega⟩
         · omega
       have go : ∀ N, SetTable.sizeAbove (SetTable.grown (M.length + 1)) - 1 = N → MaskOk N → SetTable.sizeAbove (SetTable.grown (M.length + 1)) ≤ 128 → (M.length + 1) * 5 < N * 3 →
           wpAny (model P w) A (setRelay a (SetTable.grown (M.length + 1))) (fun _ s' => wpAny (model P w) A (pure true) Q E s') E { s with heap := h1 } := fun N g1 g2 g3 g4 => by
         refine relay fl (s := { s with heap := h1 }) ho1 ⟨hex.1, hex.2.1, hex.2.2⟩ rfl hin size2 q3.dm (by rw [size1, q4]; rcases two with ⟨e, e2⟩ | ⟨e, e2⟩ <;> omega) once1 tup1 led1 (by rw [len1]; exact lt) g1 g2 g3 (by rw [len1]; exact g4) ?_
         intro h2 M2 es2 ep2 t2 sb2 R2 pm2
         exact wpAny_pure (hQ true h2 M2 es2 ep2 t2 (sb.trans sb2) R2 (fun z => absurd z hm) fun _ => pm2.trans pm)
       rcases two with ⟨_, e2⟩ | ⟨_, e2⟩
       · exact go 31 (by rw [e2, size_20]) (.inr (.inl rfl)) (by rw [e2, size_20]; decide) (by omega)
       · exact go 127 (by rw [e2, size_76]) (.inr (.inr rfl)) (by rw [e2, size_76]; decide) (by omega)
     · first
         | refine wp_if_neg (by simp [full]) ?_
         | (refine wpAny_bind ?_; refine wp_if_neg (by simp [full]) ?_; refine wpAny_pure ?_)
       refine wpAny_pure (hQ true h1 M1 es1 (ep + 1) t1 sb ⟨⟨_, ho1, ⟨hex.1, hex.2.1, hex.2.2⟩, rfl⟩, hin, q3, once1, tup1, led1, ?_, by rw [len1]; exact lt⟩ (fun z => absurd z hm) fun _ => pm)
       have z := full
       unfold SetTable.tooFull at z
       rw [decide_eq_true_eq, q9, lh] at z
       rw [len1]
       omega

    by_cases pl : t0.plain = true
    · first
        | (refine wpAny_bind ?_; refine wp_if_pos pl ?_; refine fl.val hx fun b => ?_)
        | refine wp_if_pos pl (wpAny_bind (fl.val hx fun b => ?_))
      cases b with
      | true => exact rest true t0 rfl rfl rfl rfl
      | false => exact rest false _ rfl rfl rfl rfl
    · first
        | (refine wpAny_bind ?_; refine wp_if_neg pl ?_; refine wpAny_pure ?_)
        | refine wp_if_neg pl (wpAny_bind (wpAny_pure ?_))
      exact rest true t0 rfl rfl rfl rfl
end
/-! ### nested tuples -/
section
variable {P : Program} {w : World}
/-- no class of the text, n levels down -/
def ClsAt (P : Program) (w : World) (n : Nat) (s : Shared) (v : Value) : Prop := ∀ (A : Around) (E : Value → Shared → Prop) (Q : Bool → Shared → Prop), Q false s → wpAny (model P w) A (ofAClassStatement n v) Q E s
def ValAt (P : Program) (w : World) (n : Nat) (s : Shared) (v : Value) : Prop := ∀ (A : Around) (E : Value → Shared → Prop) (Q : Bool → Shared → Prop), (∀ b, Q b s) → wpAny (model P w) A (hashByValue n v) Q E s
theorem ClsAt.tuple {n : Nat} {s : Shared} {a : Addr} {o : Obj} {vs : Array Value} {m : Nat} (ho : s.heap.get? a = some o) (hc : o.cls = .type "tuple") (hd : o.data = .seq vs m) (hq : ∀ v ∈ vs.toList, ClsAt P w n s v) : ClsAt P w (n + 1) s (.ref a) := fun A E Q h => by
  have hT : s.TypeIs (.ref a) "tuple" := ⟨o, ho, hc⟩
  unfold ofAClassStatement
  refine seqAny (wpAny_typeOf hT ?_)
  dsimp only
  have same : (("tuple" : String) == "tuple") = true := by decide
  simp only [same, if_false, if_true, Bool.not_true, Bool.false_eq_true]
  try refine seqAny (wpAny_pure ?_)
  try simp only [Bool.not_true, if_false, Bool.false_eq_true]
  show wpAny _ _ (seqItems? (.ref a) >>= _) _ _ _; refine seqAny (wpAny_seqItems ho hd ?_)
  dsimp only
  refine seqAny ?_
  show wpAny _ _ (forIn vs _ _) _ _ s
  rw [← Array.forIn_toList]
  refine wpAny_forIn_list _ (fun rest r s' => r = (none, ()) ∧ s' = s ∧ ∀ v ∈ rest, ClsAt P w n s v) _ ?_ ?_ _ _ ⟨rfl, rfl, hq⟩
  · rintro v rest r s' ⟨hr, rfl, all⟩
    refine seqAny (all v List.mem_cons_self _ _ _ ?_)
    simp only [if_false, Bool.false_eq_true]
    exact wpAny_pure ⟨rfl, rfl, fun u hu => all u (List.mem_cons_of_mem _ hu)⟩
  · rintro r s' ⟨hr, rfl, _⟩
    subst hr
    exact wpAny_pure h
theorem ValAt.tuple {n : Nat} {s : Shared} {a : Addr} {o : Obj} {vs : Array Value} {m : Nat} (ho : s.heap.get? a = some o) (hc : o.cls = .type "tuple") (hd : o.data = .seq vs m) (hq : ∀ v ∈ vs.toList, ValAt P w n s v) : ValAt P w (n + 1) s (.ref a) := fun A E Q h => by
  have hT : s.TypeIs (.ref a) "tuple" := ⟨o, ho, hc⟩
  unfold hashByValue
  refine seqAny (wpAny_specialOf hT F.slot_tuple_hash.lookup ?_)
  show wpAny _ _ (seqItems? (.ref a) >>= _) _ _ _; refine seqAny (wpAny_seqItems ho hd ?_)
  refine seqAny ?_
  show wpAny _ _ (forIn vs _ _) _ _ s
  rw [← Array.forIn_toList]
  refine wpAny_forIn_list _ (fun rest r s' => s' = s ∧ ∀ v ∈ rest, ValAt P w n s v) _ ?_ ?_ _ _ ⟨rfl, hq⟩
  · rintro v rest r s' ⟨rfl, all⟩
    refine seqAny (all v List.mem_cons_self _ _ _ fun b => ?_)
    cases b with
    | true =>
      simp only [Bool.not_true, if_false, Bool.false_eq_true]
      exact wpAny_pure ⟨rfl, fun u hu => all u (List.mem_cons_of_mem _ hu)⟩
    | false =>
      simp only [Bool.not_false, if_true]
      exact wpAny_pure (wpAny_pure (h false))
  · rintro ⟨r1, r2⟩ s' ⟨rfl, _⟩
    cases r1 with
    | none => exact wpAny_pure (h true)
    | some b => exact wpAny_pure (h b)
mutual
theorem cls_key : ∀ (k : NestedKey) (v : Value) (n : Nat) (s : Shared), NestedIs s.heap k v → k.depth ≤ n → ClsAt P w n s v
  | .none, _, n, s, x, _ => by cases x; cases n <;> exact fun _ _ _ h => wpAny_pure h
  | .num i, _, n, s, x, _ => by cases x <;> cases n <;> exact fun _ _ _ h => wpAny_pure h
  | .text y, _, n, s, x, _ => by cases x; cases n <;> exact fun _ _ _ h => wpAny_pure h
  | .tup ks, _, n, s, x, hn => by
    cases x with
    | tup hg hc hd hk =>
      simp only [NestedKey.depth] at hn
      cases n with
      | zero => omega
      | succ n => exact .tuple hg hc hd (cls_keys ks _ n s hk (by omega))
theorem cls_keys : ∀ (ks : List NestedKey) (vs : List Value) (n : Nat) (s : Shared), NestedAll s.heap ks vs → NestedKey.depthAll ks ≤ n → ∀ v ∈ vs, ClsAt P w n s v
  | [], _, n, s, x, _, v, hv => by cases x; cases hv
  | k :: ks, _, n, s, x, hn, v, hv => by
    cases x with
    | cons x1 x2 =>
      simp only [NestedKey.depthAll] at hn
      rcases List.mem_cons.mp hv with e | hv
      · rw [e]; exact cls_key k _ n s x1 (by omega)
      · exact cls_keys ks _ n s x2 (by omega) v hv
end
mutual
theorem val_key : ∀ (k : NestedKey) (v : Value) (n : Nat) (s : Shared), NestedIs s.heap k v → k.depth ≤ n → ValAt P w n s v
  | .none, _, n, s, x, _ => by cases x; cases n <;> exact fun _ _ _ h => wpAny_pure (h _)
  | .num i, _, n, s, x, _ => by cases x <;> cases n <;> exact fun _ _ _ h => wpAny_pure (h _)
  | .text y, _, n, s, x, _ => by cases x; cases n <;> exact fun _ _ _ h => wpAny_pure (h _)
  | .tup ks, _, n, s, x, hn => by
    cases x with
    | tup hg hc hd hk =>
      simp only [NestedKey.depth] at hn
      cases n with
      | zero => omega
      | succ n => exact .tuple hg hc hd (val_keys ks _ n s hk (by omega))
theorem val_keys : ∀ (ks : List NestedKey) (vs : List Value) (n : Nat) (s : Shared), NestedAll s.heap ks vs → NestedKey.depthAll ks ≤ n → ∀ v ∈ vs, ValAt P w n s v
  | [], _, n, s, x, _, v, hv => by cases x; cases hv
  | k :: ks, _, n, s, x, hn, v, hv => by
    cases x with
    | cons x1 x2 =>
      simp only [NestedKey.depthAll] at hn
      rcases List.mem_cons.mp hv with e | hv
      · rw [e]; exact val_key k _ n s x1 (by omega)
      · exact val_keys ks _ n s x2 (by omega) v hv
end
theorem flat_nested : HFlat (nestedKind P w) where
  stays := nestedKind_stays
  cls := fun {A E s k b Q} hk h => cls_key k _ 8 s hk.1 hk.2 A E Q h
  val := fun {A E s k b Q} hk h => val_key k _ 8 s hk.1 hk.2 A E Q h
end
end KnH

set_option Elab.async false
set_option linter.all false
set_option maxRecDepth 100000
set_option maxHeartbeats 4000000
/-! set(xs), xs a list or a tuple of nested tuples; sorted of such a set. -/
namespace KnH
open PySem PySem.Spec PyProof.Rows L2
open PySem renaming wpAny_bind → seqAny
open KnN (NIs NAll nis_at)
abbrev NRow := Row NestedKey
/-! ### as a tracked thing -/
structure PartN (P : Program) (w : World) (h : Heap) (a : Addr) (M : List NRow) (es : Array (Int × Value)) (ep : Nat) (t : SetTable) : Prop where
  obj : ∃ o, h.get? a = some o ∧ o.ExactSet ∧ o.data = .set es ep t
  rows : es.toList = ents (nestedKind P w) M
  tab : TabOk t (hashes (nestedKind P w) M)
  once : (M.map (·.2)).Nodup
  led : w.params.followText "set-order" = true ∨ t.led = true
  room : M.length * 5 < t.mask * 3
  few : M.length < 64
def IsN (P : Program) (w : World) (a : Addr) (M : List NRow) (h : Heap) : Prop := ∃ es ep t, PartN P w h a M es ep t
def SetFN (P : Program) (w : World) (a : Addr) (M : List NRow) : HO := .ext fun h => IsN P w a M h
theorem IsN.keep {P : Program} {w : World} {a : Addr} {M : List NRow} {h h' : Heap} (R : IsN P w a M h) (k : ∀ o, h.get? a = some o → h'.get? a = some o) : IsN P w a M h' :=
  let ⟨es, ep, t, q⟩ := R; let ⟨o, ho, r⟩ := q.obj; ⟨es, ep, t, ⟨o, k o ho, r⟩, q.rows, q.tab, q.once, q.led, q.room, q.few⟩
theorem IsN.there {P : Program} {w : World} {a : Addr} {M : List NRow} {h : Heap} (R : IsN P w a M h) : ∃ o, h.get? a = some o ∧ o.cls = .type "set" := let ⟨_, _, _, q⟩ := R; let ⟨o, ho, hx, _⟩ := q.obj; ⟨o, ho, hx.1⟩
theorem partN_ok {P : Program} {w : World} {a : Addr} {M : List NRow} {H : Hp} {h : Heap} (R : IsN P w a M h) : ObjOk P w H h a (SetFN P w a M) := ⟨R, let ⟨o, ho, _⟩ := R.there; ⟨o, ho⟩, fun _ _ p k => p.keep k⟩
theorem freshN {P : Program} {w : World} (h : Heap) : IsN P w h.objs.size [] (h.push (KnS.set0 w)) := by
  refine ⟨#[], 0, _, ⟨_, Heap.get?_push_size _ rfl, ⟨rfl, rfl, rfl⟩, rfl⟩, rfl, ⟨List.Pairwise.nil, rfl, rfl, .inl rfl, (fun x hx => nomatch hx), fun i z j hi => (by simp [hashes] at hi)⟩, List.nodup_nil, ?_, (show 0 * 5 < 7 * 3 by decide), (show 0 < 64 by decide)⟩
  cases q : w.params.followText "set-order" with
  | true => exact .inl rfl
  | false => exact .inr rfl
def NsAt (P : Program) (w : World) (H : Hp) (a : Addr) (M : List NRow) : Prop := H a = some (SetFN P w a M) ∧ ∀ p ∈ M, NIs H p.2 (.ref p.1) ∧ p.2.depth ≤ 8
/-! ### the loop of set(v) -/
section
variable {P : Program} {w : World} {A : Around} {E : Value → Shared → Prop} {s : Shared}
/-- the set at S holds just the keys of the first i of ks, each by one of their tuples -/
structure Held (P : Program) (w : World) (h : Heap) (S : Addr) (ks : List NRow) (i : Nat) : Prop where
  ex : ∃ M, IsN P w S M h ∧ (∀ p ∈ M, p ∈ ks.take i) ∧ ∀ p ∈ ks.take i, p.2 ∈ M.map (·.2)
theorem fulls {S : Addr} {M : List NRow} (R : IsN P w S M s.heap) (hk : ∀ p ∈ M, (nestedKind P w).is s.heap p.2 p.1) : ∃ es ep t, Tups (nestedKind P w) s.heap S M es ep t := by
  obtain ⟨es, ep, t, q⟩ := R
  exact ⟨es, ep, t, q.obj, q.rows, q.tab, q.once, hk, q.led, q.room, q.few⟩
theorem Held.keep {h h' : Heap} {S : Addr} {ks : List NRow} {i : Nat} (x : Held P w h S ks i) (k : ∀ o, h.get? S = some o → h'.get? S = some o) : Held P w h' S ks i := let ⟨M, R, a, b⟩ := x.ex; ⟨M, R.keep k, a, b⟩
theorem loopN {I S : Addr} {fp wr : List Addr} {G : Array GenState → Array GenState → Prop} {ks : List NRow} {Pv : Nat → Value → Prop} {St : Nat → Shared → Prop} {R : Result → Shared → Prop}
    (hu : A.units + 20 < cLine) (W : WalksS P w A.in1 I fp wr G ks.length Pv St) (hSf : S ∉ fp) (hval : ∀ i v k, Pv i v → ks[i]? = some k → v = .ref k.1)
    (few : ∀ L : List NestedKey, L.Nodup → (∀ k ∈ L, k ∈ ks.map (·.2)) → L.length + 1 < 64) :
    ∀ (k i : Nat) (s : Shared), ks.length - i = k → i ≤ ks.length → St i s → Held P w s.heap S ks i → (∀ h' : Heap, (∀ b o, b ∉ S :: wr → s.heap.get? b = some o → h'.get? b = some o) → ∀ p ∈ ks, (nestedKind P w).is h' p.2 p.1) →
      (∀ s', Moved (S :: wr) G s s' → Held P w s'.heap S ks ks.length → R (.ok (.ret .none)) s') → codeAny (model P w) A (.builtin "set.update.loop" ⟨[.ref S, .ref I], []⟩) R s := by
  have hSw : S ∉ wr := fun h => hSf (W.sub _ h)
  have more : ∀ b ∈ wr, b ∈ S :: wr := fun b hb => List.mem_cons_of_mem _ hb
  intro k
  induction k with
  | zero =>
    intro i s hk hi hst hS hkp hR
    obtain rfl : i = ks.length := by omega
    refine codeAny_builtin PyProof.Rows.F.entry_set_update_loop ?_
    rw [Around.under_plainId PyProof.Rows.F.plain_set_update_loop _]
    show wpAny _ A.in1 (pyNext (.ref I) >>= _) _ _ s
    exact seqAny (W.done s _ _ hst fun s' hm => (show wpAny _ A.in1 (ret Value.none) _ _ s' from wpAny_pure (hR s' (hm.mono more) (hS.keep fun o ho => hm.heap S o hSw ho))))
  | succ k ih =>
    intro i s hk hi hst hS hkp hR
    have lt : i < ks.length := by omega
    have at_ : ks[i]? = some ks[i] := List.getElem?_eq_getElem lt
    refine codeAny_builtin PyProof.Rows.F.entry_set_update_loop ?_
    rw [Around.under_plainId PyProof.Rows.F.plain_set_update_loop _]
    show wpAny _ A.in1 (pyNext (.ref I) >>= _) _ _ s
    refine seqAny (W.item i s _ _ lt hst fun v s' hP hst' hm => ?_)
    obtain rfl := hval i v _ hP at_
    have hS' : Held P w s'.heap S ks i := hS.keep fun o ho => hm.heap S o hSw ho
    have kp' : ∀ h' : Heap, (∀ b o, b ∉ S :: wr → s'.heap.get? b = some o → h'.get? b = some o) → ∀ p ∈ ks, (nestedKind P w).is h' p.2 p.1 := fun h' q => hkp h' fun b o nb e => q b o nb (hm.heap b o (fun z => nb (more b z)) e)
    have hx := kp' s'.heap (fun _ _ _ e => e) _ (List.getElem_mem lt)
    obtain ⟨M, RM, in1, all1⟩ := hS'.ex
    obtain ⟨es, ep, t, RT⟩ := fulls RM fun p hp => kp' s'.heap (fun _ _ _ e => e) p (List.mem_of_mem_take (in1 p hp))
    have lM : M.length + 1 < 64 := by
      have := few (M.map (·.2)) RT.once fun x hx => by
        obtain ⟨p, hp, rfl⟩ := List.mem_map.mp hx
        exact List.mem_map.mpr ⟨p, List.mem_of_mem_take (in1 p hp), rfl⟩
      rwa [List.length_map] at this
    have hroom : (nestedKind P w).room A.in1 := by
      show A.in1.units + 8 < cLine
      rw [Around.in1_units]
      omega
    show wpAny _ A.in1 (holding [Value.ref ks[i].1] (setAdd S (Value.ref ks[i].1)) >>= _) _ _ s'
    refine seqAny (wpAny_holding ?_)
    unfold setAdd
    refine wpAny_holding (seqAny ((nestedKind P w).pyHash hroom hx ?_))
    refine put (s := { s' with toks := s'.toks + (nestedKind P w).draws ks[i].2 }) flat_nested RT hx hroom lM fun b h' M' es' ep' t' sb R' c1 c2 => ?_
    have tk : ks.take (i + 1) = ks.take i ++ [ks[i]] := by rw [List.take_add_one, at_]; rfl
    have hS2 : Held P w h' S ks (i + 1) := by
      refine ⟨M', ⟨es', ep', t', R'.obj, R'.rows, R'.tab, R'.once, R'.led, R'.room, R'.few⟩, fun p hp => ?_, fun p hp => ?_⟩
      · rw [tk]
        rcases Classical.em (ks[i].2 ∈ M.map (·.2)) with c | c
        · rw [c1 c] at hp; exact List.mem_append_left _ (in1 p hp)
        · rcases List.mem_cons.mp ((c2 c).mem_iff.mp hp) with z | z
          · exact List.mem_append_right _ (List.mem_singleton.mpr z)
          · exact List.mem_append_left _ (in1 p z)
      · rw [tk] at hp
        rcases Classical.em (ks[i].2 ∈ M.map (·.2)) with c | c
        · rw [c1 c]
          rcases List.mem_append.mp hp with z | z
          · exact all1 p z
          · rw [List.mem_singleton.mp z]; exact c
        · rw [((c2 c).map (·.2)).mem_iff, List.map_cons]
          rcases List.mem_append.mp hp with z | z
          · exact List.mem_cons_of_mem _ (all1 p z)
          · rw [List.mem_singleton.mp z]; exact List.mem_cons_self
    refine wpAny_pure ⟨plainId_quiet PyProof.Rows.F.plain_set_update_loop _, ih (i + 1) _ (by omega) lt (W.frame _ s' _ _ hst' (Nat.le_add_right _ _) fun b hb o e => ?_) hS2 (fun h2 q => kp' h2 fun b o nb e => q b o nb ((sb.2 b fun z => nb (z ▸ List.mem_cons_self)).trans e)) fun s'' hm'' hS'' => ?_⟩
    · exact (sb.2 b fun h => hSf (h ▸ hb)).trans e
    · refine hR s'' (Moved.trans W.gtrans ((hm.mono more).then_heap (Nat.le_add_right _ _) fun b o hb e => ?_) hm'') hS''
      exact (sb.2 b fun h => hb (h ▸ List.mem_cons_self)).trans e
set_option maxHeartbeats 3200000 in
theorem set_call_list {l : Addr} {items : List Value} {ks : List NRow} {Q : Value → Shared → Prop} (hh : A.handled = none) (hu : A.units + 25 < cLine) (hl : s.heap.IsList l items.toArray) (hi : items = ks.map fun p => Value.ref p.1) (few : ∀ L : List NestedKey, L.Nodup → (∀ k ∈ L, k ∈ ks.map (·.2)) → L.length + 1 < 64) (hkp : ∀ p ∈ ks, (nestedKind P w).is s.heap p.2 p.1)
    (h : ∀ (h' : Heap) (tk : Nat), Held P w h' s.heap.objs.size ks ks.length → (∀ b o, b < s.heap.objs.size → s.heap.get? b = some o → h'.get? b = some o) → Q (.ref s.heap.objs.size) { s with heap := h', toks := tk }) :
    wpAny (model P w) A (call (.type "set") [.ref l]) Q E s := by
  have ⟨c, tl, hmro⟩ := PySem.F.called_set.mro
  have made := PySem.F.called_set.made
  have sub := PySem.F.called_set.sub
  refine wpAny_call (codeAny_of_tree (show wpAny _ _ (callAny (.type "set") _) _ _ _ from wpAny_pure ⟨Code.quiet_builtin _ (by decide +kernel), codeAny_builtin PySem.F.entry_type_call ?_⟩))
  rw [Around.under_plain (weight_type_call_type "set" [.ref l] []) rfl]
  have u1 := PySem.F.called_set.notType
  have u2 := PySem.F.called_set.canCreate
  have u3 := PySem.F.typeCall_set_1 (.ref l)
  repeat (any_goals (first | assumption | wp_step))
  have R0 : IsN P w s.heap.objs.size [] (s.heap.push { cls := .type "set", dict := none, data := .set #[] 0 (.fresh 0 0 (!w.params.followText "set-order")) }) := freshN (P := P) (w := w) s.heap
  have made0 := KnS.new_set (P := P) (w := w) (A := A.in1) (s := s) (.ref l) (E := E) (Q₁ := fun obj s₁ => obj = .ref s.heap.objs.size ∧ s₁ = { s with heap := s.heap.push { cls := .type "set", dict := none, data := .set #[] 0 (.fresh 0 0 (!w.params.followText "set-order")) } }) ⟨rfl, rfl⟩
  generalize (!w.params.followText "set-order") = led at made0 R0
  refine codeAny_mono made0 fun r s₁ hr => ?_
  match r, hr with
  | .error e, hr => exact hr
  | .ok .next, hr => exact hr.elim
  | .ok .brk, hr => exact hr.elim
  | .ok .cont, hr => exact hr.elim
  | .ok (.ret obj), hr =>
    obtain ⟨rfl, rfl⟩ := hr
    have hS : (s.heap.push { cls := .type "set", dict := none, data := .set #[] 0 (.fresh 0 0 led) }).get? s.heap.objs.size = some { cls := .type "set", dict := none, data := .set #[] 0 (.fresh 0 0 led) } := Heap.get?_push_size _ rfl
    have hT : Shared.TypeIs { s with heap := s.heap.push { cls := .type "set", dict := none, data := .set #[] 0 (.fresh 0 0 led) } } (.ref s.heap.objs.size) "set" := ⟨_, hS, rfl⟩
    have i1 := PySem.F.called_set.init.lookup
    have i2 := PySem.F.called_set.init.bind (.ref s.heap.objs.size)
    repeat (any_goals (first | assumption | wp_step))
    refine codeAny_mono (codeAny_call_builtin (R := wants (fun r s₂ => r = .none ∧ ∃ h' tk, s₂ = { s with heap := h', toks := tk } ∧ Held P w h' s.heap.objs.size ks ks.length ∧ ∀ b o, b < s.heap.objs.size → s.heap.get? b = some o → h'.get? b = some o) E)
      PySem.F.called_set.init.plain PySem.F.entry_set_init (check_set_init_1 hT ?_)) fun r₂ s₂ hr₂ => ?_
    · have hlS : l < s.heap.objs.size := let ⟨o, e, _⟩ := hl; Heap.lt_size e
      have hl1 : (s.heap.push { cls := .type "set", dict := none, data := .set #[] 0 (.fresh 0 0 led) }).IsList l items.toArray := hl.at fun o e => Heap.get?_push_of_some _ e
      obtain ⟨⟨ocls, odict, odata, oslots⟩, hol, hcl, nl, hdl⟩ := hl1
      simp only at hcl hdl
      subst hcl hdl
      have n1 := PySem.F.sub_list_set
      have n2 := PySem.F.sub_list_frozenset
      have n3 : (Value.type "list" == Value.type "dict") = false := by decide
      unfold Builtin.«set.__init__» noKeywords Builtin.Frozenset.updateFrom
      generalize hPI : pyIter = PI
      wp_walk
      subst hPI
      have hl2 : (s.heap.push { cls := .type "set", dict := none, data := .set #[] 0 (.fresh 0 0 led) }).IsList l items.toArray := ⟨_, hol, rfl, nl, rfl⟩
      refine wpAny_pyIter_list hl2 ?_
      refine wpAny_bind (wpAny_runValue ?_)
      have zz : (s.heap.push { cls := .type "set", dict := none, data := .set #[] 0 (.fresh 0 0 led) }).objs.size = s.heap.objs.size + 1 := Heap.size_push ..
      have hneI : l ≠ (s.heap.push { cls := .type "set", dict := none, data := .set #[] 0 (.fresh 0 0 led) }).objs.size := by rw [zz]; exact Nat.ne_of_lt (Nat.lt_succ_of_lt hlS)
      have len : ks.length = items.toArray.size := by rw [hi, List.size_toArray, List.length_map]
      have W := (Walks.list (prog := P) (w := w) (A := A.in1.in1.in1) (by simpa using hh) (s.heap.push { cls := .type "set", dict := none, data := .set #[] 0 (.fresh 0 0 led) }).objs.size l hneI items.toArray).toS
      rw [← len] at W
      have u3' : A.in1.in1.units + 20 < cLine := by
        rw [Around.in1_units, Around.in1_units]
        omega
      refine loopN u3' W (fun z => ?_) (fun i v k hv hki => ?_) few (ks.length - 0) 0 _ rfl (Nat.zero_le _) ⟨⟨_, Heap.get?_push_size _ rfl, rfl, rfl⟩, hl2.at fun o e => Heap.get?_push_of_some _ e⟩ ?_ (fun h2 hq p hp => ?_) fun s' hm hS' => ?_
      · rcases List.mem_cons.mp z with z | z
        · rw [zz] at z
          exact Nat.ne_of_lt (Nat.lt_succ_self _) z
        · exact Nat.ne_of_lt hlS (List.mem_singleton.mp z).symm
      · rw [List.getElem?_toArray, hi, List.getElem?_map, hki] at hv
        exact (Option.some.inj hv).symm
      · exact ⟨[], R0.keep fun o e => Heap.get?_push_of_some _ e, (fun p hp => nomatch hp), fun p hp => nomatch hp⟩
      · refine flat_nested.stays.stays (fun b o vs n e d => hq b o (fun z => ?_) (Heap.get?_push_of_some _ (Heap.get?_push_of_some _ e))) (hkp p hp)
        have hb := Heap.lt_size e
        rcases List.mem_cons.mp z with z | z
        · exact Nat.ne_of_lt hb z
        · have e1 := List.mem_singleton.mp z
          rw [zz] at e1
          exact Nat.ne_of_lt (Nat.lt_succ_of_lt hb) e1
      · obtain ⟨h', g', d', tk', os'⟩ := s'
        obtain rfl : g' = s.gens := hm.gens
        obtain rfl : d' = s.drawn := hm.drawn
        obtain rfl : os' = s.os := hm.os
        refine wpAny_pure (show wpAny _ _ (ret Value.none) _ _ _ from wpAny_pure ⟨rfl, h', tk', rfl, hS', fun b o hb e => ?_⟩)
        refine hm.heap b o (fun z => ?_) (Heap.get?_push_of_some _ (Heap.get?_push_of_some _ e))
        rcases List.mem_cons.mp z with z | z
        · exact Nat.ne_of_lt hb z
        · have e1 := List.mem_singleton.mp z
          rw [zz] at e1
          exact Nat.ne_of_lt (Nat.lt_succ_of_lt hb) e1
    · match r₂, hr₂ with
      | .error e, hr₂ => exact hr₂
      | .ok .next, hr₂ => exact hr₂.elim
      | .ok .brk, hr₂ => exact hr₂.elim
      | .ok .cont, hr₂ => exact hr₂.elim
      | .ok (.ret r), hr₂ =>
        obtain ⟨rfl, h', tk, rfl, hS', hk'⟩ := hr₂
        repeat (any_goals (first | assumption | wp_step))
        exact h _ _ hS' hk'
end
end KnH

set_option Elab.async false
set_option linter.all false
set_option maxRecDepth 100000
set_option maxHeartbeats 4000000
/-! Rules: set(a list of nested tuples), sorted(a set of rows). -/
namespace KnH
open PySem PySem.Spec PyProof.Rows L2
open PySem renaming wpAny_bind → seqAny
open KnN (NIs NAll nis_at)
/-! ### the rules -/
section
variable {X : Cx} {pins : List (Addr × Obj)} {σ : L2.St} {H : Hp} {s : Shared} {a : Addr} {M : List NRow}
theorem key_is {P : Program} {w : World} {H : Hp} {h : Heap} {k : NestedKey} {b : Addr} (ok : HOk P w H h) (x : NIs H k (.ref b)) (dp : k.depth ≤ 8) : (nestedKind P w).is h k b := ⟨nis_at ok _ _ _ x rfl, dp⟩
theorem refsN : ∀ {ks : List NRow} {us : List Value}, Vals (ks.map fun p => V.ref p.1) us → us = ks.map fun p => Value.ref p.1
  | [], _, .nil => rfl
  | p :: ks, _, .cons r t => by
    cases r
    rw [refsN t] <;> rfl
/-- set(xs), xs a list of nested tuples -/
def rSetOfN (K : PySem.W.Frag) (P : Program) (w : World) : List V → Hp → VK → Prop := fun vs H Q => ∃ (a : Addr) (ks : List NRow), vs = [.ref a] ∧ SqL K H a (ks.map fun p => V.ref p.1) ∧ (∀ p ∈ ks, NIs H p.2 (.ref p.1) ∧ p.2.depth ≤ 8) ∧ (∀ L : List NestedKey, L.Nodup → (∀ k ∈ L, k ∈ ks.map (·.2)) → L.length + 1 < 64) ∧
  ∀ S M, H S = none → NsAt P w (upd H S (SetFN P w S M)) S M → (∀ p ∈ M, p ∈ ks) → (∀ p ∈ ks, p.2 ∈ M.map (·.2)) → (M.map (·.2)).Nodup → Q (.ref S) (upd H S (SetFN P w S M))
theorem nis_upd {P : Program} {w : World} {H : Hp} {S : Addr} {M : List NRow} (n : H S = none) {k : NestedKey} {v : V} (h : NIs H k v) : NIs (upd H S (SetFN P w S M)) k v := NIs.ext (fun b xs e => (upd_ne fun z => by rw [z, n] at e; cases e).trans e) _ _ h
theorem cr_setOfN (hc : X.calm = true) (hu : X.A.units + 65 < cLine) : CallR X (.type "set") (rSetOfN X.K X.prog X.w) := by
  intro pins s σ H vs us Q I r h
  obtain ⟨a, ks, rfl, hs, hk, few, q⟩ := h
  rw [Vals.ref1 r]
  obtain ⟨its, rv, pl, hz⟩ := I.list hs
  refine set_call_list (I.ok.hd hc) (by omega) pl.isList (refsN rv) few (fun p hp => key_is I.hok (hk p hp).1 (hk p hp).2) fun h' tk R k => ?_
  obtain ⟨M, RM, in1, all1⟩ := R.ex
  rw [List.take_length] at in1 all1
  have hn : H s.heap.objs.size = none := I.hok.fresh (Nat.le_refl _)
  have J : Inv X pins σ (upd H s.heap.objs.size (SetFN X.prog X.w s.heap.objs.size M)) { s with heap := h', toks := tk } :=
    I.laid (t' := tk) (fun b o e => k b o (Heap.lt_size e) e) (Nat.le_refl _) (partN_ok RM)
  have once : (M.map (·.2)).Nodup := let ⟨_, _, _, z⟩ := RM; z.once
  exact ⟨.ref _, _, J, rfl, q _ M hn ⟨upd_same, fun p hp => ⟨nis_upd hn (hk p (in1 p hp)).1, (hk p (in1 p hp)).2⟩⟩ in1 all1 once⟩
/-- sorted(found), found a set of rows -/
def rSortedSN (P : Program) (w : World) : List V → Hp → VK → Prop := fun vs H Q => ∃ (a : Addr) (bs : List (Addr × KnA.Dat)), vs = [.ref a] ∧ (∃ M, H a = some (SetFN P w a M) ∧ M.map (·.1) = bs.map (·.1)) ∧ (∀ b ∈ bs, KnA.RowAt H (.ref b.1) b.2.1 b.2.2) ∧
  ∀ (bs' : List (V × KnA.Dat)) (p : Addr), bs'.Perm (bs.map fun b => (V.ref b.1, b.2)) → (bs'.map (·.2)).Pairwise (fun p q => KnA.rowLe p q = true) → H p = none → Q (.ref p) (upd H p (.lst (bs'.map (·.1))))
theorem perm_up {α β : Type} {f : α → β} {a b : List β} (h : a.Perm b) : ∀ ps : List α, ps.map f = b → ∃ qs : List α, qs.Perm ps ∧ qs.map f = a := by
  induction h with
  | nil => intro ps e; exact ⟨[], by rw [List.map_eq_nil_iff.mp e], rfl⟩
  | cons x _ ih =>
    intro ps e
    match ps, e with
    | p :: r, e =>
      obtain ⟨e1, e2⟩ := List.cons.inj (show f p :: r.map f = _ from e)
      obtain ⟨qs, h1, h2⟩ := ih r e2
      exact ⟨p :: qs, h1.cons p, by rw [List.map_cons, e1, h2]⟩
  | swap x y l =>
    intro ps e
    match ps, e with
    | p1 :: p2 :: r, e =>
      obtain ⟨e1, e⟩ := List.cons.inj (show f p1 :: f p2 :: r.map f = _ from e)
      obtain ⟨e2, e3⟩ := List.cons.inj e
      exact ⟨p2 :: p1 :: r, List.Perm.swap p1 p2 r, by rw [List.map_cons, List.map_cons, e1, e2, e3]⟩
  | trans _ _ ih1 ih2 =>
    intro ps e
    obtain ⟨q2, h1, h2⟩ := ih2 ps e
    obtain ⟨q1, h3, h4⟩ := ih1 q2 h2
    exact ⟨q1, h3.trans h1, h4⟩
theorem vals_refs : ∀ (bs : List (Addr × KnA.Dat)), Vals ((bs.map fun b => (V.ref b.1, b.2)).map (·.1)) (bs.map fun b => Value.ref b.1)
  | [] => .nil
  | b :: bs => .cons rfl (vals_refs bs)
theorem cr_sortedSN (hc : X.calm = true) (hu : X.A.units + 65 < cLine) : CallR X (.builtin "sorted") (rSortedSN X.prog X.w) := by
  intro pins s σ H vs us Q I r h
  obtain ⟨a, bs, rfl, ⟨M, ha, eM⟩, hb, q⟩ := h
  rw [Vals.ref1 r]
  obtain ⟨es, ep, t, ⟨o, ho, hx, hd⟩, hr, ht, _, hl, hm, hf⟩ := (show IsN X.prog X.w a M s.heap from (I.hok a _ ha).1)
  have n := len_of hr
  have fits : t.fits es.size = true := by
    have z1 : t.place.size = M.length := ht.sz.trans (List.length_map _)
    have z2 : t.place.size = es.size := z1.trans n.symm
    exact fits_of ht.dm z2 (by omega)
  refine Calls.call_function_entry kind_sorted plain_sorted entry_sorted (args_sorted1 _) ?_
  unfold Builtin.«sorted»
  refine wpAny_bind (m := checkCount "sorted" 1 1 _) (wpAny_pure (wpAny_bind (collect_set (A := X.A.in1) (I.ok.hd hc) ⟨o, ho, hx.1, hd⟩ fits (by rw [n]; exact Nat.lt_of_lt_of_le hf (by decide)) ht.ris hl fun s1 vs k1 hz g1 o1 pv => ?_)))
  have pv' : vs.Perm (bs.map fun b => Value.ref b.1) := by
    rw [hr] at pv
    unfold ents at pv
    rw [List.map_map] at pv
    have e : M.map ((fun x : Int × Value => x.2) ∘ fun p : NRow => ((nestedKind X.prog X.w).hash p.2, Value.ref p.1)) = bs.map fun b => Value.ref b.1 := by
      have z := congrArg (List.map Value.ref) eM
      rw [List.map_map, List.map_map] at z
      exact z
    rwa [e] at pv
  obtain ⟨bq, pq, rfl⟩ := perm_up pv' bs rfl
  have hsz : (bq.map fun b => Value.ref b.1).length ≤ sizeLine := by
    have l1 := congrArg List.length eM
    rw [List.length_map, List.length_map] at l1
    rw [List.length_map, pq.length_eq, ← l1, sizeLine_eq]
    omega
  have rows1 : ∀ (h' : Heap), (∀ b o, s.heap.get? b = some o → h'.get? b = some o) → PySem.W.EachIs (fun v (b : V × KnA.Dat) => RelV b.1 v) (bq.map fun b => Value.ref b.1) (bq.map fun b => (V.ref b.1, b.2)) ∧ PySem.W.EachIs (fun v (b : V × KnA.Dat) => Reads h' v (KnA.rowD b.2) []) (bq.map fun b => Value.ref b.1) (bq.map fun b => (V.ref b.1, b.2)) := fun h' k => by
    obtain ⟨x, y⟩ := KnA.each_rowsB I.hok (vals_refs bq) fun b hb' => by
      obtain ⟨c, hc', rfl⟩ := List.mem_map.mp hb'
      exact hb c (pq.mem_iff.mp hc')
    exact ⟨x, y.mono fun _ _ r => PyProof.Rows.Reads.keeps (fun b o e => k b o e) r⟩
  refine seqAny (wpAny_newList ?_ hsz)
  have hoL : (s1.heap.push (seqObj "list" (bq.map fun b => Value.ref b.1).toArray 0)).get? s1.heap.objs.size = some (seqObj "list" (bq.map fun b => Value.ref b.1).toArray 0) := Heap.get?_push_size _ rfl
  obtain ⟨r1, r2⟩ := rows1 (s1.heap.push (seqObj "list" (bq.map fun b => Value.ref b.1).toArray 0)) fun b o e => Heap.get?_push_of_some _ (k1 b o e)
  refine seqAny (wpAny_holding (PySem.W.list_sort_data (s := { s1 with heap := s1.heap.push (seqObj "list" (bq.map fun b => Value.ref b.1).toArray 0) }) (enc := fun b : V × KnA.Dat => KnA.rowD b.2) (R := fun v b => RelV b.1 v) hoL r1 (r2.mono fun _ _ r => ⟨[], r, fun z => nomatch z⟩) (PySem.W.AllAlike.of fun b b' => KnA.alike_rows _ _) (PySem.W.Sortable.tuples fun b => ⟨_, _, rfl⟩) (by rw [List.length_map]; rw [List.length_map] at hsz; exact hsz) (fun b _ => ?_) fun out ol oe => ?_))
  · show X.A.in1.units + 1 + (max 0 (max (PyData.depthAll (b.2.2.map PyData.str) + 1) 0) + 1) < cLine
    rw [KnA.depth_texts, Around.in1_units]
    show X.A.units + 1 + 1 + 2 < cLine
    omega
  · have ov := KnA.each_vals oe
    have pm := List.mergeSort_perm (bq.map fun b => (V.ref b.1, b.2)) (PySem.W.dataLe false fun b : V × KnA.Dat => KnA.rowD b.2)
    have so := KnA.sort_pair (bq.map fun b => (V.ref b.1, b.2))
    generalize (bq.map fun b => (V.ref b.1, b.2)).mergeSort (PySem.W.dataLe false fun b : V × KnA.Dat => KnA.rowD b.2) = bs' at ov pm so
    obtain ⟨c, hc'⟩ := sortedHeap_at (vs := bq.map fun b => Value.ref b.1) (out := out.toArray) hoL
    have hn : H s1.heap.objs.size = none := I.hok.fresh hz
    have keep : ∀ b u, s.heap.get? b = some u → (sortedHeap (s1.heap.push (seqObj "list" (bq.map fun b => Value.ref b.1).toArray 0)) s1.heap.objs.size (bq.map fun b => Value.ref b.1) out.toArray).get? b = some u := fun b u e => by
      have q1 := k1 b u e
      have hlt := Heap.lt_size q1
      refine (sortedHeap_old (Nat.ne_of_lt hlt) ?_).trans (Heap.get?_push_of_some _ q1)
      rw [size_push']
      exact Nat.lt_succ_of_lt hlt
    have hlen : (bs'.map (·.1)).length ≤ sizeLine := by
      rw [List.length_map, pm.length_eq, List.length_map]
      rw [List.length_map] at hsz
      exact hsz
    refine (show wpAny _ _ (ret (Value.ref s1.heap.objs.size)) _ _ _ from wpAny_pure ⟨_, rfl, .ref s1.heap.objs.size, upd H s1.heap.objs.size (.lst (bs'.map (·.1))), ?_, rfl, q bs' _ (pm.trans (pq.map _)) so hn⟩)
    refine I.call' (ch := []) o1 (Un.laid keep hz hn) (I.hok.laid keep hz ⟨hlen, out, c, ov, hc'⟩) ?_ (fun _ z => nomatch z)
    have g2 := I.bare
    rw [← g1] at g2
    exact g2
end
end KnH

set_option Elab.async false
set_option linter.all false
set_option maxRecDepth 100000
set_option maxHeartbeats 4000000
/-! set(a tuple of nested tuples). -/
namespace KnH
open PySem PySem.Spec PyProof.Rows L2
open PySem renaming wpAny_bind → seqAny
open KnN (NIs NAll nis_at)
section
variable {P : Program} {w : World} {A : Around} {E : Value → Shared → Prop} {s : Shared}
set_option maxHeartbeats 3200000 in
theorem set_call_tuple {l : Addr} {items : List Value} {ks : List NRow} {Q : Value → Shared → Prop} (hh : A.handled = none) (hu : A.units + 25 < cLine) (hl : s.heap.IsTuple l items.toArray) (hi : items = ks.map fun p => Value.ref p.1) (few : ∀ L : List NestedKey, L.Nodup → (∀ k ∈ L, k ∈ ks.map (·.2)) → L.length + 1 < 64) (hkp : ∀ p ∈ ks, (nestedKind P w).is s.heap p.2 p.1)
    (h : ∀ (h' : Heap) (tk : Nat), Held P w h' s.heap.objs.size ks ks.length → (∀ b o, b < s.heap.objs.size → s.heap.get? b = some o → h'.get? b = some o) → Q (.ref s.heap.objs.size) { s with heap := h', toks := tk }) :
    wpAny (model P w) A (call (.type "set") [.ref l]) Q E s := by
  have ⟨c, tl, hmro⟩ := PySem.F.called_set.mro
  have made := PySem.F.called_set.made
  have sub := PySem.F.called_set.sub
  refine wpAny_call (codeAny_of_tree (show wpAny _ _ (callAny (.type "set") _) _ _ _ from wpAny_pure ⟨Code.quiet_builtin _ (by decide +kernel), codeAny_builtin PySem.F.entry_type_call ?_⟩))
  rw [Around.under_plain (weight_type_call_type "set" [.ref l] []) rfl]
  have u1 := PySem.F.called_set.notType
  have u2 := PySem.F.called_set.canCreate
  have u3 := PySem.F.typeCall_set_1 (.ref l)
  repeat (any_goals (first | assumption | wp_step))
  have R0 : IsN P w s.heap.objs.size [] (s.heap.push { cls := .type "set", dict := none, data := .set #[] 0 (.fresh 0 0 (!w.params.followText "set-order")) }) := freshN (P := P) (w := w) s.heap
  have made0 := KnS.new_set (P := P) (w := w) (A := A.in1) (s := s) (.ref l) (E := E) (Q₁ := fun obj s₁ => obj = .ref s.heap.objs.size ∧ s₁ = { s with heap := s.heap.push { cls := .type "set", dict := none, data := .set #[] 0 (.fresh 0 0 (!w.params.followText "set-order")) } }) ⟨rfl, rfl⟩
  generalize (!w.params.followText "set-order") = led at made0 R0
  refine codeAny_mono made0 fun r s₁ hr => ?_
  match r, hr with
  | .error e, hr => exact hr
  | .ok .next, hr => exact hr.elim
  | .ok .brk, hr => exact hr.elim
  | .ok .cont, hr => exact hr.elim
  | .ok (.ret obj), hr =>
    obtain ⟨rfl, rfl⟩ := hr
    have hS : (s.heap.push { cls := .type "set", dict := none, data := .set #[] 0 (.fresh 0 0 led) }).get? s.heap.objs.size = some { cls := .type "set", dict := none, data := .set #[] 0 (.fresh 0 0 led) } := Heap.get?_push_size _ rfl
    have hT : Shared.TypeIs { s with heap := s.heap.push { cls := .type "set", dict := none, data := .set #[] 0 (.fresh 0 0 led) } } (.ref s.heap.objs.size) "set" := ⟨_, hS, rfl⟩
    have i1 := PySem.F.called_set.init.lookup
    have i2 := PySem.F.called_set.init.bind (.ref s.heap.objs.size)
    repeat (any_goals (first | assumption | wp_step))
    refine codeAny_mono (codeAny_call_builtin (R := wants (fun r s₂ => r = .none ∧ ∃ h' tk, s₂ = { s with heap := h', toks := tk } ∧ Held P w h' s.heap.objs.size ks ks.length ∧ ∀ b o, b < s.heap.objs.size → s.heap.get? b = some o → h'.get? b = some o) E)
      PySem.F.called_set.init.plain PySem.F.entry_set_init (check_set_init_1 hT ?_)) fun r₂ s₂ hr₂ => ?_
    · have hlS : l < s.heap.objs.size := let ⟨o, e, _⟩ := hl; Heap.lt_size e
      have hl1 : (s.heap.push { cls := .type "set", dict := none, data := .set #[] 0 (.fresh 0 0 led) }).IsTuple l items.toArray := hl.at fun o e => Heap.get?_push_of_some _ e
      obtain ⟨⟨ocls, odict, odata, oslots⟩, hol, hcl, nl, hdl⟩ := hl1
      simp only at hcl hdl
      subst hcl hdl
      have n1 := PySem.F.sub_tuple_set
      have n2 := PySem.F.sub_tuple_frozenset
      have n3 : (Value.type "tuple" == Value.type "dict") = false := by decide
      unfold Builtin.«set.__init__» noKeywords Builtin.Frozenset.updateFrom
      generalize hPI : pyIter = PI
      wp_walk
      subst hPI
      have hl2 : (s.heap.push { cls := .type "set", dict := none, data := .set #[] 0 (.fresh 0 0 led) }).IsTuple l items.toArray := ⟨_, hol, rfl, nl, rfl⟩
      refine wpAny_pyIter_tuple hl2 ?_
      refine wpAny_bind (wpAny_runValue ?_)
      have zz : (s.heap.push { cls := .type "set", dict := none, data := .set #[] 0 (.fresh 0 0 led) }).objs.size = s.heap.objs.size + 1 := Heap.size_push ..
      have hneI : l ≠ (s.heap.push { cls := .type "set", dict := none, data := .set #[] 0 (.fresh 0 0 led) }).objs.size := by rw [zz]; exact Nat.ne_of_lt (Nat.lt_succ_of_lt hlS)
      have len : ks.length = items.toArray.size := by rw [hi, List.size_toArray, List.length_map]
      have W := (Walks.tuple (prog := P) (w := w) (A := A.in1.in1.in1) (by simpa using hh) (s.heap.push { cls := .type "set", dict := none, data := .set #[] 0 (.fresh 0 0 led) }).objs.size l hneI items.toArray).toS
      rw [← len] at W
      have u3' : A.in1.in1.units + 20 < cLine := by
        rw [Around.in1_units, Around.in1_units]
        omega
      refine loopN u3' W (fun z => ?_) (fun i v k hv hki => ?_) few (ks.length - 0) 0 _ rfl (Nat.zero_le _) ⟨⟨_, Heap.get?_push_size _ rfl, rfl, rfl⟩, hl2.at fun o e => Heap.get?_push_of_some _ e⟩ ?_ (fun h2 hq p hp => ?_) fun s' hm hS' => ?_
      · rcases List.mem_cons.mp z with z | z
        · rw [zz] at z
          exact Nat.ne_of_lt (Nat.lt_succ_self _) z
        · exact Nat.ne_of_lt hlS (List.mem_singleton.mp z).symm
      · rw [List.getElem?_toArray, hi, List.getElem?_map, hki] at hv
        exact (Option.some.inj hv).symm
      · exact ⟨[], R0.keep fun o e => Heap.get?_push_of_some _ e, (fun p hp => nomatch hp), fun p hp => nomatch hp⟩
      · refine flat_nested.stays.stays (fun b o vs n e d => hq b o (fun z => ?_) (Heap.get?_push_of_some _ (Heap.get?_push_of_some _ e))) (hkp p hp)
        have hb := Heap.lt_size e
        rcases List.mem_cons.mp z with z | z
        · exact Nat.ne_of_lt hb z
        · have e1 := List.mem_singleton.mp z
          rw [zz] at e1
          exact Nat.ne_of_lt (Nat.lt_succ_of_lt hb) e1
      · obtain ⟨h', g', d', tk', os'⟩ := s'
        obtain rfl : g' = s.gens := hm.gens
        obtain rfl : d' = s.drawn := hm.drawn
        obtain rfl : os' = s.os := hm.os
        refine wpAny_pure (show wpAny _ _ (ret Value.none) _ _ _ from wpAny_pure ⟨rfl, h', tk', rfl, hS', fun b o hb e => ?_⟩)
        refine hm.heap b o (fun z => ?_) (Heap.get?_push_of_some _ (Heap.get?_push_of_some _ e))
        rcases List.mem_cons.mp z with z | z
        · exact Nat.ne_of_lt hb z
        · have e1 := List.mem_singleton.mp z
          rw [zz] at e1
          exact Nat.ne_of_lt (Nat.lt_succ_of_lt hb) e1
    · match r₂, hr₂ with
      | .error e, hr₂ => exact hr₂
      | .ok .next, hr₂ => exact hr₂.elim
      | .ok .brk, hr₂ => exact hr₂.elim
      | .ok .cont, hr₂ => exact hr₂.elim
      | .ok (.ret r), hr₂ =>
        obtain ⟨rfl, h', tk, rfl, hS', hk'⟩ := hr₂
        repeat (any_goals (first | assumption | wp_step))
        exact h _ _ hS' hk'
end
section
variable {X : Cx}
/-- set(xs), xs a tuple of nested tuples -/
def rSetOfNT (K : PySem.W.Frag) (P : Program) (w : World) : List V → Hp → VK → Prop := fun vs H Q => ∃ (a : Addr) (ks : List NRow), vs = [.ref a] ∧ SqT K H a (ks.map fun p => V.ref p.1) ∧ (∀ p ∈ ks, NIs H p.2 (.ref p.1) ∧ p.2.depth ≤ 8) ∧ (∀ L : List NestedKey, L.Nodup → (∀ k ∈ L, k ∈ ks.map (·.2)) → L.length + 1 < 64) ∧
  ∀ S M, H S = none → NsAt P w (upd H S (SetFN P w S M)) S M → (∀ p ∈ M, p ∈ ks) → (∀ p ∈ ks, p.2 ∈ M.map (·.2)) → (M.map (·.2)).Nodup → Q (.ref S) (upd H S (SetFN P w S M))
theorem cr_setOfNT (hc : X.calm = true) (hu : X.A.units + 65 < cLine) : CallR X (.type "set") (rSetOfNT X.K X.prog X.w) := by
  intro pins s σ H vs us Q I r h
  obtain ⟨a, ks, rfl, hs, hk, few, q⟩ := h
  rw [Vals.ref1 r]
  obtain ⟨its, rv, pl, hz⟩ := I.tuple hs
  refine set_call_tuple (I.ok.hd hc) (by omega) pl (refsN rv) few (fun p hp => key_is I.hok (hk p hp).1 (hk p hp).2) fun h' tk R k => ?_
  obtain ⟨M, RM, in1, all1⟩ := R.ex
  rw [List.take_length] at in1 all1
  have hn : H s.heap.objs.size = none := I.hok.fresh (Nat.le_refl _)
  have J : Inv X pins σ (upd H s.heap.objs.size (SetFN X.prog X.w s.heap.objs.size M)) { s with heap := h', toks := tk } :=
    I.laid (t' := tk) (fun b o e => k b o (Heap.lt_size e) e) (Nat.le_refl _) (partN_ok RM)
  have once : (M.map (·.2)).Nodup := let ⟨_, _, _, z⟩ := RM; z.once
  exact ⟨.ref _, _, J, rfl, q _ M hn ⟨upd_same, fun p hp => ⟨nis_upd hn (hk p (in1 p hp)).1, (hk p (in1 p hp)).2⟩⟩ in1 all1 once⟩
end
end KnH

set_option Elab.async false
set_option linter.all false
set_option maxRecDepth 100000
set_option maxHeartbeats 2000000
/-! d.get(k, x) of dicts whose keys are nested tuples; row < row. -/
namespace KnN
open PySem PySem.Spec PyProof.Rows L2
section
variable {X : Cx} {pins : List (Addr × Obj)} {σ : L2.St} {H : Hp} {s : Shared} {d : Addr} {kvs : List (NKey × V)} {A : Around} {E : Value → Shared → Prop}
theorem n_get2 {k : NKey} {b : Addr} {z : V} {u : Value} {Q : Value → Shared → Prop} (hu : A.units + 65 < cLine) (I : Inv X pins σ H s) (D : DNAt X.prog X.w H d kvs) (x : NIs H k (.ref b)) (dp : k.depth ≤ 8) (rz : RelV z u) (h : ∀ w' s', Inv X pins σ H s' → RelV ((valV kvs k).getD z) w' → Q w' s') :
    wpAny (model X.prog X.w) A (call (.builtin "dict.get") [.ref d, .ref b, u]) Q E s := by
  obtain ⟨es, xs, e, ek, hk, hp, dd⟩ := dn_of I.hok D
  have r := ent_val hp k
  rw [ek] at r
  obtain ⟨_, _, _, hs, _⟩ := D
  refine getOr_keyed (knd := nestedKind X.prog X.w) (show A.in1.units + 8 < cLine by have : A.in1.units ≤ A.units + 1 := Nat.le_refl _; omega) (key_is I.hok x dp) hs ⟨xs, dd, rfl⟩ ?_
  rw [valueAt_pairsH]
  refine h _ _ (I.tok _) ?_
  generalize valV kvs k = o1 at r ⊢
  generalize (atKey xs k).map (·.2) = o2 at r ⊢
  cases o1 with
  | none => cases o2 with
    | none => exact rz
    | some w => cases r
  | some v => cases o2 with
    | none => cases r
    | some w => exact r
def tNGet2 (P : Program) (w : World) (td ty tx : TE) : TE := fun σ H Q => td σ H fun x H1 => ∃ a kvs, x = .ref a ∧ DNAt P w H1 a kvs ∧ ty σ H1 fun y H2 => tx σ H2 fun z H3 => ∃ kvs' k b, y = .ref b ∧ DNAt P w H3 a kvs' ∧ NIs H3 k (.ref b) ∧ k.depth ≤ 8 ∧ Q ((valV kvs' k).getD z) H3
end
section
variable {X : Cx} {o e f : Expr} {apos cpos : Pos} {td ty tx : TE}
theorem pe_nget2 (hu : X.A.units + 65 < cLine) (ho : PE X o td) (he : PE X e ty) (hf : PE X f tx) (m : M2 X o "get" apos e f cpos) : PE X (.Call (.Attribute o "get" apos) [e, f] [] cpos) (tNGet2 X.prog X.w td ty tx) := by
  refine ⟨fun pins s σ H Q I h => ?_⟩
  refine wpAny_Call_method m.base m.few m.line PySem.F.plainAttrs_dict PySem.F.slot_dict_get PySem.F.type_dict_get (thn (ho.run pins s σ H _ I h) fun u s1 ⟨x, H1, I1, rx, a, kvs, ex, d, q1⟩ => ?_)
  subst ex
  obtain rfl : u = Value.ref a := rx
  obtain ⟨_, _, _, _, _, _, ⟨ob, _, _, g1, g2, _⟩⟩ := dn_of I1.hok d
  refine ⟨nd_type I1 d, fun a' ea => by cases ea; exact ⟨ob, g1, g2.2.1⟩, ?_⟩
  rw [m.trees]
  refine Calls.callWith_builtin rfl (Calls.evalArgs_plain (Calls.spliced_cons (thn (he.run pins s1 σ H1 _ I1 q1) fun iv s2 ⟨y, H2, I2, ry, q2⟩ =>
    Calls.spliced_cons (thn (hf.run pins s2 σ H2 _ I2 q2) fun fv s3 ⟨z, H3, I3, rz, kvs', k, b, ey, D, n, dp, q3⟩ => Calls.spliced_nil ?_))))
  subst ey
  obtain rfl : iv = Value.ref b := ry
  exact n_get2 hu I3 D n dp rz fun w' s4 I4 rw' => ⟨_, H3, I4, rw', q3⟩
end
end KnN
namespace KnA
open PySem PySem.Spec PyProof.Rows L2
/-- row < row -/
def rLtR : R2 := fun x y H Q => ∃ p q : Dat, RowAt H x p.1 p.2 ∧ RowAt H y q.1 q.2 ∧ Q (.bl (!rowLe q p)) H
theorem op_ltR {X : Cx} (hu : X.A.units + 65 < cLine) : OpR X (compareOp .Lt) rLtR := by
  intro pins s σ H x y v u Q I rx ry h
  obtain ⟨p, q, hp, hq, k⟩ := h
  have r1 := reads_row I.hok rx hp
  have r2 := reads_row I.hok ry hq
  refine PySem.W.rcLt_alike (rowD p) (rowD q) _ s v u [] [] r1 r2 (alike_rows _ _) (fun z => nomatch z) ?_ _ _ _ _ ⟨.bl _, H, I, rfl, ?_⟩
  · show X.A.units + min (max 0 (max (PyData.depthAll (p.2.map PyData.str) + 1) 0) + 1) (max 0 (max (PyData.depthAll (q.2.map PyData.str) + 1) 0) + 1) < cLine
    rw [depth_texts, depth_texts]
    show X.A.units + min 2 2 < cLine
    omega
  · have e : PySem.W.dataLt (rowD p) (rowD q) = !rowLe q p := by
      rw [rowLe_eq, Bool.not_not]; rfl
    rw [e]; exact k
end KnA

set_option Elab.async false
set_option linter.all false
set_option maxRecDepth 100000
set_option maxHeartbeats 4000000
/-! A law's def at its one caller (nothing is being shown there): repr of data. -/
namespace KnQ
open PySem PySem.Spec PyProof.Rows L2
/-- what a def promises to one caller -/
def At (P : Program) (w : World) (K : PySem.W.Frag) (mg : Str → Option Value) (base : Heap) (A : Around) (f : Addr) (fd : FuncData) (ps : List Str) (sp : Sp) : Prop :=
  ∀ (outer : List Env) (s : Shared) (H : Hp) (args : Args) (us : List Value) (vs : List V) (Q : VK) (E : XK), Env0 P w K mg base A outer s H → BindsTo s fd args (ps.zip us) → Vals vs us → sp vs H Q E →
    codeAny (model P w) A (.call (.ref f) args) (CR CX0 outer P w H s Q E) s
section
variable {P : Program} {w : World} {K : PySem.W.Frag} {mg : Str → Option Value} {base : Heap} {A : Around}
theorem at_of {x qual : Str} {st : Stmt} {f : Addr} {fd : FuncData} {N ps : List Str} {k : Nat} {sp : Sp} (F : Fun K x qual st f fd) (S : FnScope N ps (defScope st)) (len : ∀ vs H Q E, sp vs H Q E → vs.length = ps.length) (hr : Room (k + 1) A)
    (hbody : ∀ (cdv : Value) (outer : List Env) (s : Shared) (H : Hp) (vs : List V) (Q : VK) (E : XK), Room k (A.deeper (envOfC qual (defScope st) s.heap.objs.size f cdv)) → sp vs H Q E →
      ∃ t, PSs (cxOf CX0 P w K mg base N qual (defScope st) f cdv A outer s H E).nox (defBody st) t ∧ t { nx := fun _ H' => Q .non H', rt := Q } (start N vs) H) : At P w K mg base A f fd ps sp := by
  obtain ⟨oc, od, kV, doc, pm, an, cdv, ct, osl, rfl, lk, hcd⟩ := F.ex
  intro outer s H args us vs Q E e0 hb r h
  have KX : K.In s.heap := e0.mod.kin.keeps fun b o e => (e0.bs b o e).1
  have lim : s.heap.NoLimit := e0.mod.nolimit.keeps fun b o e => (e0.bs b o e).1
  refine codeAny_call_function hr.depth (KX _ _ lk) rfl S.co S.gen rfl (PySem.W.codeRec_of KX hcd) (hb _ _ _ _ ?_)
  refine wpAny_newFunctionEnv_cells S.kind (fun ⟨n, v⟩ hy => ?_) fun env he s1 X1 => ?_
  · exact (S.par n (List.of_mem_zip hy).1).imp id fun q => ⟨q, PySem.W.cellsFrom_some _ _ _ (.inl q)⟩
  subst he
  refine ⟨lim.keeps X1.toInCall.keep, codeAny_func ?_⟩
  obtain ⟨t, ht, q⟩ := hbody cdv outer s H vs Q E (hr.deeper _) h
  refine wpAny_mono (ht.nox.run [] s1 (start N vs) H _ (inv_start S hr.hd e0 (len _ _ _ _ h) r X1) q) (fun fl s' z => ?_) fun _ _ z => z
  cases fl with
  | ret u => obtain ⟨v, σ', H', J, rv, q⟩ := z; exact ⟨v, H', J.os, J.bare, J.base, J.hok, rv, q⟩
  | next => obtain ⟨σ', H', J, q⟩ := z; exact ⟨.non, H', J.os, J.bare, J.base, J.hok, rfl, q⟩
  | brk => obtain ⟨_, _, _, q⟩ := z; exact q.elim
  | cont => obtain ⟨_, _, _, q⟩ := z; exact q.elim
end
/-- the law's call at the top -/
theorem law_at {P : Program} {w : World} {K : PySem.W.Frag} {mg mb : Str → Option Value} {fa a : Addr} {fd : FuncData} {x : Str} {sp : Sp} {t : Shared} {vs : List Value} {ns : List Int}
    (KX : K.In t.heap) (hns : t.heap.Ns mainGlobals mg) (hb : t.heap.Ns builtinsNs mb) (hbb : ∀ x : Str, x ≠ "__name__" → mb x = bootBuiltins x) (hlim : t.heap.NoLimit) (hg : t.gens = #[])
    (ha : t.heap.get? a = some { cls := .type "list", data := .seq vs.toArray }) (hi : IntsAre vs ns) (hl : ns.length ≤ sizeLine)
    (F : ∀ base : Heap, K.In base → base.Ns mainGlobals mg → At P w K mg base callerA fa fd [x] sp) (hbind : ∀ (s : Shared) (u : Value), BindsTo s fd ⟨[u], []⟩ [(x, u)])
    (hsp : ∀ H : Hp, SqL K H a (ns.map V.int) → sp [.ref a] H (fun v _ => v = .bl true) fun _ _ _ => False) :
    codeAny (model P w) callerA (.call (.ref fa) ⟨[.ref a], []⟩) (fun r s' => r = .ok (.ret (.bool true)) ∧ OldK t.heap s'.heap ∧ s'.os = t.os ∧ AllBare s'.gens) t := by
  have rv := vals_ints hi
  have lv := hi.length
  let ob : Obj := { cls := .type "list", data := .seq vs.toArray }
  let H : Hp := fun b => if b = a ∧ K.lookup a = none then some (.frz ob (.lst (ns.map V.int))) else none
  have hH : ∀ b u, H b = some u → b = a ∧ K.lookup a = none ∧ u = .frz ob (.lst (ns.map V.int)) := fun b u e => by
    by_cases c : b = a ∧ K.lookup a = none
    · exact ⟨c.1, c.2, (Option.some.inj ((if_pos c).symm.trans e)).symm⟩
    · exact absurd ((if_neg c).symm.trans e) (by simp)
  have off : ∀ {b : Addr} {o : Obj}, t.heap.get? b = some o → H b = none → (hidT t.heap H).get? b = some o := fun e n => hidT_get e n
  have free : ∀ {b : Addr}, ¬ (b = a ∧ K.lookup a = none) → H b = none := fun c => if_neg c
  have nsB : ∀ {b : Addr} {m : Str → Option Value}, t.heap.Ns b m → (hidT t.heap H).Ns b m := fun {b m} ⟨o, es, ep, e, d, r⟩ => ⟨o, es, ep, off e (free fun ⟨z, _⟩ => by
    rw [z, ha] at e
    cases e
    exact absurd (show Data.seq vs.toArray _ = Data.dict es ep from d) (fun z => by cases z)), d, r⟩
  have inB : K.In (hidT t.heap H) := fun b o e => off (KX b o e) (free fun ⟨z, k⟩ => by rw [z, k] at e; cases e)
  have hok : HOk P w H t.heap := fun b u e => by
    obtain ⟨rfl, _, rfl⟩ := hH b u e
    exact ⟨ha, by rw [List.length_map]; exact hl, vs, _, rv, ha⟩
  have sq : SqL K H a (ns.map V.int) := by
    cases hk : K.lookup a with
    | none => exact .inl (.inr ⟨ob, if_pos ⟨rfl, hk⟩⟩)
    | some o =>
      have e := KX a o hk
      rw [ha] at e
      cases e
      exact .inr ⟨_, vs.toArray, _, hk, rfl, rfl, rfl, by rw [List.size_toArray, lv]; exact hl, by simpa using rv⟩
  have e0 : Env0 P w K mg (hidT t.heap H) callerA [] t H :=
    ⟨rfl, ⟨inB, nsB hns, ⟨mb, nsB hb, hbb⟩, let ⟨mc, h1, h2⟩ := hlim; ⟨mc, nsB h1, h2⟩⟩, fun b o e => of_hidT e, Nat.le_of_eq (hidT_size _ _), trivial, fun b hb => absurd (show b ∈ ([] : List Addr) from hb) (by simp), hok, .of_eq hg⟩
  refine codeAny_mono (F _ inB (nsB hns) [] t H ⟨[.ref a], []⟩ [.ref a] [.ref a] _ _ e0 (hbind t (.ref a)) (.cons rfl .nil) (hsp H sq)) fun r s' h => ?_
  match r, h with
  | .ok (.ret u), h =>
    obtain ⟨v, H', os, bare, un, hok', r', q⟩ := h
    obtain rfl : v = .bl true := q
    obtain rfl : u = Value.bool true := r'
    refine ⟨rfl, OldK.of_keep fun b o e => ?_, os, bare⟩
    cases c : H b with
    | none => exact un.keep b o e c (fun z => absurd (show b ∈ ([] : List Addr) from z) (by simp)) (by simp)
    | some u =>
      obtain ⟨_, _, rfl⟩ := hH b u c
      have e1 := (hok b _ c).1
      rw [e] at e1
      cases e1
      exact (hok' b _ (un.frzs b _ _ c)).1
  | .ok .next, h => exact h.elim
  | .ok .brk, h => exact h.elim
  | .ok .cont, h => exact h.elim
  | .error e, h => exact h.elim
/-- the head: the law's def at its caller -/
theorem walk_at {l : PySem.W.OpenLaw} {n : Nat} {q : Program} {loose : List Str} {XP : (Str → Option Value) → Heap → Prop} {YP : World → Heap → Prop} {d : DefRec} {K : Params → PySem.W.Frag} {sp : World → Sp} {x : Str}
    (hn : l.most = some n) (hn2 : n ≤ sizeLine) (hdf : d.params.defaults = []) (hY : ∀ (w : World) (h : Heap), YP w h → (K w.params).In h)
    (F : ∀ (w : World) (mg : Str → Option Value) (fa : Addr) (h : Heap), (K w.params).In h → h.Ns mainGlobals mg → mg d.name = some (.ref fa) →
      ∃ fd : FuncData, (∀ (s : Shared) (u : Value), BindsTo s fd ⟨[u], []⟩ [(x, u)]) ∧ ∀ base : Heap, (K w.params).In base → base.Ns mainGlobals mg → At l.prog w (K w.params) mg base callerA fa fd [x] (sp w))
    (hsp : ∀ (w : World) (H : Hp) (a : Addr) (ns : List Int), ns.length ≤ n → SqL (K w.params) H a (ns.map V.int) → sp w [.ref a] H (fun v _ => v = .bl true) fun _ _ _ => False) :
    PySem.W.WalkO q loose XP YP l.row.toRowW d [] (fun f vs => PySem.call f vs) := by
  refine _root_.Att.attach_call hn hdf fun w s₀ t mg mb fa o pm cd doc a vs ns G Y ho hd hcd hmg hobj hints hlen hg => ?_
  obtain ⟨fd, hb, hF⟩ := F w mg fa _ (hY w _ Y) G.T.g hmg
  exact law_at (hY w _ Y) G.T.g G.T.b G.T.builtins G.T.nolimit hg hobj hints (Nat.le_trans hlen hn2) hF hb fun H hS => hsp w H a ns hlen hS
/-- repr of a list or tuple of data, where nothing is being shown -/
def rReprD (K : PySem.W.Frag) : List V → Hp → VK → Prop := fun xs H Q => ∃ (a : Addr) (d : PyData), xs = [.ref a] ∧ Dp K H (.ref a) d ∧ d.showable = true ∧ d.hasDict = false ∧ d.depth ≤ 60 ∧ d.shown.length ≤ sizeLine ∧ Q (.str d.shown) H
theorem cr_reprD {X : Cx} (hg : X.A.guards = some []) (hu : X.A.units + 65 < cLine) : CallR X (.builtin "repr") (rReprD X.K) := by
  intro pins s σ H vs us Q I r h
  obtain ⟨a, d, rfl, hd, sh, nd, dp, sz, q⟩ := h
  rw [Vals.ref1 r]
  obtain ⟨as, r1⟩ := Dp.reads I d (.ref a) (.ref a) hd rfl
  refine PySem.repr_of_reads' r1 sh (PyData.noDict_hsm nd) hg (by omega) (fun _ _ e => e) (fun h' u tk hk => ⟨.str d.shown, H, I.kept hk, ⟨u, rfl⟩, q⟩) sz
end KnQ

set_option Elab.async false
set_option linter.all false
set_option maxRecDepth 100000
set_option maxHeartbeats 4000000
/-! An int or a bool on the left of + - == with an int. -/
namespace KnB
open PySem PySem.Spec PyProof.Rows L2
def nOf : Int ⊕ Bool → Int
  | .inl n => n
  | .inr b => if b = true then 1 else 0
def vOf : Int ⊕ Bool → V
  | .inl n => .int n
  | .inr b => .bl b
/-- a number or a flag, and a number -/
def rNB (f : Int → Int → V) : R2 := fun x y H Q => ∃ (n : Int ⊕ Bool) (j : Int), x = vOf n ∧ y = .int j ∧ Q (f (nOf n) j) H
section
variable {X : Cx}
theorem op_addNB : OpR X (binaryOp .Add) (rNB fun i j => .int (i + j)) := by
  intro pins s σ H x y v u Q I rx ry h
  obtain ⟨n, j, rfl, rfl, q⟩ := h
  obtain ⟨t', rfl⟩ := ry
  cases n with
  | inl i => obtain ⟨t, rfl⟩ := rx; exact add_int ⟨.int (i + j), H, I.tok _, ⟨_, rfl⟩, q⟩
  | inr b => cases rx; exact PySem.IntBool.add_bool_int ⟨.int ((if b = true then 1 else 0) + j), H, I.tok _, ⟨_, rfl⟩, q⟩
theorem op_subNB : OpR X (binaryOp .Sub) (rNB fun i j => .int (i - j)) := by
  intro pins s σ H x y v u Q I rx ry h
  obtain ⟨n, j, rfl, rfl, q⟩ := h
  obtain ⟨t', rfl⟩ := ry
  cases n with
  | inl i => obtain ⟨t, rfl⟩ := rx; exact sub_int ⟨.int (i - j), H, I.tok _, ⟨_, rfl⟩, q⟩
  | inr b => cases rx; exact PySem.IntBool.sub_bool_int ⟨.int ((if b = true then 1 else 0) - j), H, I.tok _, ⟨_, rfl⟩, q⟩
theorem op_eqNB : OpR X (compareOp .Eq) (rNB fun i j => .bl (i == j)) := by
  intro pins s σ H x y v u Q I rx ry h
  obtain ⟨n, j, rfl, rfl, q⟩ := h
  obtain ⟨t', rfl⟩ := ry
  cases n with
  | inl i => obtain ⟨t, rfl⟩ := rx; exact eq_int ⟨.bl (i == j), H, I, rfl, q⟩
  | inr b => cases rx; exact PySem.EqBoolInt.eq_bool_int ⟨.bl ((if b = true then 1 else 0) == j), H, I, rfl, q⟩
end
end KnB

set_option Elab.async false
set_option linter.all false
set_option maxRecDepth 100000
set_option maxHeartbeats 4000000
/-! t[::-1] of a tuple. -/
namespace KnR
open PySem PySem.Spec PyProof.Rows L2 HT
section
variable {prog : Program} {w : World} {A : Around} {E : Value → Shared → Prop} {s : Shared}
theorem adjust_rev (n : Nat) : Builtin.Slice.sliceAdjust none none (-1) (n : Int) = ((n : Int) - 1, -1) := by
  unfold Builtin.Slice.sliceAdjust
  have h1 : ((-1 : Int) < 0) := by omega
  simp only [h1, if_true]
  try rfl
theorem places_rev (n : Nat) : Builtin.Slice.slicePlaces ((n : Int) - 1) (-1) (-1) = n := by
  unfold Builtin.Slice.slicePlaces
  have h1 : ¬ ((-1 : Int) > 0) := by omega
  have h2 : (- -1 : Int) = 1 := rfl
  simp only [h1, if_false, h2, Int.ediv_one]
  split <;> omega
theorem applied_rev {sl : Addr} {vk : Value} {n : Nat} {Q : Int × Int × Nat → Shared → Prop} (hs : s.heap.IsSliceOf sl .none .none vk) (pk : IsPart vk (some (-1)))
    (h : Q ((n : Int) - 1, -1, n) s) : wpAny (model prog w) A (Builtin.Slice.sliceApplied (.ref sl) (pure (n : Int))) Q E s := by
  obtain ⟨os, hos, hcs, hds⟩ := id hs
  unfold Builtin.Slice.sliceApplied Builtin.Slice.sliceFields
  refine wpAny_bind (wpAny_bind (wpAny_field hos hds (x := .none) rfl (wpAny_bind (wpAny_field hos hds (x := .none) rfl (wpAny_bind (wpAny_field hos hds (x := vk) rfl (wpAny_pure ?_)))))))
  refine wpAny_bind (slicePart_ pk ?_)
  show wpAny _ _ (if ((-1 : Int) == 0) = true then _ else _) _ _ s
  rw [if_neg (by decide)]
  refine wpAny_bind (slicePart_ .none (wpAny_bind (slicePart_ .none (wpAny_bind (wpAny_pure ?_)))))
  show wpAny _ _ (match Builtin.Slice.sliceAdjust none none (-1) (n : Int) with | (lo, hi) => pure (lo, (-1 : Int), Builtin.Slice.slicePlaces lo hi (-1))) _ _ s
  rw [adjust_rev n]
  show wpAny _ _ (pure ((n : Int) - 1, (-1 : Int), Builtin.Slice.slicePlaces ((n : Int) - 1) (-1) (-1))) _ _ s
  rw [places_rev]
  exact wpAny_pure h
theorem pick_revT (xs : Array Value) : ((List.range xs.size).filterMap fun (m : Nat) => xs[((xs.size : Int) - 1 + (m : Int) * (-1)).toNat]?).toArray = xs.toList.reverse.toArray := by
  refine congrArg List.toArray ?_
  refine List.ext_getElem? fun i => ?_
  have all : ∀ n, n ≤ xs.size → ((List.range n).filterMap fun (m : Nat) => xs[((xs.size : Int) - 1 + (m : Int) * (-1)).toNat]?) = xs.toList.reverse.take n := by
    intro n
    induction n with
    | zero => intro _; rfl
    | succ n ih =>
      intro h
      have hk : xs.size - 1 - n < xs.size := by omega
      have e : xs[((xs.size : Int) - 1 + (n : Int) * (-1)).toNat]? = some xs[xs.size - 1 - n] := by
        have : ((xs.size : Int) - 1 + (n : Int) * (-1)).toNat = xs.size - 1 - n := by omega
        rw [this, Array.getElem?_eq_getElem hk]
      rw [List.range_succ, List.filterMap_append, ih (by omega), List.take_add_one]
      refine congrArg (xs.toList.reverse.take n ++ ·) ?_
      have g : xs.toList.reverse[n]? = some xs[xs.size - 1 - n] := by
        rw [List.getElem?_reverse (by rw [Array.length_toList]; omega), Array.length_toList, List.getElem?_eq_getElem (by rw [Array.length_toList]; exact hk), Array.getElem_toList]
      rw [g, List.filterMap_cons, List.filterMap_nil, e]; rfl
  rw [all xs.size (Nat.le_refl _), List.take_of_length_le (by rw [List.length_reverse, Array.length_toList]; exact Nat.le_refl _)]
theorem getItem_tuple_rev {t sl : Addr} {items : Array Value} {vk : Value} {Q : Value → Shared → Prop} (ht : IsTup s.heap t items) (hs : s.heap.IsSliceOf sl .none .none vk) (pk : IsPart vk (some (-1)))
    (h : Q (.ref s.heap.objs.size) { s with heap := s.heap.push { cls := .type "tuple", data := .seq items.toList.reverse.toArray } })
    (hsz : items.size ≤ sizeLine) : wpAny (model prog w) A (getItem (.ref t) (.ref sl)) Q E s := by
  have htake : sizeOk (.seq items.toList.reverse.toArray) := by
    show items.toList.reverse.toArray.size ≤ sizeLine
    rw [List.size_toArray, List.length_reverse, Array.length_toList]; exact hsz
  obtain ⟨os, hos, hcs, hds⟩ := id hs
  have hTs : s.TypeIs (.ref sl) "slice" := ⟨os, hos, hcs⟩
  unfold getItem
  try with_reducible refine wpAny_holding ?_
  first | refine wpAny_bind (wpAny_pure ?_) | skip
  refine wpAny_bind (wpAny_sequenceKey ht.typeIs (by decide) ?_)
  refine wpAny_bind (wpAny_callSpecial?_slot (name := Str.ofString "__getitem__") ht.typeIs PyProof.Rows.slot_tuple_getitem
    (wpAny_call_entry PyProof.Rows.slot_tuple_getitem ht.typeIs entry_tuple_getitem ?_ (args_tuple_getitem _ _)))
  show wpAny _ _ (Builtin.Tuple.tupleItemsOf (.ref t) >>= _) _ _ s
  refine wpAny_bind (tupleItemsOf_ ht ?_)
  refine wpAny_bind (wpAny_typeOf hTs ?_)
  rw [if_pos (by decide)]
  refine wpAny_bind (applied_rev hs pk ?_)
  show wpAny _ _ (if (((items.size : Int) - 1) == 0 && (-1 : Int) == 1 && items.size == items.size) = true then _ else _) _ _ s
  rw [if_neg (by simp), pick_revT]
  first
    | exact wpAny_bind (m := Builtin.Tuple.tupleExact _) (wpAny_newObj_type (wpAny_pure ⟨_, rfl, wpAny_pure h⟩) htake)
    | exact wpAny_bind (m := Builtin.Tuple.tupleExact _) (wpAny_newObj_type (wpAny_bind (wpAny_pure (wpAny_pure ⟨_, rfl, wpAny_pure h⟩))) htake)
    | exact wpAny_bind (wpAny_bind (m := Builtin.Tuple.tupleExact _) (wpAny_newObj_type (wpAny_pure (wpAny_pure ⟨_, rfl, wpAny_pure h⟩)) htake))
    | exact wpAny_bind (wpAny_bind (m := Builtin.Tuple.tupleExact _) (wpAny_newObj_type (wpAny_pure ⟨_, rfl, wpAny_pure h⟩) htake))
end
def tRevT (K : PySem.W.Frag) (te : TE) (ts : TO) : TE := fun σ H Q => te σ H fun x H1 => ts σ H1 fun o H2 => ∃ a xs, x = .ref a ∧ o = some (-1) ∧ SqT K H2 a xs ∧ ∀ p, H2 p = none → Q (.ref p) (upd H2 p (.tup xs.reverse))
section
variable {X : Cx} {e st : Expr} {te ts : TE} {p2 pos : Pos}
theorem pe_revT (he : PE X e te) (hs : PE X st ts) : PE X (.Subscript e (.Slice none none (some st) p2) pos) (tRevT X.K te (tPart ts)) := by
  refine ⟨fun pins s σ H Q I h => ?_⟩
  refine Subscript_ (thn (he.run pins s σ H _ I h) fun v s1 ⟨x, H1, I1, r1, q1⟩ => ?_)
  have po : PO X (some st) (tPart ts) := po_some hs
  refine wpAny_Slice ?_
  rw [evalPart_none]
  refine wpAny_pure (wpAny_pure ?_)
  refine thn (po.run pins s1 σ H1 _ I1 q1) fun vk s3 ⟨o, H3, I3, pk, a, xs, ex, eo, hx, q3⟩ => ?_
  subst ex eo
  cases r1
  have I4 : Inv X pins σ H3 { s3 with heap := s3.heap.push { cls := .type "slice", data := .fields #[.none, .none, vk] } } := I3.kept (t' := s3.toks) fun b ob q => Heap.get?_push_of_some _ q
  obtain ⟨its, r, ht, hz⟩ := I4.tuple hx
  have hlen := r.length
  have hg : wpAny (model X.prog X.w) X.A (getItem (.ref a) (.ref s3.heap.objs.size)) (EP X pins σ Q) X.xe { s3 with heap := s3.heap.push { cls := .type "slice", data := .fields #[.none, .none, vk] } } := by
    refine getItem_tuple_rev ht (Heap.IsSliceOf.new ..) pk ?_ (by rw [List.size_toArray]; omega)
    refine ⟨.ref _, _, I4.laid (t' := s3.toks) (o := .tup xs.reverse) (fun b ob q => Heap.get?_push_of_some _ q) (Nat.le_refl _) ?_, rfl, q3 _ (I4.hok.fresh (Nat.le_refl _))⟩
    exact ⟨by rw [List.length_reverse]; exact hz, _, r.reverse, IsTup.new _ _⟩
  show wpAny (model X.prog X.w) X.A (subscriptTail e (.Slice none none (some st) p2) (.ref a) (.ref s3.heap.objs.size)) (EP X pins σ Q) X.xe { s3 with heap := s3.heap.push { cls := .type "slice", data := .fields #[.none, .none, vk] } }
  exact tail_any (ops := [.ref a, .ref s3.heap.objs.size]) ht.typeIs PyProof.Rows.slot_tuple_getitem.lookup hg (by with_unfolding_all rfl)
end
end KnR

set_option Elab.async false
set_option linter.all false
set_option maxRecDepth 100000
set_option maxHeartbeats 4000000
namespace Kn
open PySem PySem.Spec PyProof.Rows L2
open C8 (Cal pe_c pe_gc Mak pe_mk)
def topS (i : Nat) : Stmt := PySem.Challenge.pw_knownlate_k66_is_answers.main.body.getD i (.Pass ⟨0, 0, 0, 0⟩)
abbrev s__law_source : Stmt := topS 33
theorem sc__law_source : FnScope ["_law_script", "_law_cell"] ["_law_script"] (defScope s__law_source) := ⟨rfl, rfl, rfl, by decide +kernel, rfl, by decide +kernel, by decide +kernel⟩
abbrev s__law_draw : Stmt := topS 34
theorem sc__law_draw : FnScope ["_law_source_here", "_law_many", "_law_digit", "_law_cell", "_law_number"] ["_law_source_here", "_law_many"] (defScope s__law_draw) := ⟨rfl, rfl, rfl, by decide +kernel, rfl, by decide +kernel, by decide +kernel⟩
abbrev s__law_name : Stmt := topS 35
theorem sc__law_name : FnScope ["_law_source_here", "_law_size", "_law_letters", "_law_k"] ["_law_source_here"] (defScope s__law_name) := ⟨rfl, rfl, rfl, by decide +kernel, rfl, by decide +kernel, by decide +kernel⟩
abbrev s__law_names : Stmt := topS 36
theorem sc__law_names : FnScope ["_law_source_here", "_law_many", "_law_names_here", "_law_k", "_law_name_here"] ["_law_source_here", "_law_many"] (defScope s__law_names) := ⟨rfl, rfl, rfl, by decide +kernel, rfl, by decide +kernel, by decide +kernel⟩
abbrev s__law_candidates : Stmt := topS 37
theorem sc__law_candidates : FnScope ["_law_source_here", "_law_most", "_law_spread", "_law_names_here", "_law_rows", "_law_turn", "_law_state", "_law_row", "_law_name_here"] ["_law_source_here", "_law_most", "_law_spread"] (defScope s__law_candidates) := ⟨rfl, rfl, rfl, by decide +kernel, rfl, by decide +kernel, by decide +kernel⟩
abbrev s__law_probes : Stmt := topS 38
theorem sc__law_probes : FnScope ["_law_source_here", "_law_most", "_law_rows", "_law_probes_here", "_law_name_here", "_law_states", "_law_row"] ["_law_source_here", "_law_most", "_law_rows"] (defScope s__law_probes) := ⟨rfl, rfl, rfl, by decide +kernel, rfl, by decide +kernel, by decide +kernel⟩
abbrev s_is_row : Stmt := topS 18
theorem sc_is_row : FnScope ["value"] ["value"] (defScope s_is_row) := ⟨rfl, rfl, rfl, by decide +kernel, rfl, by decide +kernel, by decide +kernel⟩
abbrev s_is_whole : Stmt := topS 17
theorem sc_is_whole : FnScope ["value"] ["value"] (defScope s_is_whole) := ⟨rfl, rfl, rfl, by decide +kernel, rfl, by decide +kernel, by decide +kernel⟩
abbrev s_is_state : Stmt := topS 16
theorem sc_is_state : FnScope ["value"] ["value"] (defScope s_is_state) := ⟨rfl, rfl, rfl, by decide +kernel, rfl, by decide +kernel, by decide +kernel⟩
abbrev s_is_name : Stmt := topS 15
theorem sc_is_name : FnScope ["value", "letter"] ["value"] (defScope s_is_name) := ⟨rfl, rfl, rfl, by decide +kernel, rfl, by decide +kernel, by decide +kernel⟩
abbrev s_is_ascending : Stmt := topS 19
theorem sc_is_ascending : FnScope ["values", "one", "other"] ["values"] (defScope s_is_ascending) := ⟨rfl, rfl, rfl, by decide +kernel, rfl, by decide +kernel, by decide +kernel⟩
abbrev s_is_candidate : Stmt := topS 29
theorem sc_is_candidate : FnScope ["value", "state", "faults", "fault"] ["value"] (defScope s_is_candidate) := ⟨rfl, rfl, rfl, by decide +kernel, rfl, by decide +kernel, by decide +kernel⟩
abbrev s_check_rows : Stmt := topS 27
theorem sc_check_rows : FnScope ["rows", "seen", "at", "candidate"] ["rows"] (defScope s_check_rows) := ⟨rfl, rfl, rfl, by decide +kernel, rfl, by decide +kernel, by decide +kernel⟩
abbrev s_check_probes : Stmt := topS 28
theorem sc_check_probes : FnScope ["probes", "name", "states", "state"] ["probes"] (defScope s_check_probes) := ⟨rfl, rfl, rfl, by decide +kernel, rfl, by decide +kernel, by decide +kernel⟩
abbrev s_check_count : Stmt := topS 21
theorem sc_check_count : FnScope ["count", "most"] ["count", "most"] (defScope s_check_count) := ⟨rfl, rfl, rfl, by decide +kernel, rfl, by decide +kernel, by decide +kernel⟩
abbrev s_Asks_set_of : Stmt := inClass (topS 24) 1
theorem sc_Asks_set_of : FnScope ["self", "candidates", "found", "candidate"] ["self", "candidates"] (defScope s_Asks_set_of) := ⟨rfl, rfl, rfl, by decide +kernel, rfl, by decide +kernel, by decide +kernel⟩
abbrev s_Asks_init : Stmt := inClass (topS 24) 0
theorem sc_Asks_init : FnScope ["self", "rows", "probes", "place", "candidate", "name"] ["self", "rows", "probes"] (defScope s_Asks_init) := ⟨rfl, rfl, rfl, by decide +kernel, rfl, by decide +kernel, by decide +kernel⟩
abbrev s_Asks_parting : Stmt := inClass (topS 24) 7
theorem sc_Asks_parting : FnScope ["self", "chosen", "name"] ["self", "chosen"] (defScope s_Asks_parting) := ⟨rfl, rfl, rfl, by decide +kernel, rfl, by decide +kernel, by decide +kernel⟩
abbrev s_Asks_parts_by : Stmt := inClass (topS 24) 4
theorem sc_Asks_parts_by : FnScope ["self", "name", "chosen"] ["self", "name", "chosen"] (defScope s_Asks_parts_by) := ⟨rfl, rfl, rfl, by decide +kernel, rfl, by decide +kernel, by decide +kernel⟩
abbrev s_Asks_candidates_in : Stmt := inClass (topS 24) 2
theorem sc_Asks_candidates_in : FnScope ["self", "chosen", "place", "candidate"] ["self", "chosen"] (defScope s_Asks_candidates_in) := ⟨rfl, rfl, rfl, by decide +kernel, rfl, by decide +kernel, by decide +kernel⟩
abbrev s_Asks_is_settled : Stmt := inClass (topS 24) 3
theorem sc_Asks_is_settled : FnScope ["self", "chosen", "state", "faults"] ["self", "chosen"] (defScope s_Asks_is_settled) := ⟨rfl, rfl, rfl, by decide +kernel, rfl, by decide +kernel, by decide +kernel⟩
abbrev s_Asks_need_behind : Stmt := inClass (topS 24) 8
theorem sc_Asks_need_behind : FnScope ["self", "name", "chosen", "part", "other"] ["self", "name", "chosen"] (defScope s_Asks_need_behind) := ⟨rfl, rfl, rfl, by decide +kernel, rfl, by decide +kernel, by decide +kernel⟩
abbrev s_Asks_least_need : Stmt := inClass (topS 24) 6
theorem sc_Asks_least_need : FnScope ["self", "chosen", "least", "name"] ["self", "chosen"] (defScope s_Asks_least_need) := ⟨rfl, rfl, rfl, by decide +kernel, rfl, by decide +kernel, by decide +kernel⟩
abbrev s_Asks_need : Stmt := inClass (topS 24) 5
theorem sc_Asks_need : FnScope ["self", "chosen"] ["self", "chosen"] (defScope s_Asks_need) := ⟨rfl, rfl, rfl, by decide +kernel, rfl, by decide +kernel, by decide +kernel⟩
abbrev s_harder_parts : Stmt := topS 31
theorem sc_harder_parts : FnScope ["asks", "chosen", "number", "found", "name", "part", "other"] ["asks", "chosen", "number"] (defScope s_harder_parts) := ⟨rfl, rfl, rfl, by decide +kernel, rfl, by decide +kernel, by decide +kernel⟩
abbrev s_answers : Stmt := topS 25
theorem sc_answers : FnScope ["rows", "probes", "many", "asks", "numbers", "waiting", "chosen", "number"] ["rows", "probes", "many"] (defScope s_answers) := ⟨rfl, rfl, rfl, by decide +kernel, rfl, by decide +kernel, by decide +kernel⟩
abbrev s__law_passed : Stmt := topS 39
theorem sc__law_passed : FnScope ["_law_source_here", "_law_probes_here", "_law_passed_here", "_law_names_here", "_law_name_here"] ["_law_source_here", "_law_probes_here"] (defScope s__law_passed) := ⟨rfl, rfl, rfl, by decide +kernel, rfl, by decide +kernel, by decide +kernel⟩
abbrev s__law_part : Stmt := topS 41
theorem sc__law_part : FnScope ["_law_group", "_law_states", "_law_side", "_law_row"] ["_law_group", "_law_states", "_law_side"] (defScope s__law_part) := ⟨rfl, rfl, rfl, by decide +kernel, rfl, by decide +kernel, by decide +kernel⟩
abbrev s__law_settled : Stmt := topS 40
theorem sc__law_settled : FnScope ["_law_group", "_law_row"] ["_law_group"] (defScope s__law_settled) := ⟨rfl, rfl, rfl, by decide +kernel, rfl, by decide +kernel, by decide +kernel⟩
abbrev s__law_plain : Stmt := topS 45
theorem sc__law_plain : FnScope ["_law_rows", "_law_probes_here", "_law_many", "_law_group", "_law_items", "_law_states", "_law_side", "_law_part_here"] ["_law_rows", "_law_probes_here", "_law_many"] (defScope s__law_plain) := ⟨rfl, rfl, rfl, by decide +kernel, rfl, by decide +kernel, by decide +kernel⟩
abbrev s__law_changed : Stmt := topS 44
theorem sc__law_changed : FnScope ["_law_source_here", "_law_items", "_law_kind", "_law_place", "_law_group", "_law_number", "_law_spot", "_law_item"] ["_law_source_here", "_law_items"] (defScope s__law_changed) := ⟨rfl, rfl, rfl, by decide +kernel, rfl, by decide +kernel, by decide +kernel⟩
abbrev s__law_is_row : Stmt := topS 42
theorem sc__law_is_row : FnScope ["_law_everything", "_law_item", "_law_row"] ["_law_everything", "_law_item"] (defScope s__law_is_row) := ⟨rfl, rfl, rfl, by decide +kernel, rfl, by decide +kernel, by decide +kernel⟩
abbrev s__law_is_table : Stmt := topS 43
theorem sc__law_is_table : FnScope ["_law_rows", "_law_probes_here", "_law_many", "_law_thing", "_law_everything", "_law_best", "_law_item", "_law_states", "_law_yes", "_law_no"] ["_law_rows", "_law_probes_here", "_law_many", "_law_thing"] (defScope s__law_is_table) := ⟨rfl, rfl, rfl, by decide +kernel, rfl, by decide +kernel, by decide +kernel⟩
abbrev s_is_item : Stmt := topS 30
theorem sc_is_item : FnScope ["asks", "value", "candidates", "number", "candidate"] ["asks", "value"] (defScope s_is_item) := ⟨rfl, rfl, rfl, by decide +kernel, rfl, by decide +kernel, by decide +kernel⟩
abbrev s_is_answers : Stmt := topS 26
theorem sc_is_answers : FnScope ["rows", "probes", "many", "thing", "asks", "numbers", "candidates", "number", "chosen", "name", "part", "other", "item"] ["rows", "probes", "many", "thing"] (defScope s_is_answers) := ⟨rfl, rfl, rfl, by decide +kernel, rfl, by decide +kernel, by decide +kernel⟩
abbrev s_law : Stmt := topS 46
theorem sc_law : FnScope ["_law_script", "_law_source_here", "_law_rows", "_law_probes_here", "_law_many", "_law_items", "_law_turn", "_law_plain_here", "_law_due", "_law_thing", "_law_kept", "_law_actual", "_law_item"] ["_law_script"] (defScope s_law) := ⟨rfl, rfl, rfl, by decide +kernel, rfl, by decide +kernel, by decide +kernel⟩
abbrev cs_Asks_init : Scope := { kind := .function, names := [(".0", .local), ("name", .cell), ("probes", .cell), ("self", .cell)], isGenerator := false, isCoroutine := false }
structure Txt (K : PySem.W.Frag) (mg : Str → Option Value) (C : Addr) : Prop where
  m_all : mg "all" = none
  m_bool : mg "bool" = none
  m_dict : mg "dict" = none
  m_enumerate : mg "enumerate" = none
  m_int : mg "int" = none
  m_isinstance : mg "isinstance" = none
  m_len : mg "len" = none
  m_list : mg "list" = none
  m_max : mg "max" = none
  m_min : mg "min" = none
  m_range : mg "range" = none
  m_repr : mg "repr" = none
  m_set : mg "set" = none
  m_sorted : mg "sorted" = none
  m_str : mg "str" = none
  m_tuple : mg "tuple" = none
  m_zip : mg "zip" = none
  c_GREATEST_STATE : ∃ u, mg "GREATEST_STATE" = some u ∧ RelV (.int 99) u
  c_LONGEST_NAME : ∃ u, mg "LONGEST_NAME" = some u ∧ RelV (.int 12) u
  c_LETTERS : ∃ u, mg "LETTERS" = some u ∧ RelV (.str "abcdefghijklmnopqrstuvwxyz") u
  c_MOST_FAULTS : ∃ u, mg "MOST_FAULTS" = some u ∧ RelV (.int 3) u
  c_MOST_CANDIDATES : ∃ u, mg "MOST_CANDIDATES" = some u ∧ RelV (.int 10) u
  c_MOST_PROBES : ∃ u, mg "MOST_PROBES" = some u ∧ RelV (.int 6) u
  c_MOST_PROBED : ∃ u, mg "MOST_PROBED" = some u ∧ RelV (.int 100) u
  c_NEVER : ∃ u, mg "NEVER" = some u ∧ RelV (.int 1000) u
  c_MOST_ASKS : ∃ u, mg "MOST_ASKS" = some u ∧ RelV (.int 10) u
  cl_Asks : Cls K C
  g_Asks : mg "Asks" = some (.ref C)
  ins_Asks : C8.InsC K C
  n_candidates : NoAttr K C "candidates"
  n_places : NoAttr K C "places"
  n_whole : NoAttr K C "whole"
  n_yes : NoAttr K C "yes"
  n_needs : NoAttr K C "needs"
theorem szl {α : Type} {l : List α} (h : Nat.ble l.length 100000 = true) : l.length ≤ sizeLine := smallE (Nat.le_of_ble_eq_true h)
/-! ### values -/
inductive Val (K : PySem.W.Frag) (H : Hp) : V → Prop where
  | non : Val K H .non
  | bl (b : Bool) : Val K H (.bl b)
  | int (i : Int) : Val K H (.int i)
  | str (z : Str) (h : z.cps.size ≤ 100) : Val K H (.str z)
  | lst {a : Addr} {xs : List V} (e : H a = some (.lst xs)) : Val K H (.ref a)
  | tup {a : Addr} {xs : List V} (e : H a = some (.tup xs)) : Val K H (.ref a)
  | dK {a : Addr} {kvs : List (Key × V)} (e : H a = some (.dK kvs)) : Val K H (.ref a)
theorem Val.mono {K : PySem.W.Frag} {H H' : Hp} {v : V} (h : Val K H v) (s : Same H H') : Val K H' v := by
  cases h with
  | non => exact .non
  | bl b => exact .bl b
  | int i => exact .int i
  | str z h => exact .str z h
  | lst e => exact .lst (s _ _ e)
  | tup e => exact .tup (s _ _ e)
  | dK e => exact .dK (s _ _ e)
def isS : V → Bool
  | .str _ => true
  | _ => false
def isI : V → Bool
  | .int _ => true
  | .bl _ => true
  | _ => false
def isB : V → Bool
  | .bl _ => true
  | _ => false
theorem Val.ty {K : PySem.W.Frag} {H : Hp} {v : V} (h : Val K H v) : ∃ t, TyX K H v t ∧ PySem.W.kitOne K t (.type "str") = some (isS v) ∧ PySem.W.kitOne K t (.type "int") = some (isI v) ∧ PySem.W.kitOne K t (.type "bool") = some (isB v) := by
  cases h with
  | non => exact ⟨_, .base .non, kit_ty (show kitB "NoneType" "str" = some false by decide +kernel), kit_ty (show kitB "NoneType" "int" = some false by decide +kernel), kit_ty (show kitB "NoneType" "bool" = some false by decide +kernel)⟩
  | bl b => exact ⟨_, .base (.bl b), kit_ty (show kitB "bool" "str" = some false by decide +kernel), kit_ty (show kitB "bool" "int" = some true by decide +kernel), kit_ty (show kitB "bool" "bool" = some true by decide +kernel)⟩
  | int i => exact ⟨_, .base (.int i), kit_ty (show kitB "int" "str" = some false by decide +kernel), kit_ty (show kitB "int" "int" = some true by decide +kernel), kit_ty (show kitB "int" "bool" = some false by decide +kernel)⟩
  | str z h => exact ⟨_, .base (.str z), kit_ty (show kitB "str" "str" = some true by decide +kernel), kit_ty (show kitB "str" "int" = some false by decide +kernel), kit_ty (show kitB "str" "bool" = some false by decide +kernel)⟩
  | lst e => exact ⟨_, .base (.lst e), kit_ty (show kitB "list" "str" = some false by decide +kernel), kit_ty (show kitB "list" "int" = some false by decide +kernel), kit_ty (show kitB "list" "bool" = some false by decide +kernel)⟩
  | tup e => exact ⟨_, .base (.tup e), kit_ty (show kitB "tuple" "str" = some false by decide +kernel), kit_ty (show kitB "tuple" "int" = some false by decide +kernel), kit_ty (show kitB "tuple" "bool" = some false by decide +kernel)⟩
  | dK e => exact ⟨_, .base (.dK e), kit_ty (show kitB "dict" "str" = some false by decide +kernel), kit_ty (show kitB "dict" "int" = some false by decide +kernel), kit_ty (show kitB "dict" "bool" = some false by decide +kernel)⟩
/-! ### what is computed -/
def letters : Str := "abcdefghijklmnopqrstuvwxyz"
def inL (c : Nat) : Bool := decide (c ∈ letters.cps.toList)
def nameB : V → Bool
  | .str z => decide (1 ≤ z.cps.size) && decide (z.cps.size ≤ 12) && z.cps.toList.all inL
  | _ => false
def wholeB (v : V) : Bool := isI v && !isB v
def stateB : V → Bool
  | .int i => decide (0 ≤ i) && decide (i ≤ 99)
  | _ => false
/-! ### promises -/
def spPure (g : V → Bool) (K : PySem.W.Frag) : Sp := fun vs H Q _ => ∃ v, vs = [v] ∧ Val K H v ∧ ∀ H', Same H H' → Q (.bl (g v)) H'
def sp_is_name := spPure nameB
def sp__law_is_name := spPure nameB
def sp_is_whole := spPure wholeB
def sp__law_is_integer := spPure wholeB
def sp_is_state := spPure stateB
def sp__law_is_state := spPure stateB
def sp__law_flag (_ : PySem.W.Frag) : Sp := fun vs H Q _ => ∃ a b, vs = [.bl a, .bl b] ∧ Q (.bl (decide (a = b))) H
def sp__law_mix (_ : PySem.W.Frag) : Sp := fun vs H Q _ => ∃ c k : Int, vs = [.int c, .int k] ∧ ∀ r : Int, 0 ≤ r → r < 2147483399 → Q (.int r) H
def sp__law_cell (K : PySem.W.Frag) : Sp := fun vs H Q _ => ∃ (a : Addr) (ns : List Int) (k : Nat), vs = [.ref a, .int (k : Int)] ∧ SqL K H a (ns.map V.int) ∧ ∀ r : Int, Q (.int r) H
def sp__law_row (K : PySem.W.Frag) : Sp := fun vs H Q _ => ∃ (c : Int) (b : Addr) (ss : List Int), vs = [.int c, .ref b] ∧ SqL K H b (ss.map V.int) ∧ ss.length ≤ 1000 ∧ (∀ s ∈ ss, 0 < s ∧ s < 1073741824) ∧
  ∀ H' p (rs : List Int), Same H H' → H p = none → H' p = some (.lst (rs.map V.int)) → rs.length = ss.length → (∀ (i : Nat) (r s : Int), rs[i]? = some r → ss[i]? = some s → 0 ≤ r ∧ r < s) → Q (.ref p) H'
def sp__law_text (_ : PySem.W.Frag) : Sp := fun vs H Q _ => ∃ c : Int, vs = [.int c] ∧ ∀ (z : Str) H', Same H H' → z.cps.size ≤ 100 → Q (.str z) H'
def sp_law (K : PySem.W.Frag) : Sp := fun vs H Q _ => ∃ (a : Addr) (ns : List Int), vs = [.ref a] ∧ SqL K H a (ns.map V.int) ∧ ns.length ≤ 63 ∧ ∀ H', Q (.bl true) H'
section
variable {P : Program} {w : World} {K : PySem.W.Frag} {mg : Str → Option Value} {base : Heap}

theorem ok_is_whole {f : Addr} {C : Addr} {fd : FuncData} (T : Txt K mg C) (F : Fun K "is_whole" "is_whole" s_is_whole f fd)  : FnOk P w K mg base CX0 1 f fd ["value"] (sp_is_whole K) := by
  have nd := sc_is_whole.nd
  refine F.ok sc_is_whole (fun vs H Q E h => ?_) (fun cdv A outer s H vs Q E hr h => ?_)
  · obtain ⟨v, rfl, _⟩ := h
    rfl
  · obtain ⟨v, rfl, hv, q⟩ := h
    refine ⟨_, (pss_one (ps_ret (pe_and (pe_callB call_isi (by rfl) T.m_isinstance (by decide +kernel) (pa_cons (pv 0) (pa_cons (pe_bltn (v := .ty "int") (u := .type "int") (by rfl) T.m_int (by decide +kernel) rfl) pa_nil))) (pe_one (pe_not (pe_callB call_isi (by rfl) T.m_isinstance (by decide +kernel) (pa_cons (pv 0) (pa_cons (pe_bltn (v := .ty "bool") (u := .type "bool") (by rfl) T.m_bool (by decide +kernel) rfl) pa_nil)))))))), ?_⟩
    obtain ⟨t, ht, hs, hi, hb⟩ := hv.ty
    refine ⟨v, rfl, v, .ty "int", t, _, isI v, rfl, .ty _, ht, hi, _, rfl, ?_⟩
    have q' := q H (Same.refl H)
    unfold wholeB at q'
    by_cases e : isI v = true
    · rw [if_pos e]
      refine ⟨v, rfl, v, .ty "bool", t, _, isB v, rfl, .ty _, ht, hb, _, rfl, ?_⟩
      rw [e] at q'
      exact q'
    · rw [if_neg e]
      rw [Bool.eq_false_iff.mpr e] at q'
      exact q'

theorem ok_is_state {f : Addr} {C : Addr} {fd : FuncData} (T : Txt K mg C) (F : Fun K "is_state" "is_state" s_is_state f fd) (c_is_whole : Cal P w K mg base 1 "is_whole" (sp_is_whole K) []) : FnOk P w K mg base CX0 2 f fd ["value"] (sp_is_state K) := by
  have nd := sc_is_state.nd
  refine F.ok sc_is_state (fun vs H Q E h => ?_) (fun cdv A outer s H vs Q E hr h => ?_)
  · obtain ⟨v, rfl, _⟩ := h
    rfl
  · obtain ⟨v, rfl, hv, q⟩ := h
    refine ⟨_, (pss_one (ps_ret (pe_and (pe_c c_is_whole hr (by omega) (by rfl) (pa_cons (pv 0) pa_nil)) (pe_one (pe_chain op_le op_le pe_int (pv 0) (pe_gc (by rfl) T.c_GREATEST_STATE)))))), ?_⟩
    refine ⟨v, rfl, v, rfl, hv, fun H1 s1 => ⟨_, rfl, ?_⟩⟩
    have q' := q H1 s1
    cases hv with
    | int i =>
      refine iteT ⟨.int i, rfl, 0, i, rfl, rfl, _, rfl, ?_⟩
      by_cases e : 0 ≤ i
      · rw [decide_eq_true e]
        refine iteT ⟨i, 99, rfl, rfl, ?_⟩
        have e2 : stateB (.int i) = decide (i ≤ 99) := by
          show (decide (0 ≤ i) && decide (i ≤ 99)) = _
          rw [decide_eq_true e]; rfl
        rw [e2] at q'
        exact q'
      · rw [decide_eq_false e]
        refine iteF ?_
        have e2 : stateB (.int i) = false := by
          show (decide (0 ≤ i) && decide (i ≤ 99)) = _
          rw [decide_eq_false e]; rfl
        rw [e2] at q'
        exact q'
    | _ => exact iteF q'

theorem nameB_out {z : Str} (h : ¬ (1 ≤ z.cps.size ∧ z.cps.size ≤ 12)) : nameB (.str z) = false := by
  show (decide (1 ≤ z.cps.size) && decide (z.cps.size ≤ 12) && z.cps.toList.all inL) = false
  by_cases a : 1 ≤ z.cps.size
  · rw [decide_eq_false (p := z.cps.size ≤ 12) (fun b => h ⟨a, b⟩), Bool.and_false]; rfl
  · rw [decide_eq_false a]; rfl
theorem nameB_in {z : Str} (h1 : 1 ≤ z.cps.size) (h2 : z.cps.size ≤ 12) : nameB (.str z) = z.cps.toList.all inL := by
  show (decide (1 ≤ z.cps.size) && decide (z.cps.size ≤ 12) && z.cps.toList.all inL) = _
  rw [decide_eq_true h1, decide_eq_true h2]; rfl
theorem nameB_not {v : V} (h : isS v = false) : nameB v = false := by
  cases v <;> first | rfl | cases h
theorem isS_str {v : V} (h : isS v = true) : ∃ z, v = .str z := by
  cases v <;> first | exact ⟨_, rfl⟩ | cases h
theorem Val.size {K : PySem.W.Frag} {H : Hp} {z : Str} (h : Val K H (.str z)) : z.cps.size ≤ 100 := by
  cases h with
  | str _ h => exact h

theorem ok_is_name {f : Addr} {C : Addr} {fd : FuncData} (T : Txt K mg C) (F : Fun K "is_name" "is_name" s_is_name f fd)  : FnOk P w K mg base CX0 1 f fd ["value"] (sp_is_name K) := by
  have nd := sc_is_name.nd
  refine F.ok sc_is_name (fun vs H Q E h => ?_) (fun cdv A outer s H vs Q E hr h => ?_)
  · obtain ⟨v, rfl, _⟩ := h
    rfl
  · obtain ⟨v, rfl, hv, q⟩ := h
    refine ⟨_, (pss_cons (ps_if (PW.pt (pw_or (pt_not (pt_val (pe_callB call_isi (by rfl) T.m_isinstance (by decide +kernel) (pa_cons (pv 0) (pa_cons (pe_bltn (v := .ty "str") (u := .type "str") (by rfl) T.m_str (by decide +kernel) rfl) pa_nil))))) (pw_or1 (pt_not (pt_chain op_le op_le pe_int (pe_callB call_len (by rfl) T.m_len (by decide +kernel) (pa_cons (pv 0) pa_nil)) (pe_gc (by rfl) T.c_LONGEST_NAME)))))) (pss_one (ps_ret pe_bl)) pss_nil)
      (pss_one (ps_ret (pe_callB (cr_all rfl) (by rfl) T.m_all (by decide +kernel) (pa_cons (pe_lc (own := [("letter", 1)]) (g := gName 1) (tt := tYes) rfl nd (pi_str (pv 0)) (blkOk_by (N := ["value", "letter"]) (sc := defScope s_is_name) (by decide +kernel)) (fun _ _ _ _ _ => (pg_name (i := 1) nd rfl (.inl rfl))) (fun _ _ _ _ _ => pts_nil) (fun _ _ _ _ _ => (pe_cmpR op_in_sign (pv 1) (pe_gc (by rfl) T.c_LETTERS) (by with_unfolding_all rfl)))) pa_nil))))), ?_⟩
    obtain ⟨t, ht, hs, hi, hb⟩ := hv.ty
    refine ⟨v, rfl, v, .ty "str", t, _, isS v, rfl, .ty _, ht, hs, _, rfl, ?_⟩
    cases e : isS v with
    | false =>
      refine iteT ?_
      have q' := q H (Same.refl H)
      rw [nameB_not e] at q'
      exact q'
    | true =>
      obtain ⟨z, rfl⟩ := isS_str e
      have hz := hv.size
      refine iteF ⟨.str z, rfl, .str z, z.cps.size, rfl, ⟨smallE (show z.cps.size ≤ 100000 by omega), rfl⟩, 1, (z.cps.size : Int), rfl, rfl, _, rfl, ?_⟩
      by_cases a : 1 ≤ z.cps.size
      · rw [decide_eq_true (show (1 : Int) ≤ (z.cps.size : Int) by omega)]
        refine iteT ⟨(z.cps.size : Int), 12, rfl, rfl, _, rfl, ?_⟩
        by_cases b : z.cps.size ≤ 12
        · rw [decide_eq_true (show (z.cps.size : Int) ≤ 12 by omega)]
          refine iteF ⟨.str z, rfl, z, rfl, fun D nD => lc_text (fun i H' => Same H H' ∧ H' D = some (.lst ((z.cps.toList.take i).map fun c => .bl (inL c)))) ⟨same_upd nD, upd_same⟩ (fun i c H' hc hP => ?_) (fun H' hP => ?_)⟩
          · obtain ⟨sm, eD⟩ := hP
            have hl : i < z.cps.toList.length := (List.getElem?_eq_some_iff.mp hc).1
            rw [Array.length_toList] at hl
            refine ⟨rfl, ?_⟩
            refine ⟨.str ⟨#[c]⟩, rfl, c, letters, rfl, rfl, _, eD, ?_, same_set nD sm, ?_⟩
            · rw [List.length_map, List.length_take]
              exact Nat.lt_of_le_of_lt (Nat.min_le_left _ _) (small (by omega))
            · rw [upd_same, take_more hc, List.map_append]; rfl
          · obtain ⟨sm, eD⟩ := hP
            rw [List.take_length] at eD
            refine ⟨D, z.cps.toList.map inL, rfl, .inl (.inl (by rw [eD, List.map_map]; rfl)), ?_⟩
            have q' := q H' sm
            rw [nameB_in a b] at q'
            rw [List.all_map]
            exact q'
        · rw [decide_eq_false (show ¬ (z.cps.size : Int) ≤ 12 by omega)]
          refine iteT ?_
          have q' := q H (Same.refl H)
          rw [nameB_out (fun h => b h.2)] at q'
          exact q'
      · rw [decide_eq_false (show ¬ (1 : Int) ≤ (z.cps.size : Int) by omega)]
        refine iteF ?_
        have q' := q H (Same.refl H)
        rw [nameB_out (fun h => a h.1)] at q'
        exact ⟨_, rfl, q'⟩

abbrev rowO (b : Bool) (xs : List V) : HO := match b with | true => .lst xs | false => .tup xs
theorem row_sq {b : Bool} {H : Hp} {a : Addr} {xs : List V} (h : H a = some (rowO b xs)) : KnE.Sq K b H a xs := by
  cases b with
  | true => exact .inl (.inl h)
  | false => exact .inl (.inl h)
theorem row_len {b : Bool} {H : Hp} {a : Addr} {xs : List V} (h : H a = some (rowO b xs)) : LenV K (.ref a) H xs.length := by
  cases b with
  | true => exact .inl ⟨xs, .inl (.inl h), rfl⟩
  | false => exact .inr ⟨xs, .inl (.inl h), rfl⟩
theorem name_size {z : Str} (h : nameB (.str z) = true) : 1 ≤ z.cps.size ∧ z.cps.size ≤ 12 := by
  by_cases a : 1 ≤ z.cps.size ∧ z.cps.size ≤ 12
  · exact a
  · rw [nameB_out a] at h; cases h
theorem cut_from {xs : List V} {a : Nat} : cutV xs (some (a : Int)) none = xs.drop a := by
  unfold cutV
  rw [HT.sIx_nat, HT.sIx_none]
  by_cases h : a ≤ xs.length
  · rw [Nat.min_eq_left h, List.take_of_length_le (by rw [List.length_drop]; omega)]
  · rw [Nat.min_eq_right (by omega : xs.length ≤ a), List.drop_of_length_le (Nat.le_refl _), List.drop_of_length_le (by omega), List.take_nil]
theorem cut_to {xs : List V} {a : Nat} : cutV xs none (some (a : Int)) = xs.take a := by
  unfold cutV
  rw [HT.sIx_nat, HT.sIx_none, List.drop_zero, Nat.sub_zero]
  by_cases h : a ≤ xs.length
  · rw [Nat.min_eq_left h]
  · rw [Nat.min_eq_right (by omega : xs.length ≤ a), List.take_of_length_le (Nat.le_refl _), List.take_of_length_le (by omega)]
def sp_is_row (_ : PySem.W.Frag) : Sp := fun vs H Q _ => ∃ b a xs, vs = [.ref a] ∧ H a = some (rowO b xs) ∧ ∀ H', Same H H' → Q (.bl true) H'
theorem ok_is_row {f : Addr} {C : Addr} {fd : FuncData} (T : Txt K mg C) (F : Fun K "is_row" "is_row" s_is_row f fd)  : FnOk P w K mg base CX0 1 f fd ["value"] (sp_is_row K) := by
  have nd := sc_is_row.nd
  refine F.ok sc_is_row (fun vs H Q E h => ?_) (fun cdv A outer s H vs Q E hr h => ?_)
  · obtain ⟨b, a, xs, rfl, _⟩ := h
    rfl
  · obtain ⟨b, a, xs, rfl, ha, q⟩ := h
    refine ⟨_, (pss_one (ps_ret (pe_callB call_isiT (by rfl) T.m_isinstance (by decide +kernel) (pa_cons (pv 0) (pa_cons (pe_tup (pa_cons (pe_bltn (v := .ty "list") (u := .type "list") (by rfl) T.m_list (by decide +kernel) rfl) (pa_cons (pe_bltn (v := .ty "tuple") (u := .type "tuple") (by rfl) T.m_tuple (by decide +kernel) rfl) pa_nil))) pa_nil))))), ?_⟩
    refine ⟨.ref a, rfl, szl rfl, fun p np => ?_⟩
    have q' := q _ (same_upd (o := .tup [.ty "list", .ty "tuple"]) np)
    have ha' : (upd H p (.tup [.ty "list", .ty "tuple"])) a = some (rowO b xs) := (upd_ne (ne_of_none ha np)).trans ha
    cases b with
    | true =>
      exact ⟨.ref a, p, [.ty "list", .ty "tuple"], .type "list", [.type "list", .type "tuple"], true, rfl, upd_same, .cons (.ty _) (.cons (.ty _) .nil), .base (.lst ha'), kitAny_cons (kit_ty (show kitB "list" "list" = some true by decide +kernel)) (fun z => nomatch z) (fun _ => rfl), q'⟩
    | false =>
      exact ⟨.ref a, p, [.ty "list", .ty "tuple"], .type "tuple", [.type "list", .type "tuple"], true, rfl, upd_same, .cons (.ty _) (.cons (.ty _) .nil), .base (.tup ha'),
        kitAny_cons (kit_ty (show kitB "tuple" "list" = some false by decide +kernel)) (fun _ => kitAny_cons (kit_ty (show kitB "tuple" "tuple" = some true by decide +kernel)) (fun z => nomatch z) fun _ => rfl) (fun z => nomatch z), q'⟩
/-! ### rows -/
def ltS (a b : Str) : Prop := a.cps.toList < b.cps.toList
structure GoodRow (i : Int) (zs : List Str) : Prop where
  st : stateB (.int i) = true
  few : zs.length ≤ 3
  nm : ∀ z ∈ zs, nameB (.str z) = true
  up : zs.Pairwise ltS
def rk (i : Int) (zs : List Str) : NestedKey := .tup [.num i, .tup (zs.map NestedKey.text)]
/-- each row before the next one -/
def adjR : List KnA.Dat → Bool
  | [] => true
  | [_] => true
  | a :: b :: r => !KnA.rowLe b a && adjR (b :: r)
def adjF (ds : List KnA.Dat) (i : Nat) : Bool := match ds[i]?, ds[1 + i]? with
  | some a, some b => !KnA.rowLe b a
  | _, _ => true
theorem adjR_get : ∀ {ds : List KnA.Dat}, adjR ds = ((List.range (ds.length - 1)).map (adjF ds)).all id
  | [] => rfl
  | [_] => rfl
  | a :: b :: r => by
    show (!KnA.rowLe b a && adjR (b :: r)) = _
    rw [adjR_get (ds := b :: r)]
    show _ = ((List.range (r.length + 1)).map _).all id
    rw [List.range_succ_eq_map, List.map_cons, List.all_cons, List.map_map]
    have e : (List.range r.length).map (adjF (a :: b :: r) ∘ Nat.succ) = (List.range r.length).map (adjF (b :: r)) := List.map_congr_left fun i _ => by
      show adjF (a :: b :: r) (i + 1) = adjF (b :: r) i
      unfold adjF
      rw [show 1 + (i + 1) = (1 + i) + 1 by omega, List.getElem?_cons_succ, List.getElem?_cons_succ]
    rw [e]; rfl
theorem pairedGet {α β : Type} {R : α → β → Prop} {xs : List α} {ys : List β} (h : Paired R xs ys) : ∀ {i : Nat} {x : α}, xs[i]? = some x → ∃ y, ys[i]? = some y ∧ R x y := by
  induction h with
  | nil => intro i x e; cases e
  | cons a _ ih =>
    intro i x e
    cases i with
    | zero => cases e; exact ⟨_, rfl, a⟩
    | succ i => exact ih (show _ from e)
def sp_is_ascending (_ : PySem.W.Frag) : Sp := fun vs H Q _ => (∃ (a : Addr) (zs : List Str), vs = [.ref a] ∧ H a = some (.tup (zs.map V.str)) ∧ zs.Pairwise ltS ∧ zs.length ≤ 3 ∧ ∀ H', Same H H' → Q (.bl true) H') ∨
  ∃ (a : Addr) (g : List V) (ds : List KnA.Dat), vs = [.ref a] ∧ H a = some (.tup g) ∧ Paired (fun v d => KnA.RowAt H v d.1 d.2) g ds ∧ g.length ≤ 100 ∧ ∀ H', Same H H' → Q (.bl (adjR ds)) H'
def sp_is_candidate (_ : PySem.W.Frag) : Sp := fun vs H Q _ => ∃ (x : V) (i : Int) (zs : List Str), vs = [x] ∧ KnA.RowAt H x i zs ∧ GoodRow i zs ∧ ∀ H', Same H H' → Q (.bl true) H'
theorem slA_use {K : PySem.W.Frag} {x : V} {lo hi : Option Int} {H : Hp} {Q : VK} (a : Addr) (xs : List V) (hx : x = .ref a) (ea : H a = some (.tup xs)) (h : ∀ b H1, Same H H1 → H1 b = some (.tup (cutV xs lo hi)) → Q (.ref b) H1) : rSlA K x lo hi H Q := by
  refine ⟨a, xs, hx, .inl (.inl ea), fun w => h a H (Same.refl H) ?_, fun _ p np => h p _ (same_upd np) upd_same⟩
  have e : cutV xs lo hi = xs := by
    unfold cutV
    rw [w.1, w.2, List.drop_zero, Nat.sub_zero, List.take_length]
  rw [e]; exact ea
theorem ok_is_ascending {f : Addr} {C : Addr} {fd : FuncData} (T : Txt K mg C) (F : Fun K "is_ascending" "is_ascending" s_is_ascending f fd)  : FnOk P w K mg base CX0 1 f fd ["values"] (sp_is_ascending K) := by
  have nd := sc_is_ascending.nd
  refine F.ok sc_is_ascending (fun vs H Q E h => ?_) (fun cdv A outer s H vs Q E hr h => ?_)
  · rcases h with ⟨a, zs, rfl, _⟩ | ⟨a, g, ds, rfl, _⟩
    · rfl
    · rfl
  · rcases h with ⟨a, zs, rfl, ha, up, l3, q⟩ | ⟨a, g, ds, rfl, ha, R, l3, q⟩
    · refine ⟨_, (pss_one (ps_ret (pe_callB (cr_all rfl) (by rfl) T.m_all (by decide +kernel) (pa_cons (pe_lc (own := [("one", 1), ("other", 2)]) (g := gTup K 2 (gCons (gName 1) (gCons (gName 2) gNil))) (tt := tYes) rfl nd (RZ.pi_zipA (by rfl) T.m_zip (pa_cons (pv 0) (pa_cons (pe_slice sl_tupA (pv 0) (po_some pe_int) po_none) pa_nil))) (blkOk_by (N := ["values", "one", "other"]) (sc := defScope s_is_ascending) (by decide +kernel)) (fun _ _ _ _ _ => (pg_tup (by rfl) (pgs_cons (pg_name (i := 1) nd rfl (.inl rfl)) (pgs_cons (pg_name (i := 2) nd rfl (.inl rfl)) pgs_nil)))) (fun _ _ _ _ _ => pts_nil) (fun _ _ _ _ _ => (pe_cmpR op_lt_str (pv 1) (pv 2) (nomark _)))) pa_nil)))), ?_⟩
      refine ⟨.ref a, rfl, .ref a, rfl, 1, rfl, ?_⟩
      unfold tNoPart
      refine slA_use a _ rfl ha fun b H1 s1 eb => ?_
      have e1 : cutV (zs.map V.str) (some 1) none = (zs.map V.str).drop 1 := cut_from (a := 1)
      rw [e1] at eb
      have ea := s1 _ _ ha
      refine ⟨a, b, _, _, rfl, .inr ⟨.inl (.inl ea), .inl (.inl eb), fun D nD => KnA.turns (zs.length - 1) (fun i G => Same H1 G ∧ G D = some (.lst ((List.replicate i true).map V.bl))) ⟨same_upd nD, upd_same⟩ (fun G hP => ?_) (fun i G hi hP => ?_) (fun i x G G' hi hP hy => ?_) (fun G hP => ?_)⟩⟩
      · exact ⟨_, _, .inl (.inl (hP.1 _ _ ea)), .inl (.inl (hP.1 _ _ eb)), .inr (by rw [List.length_drop, List.length_map]; exact Nat.le_refl _)⟩
      · exact ⟨_, _, _, _, .inl (.inl (hP.1 _ _ ea)), .inl (.inl (hP.1 _ _ eb)), by rw [List.getElem?_map, List.getElem?_eq_getElem (show i < zs.length by omega)]; rfl, by rw [List.getElem?_drop, List.getElem?_map, List.getElem?_eq_getElem (show 1 + i < zs.length by omega)]; rfl⟩
      · obtain ⟨S, eD⟩ := hP
        obtain ⟨Tt, x1, y1, rfl, nT, rfl, h1, h2⟩ := hy
        have g1 := h1 _ (.inl (.inl (S _ _ ea)))
        have g2 := h2 _ (.inl (.inl (S _ _ eb)))
        have i1 : i < zs.length := by omega
        have i2 : 1 + i < zs.length := by omega
        rw [List.getElem?_map, List.getElem?_eq_getElem i1] at g1
        rw [List.getElem?_drop, List.getElem?_map, List.getElem?_eq_getElem i2] at g2
        cases g1
        cases g2
        have lt : ltS zs[i] zs[1 + i] := List.pairwise_iff_getElem.mp up i (1 + i) i1 i2 (by omega)
        refine ⟨Tt, _, rfl, .inl (.inl upd_same), rfl, .str zs[i], _, rfl, .str zs[1 + i], [], rfl, rfl, rfl, ?_⟩
        unfold tYes
        refine iteT ⟨.str zs[i], rfl, .str zs[1 + i], rfl, zs[i], zs[1 + i], rfl, rfl, ?_⟩
        have sT := same_upd (o := .tup [.str zs[i], .str zs[1 + i]]) nT
        rw [decide_eq_true (show zs[i].cps.toList < zs[1 + i].cps.toList from lt)]
        refine ⟨_, sT _ _ eD, small (by rw [List.length_map, List.length_replicate]; omega), same_set nD (S.trans sT), ?_⟩
        rw [upd_same, List.replicate_succ', List.map_append]; rfl
      · obtain ⟨S, eD⟩ := hP
        refine ⟨D, List.replicate (zs.length - 1) true, rfl, .inl (.inl eD), ?_⟩
        have e : (List.replicate (zs.length - 1) true).all id = true := List.all_eq_true.mpr fun x hx => (List.mem_replicate.mp hx).2
        rw [e]
        exact q G (s1.trans S)
    · refine ⟨_, (pss_one (ps_ret (pe_callB (cr_all rfl) (by rfl) T.m_all (by decide +kernel) (pa_cons (pe_lc (own := [("one", 1), ("other", 2)]) (g := gTup K 2 (gCons (gName 1) (gCons (gName 2) gNil))) (tt := tYes) rfl nd (RZ.pi_zipA (by rfl) T.m_zip (pa_cons (pv 0) (pa_cons (pe_slice sl_tupA (pv 0) (po_some pe_int) po_none) pa_nil))) (blkOk_by (N := ["values", "one", "other"]) (sc := defScope s_is_ascending) (by decide +kernel)) (fun _ _ _ _ _ => (pg_tup (by rfl) (pgs_cons (pg_name (i := 1) nd rfl (.inl rfl)) (pgs_cons (pg_name (i := 2) nd rfl (.inl rfl)) pgs_nil)))) (fun _ _ _ _ _ => pts_nil) (fun _ _ _ _ _ => (pe_cmpR (KnA.op_ltR (KnC.un65 hr)) (pv 1) (pv 2) (nomark _)))) pa_nil)))), ?_⟩
      refine ⟨.ref a, rfl, .ref a, rfl, 1, rfl, ?_⟩
      unfold tNoPart
      refine slA_use a _ rfl ha fun b H1 s1 eb => ?_
      have e1 : cutV g (some 1) none = g.drop 1 := cut_from (a := 1)
      rw [e1] at eb
      have ea := s1 _ _ ha
      refine ⟨a, b, _, _, rfl, .inr ⟨.inl (.inl ea), .inl (.inl eb), fun D nD => KnA.turns (g.length - 1) (fun i G => Same H1 G ∧ G D = some (.lst (((List.range i).map (adjF ds)).map V.bl))) ⟨same_upd nD, upd_same⟩ (fun G hP => ?_) (fun i G hi hP => ?_) (fun i x G G' hi hP hy => ?_) (fun G hP => ?_)⟩⟩
      · exact ⟨_, _, .inl (.inl (hP.1 _ _ ea)), .inl (.inl (hP.1 _ _ eb)), .inr (by rw [List.length_drop]; exact Nat.le_refl _)⟩
      · exact ⟨_, _, _, _, .inl (.inl (hP.1 _ _ ea)), .inl (.inl (hP.1 _ _ eb)), List.getElem?_eq_getElem (show i < g.length by omega), by rw [List.getElem?_drop, List.getElem?_eq_getElem (show 1 + i < g.length by omega)]⟩
      · obtain ⟨S, eD⟩ := hP
        obtain ⟨Tt, x1, y1, rfl, nT, rfl, h1, h2⟩ := hy
        have g1 := h1 _ (.inl (.inl (S _ _ ea)))
        have g2 := h2 _ (.inl (.inl (S _ _ eb)))
        have i1 : i < g.length := by omega
        have i2 : 1 + i < g.length := by omega
        rw [List.getElem?_eq_getElem i1] at g1
        rw [List.getElem?_drop, List.getElem?_eq_getElem i2] at g2
        cases g1
        cases g2
        obtain ⟨d1, hd1, r1⟩ := pairedGet R (List.getElem?_eq_getElem i1)
        obtain ⟨d2, hd2, r2⟩ := pairedGet R (List.getElem?_eq_getElem i2)
        have sT := same_upd (o := .tup [g[i], g[1 + i]]) nT
        refine ⟨Tt, _, rfl, .inl (.inl upd_same), rfl, g[i], _, rfl, g[1 + i], [], rfl, rfl, rfl, ?_⟩
        unfold tYes
        refine iteT ⟨g[i], rfl, g[1 + i], rfl, d1, d2, r1.ext fun b us e => sT _ _ (S _ _ (s1 _ _ e)), r2.ext fun b us e => sT _ _ (S _ _ (s1 _ _ e)), ?_⟩
        have ef : adjF ds i = !KnA.rowLe d2 d1 := by unfold adjF; rw [hd1, hd2]
        rw [← ef]
        refine ⟨_, sT _ _ eD, small (by rw [List.length_map, List.length_map, List.length_range]; omega), same_set nD (S.trans sT), ?_⟩
        rw [upd_same, List.range_succ, List.map_append, List.map_append]; rfl
      · obtain ⟨S, eD⟩ := hP
        have lg : g.length = ds.length := Paired.length R
        refine ⟨D, (List.range (g.length - 1)).map (adjF ds), rfl, .inl (.inl eD), ?_⟩
        rw [lg, ← adjR_get]
        exact q G (s1.trans S)
theorem ok_is_candidate {f : Addr} {C : Addr} {fd : FuncData} (T : Txt K mg C) (F : Fun K "is_candidate" "is_candidate" s_is_candidate f fd) (c_is_state : Cal P w K mg base 2 "is_state" (sp_is_state K) []) (c_is_name : Cal P w K mg base 1 "is_name" (sp_is_name K) []) (c_is_ascending : Cal P w K mg base 1 "is_ascending" (sp_is_ascending K) []) : FnOk P w K mg base CX0 3 f fd ["value"] (sp_is_candidate K) := by
  have nd := sc_is_candidate.nd
  refine F.ok sc_is_candidate (fun vs H Q E h => ?_) (fun cdv A outer s H vs Q E hr h => ?_)
  · obtain ⟨x, i, zs, rfl, _⟩ := h
    rfl
  · obtain ⟨x, i, zs, rfl, ⟨t, f0, rfl, ht, hf⟩, g, q⟩ := h
    refine ⟨_, (pss_cons (ps_if (PW.pt (pw_or (pt_not (pt_val (pe_callB call_isi (by rfl) T.m_isinstance (by decide +kernel) (pa_cons (pv 0) (pa_cons (pe_bltn (v := .ty "tuple") (u := .type "tuple") (by rfl) T.m_tuple (by decide +kernel) rfl) pa_nil))))) (pw_or1 (pt_cmpR op_ne (pe_callB call_len (by rfl) T.m_len (by decide +kernel) (pa_cons (pv 0) pa_nil)) pe_int (nomark _))))) (pss_one (ps_ret pe_bl)) pss_nil)
      (pss_cons (ps_asg (pv 0) (pg_tup (by rfl) (pgs_cons (pg_name (i := 1) nd rfl (.inl rfl)) (pgs_cons (pg_name (i := 2) nd rfl (.inl rfl)) pgs_nil))))
      (pss_cons (ps_if (PW.pt (pw_or (pt_not (pt_val (pe_c c_is_state hr (by omega) (by rfl) (pa_cons (pv 1) pa_nil)))) (pw_or (pt_not (pt_val (pe_callB call_isi (by rfl) T.m_isinstance (by decide +kernel) (pa_cons (pv 2) (pa_cons (pe_bltn (v := .ty "tuple") (u := .type "tuple") (by rfl) T.m_tuple (by decide +kernel) rfl) pa_nil))))) (pw_or1 (pt_cmpR op_gt (pe_callB call_len (by rfl) T.m_len (by decide +kernel) (pa_cons (pv 2) pa_nil)) (pe_gc (by rfl) T.c_MOST_FAULTS) (nomark _)))))) (pss_one (ps_ret pe_bl)) pss_nil)
      (pss_one (ps_ret (pe_and (pe_callB (cr_all rfl) (by rfl) T.m_all (by decide +kernel) (pa_cons (pe_lc (own := [("fault", 3)]) (g := gName 3) (tt := tYes) rfl nd (pi_tup (pv 2)) (blkOk_by (N := ["value", "state", "faults", "fault"]) (sc := defScope s_is_candidate) (by decide +kernel)) (fun _ _ _ _ _ => (pg_name (i := 3) nd rfl (.inl rfl))) (fun _ _ _ _ _ => pts_nil) (fun _ _ _ _ _ => (pe_c c_is_name hr (by omega) (by rfl) (pa_cons (pv 3) pa_nil)))) pa_nil)) (pe_one (pe_c c_is_ascending hr (by omega) (by rfl) (pa_cons (pv 2) pa_nil))))))))), ?_⟩
    refine ⟨.ref t, rfl, .ref t, .ty "tuple", .type "tuple", _, true, rfl, .ty _, .base (.tup ht), kit_ty (show kitB "tuple" "tuple" = some true by decide +kernel), _, rfl, iteF ⟨.ref t, rfl, .ref t, 2, rfl, .inr ⟨_, .inl (.inl ht), rfl⟩, rfl, _, rfl, iteNS rfl ?_⟩⟩
    refine ⟨.ref t, rfl, t, _, rfl, .inl (.inl ht), rfl, .int i, _, rfl, .ref f0, [], rfl, rfl, ?_⟩
    refine ⟨.int i, rfl, .int i, rfl, .int i, fun H1 s1 => ⟨_, rfl, ?_⟩⟩
    rw [g.st]
    refine iteF ⟨.ref f0, rfl, .ref f0, .ty "tuple", .type "tuple", _, true, rfl, .ty _, .base (.tup (s1 _ _ hf)), kit_ty (show kitB "tuple" "tuple" = some true by decide +kernel), _, rfl, iteF ⟨.ref f0, rfl, .ref f0, zs.length, rfl, .inr ⟨_, .inl (.inl (s1 _ _ hf)), by rw [List.length_map]⟩, (zs.length : Int), 3, rfl, rfl, _, rfl, ?_⟩⟩
    have few := g.few
    rw [decide_eq_false (show ¬ (3 : Int) < (zs.length : Int) by omega)]
    refine iteF ⟨.ref f0, rfl, f0, rfl, ⟨_, .inl (.inl (s1 _ _ hf))⟩, fun D nD => ?_⟩
    refine lc_tup (K := K) (a := f0) (xs := zs.map V.str) (fun i G => Same H1 G ∧ G D = some (.lst ((List.replicate i true).map V.bl))) ⟨same_upd nD, upd_same⟩ (fun i G _ hP => .inl (.inl (hP.1 _ _ (s1 _ _ hf)))) (fun i x G hx hP => ?_) (fun G hP => ?_)
    · obtain ⟨S, eD⟩ := hP
      rw [List.getElem?_map] at hx
      cases gx : zs[i]? with
      | none => rw [gx] at hx; cases hx
      | some z =>
      rw [gx] at hx
      cases hx
      have hz := g.nm z (List.mem_of_getElem? gx)
      have hi : i < zs.length := (List.getElem?_eq_some_iff.mp gx).1
      refine ⟨rfl, ?_⟩
      unfold tYes
      refine iteT ⟨.str z, rfl, .str z, rfl, .str z (by have := (name_size hz).2; omega), fun G2 s2 => ?_⟩
      rw [hz]
      refine ⟨_, s2 _ _ eD, small (by rw [List.length_map, List.length_replicate]; omega), same_set nD (S.trans s2), ?_⟩
      rw [upd_same, List.replicate_succ', List.map_append]; rfl
    · obtain ⟨S, eD⟩ := hP
      refine ⟨D, List.replicate (zs.map V.str).length true, rfl, .inl (.inl eD), ?_⟩
      have e : (List.replicate (zs.map V.str).length true).all id = true := List.all_eq_true.mpr fun x hx => (List.mem_replicate.mp hx).2
      rw [e]
      have S1 := s1.trans S
      refine ⟨_, rfl, iteT ⟨.ref f0, rfl, .inl ⟨f0, zs, rfl, S1 _ _ hf, g.up, few, fun H4 s4 => q H4 (S1.trans s4)⟩⟩⟩
/-! ### the whole row, the probes -/
def Rows (H : Hp) (vs : List V) (st : V → Int) (fa : V → List Str) : Prop := ∀ v ∈ vs, KnA.RowAt H v (st v) (fa v) ∧ GoodRow (st v) (fa v)
theorem Rows.mono {H H' : Hp} {vs : List V} {st : V → Int} {fa : V → List Str} (h : Rows H vs st fa) (s : Same H H') : Rows H' vs st fa := fun v hv => ⟨(h v hv).1.ext fun a vs e => s _ _ e, (h v hv).2⟩
theorem texts_nall {H : Hp} : ∀ zs : List Str, KnN.NAll H (zs.map NestedKey.text) (zs.map V.str)
  | [] => .nil
  | z :: zs => .cons (.text z) (texts_nall zs)
theorem row_nis {H : Hp} {x : V} {i : Int} {zs : List Str} (h : KnA.RowAt H x i zs) : ∃ t, x = .ref t ∧ KnN.NIs H (rk i zs) (.ref t) := by
  obtain ⟨t, f, e, h1, h2⟩ := h
  exact ⟨t, e, .tup h1 (.cons (.int i) (.cons (.tup h2 (texts_nall zs)) .nil))⟩
theorem texts_depth : ∀ zs : List Str, NestedKey.depthAll (zs.map NestedKey.text) = 0
  | [] => rfl
  | z :: zs => by rw [List.map_cons]; show max 0 (NestedKey.depthAll (zs.map NestedKey.text)) = 0; rw [texts_depth zs]; rfl
theorem rk_depth (i : Int) (zs : List Str) : (rk i zs).depth ≤ 8 := by
  show max 0 (max (NestedKey.depthAll (zs.map NestedKey.text) + 1) 0) + 1 ≤ 8
  rw [texts_depth]; decide
theorem text_inj : ∀ {xs ys : List Str}, xs.map NestedKey.text = ys.map NestedKey.text → xs = ys
  | [], [], _ => rfl
  | [], _ :: _, h => by cases h
  | _ :: _, [], h => by cases h
  | x :: xs, y :: ys, h => by
    rw [List.map_cons, List.map_cons] at h
    obtain ⟨a, b⟩ := List.cons.inj h
    rw [NestedKey.text.inj a, text_inj b]
theorem rk_inj {i j : Int} {xs ys : List Str} (h : rk i xs = rk j ys) : i = j ∧ xs = ys := by
  have h1 := NestedKey.tup.inj h
  obtain ⟨a, b⟩ := List.cons.inj h1
  obtain ⟨c, _⟩ := List.cons.inj b
  exact ⟨NestedKey.num.inj a, text_inj (NestedKey.tup.inj c)⟩
def keysR (st : V → Int) (fa : V → List Str) (vs : List V) : List NestedKey := vs.map fun v => rk (st v) (fa v)
theorem valN_in {κ : Type} [DecidableEq κ] {kvs : List (κ × V)} {k : κ} : (valV kvs k).isSome = true ↔ k ∈ kvs.map (·.1) := by
  rw [← valV_any, List.any_eq_true]
  constructor
  · rintro ⟨p, hp, e⟩
    exact List.mem_map.mpr ⟨p, hp, of_decide_eq_true e⟩
  · intro h
    obtain ⟨p, hp, e⟩ := List.mem_map.mp h
    exact ⟨p, hp, decide_eq_true e⟩
theorem putK_new {κ : Type} [DecidableEq κ] {kvs : List (κ × V)} {k : κ} {v : V} (h : k ∉ kvs.map (·.1)) : putK kvs k v = kvs ++ [(k, v)] := by
  unfold putK
  rw [valV_any, if_neg (fun z => h (valN_in.mp z))]
def sp_check_rows (_ : PySem.W.Frag) : Sp := fun vs H Q _ => ∃ (b : Bool) (a : Addr) (xs : List V) (st : V → Int) (fa : V → List Str), vs = [.ref a] ∧ H a = some (rowO b xs) ∧ Rows H xs st fa ∧ (keysR st fa xs).Nodup ∧ 1 ≤ xs.length ∧ xs.length ≤ 10 ∧ ∀ H', Same H H' → Q .non H'
theorem ok_check_rows {f : Addr} {C : Addr} {fd : FuncData} (T : Txt K mg C) (F : Fun K "check_rows" "check_rows" s_check_rows f fd) (c_is_row : Cal P w K mg base 1 "is_row" (sp_is_row K) []) (c_is_candidate : Cal P w K mg base 3 "is_candidate" (sp_is_candidate K) []) : FnOk P w K mg base CX0 4 f fd ["rows"] (sp_check_rows K) := by
  have nd := sc_check_rows.nd
  refine F.ok sc_check_rows (fun vs H Q E h => ?_) (fun cdv A outer s H vs Q E hr h => ?_)
  · obtain ⟨b, a, xs, st, fa, rfl, _⟩ := h
    rfl
  · obtain ⟨b, a, xs, st, fa, rfl, ha, hR, ndk, lo, hi, q⟩ := h
    refine ⟨_, (pss_cons (ps_if (PW.pt (pw_or (pt_not (pt_val (pe_c c_is_row hr (by omega) (by rfl) (pa_cons (pv 0) pa_nil)))) (pw_or1 (pt_not (pt_chain op_le op_le pe_int (pe_callB call_len (by rfl) T.m_len (by decide +kernel) (pa_cons (pv 0) pa_nil)) (pe_gc (by rfl) T.c_MOST_CANDIDATES)))))) (pss_one ps_never) pss_nil)
      (pss_cons (ps_set (i := 1) nd rfl (.inl rfl) KnN.pe_nnew)
      (pss_one (ps_for PassesOwn.never rfl (KnE.pi_en (by rfl) T.m_enumerate (pa_cons (pv 0) pa_nil)) (pg_tup (by rfl) (pgs_cons (pg_name (i := 2) nd rfl (.inl rfl)) (pgs_cons (pg_name (i := 3) nd rfl (.inl rfl)) pgs_nil))) (pss_cons (ps_if (PW.pt (pw_or (pt_not (pt_val (pe_c c_is_candidate hr (by omega) (by rfl) (pa_cons (pv 3) pa_nil)))) (pw_or1 (pt_cmp (KnN.pc_nin (KnC.un65 hr) (pv 3) (pv 1)))))) (pss_one ps_never) pss_nil)
      (pss_one (KnN.ps_nput (KnC.un65 hr) (pv 1) (pv 3) pe_bl rfl))))))), ?_⟩
    refine ⟨.ref a, rfl, b, a, _, rfl, ha, fun H1 s1 => ⟨_, rfl, iteF ⟨.ref a, rfl, .ref a, xs.length, rfl, row_len (s1 _ _ ha), 1, (xs.length : Int), rfl, rfl, _, rfl, ?_⟩⟩⟩
    rw [decide_eq_true (show (1 : Int) ≤ (xs.length : Int) by omega)]
    refine iteT ⟨(xs.length : Int), 10, rfl, rfl, _, rfl, iteNS (show (xs.length : Int) ≤ 10 by omega) ?_⟩
    refine fun d G nD k1 dn => ?_
    have S0 : Same H G := fun c o e => by
      rw [k1 c (fun z => by rw [z] at e; have := s1 _ _ e; rw [nD] at this; cases this)]; exact s1 _ _ e
    refine ⟨.ref a, rfl, a, b, xs, rfl, row_sq (S0 _ _ ha), ?_⟩
    refine KnE.for_en (K := K) (fun i σ H' => ∃ y2 y3, σ = [some (.ref a), some (.ref d), y2, y3] ∧ Same H H' ∧ ∃ kvs, KnN.DNAt P w H' d kvs ∧ kvs.map (·.1) = keysR st fa (xs.take i))
      ⟨none, none, rfl, S0, [], dn, rfl⟩ (fun i σ H' _ hP => row_sq (hP.choose_spec.choose_spec.2.1 _ _ ha)) (fun i x T0 σ H' hx nT hP => ?_) (fun σ H' hP => ?_)
    · obtain ⟨y2, y3, rfl, S, kvs, dn, ek⟩ := hP
      obtain ⟨rx, gx⟩ := hR.mono S x (List.mem_of_getElem? hx)
      have sT := same_upd (o := .tup [.int (i : Nat), x]) nT
      refine ⟨T0, _, rfl, .inl (.inl upd_same), rfl, .int (i : Nat), _, rfl, x, [], rfl, rfl, ?_⟩
      have dn2 := dn.mono sT
      have S2 := S.trans sT
      have rx2 := rx.ext (H' := upd H' T0 (.tup [.int (i : Nat), x])) fun a vs e => sT _ _ e
      generalize upd H' T0 (.tup [.int (i : Nat), x]) = H2 at dn2 S2 rx2 ⊢
      refine ⟨x, rfl, x, _, _, rfl, rx2, gx, fun H3 s3 => ⟨_, rfl, iteF ?_⟩⟩
      have rx3 := rx2.ext fun a vs e => s3 _ _ e
      obtain ⟨t, rfl, nk⟩ := row_nis rx3
      have dn3 := dn2.mono s3
      have ni : i < xs.length := (List.getElem?_eq_some_iff.mp hx).1
      have nin : rk (st (.ref t)) (fa (.ref t)) ∉ kvs.map (·.1) := by
        rw [ek]
        have z : keysR st fa xs = keysR st fa (xs.take i) ++ keysR st fa (xs.drop i) := by unfold keysR; rw [← List.map_append, List.take_append_drop]
        rw [z] at ndk
        obtain ⟨_, _, dj⟩ := List.nodup_append.mp ndk
        refine fun m => dj _ m _ (?_ : rk (st (.ref t)) (fa (.ref t)) ∈ keysR st fa (xs.drop i)) rfl
        exact List.mem_map.mpr ⟨.ref t, List.mem_of_getElem? (i := 0) (by rw [List.getElem?_drop]; exact hx), rfl⟩
      have nv : (valV kvs (rk (st (.ref t)) (fa (.ref t)))).isSome = false := Bool.eq_false_iff.mpr fun z => nin (valN_in.mp z)
      have lk : kvs.length = i := by
        have := congrArg List.length ek
        unfold keysR at this
        rw [List.length_map, List.length_map, List.length_take] at this
        omega
      refine ⟨.ref t, rfl, .ref d, rfl, d, kvs, _, t, rfl, rfl, dn3, nk, rk_depth _ _, _, rfl, ?_⟩
      rw [nv]
      refine iteF ⟨.ref d, rfl, .ref t, rfl, d, kvs, _, t, rfl, rfl, dn3, nk, rk_depth _ _, small (by omega), fun H4 k4 dn4 => ?_⟩
      refine ⟨_, _, rfl, fun c o e => ?_, _, dn4, ?_⟩
      · have e3 := s3 _ _ (S2 _ _ e)
        by_cases z : c = d
        · subst z
          have e1 := s1 _ _ e
          rw [nD] at e1; cases e1
        · rw [k4 c z]; exact e3
      · rw [putK_new nin, List.map_append, ek]
        unfold keysR
        rw [take_more hx, List.map_append]; rfl
    · obtain ⟨y2, y3, rfl, S, _⟩ := hP
      exact q H' S
abbrev Prb := Str × Addr × List Int
def pkv (ps : List Prb) : List (Key × V) := ps.map fun p => (Sum.inr p.1, V.ref p.2.1)
structure Probes (H : Hp) (d : Addr) (ps : List Prb) : Prop where
  at_ : H d = some (.dK (pkv ps))
  ls : ∀ p ∈ ps, H p.2.1 = some (.lst (p.2.2.map V.int))
structure GoodP (ps : List Prb) : Prop where
  nm : ∀ p ∈ ps, nameB (.str p.1) = true
  sm : ∀ p ∈ ps, p.2.2.length ≤ 100
  st : ∀ p ∈ ps, ∀ x ∈ p.2.2, 0 ≤ x ∧ x ≤ 99
  nd : (ps.map (·.1)).Nodup
  len : ps.length ≤ 6
theorem Probes.mono {H H' : Hp} {d : Addr} {ps : List Prb} (h : Probes H d ps) (s : Same H H') : Probes H' d ps := ⟨s _ _ h.at_, fun p hp => s _ _ (h.ls p hp)⟩
theorem for_items {d : Addr} {o : Obj} {kvs : List (Key × V)} {g : TG} {tb : TS} {D : Ends} {σ : L2.St} {H : Hp} (Pv : Nat → L2.St → Hp → Prop) (h0 : Pv 0 σ H) (hl : ∀ i σ H, i ≤ kvs.length → Pv i σ H → H d = some (.frz o (.dK kvs)))
    (hs : ∀ (i : Nat) (k : Key) (v : V) (T : Addr) (σ : L2.St) (H : Hp), kvs[i]? = some (k, v) → H T = none → Pv i σ H → g (.ref T) σ (upd H T (.tup [kV k, v])) fun σ2 H2 => tb { D with nx := Pv (i + 1), ct := Pv (i + 1), bk := D.nx } σ2 H2) (hd : ∀ σ H, Pv kvs.length σ H → D.nx σ H) :
    ∃ W : Nat → Nat → L2.St → Hp → Prop, (∃ m, W 0 m σ H) ∧ ∀ i m σ H, W i m σ H →
      ((Iti d o kvs).stop i H ∧ D.nx σ H) ∨ ((Iti d o kvs).go i H ∧ ∃ N : L2.St → Hp → Prop, (∀ σ' H', N σ' H' → ∃ m', m' < m ∧ W (i + 1) m' σ' H') ∧ ∀ x H', (Iti d o kvs).yld i H x H' → g x σ H' fun σ2 H2 => tb { D with nx := N, ct := N, bk := D.nx } σ2 H2) := by
  refine ⟨fun i m σ H => m = kvs.length - i ∧ i ≤ kvs.length ∧ Pv i σ H, ⟨kvs.length, rfl, Nat.zero_le _, h0⟩, fun i m σ H ⟨em, hi, p⟩ => ?_⟩
  have q := hl i σ H hi p
  rcases Nat.lt_or_eq_of_le hi with lt | e
  · refine .inr ⟨⟨q, lt⟩, Pv (i + 1), fun σ' H' p' => ⟨kvs.length - (i + 1), by omega, rfl, lt, p'⟩, fun v H' ⟨T, k, u, ek, ev, nT, eH⟩ => ?_⟩
    subst ev eH
    exact hs i k u T σ H ek nT p
  · subst e
    exact .inl ⟨⟨q, Nat.le_refl _⟩, hd σ H p⟩

def sp_check_probes (_ : PySem.W.Frag) : Sp := fun vs H Q _ => ∃ (d : Addr) (ps : List Prb), vs = [.ref d] ∧ Probes H d ps ∧ GoodP ps ∧ ∀ H', Same H H' → Q .non H'
theorem ok_check_probes {f : Addr} {C : Addr} {fd : FuncData} (T : Txt K mg C) (F : Fun K "check_probes" "check_probes" s_check_probes f fd) (c_is_name : Cal P w K mg base 1 "is_name" (sp_is_name K) []) (c_is_row : Cal P w K mg base 1 "is_row" (sp_is_row K) []) (c_is_state : Cal P w K mg base 2 "is_state" (sp_is_state K) []) : FnOk P w K mg base CX0 3 f fd ["probes"] (sp_check_probes K) := by
  have nd := sc_check_probes.nd
  refine F.ok sc_check_probes (fun vs H Q E h => ?_) (fun cdv A outer s H vs Q E hr h => ?_)
  · obtain ⟨d, ps, rfl, _⟩ := h
    rfl
  · obtain ⟨d, ps, rfl, hp, gp, q⟩ := h
    refine ⟨_, (pss_cons (ps_if (PW.pt (pw_or (pt_not (pt_val (pe_callB call_isi (by rfl) T.m_isinstance (by decide +kernel) (pa_cons (pv 0) (pa_cons (pe_bltn (v := .ty "dict") (u := .type "dict") (by rfl) T.m_dict (by decide +kernel) rfl) pa_nil))))) (pw_or1 (pt_cmpR op_gt (pe_callB call_lenD (by rfl) T.m_len (by decide +kernel) (pa_cons (pv 0) pa_nil)) (pe_gc (by rfl) T.c_MOST_PROBES) (nomark _))))) (pss_one ps_never) pss_nil)
      (pss_one (ps_lock (ps_for PassesOwn.never rfl (pi_items (pv 0)) (pg_tup (by rfl) (pgs_cons (pg_name (i := 1) nd rfl (.inl rfl)) (pgs_cons (pg_name (i := 2) nd rfl (.inl rfl)) pgs_nil))) (pss_cons (ps_if (PW.pt (pw_or (pt_not (pt_val (pe_c c_is_name hr (by omega) (by rfl) (pa_cons (pv 1) pa_nil)))) (pw_or (pt_not (pt_val (pe_c c_is_row hr (by omega) (by rfl) (pa_cons (pv 2) pa_nil)))) (pw_or1 (pt_cmpR op_gt (pe_callB call_len (by rfl) T.m_len (by decide +kernel) (pa_cons (pv 2) pa_nil)) (pe_gc (by rfl) T.c_MOST_PROBED) (nomark _)))))) (pss_one ps_never) pss_nil)
      (pss_one (ps_if (pt_not (pt_val (pe_callB (cr_all rfl) (by rfl) T.m_all (by decide +kernel) (pa_cons (pe_lc (own := [("state", 3)]) (g := gName 3) (tt := tYes) rfl nd (pi_list (pv 2)) (blkOk_by (N := ["probes", "name", "states", "state"]) (sc := defScope s_check_probes) (by decide +kernel)) (fun _ _ _ _ _ => (pg_name (i := 3) nd rfl (.inl rfl))) (fun _ _ _ _ _ => pts_nil) (fun _ _ _ _ _ => (pe_c c_is_state hr (by omega) (by rfl) (pa_cons (pv 3) pa_nil)))) pa_nil)))) (pss_one ps_never) pss_nil))))))), ?_⟩
    have hd := hp.at_
    have lenp := gp.len
    have lk : (pkv ps).length = ps.length := List.length_map _
    refine ⟨.ref d, rfl, .ref d, .ty "dict", .type "dict", _, true, rfl, .ty _, .base (.dK hd), kit_ty (show kitB "dict" "dict" = some true by decide +kernel), _, rfl, iteF ⟨.ref d, rfl, d, pkv ps, rfl, hd, ((pkv ps).length : Int), 6, rfl, rfl, _, rfl, ?_⟩⟩
    rw [decide_eq_false (show ¬ (6 : Int) < ((pkv ps).length : Int) by omega)]
    refine iteF ?_
    refine ⟨d, .dK (pkv ps), hd, trivial, fun od => ?_⟩
    have back : ∀ {H' : Hp}, (∀ b o, b ≠ d → H b = some o → H' b = some o) → Same H (upd H' d (.dK (pkv ps))) := fun k b o e => by
      by_cases z : b = d
      · rw [z] at e ⊢
        rw [hd] at e
        cases e
        exact upd_same
      · rw [upd_ne z]; exact k b o z e
    refine ⟨.ref d, rfl, d, od, pkv ps, rfl, upd_same, ?_⟩
    refine for_items (fun i σ H' => ∃ y1 y2, σ = [some (.ref d), y1, y2, none] ∧ H' d = some (.frz od (.dK (pkv ps))) ∧ (∀ b o, b ≠ d → H b = some o → H' b = some o))
      ⟨none, none, rfl, upd_same, fun b o z e => (upd_ne z).trans e⟩ (fun i σ H' _ hP => hP.choose_spec.choose_spec.2.1) (fun i k v T0 σ H' hx nT hP => ?_) (fun σ H' hP => ?_)
    · obtain ⟨y1, y2, rfl, ed, S⟩ := hP
      unfold pkv at hx
      rw [List.getElem?_map] at hx
      cases gx : ps[i]? with
      | none => rw [gx] at hx; cases hx
      | some p =>
      rw [gx] at hx
      cases hx
      have mem := List.mem_of_getElem? gx
      have nm := gp.nm p mem
      have sm := gp.sm p mem
      have sT := same_upd (o := .tup [kV (.inr p.1), .ref p.2.1]) nT
      have ed2 := sT _ _ ed
      have ne : p.2.1 ≠ d := fun z => by have e := hp.ls p mem; rw [z, hd] at e; cases e
      have el2 : (upd H' T0 (.tup [kV (.inr p.1), .ref p.2.1])) p.2.1 = some (.lst (p.2.2.map V.int)) := sT _ _ (S _ _ ne (hp.ls p mem))
      have S2 : ∀ b o, b ≠ d → H b = some o → (upd H' T0 (.tup [kV (.inr p.1), .ref p.2.1])) b = some o := fun b o z e => sT _ _ (S b o z e)
      refine ⟨T0, _, rfl, .inl (.inl upd_same), rfl, .str p.1, _, rfl, .ref p.2.1, [], rfl, rfl, ?_⟩
      generalize upd H' T0 (.tup [kV (.inr p.1), .ref p.2.1]) = H2 at ed2 el2 S2 ⊢
      refine ⟨.str p.1, rfl, .str p.1, rfl, .str _ (by have := (name_size nm).2; omega), fun H3 s3 => ⟨_, rfl, ?_⟩⟩
      rw [nm]
      have el3 := s3 _ _ el2
      refine iteF ⟨.ref p.2.1, rfl, true, p.2.1, _, rfl, el3, fun H4 s4 => ⟨_, rfl, iteF ?_⟩⟩
      have el4 := s4 _ _ el3
      refine ⟨.ref p.2.1, rfl, .ref p.2.1, p.2.2.length, rfl, .inl ⟨_, .inl (.inl el4), by rw [List.length_map]⟩, (p.2.2.length : Int), 100, rfl, rfl, _, rfl, ?_⟩
      rw [decide_eq_false (show ¬ (100 : Int) < (p.2.2.length : Int) by omega)]
      refine iteF ⟨.ref p.2.1, rfl, p.2.1, rfl, ⟨_, .inl (.inl el4)⟩, fun D nD => ?_⟩
      have S4 : ∀ b o, b ≠ d → H b = some o → H4 b = some o := fun b o z e => s4 _ _ (s3 _ _ (S2 b o z e))
      have ed4 := s4 _ _ (s3 _ _ ed2)
      refine lc_list (K := K) (a := p.2.1) (xs := p.2.2.map V.int) (fun j G => Same H4 G ∧ G D = some (.lst ((List.replicate j true).map V.bl))) ⟨same_upd nD, upd_same⟩ (fun j G _ hP => .inl (.inl (hP.1 _ _ el4))) (fun j x G hx hP => ?_) (fun G hP => ?_)
      · obtain ⟨Sg, eD⟩ := hP
        rw [List.getElem?_map] at hx
        cases gj : p.2.2[j]? with
        | none => rw [gj] at hx; cases hx
        | some z =>
        rw [gj] at hx
        cases hx
        have hz := gp.st p mem z (List.mem_of_getElem? gj)
        have hj : j < p.2.2.length := (List.getElem?_eq_some_iff.mp gj).1
        have es : stateB (.int z) = true := by
          show (decide (0 ≤ z) && decide (z ≤ 99)) = true
          rw [decide_eq_true hz.1, decide_eq_true hz.2]; rfl
        refine ⟨rfl, ?_⟩
        unfold tYes
        refine iteT ⟨.int z, rfl, .int z, rfl, .int z, fun G2 s2 => ?_⟩
        rw [es]
        refine ⟨_, s2 _ _ eD, small (by rw [List.length_map, List.length_replicate]; omega), same_set nD (Sg.trans s2), ?_⟩
        rw [upd_same, List.replicate_succ', List.map_append]; rfl
      · obtain ⟨Sg, eD⟩ := hP
        refine ⟨D, List.replicate (p.2.2.map V.int).length true, rfl, .inl (.inl eD), ?_⟩
        have e : (List.replicate (p.2.2.map V.int).length true).all id = true := List.all_eq_true.mpr fun x hx => (List.mem_replicate.mp hx).2
        rw [e]
        exact ⟨_, rfl, iteF ⟨_, _, rfl, Sg _ _ ed4, fun b o z e => Sg _ _ (S4 b o z e)⟩⟩
    · obtain ⟨y1, y2, rfl, ed, S⟩ := hP
      exact ⟨ed, q _ (back S)⟩

end
end Kn

set_option Elab.async false
set_option linter.all false
set_option maxRecDepth 100000
set_option maxHeartbeats 4000000
namespace Kn
open PySem PySem.Spec PyProof.Rows L2
/-! ### how many asks a group needs, worked out -/
section
variable {α : Type} (st : α → Int) (fa : α → List Str)
def stl (g : List α) : Bool := g.all fun x => g.all fun y => decide (fa x = fa y)
def yesG (ss : List Int) (g : List α) : List α := g.filter fun x => decide (st x ∈ ss)
def noG (ss : List Int) (g : List α) : List α := g.filter fun x => !decide (st x ∈ ss)
def ptG (ss : List Int) (g : List α) : Bool := !(yesG st ss g).isEmpty && !(noG st ss g).isEmpty
def ndF (cap : Nat) (ps : List (List Int)) : Nat → List α → Nat
  | 0, g => if stl fa g = true then 0 else cap
  | k + 1, g => if stl fa g = true then 0 else ps.foldl (fun b ss => if ptG st ss g = true then min b (1 + max (ndF cap ps k (yesG st ss g)) (ndF cap ps k (noG st ss g))) else b) cap
/-- with as many levels as the group has members -/
def nd (cap : Nat) (ps : List (List Int)) (g : List α) : Nat := ndF st fa cap ps g.length g
variable {st fa}
theorem part_len {ss : List Int} {g : List α} : (yesG st ss g).length + (noG st ss g).length = g.length := by
  unfold yesG noG
  induction g with
  | nil => rfl
  | cons x r ih =>
    rw [List.filter_cons, List.filter_cons]
    by_cases c : st x ∈ ss
    · rw [if_pos (by simp [c]), if_neg (by simp [c]), List.length_cons, List.length_cons]; omega
    · rw [if_neg (by simp [c]), if_pos (by simp [c]), List.length_cons, List.length_cons]; omega
theorem pt_len {ss : List Int} {g : List α} (h : ptG st ss g = true) : 1 ≤ (yesG st ss g).length ∧ 1 ≤ (noG st ss g).length := by
  unfold ptG at h
  rw [Bool.and_eq_true] at h
  obtain ⟨a, b⟩ := h
  constructor
  · cases e : yesG st ss g with
    | nil => rw [e] at a; cases a
    | cons x r => exact Nat.succ_le_succ (Nat.zero_le _)
  · cases e : noG st ss g with
    | nil => rw [e] at b; cases b
    | cons x r => exact Nat.succ_le_succ (Nat.zero_le _)
theorem pt_lt {ss : List Int} {g : List α} (h : ptG st ss g = true) : (yesG st ss g).length < g.length ∧ (noG st ss g).length < g.length := by
  have a := pt_len h
  have b := part_len (st := st) (ss := ss) (g := g)
  omega
theorem stl_short {g : List α} (h : g.length ≤ 1) : stl fa g = true := by
  match g, h with
  | [], _ => rfl
  | [x], _ => simp [stl]
theorem fold_same {β : Type} {f g : Nat → β → Nat} : ∀ (l : List β), (∀ x ∈ l, ∀ b, f b x = g b x) → ∀ b, l.foldl f b = l.foldl g b
  | [], _, _ => rfl
  | x :: l, h, b => by
    rw [List.foldl_cons, List.foldl_cons, h x List.mem_cons_self b]
    exact fold_same l (fun y hy => h y (List.mem_cons_of_mem _ hy)) _
theorem ndF_fuel {cap : Nat} {ps : List (List Int)} : ∀ (k j : Nat) (g : List α), g.length ≤ k → g.length ≤ j → ndF st fa cap ps k g = ndF st fa cap ps j g := by
  intro k
  induction k with
  | zero =>
    intro j g hk hj
    have z : stl fa g = true := stl_short (by omega)
    cases j with
    | zero => rfl
    | succ j => unfold ndF; rw [if_pos z, if_pos z]
  | succ k ih =>
    intro j g hk hj
    cases j with
    | zero =>
      have z : stl fa g = true := stl_short (by omega)
      unfold ndF; rw [if_pos z, if_pos z]
    | succ j =>
      unfold ndF
      by_cases z : stl fa g = true
      · rw [if_pos z, if_pos z]
      · rw [if_neg z, if_neg z]
        refine fold_same ps (fun ss _ b => ?_) _
        by_cases c : ptG st ss g = true
        · obtain ⟨a, b⟩ := pt_lt c
          rw [if_pos c, if_pos c, ih j _ (by omega) (by omega), ih j _ (by omega) (by omega)]
        · rw [if_neg c, if_neg c]
theorem nd_eq {cap : Nat} {ps : List (List Int)} {g : List α} : nd st fa cap ps g = if stl fa g = true then 0 else ps.foldl (fun b ss => if ptG st ss g = true then min b (1 + max (nd st fa cap ps (yesG st ss g)) (nd st fa cap ps (noG st ss g))) else b) cap := by
  have e : nd st fa cap ps g = ndF st fa cap ps (g.length + 1) g := ndF_fuel _ _ _ (Nat.le_refl _) (Nat.le_succ _)
  rw [e]
  conv => lhs; unfold ndF
  by_cases z : stl fa g = true
  · rw [if_pos z, if_pos z]
  · rw [if_neg z, if_neg z]
    refine fold_same ps (fun ss _ b => ?_) _
    by_cases c : ptG st ss g = true
    · obtain ⟨a, b⟩ := pt_lt c
      rw [if_pos c, if_pos c]
      unfold nd
      rw [ndF_fuel g.length _ _ (Nat.le_of_lt a) (Nat.le_refl _), ndF_fuel g.length _ (noG st ss g) (Nat.le_of_lt b) (Nat.le_refl _)]
    · rw [if_neg c, if_neg c]
/-! the order of the members and of the probes says nothing -/
theorem stl_perm {g g' : List α} (h : g.Perm g') : stl fa g = stl fa g' := by
  unfold stl
  have e : ∀ x, (g.all fun y => decide (fa x = fa y)) = (g'.all fun y => decide (fa x = fa y)) := fun x => h.all_eq
  simp only [e]
  exact h.all_eq
theorem ptG_perm {ss : List Int} {g g' : List α} (h : g.Perm g') : ptG st ss g = ptG st ss g' := by
  unfold ptG
  have a : (yesG st ss g).Perm (yesG st ss g') := h.filter _
  have b : (noG st ss g).Perm (noG st ss g') := h.filter _
  rw [a.isEmpty_eq, b.isEmpty_eq]
theorem nd_perm {cap : Nat} {ps ps' : List (List Int)} (hp : ps.Perm ps') : ∀ (k : Nat) (g g' : List α), g.length ≤ k → g.Perm g' → nd st fa cap ps g = nd st fa cap ps' g' := by
  intro k
  induction k with
  | zero =>
    intro g g' hk h
    rw [nd_eq, nd_eq, if_pos (stl_short (by omega)), if_pos (stl_short (by have := h.length_eq; omega))]
  | succ k ih =>
    intro g g' hk h
    rw [nd_eq, nd_eq, stl_perm h]
    by_cases z : stl fa g' = true
    · rw [if_pos z, if_pos z]
    · rw [if_neg z, if_neg z]
      have e : ∀ ss b, (if ptG st ss g = true then min b (1 + max (nd st fa cap ps (yesG st ss g)) (nd st fa cap ps (noG st ss g))) else b) = if ptG st ss g' = true then min b (1 + max (nd st fa cap ps' (yesG st ss g')) (nd st fa cap ps' (noG st ss g'))) else b := fun ss b => by
        rw [← ptG_perm h]
        by_cases c : ptG st ss g = true
        · obtain ⟨a, b⟩ := pt_lt c
          rw [if_pos c, if_pos c, ih (yesG st ss g) (yesG st ss g') (by omega) (h.filter _), ih (noG st ss g) (noG st ss g') (by omega) (h.filter _)]
        · rw [if_neg c, if_neg c]
      rw [fold_same ps (fun ss _ b => e ss b) cap]
      refine List.Perm.foldl_eq' hp (fun x _ y _ b => ?_) cap
      by_cases c1 : ptG st x g' = true <;> by_cases c2 : ptG st y g' = true <;> simp only [c1, c2, if_true, if_false, Bool.false_eq_true] <;> omega
/-! the law's numbers and the program's -/
def Rel2 (k a b : Nat) : Prop := (a = b ∧ a ≤ k) ∨ (a = 99 ∧ b = 1000)
theorem nd_rel {ps : List (List Int)} : ∀ (k : Nat) (g : List α), g.length ≤ k → k ≤ 20 → Rel2 g.length (nd st fa 99 ps g) (nd st fa 1000 ps g) := by
  intro k
  induction k with
  | zero =>
    intro g hk _
    rw [nd_eq, nd_eq, if_pos (stl_short (by omega)), if_pos (stl_short (by omega))]
    exact .inl ⟨rfl, Nat.zero_le _⟩
  | succ k ih =>
    intro g hk h20
    rw [nd_eq (cap := 99), nd_eq (cap := 1000)]
    by_cases z : stl fa g = true
    · rw [if_pos z, if_pos z]
      exact .inl ⟨rfl, Nat.zero_le _⟩
    · rw [if_neg z, if_neg z]
      have go : ∀ (l : List (List Int)) (a b : Nat), Rel2 g.length a b → Rel2 g.length
          (l.foldl (fun b ss => if ptG st ss g = true then min b (1 + max (nd st fa 99 ps (yesG st ss g)) (nd st fa 99 ps (noG st ss g))) else b) a)
          (l.foldl (fun b ss => if ptG st ss g = true then min b (1 + max (nd st fa 1000 ps (yesG st ss g)) (nd st fa 1000 ps (noG st ss g))) else b) b) := by
        intro l
        induction l with
        | nil => exact fun a b h => h
        | cons ss l il =>
          intro a b h
          rw [List.foldl_cons, List.foldl_cons]
          refine il _ _ ?_
          by_cases c : ptG st ss g = true
          · obtain ⟨y, n⟩ := pt_lt c
            have a1 := ih (yesG st ss g) (by omega) (by omega)
            have a2 := ih (noG st ss g) (by omega) (by omega)
            rw [if_pos c, if_pos c]
            generalize nd st fa 99 ps (yesG st ss g) = u at a1 ⊢
            generalize nd st fa 1000 ps (yesG st ss g) = u' at a1 ⊢
            generalize nd st fa 99 ps (noG st ss g) = v at a2 ⊢
            generalize nd st fa 1000 ps (noG st ss g) = v' at a2 ⊢
            unfold Rel2 at *
            omega
          · rw [if_neg c, if_neg c]; exact h
      exact go ps 99 1000 (.inr ⟨rfl, rfl⟩)
theorem nd_le {cap : Nat} {ps : List (List Int)} {g : List α} : nd st fa cap ps g ≤ cap := by
  rw [nd_eq]
  by_cases z : stl fa g = true
  · rw [if_pos z]; exact Nat.zero_le _
  · rw [if_neg z]
    have go : ∀ (l : List (List Int)) (a : Nat), a ≤ cap → l.foldl (fun b ss => if ptG st ss g = true then min b (1 + max (nd st fa cap ps (yesG st ss g)) (nd st fa cap ps (noG st ss g))) else b) a ≤ cap := by
      intro l
      induction l with
      | nil => exact fun a h => h
      | cons ss l il =>
        intro a h
        rw [List.foldl_cons]
        refine il _ ?_
        by_cases c : ptG st ss g = true
        · rw [if_pos c]; omega
        · rw [if_neg c]; exact h
    exact go ps cap (Nat.le_refl _)
/-! ### sets as numbers -/
def selk (m : Nat) : Nat → List α → List α
  | _, [] => []
  | k, x :: r => if m.testBit k = true then x :: selk m (k + 1) r else selk m (k + 1) r
abbrev sel (m : Nat) (ys : List α) : List α := selk m 0 ys
theorem selk_snoc (m : Nat) (x : α) : ∀ (ys : List α) (k : Nat), selk m k (ys ++ [x]) = selk m k ys ++ if m.testBit (k + ys.length) = true then [x] else []
  | [], k => by
    show (if m.testBit k = true then x :: [] else []) = [] ++ if m.testBit (k + 0) = true then [x] else []
    rw [Nat.add_zero]; rfl
  | y :: ys, k => by
    have ih := selk_snoc m x ys (k + 1)
    have e : k + 1 + ys.length = k + (y :: ys).length := by rw [List.length_cons]; omega
    rw [e] at ih
    show (if m.testBit k = true then y :: selk m (k + 1) (ys ++ [x]) else selk m (k + 1) (ys ++ [x])) = (if m.testBit k = true then y :: selk m (k + 1) ys else selk m (k + 1) ys) ++ _
    rw [ih]
    by_cases c : m.testBit k = true
    · rw [if_pos c, if_pos c]; rfl
    · rw [if_neg c, if_neg c]
theorem selk_filter {m m' : Nat} {p : α → Bool} : ∀ (ys : List α) (k : Nat), (∀ i x, ys[i]? = some x → m'.testBit (k + i) = (m.testBit (k + i) && p x)) → selk m' k ys = (selk m k ys).filter p
  | [], _, _ => rfl
  | y :: ys, k, h => by
    have h0 := h 0 y rfl
    rw [Nat.add_zero] at h0
    have ih := selk_filter (m := m) (m' := m') (p := p) ys (k + 1) fun i x hx => by
      have := h (i + 1) x hx
      rw [show k + (i + 1) = k + 1 + i by omega] at this
      exact this
    show (if m'.testBit k = true then y :: selk m' (k + 1) ys else selk m' (k + 1) ys) = (if m.testBit k = true then y :: selk m (k + 1) ys else selk m (k + 1) ys).filter p
    rw [h0, ih]
    cases c : m.testBit k <;> cases d : p y <;> simp [d]
theorem selk_len (m : Nat) : ∀ (ys : List α) (k : Nat), (selk m k ys).length ≤ ys.length
  | [], _ => Nat.le_refl _
  | y :: ys, k => by
    have ih := selk_len m ys (k + 1)
    show (if m.testBit k = true then y :: selk m (k + 1) ys else selk m (k + 1) ys).length ≤ ys.length + 1
    by_cases c : m.testBit k = true
    · rw [if_pos c, List.length_cons]; omega
    · rw [if_neg c]; omega
theorem selk_mem {m : Nat} {x : α} : ∀ {ys : List α} {k : Nat}, x ∈ selk m k ys → x ∈ ys
  | [], _, h => h
  | y :: ys, k, h => by
    have h' : x ∈ (if m.testBit k = true then y :: selk m (k + 1) ys else selk m (k + 1) ys) := h
    by_cases c : m.testBit k = true
    · rw [if_pos c] at h'
      rcases List.mem_cons.mp h' with e | e
      · rw [e]; exact List.mem_cons_self
      · exact List.mem_cons_of_mem _ (selk_mem e)
    · rw [if_neg c] at h'
      exact List.mem_cons_of_mem _ (selk_mem h')
theorem selk_nil {m : Nat} : ∀ {ys : List α} {k : Nat}, selk m k ys = [] → ∀ i, i < ys.length → m.testBit (k + i) = false
  | [], _, _, i, hi => absurd hi (Nat.not_lt_zero _)
  | y :: ys, k, h, i, hi => by
    have h' : (if m.testBit k = true then y :: selk m (k + 1) ys else selk m (k + 1) ys) = [] := h
    by_cases c : m.testBit k = true
    · rw [if_pos c] at h'; cases h'
    · rw [if_neg c] at h'
      cases i with
      | zero => exact Bool.eq_false_iff.mpr c
      | succ i =>
        have := selk_nil h' i (Nat.lt_of_succ_lt_succ hi)
        rwa [show k + 1 + i = k + (i + 1) by omega] at this
theorem sel_zero {m : Nat} {ys : List α} (lt : m < 2 ^ ys.length) : m = 0 ↔ sel m ys = [] := by
  constructor
  · rintro rfl
    have : ∀ (ys : List α) (k : Nat), selk 0 k ys = [] := by
      intro ys
      induction ys with
      | nil => exact fun _ => rfl
      | cons y ys ih =>
        intro k
        show (if (0 : Nat).testBit k = true then y :: selk 0 (k + 1) ys else selk 0 (k + 1) ys) = []
        rw [if_neg (by simp), ih]
    exact this ys 0
  · intro h
    refine Nat.eq_of_testBit_eq fun i => ?_
    rw [Nat.zero_testBit]
    by_cases c : i < ys.length
    · have := selk_nil h i c
      rwa [Nat.zero_add] at this
    · exact Nat.testBit_lt_two_pow (Nat.lt_of_lt_of_le lt (Nat.pow_le_pow_right (by decide) (by omega)))
theorem selk_whole : ∀ (ys : List α) (k n : Nat), k + ys.length ≤ n → selk (2 ^ n - 1) k ys = ys
  | [], _, _, _ => rfl
  | y :: ys, k, n, h => by
    rw [List.length_cons] at h
    show (if (2 ^ n - 1).testBit k = true then y :: selk (2 ^ n - 1) (k + 1) ys else selk (2 ^ n - 1) (k + 1) ys) = y :: ys
    rw [Nat.testBit_two_pow_sub_one, if_pos (by simp; omega), selk_whole ys (k + 1) n (by omega)]
end

end Kn

set_option Elab.async false
set_option linter.all false
set_option maxRecDepth 100000
set_option maxHeartbeats 4000000
namespace Kn
open PySem PySem.Spec PyProof.Rows L2
open C8 (Cal pe_c pe_gc Mak pe_mk)
section
variable {P : Program} {w : World} {K : PySem.W.Frag} {mg : Str → Option Value} {base : Heap}
theorem inV_ints {x : Int} {ws : List Int} : inV (.int x) (ws.map V.int) = decide (x ∈ ws) := by
  unfold inV
  induction ws with
  | nil => rfl
  | cons y r ih =>
    rw [List.map_cons, List.any_cons, ih]
    have e : eqV (.int y) (.int x) = decide (y = x) := by
      show (y == x) = decide (y = x)
      by_cases z : y = x
      · rw [z]; simp
      · rw [decide_eq_false z]; exact beq_eq_false_iff_ne.mpr z
    rw [e]
    by_cases z : y = x
    · subst z; simp
    · have z' : ¬ x = y := fun q => z q.symm
      simp [z, z']
theorem flat_is (ws : List Int) : (ws.map V.int).all flatV = true := by
  rw [List.all_map]
  exact List.all_eq_true.mpr fun _ _ => rfl

/-! ### the object -/
abbrev Yes := Str × Nat × List Int
structure AEnv where
  c : Addr
  pl : Addr
  y : Addr
  n : Addr
  dx : Addr
  ys : List V
  ms : List Yes
  st : V → Int
  fa : V → List Str
def aflds (c pl y n : Addr) (wh : Int) : List (Str × V) := putF "needs" (.ref n) (putF "yes" (.ref y) (putF "whole" (.int wh) (putF "places" (.ref pl) (putF "candidates" (.ref c) []))))
theorem af_c (c pl y n : Addr) (wh : Int) : (aflds c pl y n wh).lookup ("candidates" : Str) = some (.ref c) := by
  unfold aflds; simp only [lookup_putF]; rw [if_neg (by decide +kernel), if_neg (by decide +kernel), if_neg (by decide +kernel), if_neg (by decide +kernel), if_pos True.intro]
theorem af_p (c pl y n : Addr) (wh : Int) : (aflds c pl y n wh).lookup ("places" : Str) = some (.ref pl) := by
  unfold aflds; simp only [lookup_putF]; rw [if_neg (by decide +kernel), if_neg (by decide +kernel), if_neg (by decide +kernel), if_pos True.intro]
theorem af_w (c pl y n : Addr) (wh : Int) : (aflds c pl y n wh).lookup ("whole" : Str) = some (.int wh) := by
  unfold aflds; simp only [lookup_putF]; rw [if_neg (by decide +kernel), if_neg (by decide +kernel), if_pos True.intro]
theorem af_y (c pl y n : Addr) (wh : Int) : (aflds c pl y n wh).lookup ("yes" : Str) = some (.ref y) := by
  unfold aflds; simp only [lookup_putF]; rw [if_neg (by decide +kernel), if_pos True.intro]
theorem af_n (c pl y n : Addr) (wh : Int) : (aflds c pl y n wh).lookup ("needs" : Str) = some (.ref n) := by
  unfold aflds; simp only [lookup_putF]; rw [if_pos True.intro]
theorem af_none (c pl y n : Addr) (wh : Int) {x : Str} (h1 : x ≠ "candidates") (h2 : x ≠ "places") (h3 : x ≠ "whole") (h4 : x ≠ "yes") (h5 : x ≠ "needs") : (aflds c pl y n wh).lookup x = none := by
  unfold aflds; simp only [lookup_putF]; rw [if_neg h5, if_neg h4, if_neg h3, if_neg h2, if_neg h1]; rfl
def YesOf (st : V → Int) (ys : List V) (y : Nat) (ss : List Int) : Prop := ∀ i x, ys[i]? = some x → y.testBit i = decide (st x ∈ ss)
def ykv (ms : List Yes) : List (Key × V) := ms.map fun p => (Sum.inr p.1, V.int (p.2.1 : Int))
/-- all of it but the dict of needs -/
structure AskO (C : Addr) (H : Hp) (a : Addr) (e : AEnv) : Prop where
  ob : H a = some (.ins C e.dx (aflds e.c e.pl e.y e.n ((2 ^ e.ys.length - 1 : Nat) : Int)))
  hc : H e.c = some (.lst e.ys)
  hy : H e.y = some (.dK (ykv e.ms))
  rw : Rows H e.ys e.st e.fa
  yn : e.y ≠ e.n
/-- the same, its dict of answers locked or not -/
structure AskF (C : Addr) (H : Hp) (a : Addr) (e : AEnv) : Prop where
  ob : H a = some (.ins C e.dx (aflds e.c e.pl e.y e.n ((2 ^ e.ys.length - 1 : Nat) : Int)))
  hc : H e.c = some (.lst e.ys)
  hy : H e.y = some (.dK (ykv e.ms)) ∨ ∃ o, H e.y = some (.frz o (.dK (ykv e.ms)))
  rw : Rows H e.ys e.st e.fa
  yn : e.y ≠ e.n
theorem AskO.f {C : Addr} {H : Hp} {a : Addr} {e : AEnv} (h : AskO C H a e) : AskF C H a e := ⟨h.ob, h.hc, .inl h.hy, h.rw, h.yn⟩
structure GoodA (e : AEnv) : Prop where
  few : e.ys.length ≤ 10
  lm : e.ms.length ≤ 6
  nd : (e.ms.map (·.1)).Nodup
  ok : ∀ p ∈ e.ms, YesOf e.st e.ys p.2.1 p.2.2
def lists (ms : List Yes) : List (List Int) := ms.map (·.2.2)
def needOf (e : AEnv) (m : Nat) : Nat := nd e.st e.fa 1000 (lists e.ms) (sel m e.ys)
structure MemoAt (H : Hp) (e : AEnv) (kvs : List (Key × V)) : Prop where
  at_ : H e.n = some (.dK kvs)
  ok : ∀ (m : Nat) v, m < 2 ^ e.ys.length → valV kvs (.inl (m : Int)) = some v → v = .int (needOf e m)
  ks : ∀ k ∈ kvs.map (·.1), ∃ m : Nat, k = .inl (m : Int) ∧ m < 2 ^ e.ys.length
  nd : (kvs.map (·.1)).Nodup
def Memo (H : Hp) (e : AEnv) : Prop := ∃ kvs, MemoAt H e kvs
theorem AskO.mono {C : Addr} {H H' : Hp} {a : Addr} {e : AEnv} (h : AskO C H a e) (s : Same H H') : AskO C H' a e := ⟨s _ _ h.ob, s _ _ h.hc, s _ _ h.hy, h.rw.mono s, h.yn⟩
theorem Memo.mono {H H' : Hp} {e : AEnv} (h : Memo H e) (s : Same H H') : Memo H' e := let ⟨kvs, m⟩ := h; ⟨kvs, s _ _ m.at_, m.ok, m.ks, m.nd⟩
theorem sel_and {st : V → Int} {ys : List V} {y m : Nat} {ss : List Int} (h : YesOf st ys y ss) : sel (m &&& y) ys = yesG st ss (sel m ys) :=
  selk_filter (m := m) (m' := m &&& y) (p := fun x => decide (st x ∈ ss)) ys 0 fun i x hx => by rw [Nat.zero_add, Nat.testBit_and, h i x hx]
theorem sel_diff {st : V → Int} {ys : List V} {y m : Nat} {ss : List Int} (h : YesOf st ys y ss) : sel (m - (m &&& y)) ys = noG st ss (sel m ys) :=
  selk_filter (m := m) (m' := m - (m &&& y)) (p := fun x => !decide (st x ∈ ss)) ys 0 fun i x hx => by rw [Nat.zero_add, (KnA.sub_test m y).2, h i x hx]
theorem pt_num {st : V → Int} {ys : List V} {y m : Nat} {ss : List Int} (h : YesOf st ys y ss) (lt : m < 2 ^ ys.length) : (decide (m &&& y ≠ 0) && decide (m &&& y ≠ m)) = ptG st ss (sel m ys) := by
  have le := (KnA.sub_test m y).1
  have z1 := sel_zero (m := m &&& y) (ys := ys) (Nat.lt_of_le_of_lt le lt)
  have z2 := sel_zero (m := m - (m &&& y)) (ys := ys) (Nat.lt_of_le_of_lt (Nat.sub_le _ _) lt)
  rw [sel_and h] at z1
  rw [sel_diff h] at z2
  unfold ptG
  congr 1
  · cases e : yesG st ss (sel m ys) with
    | nil => rw [z1.mpr e]; rfl
    | cons x r => exact decide_eq_true fun q => by rw [z1.mp q] at e; cases e
  · cases e : noG st ss (sel m ys) with
    | nil => have := z2.mpr e; exact decide_eq_false fun q => q (by omega)
    | cons x r => exact decide_eq_true fun q => by rw [z2.mp (by omega)] at e; cases e
/-! ### its methods -/
theorem bit_test (m i : Nat) : (Builtin.bitAnd (m : Int) (1 * 2 ^ ((i : Nat) : Int).toNat) = 0) ↔ ¬ m.testBit i = true := by
  rw [Int.one_mul, Int.toNat_natCast, PySem.W.kbt_bit, Nat.testBit_eq_decide_div_mod_eq, decide_eq_true_eq]
  have e : (m : Int) / 2 ^ i % 2 = ((m / 2 ^ i % 2 : Nat) : Int) := by
    rw [show ((2 : Int) ^ i) = ((2 ^ i : Nat) : Int) from by push_cast; rfl]; rfl
  rw [e]
  have p : (0 : Int) < 2 ^ i := Int.pow_pos (by decide)
  rcases Nat.mod_two_eq_zero_or_one (m / 2 ^ i) with c | c
  · rw [c]; simp
  · rw [c]; simp; omega
def sp_Asks_candidates_in (_ : PySem.W.Frag) (C : Addr) : Sp := fun vs H Q _ => ∃ (a : Addr) (e : AEnv) (m : Nat), vs = [.ref a, .int (m : Int)] ∧ AskF C H a e ∧ GoodA e ∧ ∀ H' t, Same H H' → H' t = some (.tup (sel m e.ys)) → Q (.ref t) H'
theorem ok_Asks_candidates_in {f : Addr} {C : Addr} {fd : FuncData} (T : Txt K mg C) (F : Fun K "candidates_in" "Asks.candidates_in" s_Asks_candidates_in f fd)  : FnOk P w K mg base CX0 1 f fd ["self", "chosen"] (sp_Asks_candidates_in K C) := by
  have nd := sc_Asks_candidates_in.nd
  refine F.ok sc_Asks_candidates_in (fun vs H Q E h => ?_) (fun cdv A outer s H vs Q E hr h => ?_)
  · obtain ⟨a, e, m, rfl, _⟩ := h
    rfl
  · obtain ⟨a, e, m, rfl, o, g, q⟩ := h
    refine ⟨_, (pss_one (ps_ret (pe_callTy call_tuple_of (by rfl) T.m_tuple (by decide +kernel) (pa_cons (pe_lc (own := [("place", 2), ("candidate", 3)]) (g := gTup K 2 (gCons (gName 2) (gCons (gName 3) gNil))) rfl nd (KnE.pi_en (by rfl) T.m_enumerate (pa_cons (pe_fld (pv 0) rfl) pa_nil)) (blkOk_by (N := ["self", "chosen", "place", "candidate"]) (sc := defScope s_Asks_candidates_in) (by decide +kernel)) (fun _ _ _ _ _ => (pg_tup (by rfl) (pgs_cons (pg_name (i := 2) nd rfl (.inl rfl)) (pgs_cons (pg_name (i := 3) nd rfl (.inl rfl)) pgs_nil)))) (fun _ _ _ _ _ => (pts_one (pt_cmpR op_ne (pe_op op_and (pv 1) (pe_op op_shl pe_int (pv 2))) pe_int (nomark _)))) (fun _ _ _ _ _ => (pv 3))) pa_nil)))), ?_⟩
    have few := g.few
    refine ⟨.ref a, rfl, a, C, _, _, _, rfl, o.ob, T.cl_Asks, T.n_candidates, af_c _ _ _ _ _, ?_⟩
    refine ⟨e.c, true, e.ys, rfl, .inl (.inl o.hc), fun D nD => KnA.turns e.ys.length (fun i G => Same H G ∧ G D = some (.lst (sel m (e.ys.take i)))) ⟨same_upd nD, upd_same⟩ (fun G hP => ⟨_, .inl (.inl (hP.1 _ _ o.hc)), rfl⟩) (fun i G hi hP => ⟨_, _, .inl (.inl (hP.1 _ _ o.hc)), List.getElem?_eq_getElem hi⟩) (fun i x G G' hi hP hy => ?_) (fun G hP => ?_)⟩
    · obtain ⟨S, eD⟩ := hP
      obtain ⟨T0, x, rfl, nT, rfl, hx⟩ := hy
      have hx := hx _ (.inl (.inl (S _ _ o.hc)))
      have sT := same_upd (o := .tup [.int (i : Nat), x]) nT
      refine ⟨T0, _, rfl, .inl (.inl upd_same), rfl, .int (i : Nat), _, rfl, x, [], rfl, rfl, rfl, ?_⟩
      have S2 := S.trans sT
      have eD2 := sT _ _ eD
      generalize upd G T0 (.tup [.int (i : Nat), x]) = G2 at S2 eD2 ⊢
      refine ⟨.int (m : Int), rfl, .int (i : Nat), rfl, 1, (i : Int), rfl, rfl, ⟨by omega, by omega, by decide⟩, (m : Int), _, rfl, rfl, rfl, _, rfl, ?_⟩
      have tk : sel m (e.ys.take (i + 1)) = sel m (e.ys.take i) ++ if m.testBit i = true then [x] else [] := by
        rw [take_more hx]
        have := selk_snoc m x (e.ys.take i) 0
        rw [Nat.zero_add, List.length_take, Nat.min_eq_left (by omega)] at this
        exact this
      by_cases c : m.testBit i = true
      · rw [if_pos c] at tk
        have ne : ¬ V.int (Builtin.bitAnd (m : Int) (1 * 2 ^ ((i : Nat) : Int).toNat)) = V.int 0 := fun z => (bit_test m i).mp (V.int.inj z) c
        rw [decide_eq_false ne]
        refine iteT ⟨x, rfl, _, eD2, small (by have l1 : (sel m (e.ys.take i)).length ≤ (e.ys.take i).length := selk_len m _ 0; rw [List.length_take] at l1; omega), same_set nD S2, ?_⟩
        rw [upd_same, tk]
      · rw [if_neg c, List.append_nil] at tk
        have eq : V.int (Builtin.bitAnd (m : Int) (1 * 2 ^ ((i : Nat) : Int).toNat)) = V.int 0 := congrArg V.int ((bit_test m i).mpr c)
        rw [decide_eq_true eq]
        exact iteF ⟨S2, by rw [tk]; exact eD2⟩
    · obtain ⟨S, eD⟩ := hP
      rw [List.take_length] at eD
      exact ⟨D, _, rfl, .inl ⟨.inl (.inl eD), fun l nl => q _ l (S.trans (same_upd nl)) upd_same⟩⟩
/-! #### settled -/
abbrev fk (zs : List Str) : List Key := zs.map Sum.inr
theorem fk_inj {xs ys : List Str} (h : fk xs = fk ys) : xs = ys := by
  induction xs generalizing ys with
  | nil => cases ys with
    | nil => rfl
    | cons y ys => cases h
  | cons x xs ih => cases ys with
    | nil => cases h
    | cons y ys =>
      obtain ⟨a, b⟩ := List.cons.inj h
      rw [Sum.inr.inj a, ih b]
theorem fk_kV (zs : List Str) : (fk zs).map kV = zs.map V.str := by rw [List.map_map]; rfl
theorem stl_set {fa : V → List Str} {g : List V} {ks : List (List Key)} (nd : ks.Nodup) (h : ∀ k, k ∈ ks ↔ k ∈ g.map fun x => fk (fa x)) : decide ((ks.length : Int) ≤ 1) = stl fa g := by
  unfold stl
  by_cases c : ks.length ≤ 1
  · rw [decide_eq_true (show (ks.length : Int) ≤ 1 by omega)]
    symm
    refine List.all_eq_true.mpr fun x hx => List.all_eq_true.mpr fun y hy => decide_eq_true ?_
    have a := (h _).mpr (List.mem_map.mpr ⟨x, hx, rfl⟩)
    have b := (h _).mpr (List.mem_map.mpr ⟨y, hy, rfl⟩)
    match ks, c, a, b with
    | [k], _, a, b => exact fk_inj ((List.mem_singleton.mp a).trans (List.mem_singleton.mp b).symm)
  · rw [decide_eq_false (show ¬ (ks.length : Int) ≤ 1 by omega)]
    symm
    match ks, nd, c, h with
    | k1 :: k2 :: ks, nd, _, h =>
      obtain ⟨x, hx, ex⟩ := List.mem_map.mp ((h k1).mp List.mem_cons_self)
      obtain ⟨y, hy, ey⟩ := List.mem_map.mp ((h k2).mp (List.mem_cons_of_mem _ List.mem_cons_self))
      refine Bool.eq_false_iff.mpr fun z => ?_
      have z1 := List.all_eq_true.mp z x hx
      have z2 := of_decide_eq_true (List.all_eq_true.mp z1 y hy)
      rw [z2] at ex
      have e : k1 = k2 := ex.symm.trans ey
      exact (List.nodup_cons.mp nd).1 (e ▸ List.mem_cons_self)
    | [], _, c, _ => exact absurd (Nat.zero_le _) c
    | [k], _, c, _ => exact absurd (Nat.le_refl _) c
def sp_Asks_is_settled (_ : PySem.W.Frag) (C : Addr) : Sp := fun vs H Q _ => ∃ (a : Addr) (e : AEnv) (m : Nat), vs = [.ref a, .int (m : Int)] ∧ AskF C H a e ∧ GoodA e ∧ ∀ H', Same H H' → Q (.bl (stl e.fa (sel m e.ys))) H'
theorem ok_Asks_is_settled {f : Addr} {C : Addr} {fd : FuncData} (T : Txt K mg C) (F : Fun K "is_settled" "Asks.is_settled" s_Asks_is_settled f fd) (c_Asks_candidates_in : C8.Met P w K mg base 1 C "candidates_in" (sp_Asks_candidates_in K C) []) : FnOk P w K mg base CX0 3 f fd ["self", "chosen"] (sp_Asks_is_settled K C) := by
  have nd := sc_Asks_is_settled.nd
  refine F.ok sc_Asks_is_settled (fun vs H Q E h => ?_) (fun cdv A outer s H vs Q E hr h => ?_)
  · obtain ⟨a, e, m, rfl, _⟩ := h
    rfl
  · obtain ⟨a, e, m, rfl, o, g, q⟩ := h
    refine ⟨_, (pss_one (ps_ret (pe_cmpR op_le (pe_callB KnZ.cr_lenT (by rfl) T.m_len (by decide +kernel) (pa_cons (KnZ.scT (own := [("state", 2), ("faults", 3)]) (g := gTup K 2 (gCons (gName 2) (gCons (gName 3) gNil))) (tt := tYes) (KnC.un65 hr) rfl nd (pi_tup (C8.pe_mt c_Asks_candidates_in hr (by omega) (pv 0) (pa_cons (pv 1) pa_nil))) (blkOk_by (own := [("state", 2), ("faults", 3)]) (N := ["self", "chosen", "state", "faults"]) (sc := defScope s_Asks_is_settled) (by decide +kernel)) (fun _ _ _ _ _ => (pg_tup (by rfl) (pgs_cons (pg_name (i := 2) nd rfl (.inl rfl)) (pgs_cons (pg_name (i := 3) nd rfl (.inl rfl)) pgs_nil)))) (fun _ _ _ _ _ => pts_nil) (fun _ _ _ _ _ => (pv 3))) pa_nil)) pe_int (nomark _)))), ?_⟩
    have few := g.few
    have lsel : (sel m e.ys).length ≤ e.ys.length := selk_len m e.ys 0
    refine ⟨.ref a, rfl, a, _, _, rfl, o.ob, af_none _ _ _ _ _ (by decide +kernel) (by decide +kernel) (by decide +kernel) (by decide +kernel) (by decide +kernel), .int (m : Int), rfl, a, e, m, rfl, o, g, fun H1 t s1 et => ⟨t, rfl, ⟨_, .inl (.inl et)⟩, fun D nD => ?_⟩⟩
    have R := o.rw.mono s1
    have mem : ∀ {i : Nat} {x : V}, (sel m e.ys)[i]? = some x → x ∈ e.ys := fun h => selk_mem (List.mem_of_getElem? h)
    refine KnA.turns (sel m e.ys).length (fun i G => Same H1 G ∧ ∃ M : List (KnZ.Row Key), KnZ.TupsAt P w G D M ∧ M.length ≤ i ∧ (M.map (·.2)).Nodup ∧ ∀ k, k ∈ M.map (·.2) ↔ k ∈ ((sel m e.ys).take i).map fun x => fk (e.fa x))
      ⟨same_upd nD, [], ⟨upd_same, fun p hp => nomatch hp⟩, Nat.le_refl _, List.nodup_nil, fun k => Iff.rfl⟩ (fun G hP => ⟨_, .inl (.inl (hP.1 _ _ et)), Nat.le_refl _⟩) (fun i G hi hP => ⟨_, _, .inl (.inl (hP.1 _ _ et)), List.getElem?_eq_getElem hi⟩) (fun i x G G' hi hP hy => ?_) (fun G hP => ?_)
    · obtain ⟨S, M, tM, lM, ndM, kM⟩ := hP
      obtain ⟨rfl, hx⟩ := hy
      have hx := hx _ (.inl (.inl (S _ _ et)))
      obtain ⟨t0, f0, rfl, h1, h2⟩ := (R _ (mem hx)).1
      refine ⟨t0, _, rfl, .inl (.inl (S _ _ h1)), rfl, .int _, _, rfl, .ref f0, [], rfl, rfl, rfl, ?_⟩
      unfold tYes
      refine iteT ⟨.ref f0, rfl, f0, fk (e.fa (.ref t0)), M, rfl, tM, by rw [fk_kV]; exact S _ _ h2, by omega, fun M' c1 c2 tM' => ⟨same_set nD S, M', tM', ?_, ?_, ?_⟩⟩
      · rcases Classical.em (fk (e.fa (.ref t0)) ∈ M.map (·.2)) with c | c
        · rw [c1 c]; omega
        · rw [(c2 c).length_eq, List.length_cons]; omega
      · rcases Classical.em (fk (e.fa (.ref t0)) ∈ M.map (·.2)) with c | c
        · rw [c1 c]; exact ndM
        · exact ((c2 c).map (·.2)).nodup_iff.mpr (by rw [List.map_cons]; exact List.nodup_cons.mpr ⟨c, ndM⟩)
      · intro k
        rw [take_more hx, List.map_append, List.mem_append, ← kM k]
        rcases Classical.em (fk (e.fa (.ref t0)) ∈ M.map (·.2)) with c | c
        · rw [c1 c]
          exact ⟨.inl, fun z => z.elim id fun z => by rw [List.mem_singleton.mp z]; exact c⟩
        · rw [((c2 c).map (·.2)).mem_iff, List.map_cons, List.mem_cons]
          exact ⟨fun z => z.elim (fun z => .inr (List.mem_singleton.mpr z)) .inl, fun z => z.elim .inr fun z => .inl (List.mem_singleton.mp z)⟩
    · obtain ⟨S, M, tM, lM, ndM, kM⟩ := hP
      rw [List.take_length] at kM
      refine ⟨D, M, rfl, tM.1, (M.length : Int), 1, rfl, rfl, ?_⟩
      have z := stl_set ndM kM
      rw [List.length_map] at z
      show Q (.bl (decide ((M.length : Int) ≤ 1))) G
      rw [z]
      exact q G (s1.trans S)
/-! #### the two parts, the probes that part -/
def yesOf (ms : List Yes) (x : Str) : Option (Nat × List Int) := (ms.find? fun p => decide (p.1 = x)).map (·.2)
theorem val_mem : ∀ {kvs : List (Key × V)} {k : Key} {v : V}, (kvs.map (·.1)).Nodup → (k, v) ∈ kvs → valV kvs k = some v
  | [], _, _, _, h => nomatch h
  | p :: r, k, v, nd, h => by
    rw [List.map_cons] at nd
    obtain ⟨a, b⟩ := List.nodup_cons.mp nd
    rcases List.mem_cons.mp h with e | h
    · rw [← e]; exact valV_pos (p := (k, v)) rfl
    · rw [valV_neg fun e => a (e ▸ List.mem_map.mpr ⟨_, h, rfl⟩)]
      exact val_mem b h
theorem ykv_nd {ms : List Yes} (h : (ms.map (·.1)).Nodup) : ((ykv ms).map (·.1)).Nodup := by
  unfold ykv
  rw [List.map_map]
  have e : ((fun x : Key × V => x.1) ∘ fun p : Yes => ((Sum.inr p.1 : Key), V.int (p.2.1 : Int))) = (Sum.inr : Str → Key) ∘ fun p : Yes => p.1 := rfl
  rw [e, ← List.map_map]
  exact List.Pairwise.map _ (fun a b h z => h (Sum.inr.inj z)) h
theorem ykv_val {ms : List Yes} (h : (ms.map (·.1)).Nodup) {p : Yes} (hp : p ∈ ms) : valV (ykv ms) (.inr p.1) = some (.int (p.2.1 : Int)) := val_mem (ykv_nd h) (List.mem_map.mpr ⟨p, hp, rfl⟩)
def sp_Asks_parts_by (_ : PySem.W.Frag) (C : Addr) : Sp := fun vs H Q _ => ∃ (a : Addr) (e : AEnv) (p : Yes) (m : Nat), vs = [.ref a, .str p.1, .int (m : Int)] ∧ AskF C H a e ∧ GoodA e ∧ p ∈ e.ms ∧ ∀ H' t, Same H H' → H' t = some (.tup [.int ((m &&& p.2.1 : Nat) : Int), .int ((m - (m &&& p.2.1) : Nat) : Int)]) → Q (.ref t) H'
theorem ok_Asks_parts_by {f : Addr} {C : Addr} {fd : FuncData} (T : Txt K mg C) (F : Fun K "parts_by" "Asks.parts_by" s_Asks_parts_by f fd)  : FnOk P w K mg base CX0 1 f fd ["self", "name", "chosen"] (sp_Asks_parts_by K C) := by
  have nd := sc_Asks_parts_by.nd
  refine F.ok sc_Asks_parts_by (fun vs H Q E h => ?_) (fun cdv A outer s H vs Q E hr h => ?_)
  · obtain ⟨a, e, p, m, rfl, _⟩ := h
    rfl
  · obtain ⟨a, e, p, m, rfl, o, g, hp, q⟩ := h
    refine ⟨_, (pss_one (ps_ret (pe_tup (pa_cons (pe_op op_and (pv 2) (pe_dget (hu_of hr) (pe_fld (pv 0) rfl) (pv 1) (fun _ _ => rfl))) (pa_cons (pe_op op_and (pv 2) (pe_un un_inv (pe_dget (hu_of hr) (pe_fld (pv 0) rfl) (pv 1) (fun _ _ => rfl)))) pa_nil))))), ?_⟩
    have v := ykv_val g.nd hp
    have dg : DGet H e.y (.str p.1) (some (.int (p.2.1 : Int))) := .inl ⟨_, .inr p.1, o.hy, rfl, v.symm⟩
    refine ⟨.int (m : Int), rfl, .ref a, rfl, a, C, _, _, _, rfl, o.ob, T.cl_Asks, T.n_yes, af_y _ _ _ _ _, .str p.1, rfl, e.y, _, rfl, dg, (m : Int), (p.2.1 : Int), rfl, rfl, ?_⟩
    refine ⟨.int (m : Int), rfl, .ref a, rfl, a, C, _, _, _, rfl, o.ob, T.cl_Asks, T.n_yes, af_y _ _ _ _ _, .str p.1, rfl, e.y, _, rfl, dg, (p.2.1 : Int), rfl, (m : Int), _, rfl, rfl, szl rfl, fun t nt => ?_⟩
    have q' := q (upd H t (.tup [.int (Builtin.bitAnd (m : Int) (p.2.1 : Int)), .int (Builtin.bitAnd (m : Int) (Builtin.bitNot (p.2.1 : Int)))])) t (same_upd nt) (by rw [upd_same, KnA.b_and, KnA.b_diff])
    exact q'
def sp_Asks_parting (_ : PySem.W.Frag) (C : Addr) : Sp := fun vs H Q _ => ∃ (a : Addr) (e : AEnv) (m : Nat), vs = [.ref a, .int (m : Int)] ∧ AskO C H a e ∧ GoodA e ∧ m < 2 ^ e.ys.length ∧
  ∀ H' l, Same H H' → H l = none → H' l = some (.lst ((e.ms.filter fun p => ptG e.st p.2.2 (sel m e.ys)).map fun p => V.str p.1)) → Q (.ref l) H'
theorem ok_Asks_parting {f : Addr} {C : Addr} {fd : FuncData} (T : Txt K mg C) (F : Fun K "parting" "Asks.parting" s_Asks_parting f fd)  : FnOk P w K mg base CX0 1 f fd ["self", "chosen"] (sp_Asks_parting K C) := by
  have nd := sc_Asks_parting.nd
  refine F.ok sc_Asks_parting (fun vs H Q E h => ?_) (fun cdv A outer s H vs Q E hr h => ?_)
  · obtain ⟨a, e, m, rfl, _⟩ := h
    rfl
  · obtain ⟨a, e, m, rfl, o, g, lt, q⟩ := h
    refine ⟨_, (pss_one (ps_ret (pe_lock (pe_lc (own := [("name", 2)]) (g := gName 2) rfl nd (pi_keys (pe_fld (pv 0) rfl)) (blkOk_by (N := ["self", "chosen", "name"]) (sc := defScope s_Asks_parting) (by decide +kernel)) (fun _ _ _ _ _ => (pg_name (i := 2) nd rfl (.inl rfl))) (fun _ _ _ _ _ => (pts_one (pt_cmpR (show OpR _ (compareOp .NotIn) (rIn K true) from op_notIn_seq) (pe_op op_and (pv 1) (pe_dget (hu_of hr) (show PE _ _ (tFld K (tVar 0) "yes") from pe_fld (pv 0) rfl) (pv 2) (fun _ _ => rfl))) (pe_tup (pa_cons pe_int (pa_cons (pv 1) pa_nil))) (by with_unfolding_all rfl)))) (fun _ _ _ _ _ => (pv 2)))))), ?_⟩
    have ny : e.y ≠ a := ne_of o.hy o.ob (fun z => by cases z)
    have few := g.few
    refine ⟨e.y, .dK (ykv e.ms), o.hy, trivial, fun od => ?_⟩
    have S0 : ∀ b o', b ≠ e.y → H b = some o' → (upd H e.y (.frz od (.dK (ykv e.ms)))) b = some o' := fun b o' z h => (upd_ne z).trans h
    have ob0 := S0 _ _ ny.symm o.ob
    refine ⟨.ref a, rfl, a, C, _, _, _, rfl, ob0, T.cl_Asks, T.n_yes, af_y _ _ _ _ _, e.y, od, rfl, .inl ⟨_, upd_same, fun D nD => ?_⟩⟩
    have nDy : D ≠ e.y := fun z => by rw [z, upd_same] at nD; cases nD
    have nDH : H D = none := by rw [upd_ne nDy] at nD; exact nD
    refine KnC.lc_keys (fun i G => (∀ b o', b ≠ e.y → H b = some o' → G b = some o') ∧ G e.y = some (.frz od (.dK (ykv e.ms))) ∧ G D = some (.lst (((e.ms.take i).filter fun p => ptG e.st p.2.2 (sel m e.ys)).map fun p => V.str p.1)))
      ⟨fun b o' z h => (upd_ne (ne_of_none h nDH)).trans (S0 b o' z h), (upd_ne nDy.symm).trans upd_same, upd_same⟩ (fun i G _ hP => hP.2.1) (fun i k v G hx hP => ?_) (fun G hP => ?_)
    · obtain ⟨S, ey, eD⟩ := hP
      unfold ykv at hx
      rw [List.getElem?_map] at hx
      cases gx : e.ms[i]? with
      | none => rw [gx] at hx; cases hx
      | some p =>
      rw [gx] at hx
      cases hx
      have mem := List.mem_of_getElem? gx
      have hi : i < e.ms.length := (List.getElem?_eq_some_iff.mp gx).1
      have dg : DGet G e.y (.str p.1) (some (.int (p.2.1 : Int))) := .inl ⟨_, .inr p.1, .inr ⟨od, ey⟩, rfl, (ykv_val g.nd mem).symm⟩
      have ob := S _ _ ny.symm o.ob
      refine ⟨rfl, ?_⟩
      refine ⟨.int (m : Int), rfl, .ref a, rfl, a, C, _, _, _, rfl, ob, T.cl_Asks, T.n_yes, af_y _ _ _ _ _, .str p.1, rfl, e.y, _, rfl, dg, (m : Int), (p.2.1 : Int), rfl, rfl, .int (m : Int), rfl, szl rfl, fun t nt => ?_⟩
      have st := same_upd (o := .tup [.int 0, .int (m : Int)]) nt
      refine ⟨t, [.int 0, .int (m : Int)], rfl, .inr (.inl (.inl upd_same)), rfl, rfl, _, rfl, ?_⟩
      have S2 : ∀ b o', b ≠ e.y → H b = some o' → (upd G t (.tup [.int 0, .int (m : Int)])) b = some o' := fun b o' z h => st _ _ (S b o' z h)
      have ey2 := st _ _ ey
      have eD2 := st _ _ eD
      have tst : (!inV (V.int (Builtin.bitAnd (m : Int) (p.2.1 : Int))) [.int 0, .int (m : Int)]) = ptG e.st p.2.2 (sel m e.ys) := by
        rw [← pt_num (g.ok p mem) lt, KnA.b_and]
        have e1 := inV_ints (x := ((m &&& p.2.1 : Nat) : Int)) (ws := [0, (m : Int)])
        rw [show [V.int 0, V.int (m : Int)] = [0, (m : Int)].map V.int from rfl, e1]
        by_cases c1 : m &&& p.2.1 = 0
        · rw [c1]; simp
        · by_cases c2 : m &&& p.2.1 = m
          · rw [c2]; simp
          · have d1 : ¬ ((m &&& p.2.1 : Nat) : Int) = 0 := by omega
            have d2 : ¬ ((m &&& p.2.1 : Nat) : Int) = (m : Int) := by omega
            simp [c1, c2, d1, d2]
      have tk : ((e.ms.take (i + 1)).filter fun p => ptG e.st p.2.2 (sel m e.ys)) = ((e.ms.take i).filter fun p => ptG e.st p.2.2 (sel m e.ys)) ++ if ptG e.st p.2.2 (sel m e.ys) = true then [p] else [] := by
        rw [take_more gx, List.filter_append, List.filter_cons, List.filter_nil]
      show if (!inV (V.int (Builtin.bitAnd (m : Int) (p.2.1 : Int))) [.int 0, .int (m : Int)]) = true then _ else _
      rw [tst]
      by_cases c : ptG e.st p.2.2 (sel m e.ys) = true
      · rw [if_pos c] at tk
        rw [c]
        have lm : (e.ms.take i).length ≤ i := by rw [List.length_take]; omega
        refine iteT ⟨.str p.1, rfl, _, eD2, ?_, fun b o' z h => (upd_ne (ne_of_none h nDH)).trans (S2 b o' z h), (upd_ne nDy.symm).trans ey2, ?_⟩
        · rw [List.length_map]
          exact Nat.lt_of_le_of_lt (List.length_filter_le _ _) (small (by have := g.lm; omega))
        · rw [upd_same, tk, List.map_append]; rfl
      · rw [if_neg c, List.append_nil] at tk
        rw [Bool.eq_false_iff.mpr c]
        exact iteF ⟨S2, ey2, by rw [tk]; exact eD2⟩
    · obtain ⟨S, ey, eD⟩ := hP
      rw [show (ykv e.ms).length = e.ms.length from List.length_map _, List.take_length] at eD
      refine ⟨ey, q _ D (fun b o' h => ?_) nDH ((upd_ne nDy).trans eD)⟩
      by_cases z : b = e.y
      · rw [z] at h ⊢
        rw [o.hy] at h; cases h
        exact upd_same
      · rw [upd_ne z]; exact S b o' z h

end
end Kn

set_option Elab.async false
set_option linter.all false
set_option maxRecDepth 100000
set_option maxHeartbeats 4000000
namespace Kn
open PySem PySem.Spec PyProof.Rows L2
open C8 (Cal pe_c pe_gc Mak pe_mk)
section
variable {P : Program} {w : World} {K : PySem.W.Frag} {mg : Str → Option Value} {base : Heap}
/-! ### made -/
def plK (st : V → Int) (fa : V → List Str) (k : Nat) (ys : List V) : List (NestedKey × V) := match ys with
  | [] => []
  | x :: r => (rk (st x) (fa x), .int (k : Int)) :: plK st fa (k + 1) r
theorem plK_keys (st : V → Int) (fa : V → List Str) : ∀ (ys : List V) (k : Nat), (plK st fa k ys).map (·.1) = keysR st fa ys
  | [], _ => rfl
  | x :: r, k => by
    show rk (st x) (fa x) :: (plK st fa (k + 1) r).map (·.1) = rk (st x) (fa x) :: keysR st fa r
    rw [plK_keys st fa r (k + 1)]
theorem plK_snoc (st : V → Int) (fa : V → List Str) (x : V) : ∀ (ys : List V) (k : Nat), plK st fa k (ys ++ [x]) = plK st fa k ys ++ [(rk (st x) (fa x), .int ((k + ys.length : Nat) : Int))]
  | [], k => rfl
  | y :: r, k => by
    show (rk (st y) (fa y), V.int (k : Int)) :: plK st fa (k + 1) (r ++ [x]) = (rk (st y) (fa y), V.int (k : Int)) :: plK st fa (k + 1) r ++ _
    rw [plK_snoc st fa x r (k + 1), List.cons_append, List.length_cons, show k + 1 + r.length = k + (r.length + 1) by omega]
theorem valN_mem : ∀ {kvs : List (NestedKey × V)} {k : NestedKey} {v : V}, (kvs.map (·.1)).Nodup → (k, v) ∈ kvs → valV kvs k = some v
  | [], _, _, _, h => nomatch h
  | p :: r, k, v, nd, h => by
    rw [List.map_cons] at nd
    obtain ⟨a, b⟩ := List.nodup_cons.mp nd
    rcases List.mem_cons.mp h with e | h
    · rw [← e]; exact valV_pos (p := (k, v)) rfl
    · rw [valV_neg fun e => a (e ▸ List.mem_map.mpr ⟨_, h, rfl⟩)]
      exact valN_mem b h
theorem plK_mem (st : V → Int) (fa : V → List Str) : ∀ {ys : List V} {k i : Nat} {x : V}, ys[i]? = some x → (rk (st x) (fa x), V.int ((k + i : Nat) : Int)) ∈ plK st fa k ys
  | [], _, _, _, h => by cases h
  | y :: r, k, 0, x, h => by
    rw [← Option.some.inj h]
    exact List.mem_cons_self
  | y :: r, k, i + 1, x, h => by
    have := plK_mem st fa (k := k + 1) (i := i) (show r[i]? = some x from h)
    rw [show k + 1 + i = k + (i + 1) by omega] at this
    exact List.mem_cons_of_mem _ this
theorem ys_nd {st : V → Int} {fa : V → List Str} {ys : List V} (h : (keysR st fa ys).Nodup) : ys.Nodup := List.Pairwise.of_map (S := fun a b => a ≠ b) _ (fun a b n e => n (congrArg (fun v => rk (st v) (fa v)) e)) h
def IsSet (m : Nat) (ys zs : List V) : Prop := ∀ i, m.testBit i = true ↔ ∃ x, ys[i]? = some x ∧ x ∈ zs
def IsSetD (st : V → Int) (fa : V → List Str) (m : Nat) (ys : List V) (ds : List KnA.Dat) : Prop := ∀ i, m.testBit i = true ↔ ∃ x, ys[i]? = some x ∧ (st x, fa x) ∈ ds
def RowsP (H : Hp) (zs : List V) (ds : List KnA.Dat) : Prop := Paired (fun v d => KnA.RowAt H v d.1 d.2) zs ds
theorem RowsP.ext {H H' : Hp} (k : ∀ t xs, H t = some (.tup xs) → H' t = some (.tup xs)) {zs : List V} {ds : List KnA.Dat} (h : RowsP H zs ds) : RowsP H' zs ds := by
  unfold RowsP at h ⊢
  induction h with
  | nil => exact .nil
  | cons a _ ih => exact .cons (a.ext k) ih
theorem RowsP.of {H : Hp} {st : V → Int} {fa : V → List Str} : ∀ {zs : List V}, Rows H zs st fa → RowsP H zs (zs.map fun v => (st v, fa v))
  | [], _ => .nil
  | z :: zs, h => .cons (h z List.mem_cons_self).1 (RowsP.of fun v hv => h v (List.mem_cons_of_mem _ hv))
theorem dat_key {st : V → Int} {fa : V → List Str} : ∀ {bs : List V}, (keysR st fa bs).Nodup → ∀ a ∈ bs, ∀ b ∈ bs, (st a, fa a) = (st b, fa b) → a = b
  | [], _, a, ha, _, _, _ => nomatch ha
  | x :: r, nd, a, ha, b, hb, e => by
    obtain ⟨n1, n2⟩ := List.nodup_cons.mp (show (rk (st x) (fa x) :: keysR st fa r).Nodup from nd)
    have e1 : rk (st a) (fa a) = rk (st b) (fa b) := by rw [(Prod.mk.inj e).1, (Prod.mk.inj e).2]
    rcases List.mem_cons.mp ha with ea | ha <;> rcases List.mem_cons.mp hb with eb | hb
    · rw [ea, eb]
    · rw [ea] at e1; exact (n1 (e1 ▸ List.mem_map.mpr ⟨b, hb, rfl⟩)).elim
    · rw [eb] at e1; exact (n1 (e1 ▸ List.mem_map.mpr ⟨a, ha, rfl⟩)).elim
    · exact dat_key n2 a ha b hb e
theorem IsSetD.of {st : V → Int} {fa : V → List Str} {m : Nat} {ys zs : List V} (h : IsSetD st fa m ys (zs.map fun v => (st v, fa v))) (nd : (keysR st fa ys).Nodup) (sub : ∀ z ∈ zs, z ∈ ys) : IsSet m ys zs := fun i => by
  rw [h i]
  constructor
  · rintro ⟨x, h1, h2⟩
    obtain ⟨z, hz, e⟩ := List.mem_map.mp h2
    exact ⟨x, h1, (dat_key nd z (sub z hz) x (List.mem_of_getElem? h1) e) ▸ hz⟩
  · rintro ⟨x, h1, h2⟩
    exact ⟨x, h1, List.mem_map.mpr ⟨x, h2, rfl⟩⟩
def sp_Asks_set_of {P : Program} {w : World} (_ : PySem.W.Frag) (C : Addr) : Sp := fun vs H Q _ => ∃ (b : Bool) (a l dx pl : Addr) (fs : List (Str × V)) (ys zs : List V) (st : V → Int) (fa : V → List Str) (ds : List KnA.Dat), vs = [.ref a, .ref l] ∧ H a = some (.ins C dx fs) ∧ fs.lookup ("places" : Str) = some (.ref pl) ∧ KnN.DNAt P w H pl (plK st fa 0 ys) ∧
  H l = some (rowO b zs) ∧ RowsP H zs ds ∧ (∀ d ∈ ds, ∃ y ∈ ys, d = (st y, fa y)) ∧ (keysR st fa ys).Nodup ∧ ys.length ≤ 10 ∧ ∀ (H' : Hp) (m : Nat), Same H H' → IsSetD st fa m ys ds → Q (.int (m : Int)) H'
theorem ok_Asks_set_of {f : Addr} {C : Addr} {fd : FuncData} (T : Txt K mg C) (F : Fun K "set_of" "Asks.set_of" s_Asks_set_of f fd)  : FnOk P w K mg base CX0 1 f fd ["self", "candidates"] (sp_Asks_set_of (P := P) (w := w) K C) := by
  have nd := sc_Asks_set_of.nd
  refine F.ok sc_Asks_set_of (fun vs H Q E h => ?_) (fun cdv A outer s H vs Q E hr h => ?_)
  · obtain ⟨b, a, l, dx, pl, fs, ys, zs, st, fa, ds, rfl, _⟩ := h
    rfl
  · obtain ⟨b, a, l, dx, pl, fs, ys, zs, st, fa, ds, rfl, ob, fp, dn, el, R, sub, ndk, few, q⟩ := h
    refine ⟨_, (pss_cons (ps_set (i := 2) nd rfl (.inl rfl) pe_int)
      (pss_cons (ps_for PassesOwn.never rfl (KnE.pi_seq (pv 1)) (pg_name (i := 3) nd rfl (.inl rfl)) (pss_one (ps_set (i := 2) nd rfl (.inl rfl) (pe_op op_or (pv 2) (pe_op op_shl pe_int (KnN.pe_nget (KnC.un65 hr) (pe_fld (pv 0) rfl) (pv 3) (fun _ _ => rfl)))))))
      (pss_one (ps_ret (pv 2))))), ?_⟩
    refine ⟨.ref l, rfl, l, b, rfl, ⟨_, row_sq el⟩, ?_⟩
    refine KnE.for_seq (K := K) (b := b) (xs := zs) (fun i σ G => ∃ (y3 : Option V) (m : Nat), σ = [some (.ref a), some (.ref l), some (.int (m : Int)), y3] ∧ Same H G ∧ IsSetD st fa m ys (ds.take i))
      ⟨none, 0, rfl, Same.refl H, fun i => by simp⟩ (fun i σ G _ hP => row_sq (hP.choose_spec.choose_spec.2.1 _ _ el)) (fun i x σ G hx hP => ?_) (fun σ G hP => ?_)
    · obtain ⟨y3, m, rfl, S, hm⟩ := hP
      obtain ⟨d, hd, rx⟩ := pairedGet (R.ext fun t xs z => S _ _ z) hx
      obtain ⟨y, hy, ed⟩ := sub d (List.mem_of_getElem? hd)
      obtain ⟨t, rfl, nk⟩ := row_nis rx
      have ek : rk d.1 d.2 = rk (st y) (fa y) := by rw [ed]
      rw [ek] at nk
      obtain ⟨j, hj⟩ := List.getElem?_of_mem hy
      have hj10 : j < ys.length := (List.getElem?_eq_some_iff.mp hj).1
      have v : valV (plK st fa 0 ys) (rk (st y) (fa y)) = some (.int (j : Int)) := by
        have := valN_mem (by rw [plK_keys]; exact ndk) (plK_mem st fa (k := 0) hj)
        rwa [Nat.zero_add] at this
      refine ⟨.int (m : Int), rfl, .ref a, rfl, a, C, dx, fs, _, rfl, S _ _ ob, T.cl_Asks, T.n_places, fp, .ref t, rfl, pl, _, _, t, _, rfl, rfl, dn.mono S, nk, rk_depth _ _, v, 1, (j : Int), rfl, rfl, ⟨by omega, by omega, by decide⟩, (m : Int), _, rfl, rfl, ?_⟩
      refine ⟨some (.ref t), m ||| 2 ^ j, ?_, S, fun i' => ?_⟩
      · have e : Builtin.bitOr (m : Int) (1 * 2 ^ ((j : Nat) : Int).toNat) = ((m ||| 2 ^ j : Nat) : Int) := by
          rw [Int.one_mul, Int.toNat_natCast, ← KnA.b_or]; congr 1
        show _ = [some (V.ref a), some (V.ref l), some (V.int ((m ||| 2 ^ j : Nat) : Int)), _]
        rw [← e]; rfl
      · rw [Nat.testBit_or, Nat.testBit_two_pow, Bool.or_eq_true, hm i', decide_eq_true_eq, take_more hd]
        constructor
        · rintro (⟨x, h1, h2⟩ | rfl)
          · exact ⟨x, h1, List.mem_append_left _ h2⟩
          · exact ⟨_, hj, List.mem_append_right _ (List.mem_singleton.mpr ed.symm)⟩
        · rintro ⟨x, h1, h2⟩
          rcases List.mem_append.mp h2 with h2 | h2
          · exact .inl ⟨x, h1, h2⟩
          · have := dat_key ndk x (List.mem_of_getElem? h1) y hy ((List.mem_singleton.mp h2).trans ed)
            rw [this] at h1
            exact .inr ((List.getElem?_inj hj10 (ys_nd ndk)).mp (hj.trans h1.symm))
    · obtain ⟨y3, m, rfl, S, hm⟩ := hP
      have lz : zs.length = ds.length := Paired.length R
      rw [lz, List.take_length] at hm
      exact ⟨_, rfl, q G m S hm⟩
def lookS (ps : List Prb) (x : Str) : List Int := ((ps.find? fun p => decide (p.1 = x)).map (·.2.2)).getD []
theorem lookS_mem : ∀ {ps : List Prb} {p : Prb}, (ps.map (·.1)).Nodup → p ∈ ps → lookS ps p.1 = p.2.2
  | [], _, _, h => nomatch h
  | q :: r, p, nd, h => by
    rw [List.map_cons] at nd
    obtain ⟨a, b⟩ := List.nodup_cons.mp nd
    rcases List.mem_cons.mp h with e | h
    · unfold lookS
      rw [e, List.find?_cons_of_pos (by simp)]; rfl
    · have ne : ¬ q.1 = p.1 := fun e => a (e ▸ List.mem_map.mpr ⟨_, h, rfl⟩)
      have ih := lookS_mem b h
      unfold lookS at ih ⊢
      rw [List.find?_cons_of_neg (by simp [ne])]
      exact ih
theorem lists_perm {ps : List Prb} {ms : List Yes} {ns : List Str} (nd : (ps.map (·.1)).Nodup) (pm : ns.Perm (ps.map (·.1))) (e : ms.map (·.1) = ns) (h : ∀ q ∈ ms, ∃ p ∈ ps, p.1 = q.1 ∧ p.2.2 = q.2.2) : (lists ms).Perm (ps.map (·.2.2)) := by
  have e1 : lists ms = ns.map (lookS ps) := by
    rw [← e, List.map_map]
    refine List.map_congr_left fun q hq => ?_
    obtain ⟨p, hp, h1, h2⟩ := h q hq
    show q.2.2 = lookS ps q.1
    rw [← h1, lookS_mem nd hp, h2]
  have e2 : ps.map (·.2.2) = (ps.map (·.1)).map (lookS ps) := by
    rw [List.map_map]
    exact List.map_congr_left fun p hp => (lookS_mem nd hp).symm
  rw [e1, e2]
  exact pm.map _
theorem pkv_nd {ps : List Prb} (h : (ps.map (·.1)).Nodup) : ((pkv ps).map (·.1)).Nodup := by
  unfold pkv
  rw [List.map_map]
  have e : ((fun x : Key × V => x.1) ∘ fun p : Prb => ((Sum.inr p.1 : Key), V.ref p.2.1)) = (Sum.inr : Str → Key) ∘ fun p : Prb => p.1 := rfl
  rw [e, ← List.map_map]
  exact List.Pairwise.map _ (fun a b h z => h (Sum.inr.inj z)) h
theorem pkv_val {ps : List Prb} (h : (ps.map (·.1)).Nodup) {p : Prb} (hp : p ∈ ps) : valV (pkv ps) (.inr p.1) = some (.ref p.2.1) := val_mem (pkv_nd h) (List.mem_map.mpr ⟨p, hp, rfl⟩)
theorem row_ne {H : Hp} {a C dx : Addr} {fs : List (Str × V)} {x : V} {i : Int} {zs : List Str} (h : KnA.RowAt H x i zs) (ha : H a = some (.ins C dx fs)) {H' : Hp} (k : ∀ b o, b ≠ a → H b = some o → H' b = some o) : KnA.RowAt H' x i zs :=
  h.ext fun b vs e => k b _ (fun z => by rw [z, ha] at e; cases e) e
theorem one_shl (n : Nat) : (1 : Int) * 2 ^ ((n : Nat) : Int).toNat - 1 = ((2 ^ n - 1 : Nat) : Int) := by
  rw [Int.one_mul, Int.toNat_natCast]
  have : 1 ≤ 2 ^ n := Nat.one_le_two_pow
  have e : ((2 ^ n : Nat) : Int) = (2 : Int) ^ n := by push_cast; rfl
  omega
theorem set_yes {st : V → Int} {ys : List V} {m : Nat} {ss : List Int} (h : IsSet m ys (ys.filter fun x => decide (st x ∈ ss))) : YesOf st ys m ss := fun i x hx => by
  rw [Bool.eq_iff_iff, h i, decide_eq_true_eq]
  constructor
  · rintro ⟨y, h1, h2⟩
    rw [hx] at h1
    cases h1
    exact of_decide_eq_true (List.mem_filter.mp h2).2
  · exact fun z => ⟨x, hx, List.mem_filter.mpr ⟨List.mem_of_getElem? hx, decide_eq_true z⟩⟩
def sp_Asks_init {P : Program} {w : World} (_ : PySem.W.Frag) (C : Addr) : Sp := fun vs H Q _ => ∃ (a dx r d : Addr) (b : Bool) (xs : List V) (st : V → Int) (fa : V → List Str) (ps : List Prb), vs = [.ref a, .ref r, .ref d] ∧ H a = some (.ins C dx []) ∧ H r = some (rowO b xs) ∧ Rows H xs st fa ∧ (keysR st fa xs).Nodup ∧ 1 ≤ xs.length ∧ xs.length ≤ 10 ∧ Probes H d ps ∧ GoodP ps ∧
  ∀ (H' : Hp) (e : AEnv), (∀ b o, H b = some o → b ≠ a → H' b = some o) → AskO C H' a e → GoodA e → Memo H' e → e.st = st → e.fa = fa → e.ys.Perm xs → (lists e.ms).Perm (ps.map (·.2.2)) → H e.n = none → (e.ms.map (·.1)).Perm (ps.map (·.1)) → (∀ q ∈ e.ms, ∃ p ∈ ps, p.1 = q.1 ∧ p.2.2 = q.2.2) → H' e.n = some (.dK []) → (e.ys.map fun v => (st v, fa v)).Pairwise (fun p q => KnA.rowLe p q = true) → KnN.DNAt P w H' e.pl (plK st fa 0 e.ys) → Q .non H'
theorem ok_Asks_init {f : Addr} {C : Addr} {fd : FuncData} (T : Txt K mg C) (F : Fun K "__init__" "Asks.__init__" s_Asks_init f fd) (c_Asks_set_of : C8.Met P w K mg base 1 C "set_of" (sp_Asks_set_of (P := P) (w := w) K C) []) : FnOk P w K mg base CX0 3 f fd ["self", "rows", "probes"] (sp_Asks_init (P := P) (w := w) K C) := by
  have nd := sc_Asks_init.nd
  refine F.ok sc_Asks_init (fun vs H Q E h => ?_) (fun cdv A outer s H vs Q E hr h => ?_)
  · obtain ⟨a, dx, r, d, b, xs, st, fa, ps, rfl, _⟩ := h
    rfl
  · obtain ⟨a, dx, r, d, b, xs, st, fa, ps, rfl, ha, hR, R, ndk, lo, few, P0, gp, q⟩ := h
    refine ⟨_, (pss_cons (ps_fld (pv 0) (pe_callB (show CallR _ (.builtin "sorted") (KnA.rSortedRO K) from KnA.cr_sortedRO (KnC.un65 hr)) (by rfl) T.m_sorted (by decide +kernel) (pa_cons (pe_callTy call_list_of (by rfl) T.m_list (by decide +kernel) (pa_cons (pv 1) pa_nil)) pa_nil)) rfl)
      (pss_cons (ps_fld (pv 0) (KnN.pe_dcn (own := [("place", 3), ("candidate", 4)]) (g := gTup K 2 (gCons (gName 3) (gCons (gName 4) gNil))) (tt := tYes) (KnC.un65 hr) rfl nd (KnE.pi_en (by rfl) T.m_enumerate (pa_cons (pe_fld (pv 0) rfl) pa_nil)) (blkOk_by (own := [("place", 3), ("candidate", 4)]) (N := ["self", "rows", "probes", "place", "candidate", "name"]) (sc := defScope s_Asks_init) (by decide +kernel)) (fun _ _ _ _ _ => (pg_tup (by rfl) (pgs_cons (pg_name (i := 3) nd rfl (.inl rfl)) (pgs_cons (pg_name (i := 4) nd rfl (.inl rfl)) pgs_nil)))) (fun _ _ _ _ _ => pts_nil) (fun _ _ _ _ _ => (pv 4)) (fun _ _ _ _ _ => (pv 3))) rfl)
      (pss_cons (ps_fld (pv 0) (pe_op op_sub (pe_op op_shl pe_int (pe_callB call_len (by rfl) T.m_len (by decide +kernel) (pa_cons (pe_fld (pv 0) rfl) pa_nil))) pe_int) rfl)
      (pss_cons (ps_fld (pv 0) (pe_dc (own := [("name", 5)]) (g := gName 5) (tt := tYes) rfl nd (pi_list (pe_callB cr_sortedS (by rfl) T.m_sorted (by decide +kernel) (pa_cons (pe_callTy (call_listD rfl) (by rfl) T.m_list (by decide +kernel) (pa_cons (pv 2) pa_nil)) pa_nil))) (blkOk_by (own := [("name", 5)]) (N := ["self", "rows", "probes", "place", "candidate", "name"]) (sc := defScope s_Asks_init) (by decide +kernel)) (fun _ _ _ _ _ => (pg_name (i := 5) nd rfl (.inr rfl))) (fun _ _ _ _ _ => pts_nil) (fun _ _ _ _ _ => (pv 5)) (fun _ _ _ _ _ => (C8.pe_mt c_Asks_set_of hr (by omega) (pv 0) (pa_cons (pe_lc (own := [("candidate", 4)]) (g := gName 4) rfl nd (show PI _ _ _ (iList K (tFld K (tVar 0) "candidates")) from (pi_list (pe_fld (pv 0) rfl))) (blkOk_by (N := ["self", "rows", "probes", "place", "candidate", "name"]) (sc := cs_Asks_init) (by decide +kernel)) (fun _ _ _ _ _ => (pg_name (i := 4) nd rfl (.inl rfl))) (fun _ _ _ _ _ => (pts_one (pt_cmpR (show OpR _ (compareOp .In) (rIn K false) from op_in_seq) (pe_ix (r := rIxT K) ix_tup (pv 4) pe_int (fun _ _ => rfl)) (pe_dget (hu_of hr) (pv 2) (pv 5) (fun _ _ => rfl)) (by with_unfolding_all rfl)))) (fun _ _ _ _ _ => (pv 4))) pa_nil)))) rfl)
      (pss_one (ps_fld (pv 0) pe_dnewK rfl)))))), ?_⟩
    have pl1 : ∀ (f : Str) (x : V) (l : List (Str × V)) (n : Nat), l.length ≤ n → (putF f x l).length ≤ n + 1 := fun f x l n h => Nat.le_trans (length_putF f x l) (Nat.succ_le_succ h)
    refine ⟨.ref r, rfl, r, xs, rfl, ?_, fun l nl => ?_⟩
    · cases b with
      | true => exact .inl (.inl (.inl hR))
      | false => exact .inr (.inl (.inl hR))
    have s0 := same_upd (o := .lst xs) nl
    have el : (upd H l (.lst xs)) l = some (.lst xs) := upd_same
    generalize upd H l (.lst xs) = G0 at s0 el ⊢
    have eb : (xs.map fun x => (x, (st x, fa x))).map (·.1) = xs := by rw [List.map_map]; exact List.map_id xs
    refine ⟨l, xs.map fun x => (x, (st x, fa x)), rfl, by rw [eb]; exact .inl (.inl el), fun b hb => by obtain ⟨x, hx, rfl⟩ := List.mem_map.mp hb; exact ((R.mono s0) x hx).1, fun bs' c pm0 so0 nc => ?_⟩
    obtain ⟨ys, pm, rfl⟩ := KnH.perm_up pm0 xs rfl
    have so : (ys.map fun v => (st v, fa v)).Pairwise (fun p q => KnA.rowLe p q = true) := by rw [List.map_map] at so0; exact so0
    have ey : (ys.map fun x => (x, (st x, fa x))).map (·.1) = ys := by rw [List.map_map]; exact List.map_id ys
    rw [ey]
    have s1 := s0.trans (same_upd (o := .lst ys) nc)
    have ec : (upd G0 c (.lst ys)) c = some (.lst ys) := upd_same
    have ea1 : (upd G0 c (.lst ys)) a = some (.ins C dx []) := s1 _ _ ha
    generalize upd G0 c (.lst ys) = G1 at s1 ec ea1 ⊢
    have nca : c ≠ a := ne_of ec ea1 (fun z => by cases z)
    refine ⟨.ref a, rfl, a, C, dx, [], rfl, ea1, T.cl_Asks, T.n_candidates, by decide, ?_⟩
    -- candidates
    have B2 : ∀ b o, b ≠ a → H b = some o → (upd G1 a (.ins C dx (putF "candidates" (.ref c) []))) b = some o := fun b o n e => (upd_ne n).trans (s1 _ _ e)
    have ec2 : (upd G1 a (.ins C dx (putF "candidates" (.ref c) []))) c = some (.lst ys) := (upd_ne nca).trans ec
    have ea2 : (upd G1 a (.ins C dx (putF "candidates" (.ref c) []))) a = some (.ins C dx (putF "candidates" (.ref c) [])) := upd_same
    have Ry : Rows (upd G1 a (.ins C dx (putF "candidates" (.ref c) []))) ys st fa := fun v hv => ⟨row_ne (R v (pm.mem_iff.mp hv)).1 ha B2, (R v (pm.mem_iff.mp hv)).2⟩
    generalize upd G1 a (.ins C dx (putF "candidates" (.ref c) [])) = G2 at B2 ec2 ea2 Ry ⊢
    have ndy : (keysR st fa ys).Nodup := (pm.map _).nodup_iff.mpr ndk
    have ly : ys.length ≤ 10 := by rw [pm.length_eq]; exact few
    -- places
    refine ⟨.ref a, rfl, a, C, dx, _, .ref c, rfl, ea2, T.cl_Asks, T.n_candidates, by simp only [lookup_putF]; rw [if_pos True.intro], c, true, ys, rfl, .inl (.inl ec2), fun D G3 nD k3 dn3 => ?_⟩
    refine KnA.turns ys.length (fun i G => (∀ b o, b ≠ D → G2 b = some o → G b = some o) ∧ KnN.DNAt P w G D (plK st fa 0 (ys.take i)))
      ⟨fun b o n e => (k3 b n).trans e, dn3⟩ (fun G hP => ⟨_, .inl (.inl (hP.1 _ _ (fun z => by rw [z, nD] at ec2; cases ec2) ec2)), rfl⟩) (fun i G hi hP => ⟨_, _, .inl (.inl (hP.1 _ _ (fun z => by rw [z, nD] at ec2; cases ec2) ec2)), List.getElem?_eq_getElem hi⟩) (fun i x G G' hi hP hy => ?_) (fun G hP => ?_)
    · obtain ⟨S, dn⟩ := hP
      obtain ⟨T0, x, rfl, nT, rfl, hx⟩ := hy
      have hx := hx _ (.inl (.inl (S _ _ (fun z => by rw [z, nD] at ec2; cases ec2) ec2)))
      have sT := same_upd (o := .tup [.int (i : Nat), x]) nT
      refine ⟨T0, _, rfl, .inl (.inl upd_same), rfl, .int (i : Nat), _, rfl, x, [], rfl, rfl, rfl, ?_⟩
      unfold tYes
      have rx := (Ry x (List.mem_of_getElem? hx)).1
      have rx2 : KnA.RowAt (upd G T0 (.tup [.int (i : Nat), x])) x (st x) (fa x) := rx.ext fun b vs e => sT _ _ (S _ _ (fun z => by rw [z, nD] at e; cases e) e)
      obtain ⟨t, rfl, nk⟩ := row_nis rx2
      have lp : (plK st fa 0 (ys.take i)).length = i := by
        have := congrArg List.length (plK_keys st fa (ys.take i) 0)
        unfold keysR at this
        rw [List.length_map, List.length_map, List.length_take] at this
        omega
      have nin : rk (st (.ref t)) (fa (.ref t)) ∉ (plK st fa 0 (ys.take i)).map (·.1) := by
        rw [plK_keys]
        have z : keysR st fa ys = keysR st fa (ys.take i) ++ keysR st fa (ys.drop i) := by unfold keysR; rw [← List.map_append, List.take_append_drop]
        rw [z] at ndy
        obtain ⟨_, _, dj⟩ := List.nodup_append.mp ndy
        refine fun m => dj _ m _ (?_ : rk (st (.ref t)) (fa (.ref t)) ∈ keysR st fa (ys.drop i)) rfl
        exact List.mem_map.mpr ⟨.ref t, List.mem_of_getElem? (i := 0) (by rw [List.getElem?_drop]; exact hx), rfl⟩
      refine iteT ⟨.ref t, rfl, .int (i : Nat), rfl, _, _, t, rfl, dn.mono sT, nk, rk_depth _ _, small (by omega), fun G6 k6 dn6 => ⟨fun b o n e => (k6 b n).trans (sT _ _ (S b o n e)), ?_⟩⟩
      rw [putK_new nin] at dn6
      rw [take_more hx, plK_snoc, List.length_take, Nat.min_eq_left (by omega), Nat.zero_add]
      exact dn6
    obtain ⟨S3, dn⟩ := hP
    rw [List.take_length] at dn
    have nDa : D ≠ a := fun z => by rw [z, ea2] at nD; cases nD
    have nDc : D ≠ c := fun z => by rw [z, ec2] at nD; cases nD
    have ea3 := S3 _ _ nDa.symm ea2
    refine ⟨.ref a, rfl, a, C, dx, _, rfl, ea3, T.cl_Asks, T.n_places, Nat.lt_of_le_of_lt (pl1 _ _ _ 0 (Nat.le_refl _)) (by decide), ?_⟩
    have nDH : ∀ b o, b ≠ a → H b = some o → b ≠ D := fun b o n e z => by have := B2 b o n e; rw [z, nD] at this; cases this
    have B4 : ∀ b o, b ≠ a → H b = some o → (upd G a (.ins C dx (putF "places" (.ref D) (putF "candidates" (.ref c) [])))) b = some o := fun b o n e => (upd_ne n).trans (S3 _ _ (nDH b o n e) (B2 b o n e))
    have ec4 : (upd G a (.ins C dx (putF "places" (.ref D) (putF "candidates" (.ref c) [])))) c = some (.lst ys) := (upd_ne nca).trans (S3 _ _ nDc.symm ec2)
    have ea4 : (upd G a (.ins C dx (putF "places" (.ref D) (putF "candidates" (.ref c) [])))) a = some (.ins C dx (putF "places" (.ref D) (putF "candidates" (.ref c) []))) := upd_same
    have dn4 : KnN.DNAt P w (upd G a (.ins C dx (putF "places" (.ref D) (putF "candidates" (.ref c) [])))) D (plK st fa 0 ys) := dn.set nDa.symm ea3 (fun xs z => by cases z)
    have Ry4 : Rows (upd G a (.ins C dx (putF "places" (.ref D) (putF "candidates" (.ref c) [])))) ys st fa := fun v hv => ⟨row_ne (R v (pm.mem_iff.mp hv)).1 ha B4, (R v (pm.mem_iff.mp hv)).2⟩
    generalize upd G a (.ins C dx (putF "places" (.ref D) (putF "candidates" (.ref c) []))) = G4 at B4 ec4 ea4 dn4 Ry4 ⊢
    clear S3 ea3 dn k3 dn3 B2 ec2 ea2 Ry nDH
    -- whole
    refine ⟨.ref a, rfl, a, C, dx, _, .ref c, rfl, ea4, T.cl_Asks, T.n_candidates, by simp only [lookup_putF]; rw [if_neg (by decide +kernel), if_pos True.intro], .ref c, ys.length, rfl, .inl ⟨_, .inl (.inl ec4), rfl⟩, 1, (ys.length : Int), rfl, rfl, ⟨by omega, by omega, by decide⟩, _, 1, rfl, rfl, .ref a, rfl, a, C, dx, _, rfl, ea4, T.cl_Asks, T.n_whole, Nat.lt_of_le_of_lt (pl1 _ _ _ 1 (pl1 _ _ _ 0 (Nat.le_refl _))) (by decide), ?_⟩
    have ewh : ((fun i j => V.int (i - j)) ((1 : Int) * 2 ^ ((ys.length : Nat) : Int).toNat) 1) = V.int ((2 ^ ys.length - 1 : Nat) : Int) := congrArg V.int (one_shl _)
    have ewh2 : ((fun i j => V.int (i * 2 ^ j.toNat)) (1 : Int) (ys.length : Int)) = V.int ((1 : Int) * 2 ^ ((ys.length : Nat) : Int).toNat) := rfl
    show Ends.nx _ _ (upd G4 a (.ins C dx (putF "whole" (V.int ((1 : Int) * 2 ^ ((ys.length : Nat) : Int).toNat - 1)) (putF "places" (.ref D) (putF "candidates" (.ref c) [])))))
    rw [one_shl]
    generalize hW : ((2 ^ ys.length - 1 : Nat) : Int) = W
    have f3c : (putF "whole" (.int W) (putF "places" (.ref D) (putF "candidates" (.ref c) [])) : List (Str × V)).lookup ("candidates" : Str) = some (.ref c) := by simp only [lookup_putF]; rw [if_neg (by decide +kernel), if_neg (by decide +kernel), if_pos True.intro]
    have f3p : (putF "whole" (.int W) (putF "places" (.ref D) (putF "candidates" (.ref c) [])) : List (Str × V)).lookup ("places" : Str) = some (.ref D) := by simp only [lookup_putF]; rw [if_neg (by decide +kernel), if_pos True.intro]
    have f3s : (putF "whole" (.int W) (putF "places" (.ref D) (putF "candidates" (.ref c) [])) : List (Str × V)).lookup ("set_of" : Str) = none := by simp only [lookup_putF]; rw [if_neg (by decide +kernel), if_neg (by decide +kernel), if_neg (by decide +kernel)]; rfl
    have f3l : (putF "whole" (.int W) (putF "places" (.ref D) (putF "candidates" (.ref c) [])) : List (Str × V)).length ≤ 3 := pl1 _ _ _ 2 (pl1 _ _ _ 1 (pl1 _ _ _ 0 (Nat.le_refl _)))
    generalize hf3 : (putF "whole" (.int W) (putF "places" (.ref D) (putF "candidates" (.ref c) [])) : List (Str × V)) = f3 at f3c f3p f3s f3l ⊢
    have wr : ∀ b o, b ≠ a → G4 b = some o → (upd G4 a (.ins C dx f3)) b = some o := fun b o n e => (upd_ne n).trans e
    have B5 : ∀ b o, b ≠ a → H b = some o → (upd G4 a (.ins C dx f3)) b = some o := fun b o n e => wr _ _ n (B4 b o n e)
    have ec5 := wr _ _ nca ec4
    have ea5 : (upd G4 a (.ins C dx f3)) a = some (.ins C dx f3) := upd_same
    have dn5 : KnN.DNAt P w (upd G4 a (.ins C dx f3)) D (plK st fa 0 ys) := dn4.set nDa.symm ea4 (fun xs z => by cases z)
    have Ry5 : Rows (upd G4 a (.ins C dx f3)) ys st fa := fun v hv => ⟨row_ne (R v (pm.mem_iff.mp hv)).1 ha B5, (R v (pm.mem_iff.mp hv)).2⟩
    generalize upd G4 a (.ins C dx f3) = G5 at B5 ec5 ea5 dn5 Ry5 ⊢
    clear wr B4 ec4 ea4 dn4 Ry4
    have nda : d ≠ a := ne_of P0.at_ ha (fun z => by cases z)
    have hd5 := B5 _ _ nda P0.at_
    have nla : ∀ p ∈ ps, p.2.1 ≠ a := fun p hp => ne_of (P0.ls p hp) ha (fun z => by cases z)
    have hl5 : ∀ p ∈ ps, G5 p.2.1 = some (.lst (p.2.2.map V.int)) := fun p hp => B5 _ _ (nla p hp) (P0.ls p hp)
    -- yes
    refine ⟨.ref d, rfl, d, pkv ps, rfl, .inl hd5, fun l1 nl1 => ?_⟩
    have ek : (pkv ps).map (fun kv => kV kv.1) = (ps.map (·.1)).map V.str := by unfold pkv; rw [List.map_map, List.map_map]; rfl
    rw [ek]
    have s6 := same_upd (o := .lst ((ps.map (·.1)).map V.str)) nl1
    have lenp := gp.len
    refine ⟨l1, ps.map (·.1), rfl, .inl (.inl upd_same), by rw [List.length_map]; omega, fun ns l2 pn _ nl2 => ?_⟩
    have s7 := s6.trans (same_upd (o := .lst (ns.map V.str)) nl2)
    refine ⟨l2, rfl, ⟨_, .inl (.inl upd_same)⟩, fun Y nY => ?_⟩
    have el2 : (upd (upd G5 l1 (.lst ((ps.map (·.1)).map V.str))) l2 (.lst (ns.map V.str))) l2 = some (.lst (ns.map V.str)) := upd_same
    generalize upd (upd G5 l1 (.lst ((ps.map (·.1)).map V.str))) l2 (.lst (ns.map V.str)) = G7 at s7 el2 nY ⊢
    have lns : ns.length ≤ 6 := by have := pn.length_eq; rw [List.length_map] at this; omega
    refine KnA.turns ns.length (fun i G => Same G7 G ∧ ∃ ms : List Yes, G Y = some (.dK (ykv ms)) ∧ ms.map (·.1) = ns.take i ∧ ∀ q ∈ ms, YesOf st ys q.2.1 q.2.2 ∧ ∃ p ∈ ps, p.1 = q.1 ∧ p.2.2 = q.2.2)
      ⟨same_upd nY, [], upd_same, rfl, fun q hq => nomatch hq⟩ (fun G hP => ⟨_, .inl (.inl (hP.1 _ _ el2)), by rw [List.length_map]; exact Nat.le_refl _⟩) (fun i G hi hP => ⟨_, _, .inl (.inl (hP.1 _ _ el2)), by rw [List.getElem?_map, List.getElem?_eq_getElem hi]; rfl⟩) (fun i x G G' hi hP hy => ?_) (fun G hP => ?_)
    · obtain ⟨S, ms, eY, em, hms⟩ := hP
      obtain ⟨rfl, hx⟩ := hy
      have hx := hx _ (.inl (.inl (S _ _ el2)))
      rw [List.getElem?_map] at hx
      cases gx : ns[i]? with
      | none => rw [gx] at hx; cases hx
      | some nm =>
      rw [gx] at hx
      cases hx
      obtain ⟨p, hp, rfl⟩ := List.mem_map.mp (pn.mem_iff.mp (List.mem_of_getElem? gx))
      refine ⟨rfl, ?_⟩
      unfold tYes
      have S2 := s7.trans S
      have ea := S2 _ _ ea5
      have ec := S2 _ _ ec5
      refine iteT ⟨.str p.1, rfl, .ref a, rfl, a, dx, f3, rfl, ea, f3s, .ref a, rfl, a, C, dx, f3, .ref c, rfl, ea, T.cl_Asks, T.n_candidates, f3c, c, rfl, ⟨_, .inl (.inl ec)⟩, fun L nL => ?_⟩
      have hd := S2 _ _ hd5
      have hl := S2 _ _ (hl5 p hp)
      have Rg := Ry5.mono S2
      have dn := dn5.mono S2
      refine lc_list (K := K) (xs := ys) (fun j U => Same G' U ∧ U L = some (.lst ((ys.take j).filter fun x => decide (st x ∈ p.2.2)))) ⟨same_upd nL, upd_same⟩ (fun j U _ hP => .inl (.inl (hP.1 _ _ ec))) (fun j x U hx hP => ?_) (fun U hP => ?_)
      · obtain ⟨V0, eL⟩ := hP
        obtain ⟨t, f0, rfl, h1, h2⟩ := (Rg x (List.mem_of_getElem? hx)).1
        have hj : j < ys.length := (List.getElem?_eq_some_iff.mp hx).1
        refine ⟨rfl, ?_⟩
        refine ⟨.ref t, rfl, t, _, 0, .int (st (.ref t)), rfl, rfl, .inl (.inl (V0 _ _ h1)), atI_nat (j := 0) rfl, .ref d, rfl, .str p.1, rfl, d, .ref p.2.1, rfl, .inl ⟨_, .inr p.1, .inl (V0 _ _ hd), rfl, (pkv_val gp.nd hp).symm⟩, p.2.1, p.2.2.map V.int, rfl, .inl (.inl (.inl (V0 _ _ hl))), rfl, flat_is _, _, rfl, ?_⟩
        show if inV (V.int (st (.ref t))) (p.2.2.map V.int) = true then _ else _
        rw [inV_ints]
        have tk : ((ys.take (j + 1)).filter fun x => decide (st x ∈ p.2.2)) = ((ys.take j).filter fun x => decide (st x ∈ p.2.2)) ++ if decide (st (.ref t) ∈ p.2.2) = true then [.ref t] else [] := by
          rw [take_more hx, List.filter_append, List.filter_cons, List.filter_nil]
        by_cases cc : decide (st (.ref t) ∈ p.2.2) = true
        · rw [if_pos cc] at tk
          rw [cc]
          refine iteT ⟨.ref t, rfl, _, eL, Nat.lt_of_le_of_lt (List.length_filter_le _ _) (small (by rw [List.length_take]; omega)), same_set nL V0, ?_⟩
          rw [upd_same, tk]
        · rw [if_neg cc, List.append_nil] at tk
          rw [Bool.eq_false_iff.mpr cc]
          exact iteF ⟨V0, by rw [tk]; exact eL⟩
      · obtain ⟨V0, eL⟩ := hP
        rw [List.take_length] at eL
        refine ⟨true, a, L, dx, D, f3, ys, _, st, fa, List.map (fun v => (st v, fa v)) _, rfl, V0 _ _ ea, f3p, dn.mono V0, eL, RowsP.of fun v hv => (Rg.mono V0) v (List.mem_filter.mp hv).1, fun d hd => (List.mem_map.mp hd).elim fun z hz => ⟨z, (List.mem_filter.mp hz.1).1, hz.2.symm⟩, ndy, ly, fun U2 m V1 hm0 => ?_⟩
        have hm := hm0.of ndy fun z hz => (List.mem_filter.mp hz).1
        have V2 := V0.trans V1
        have lms : ms.length ≤ 6 := by
          have := congrArg List.length em
          rw [List.length_map, List.length_take] at this
          omega
        have nin : (Sum.inr p.1 : Key) ∉ (ykv ms).map (·.1) := by
          intro hm
          unfold ykv at hm
          rw [List.map_map] at hm
          obtain ⟨q, hq, e⟩ := List.mem_map.mp hm
          have e := Sum.inr.inj (show (Sum.inr q.1 : Key) = Sum.inr p.1 from e)
          have z : q.1 ∈ ns.take i := by rw [← em]; exact List.mem_map.mpr ⟨q, hq, rfl⟩
          have ndn : ns.Nodup := pn.nodup_iff.mpr gp.nd
          rw [← List.take_append_drop i ns] at ndn
          obtain ⟨_, _, dj⟩ := List.nodup_append.mp ndn
          refine dj _ z p.1 (List.mem_of_getElem? (i := 0) ?_) e
          rw [List.getElem?_drop]; exact gx
        refine ⟨ykv ms, .inr p.1, rfl, V2 _ _ eY, small (by unfold ykv; rw [List.length_map]; omega), ?_, ms ++ [(p.1, m, p.2.2)], ?_, ?_, ?_⟩
        · exact same_set nY (S.trans V2)
        · rw [upd_same, putK_new nin]
          unfold ykv
          rw [List.map_append]; rfl
        · rw [List.map_append, em, take_more gx]; rfl
        · intro q hq
          rcases List.mem_append.mp hq with hq | hq
          · exact hms q hq
          · rw [List.mem_singleton.mp hq]
            exact ⟨set_yes hm, p, hp, rfl, rfl⟩
    · obtain ⟨S, ms, eY, em, hms⟩ := hP
      rw [List.take_length] at em
      have S2 := s7.trans S
      have nYa : Y ≠ a := fun z => by have := s7 _ _ ea5; rw [← z, nY] at this; cases this
      have n5 : ∀ b o, G5 b = some o → b ≠ Y := fun b o e z => by have := s7 _ _ e; rw [z, nY] at this; cases this
      refine ⟨.ref a, rfl, a, C, dx, f3, rfl, S2 _ _ ea5, T.cl_Asks, T.n_yes, by omega, ?_⟩
      have wr : ∀ b o, b ≠ a → G5 b = some o → (upd G a (.ins C dx (putF "yes" (.ref Y) f3))) b = some o := fun b o n e => (upd_ne n).trans (S2 _ _ e)
      have eY8 : (upd G a (.ins C dx (putF "yes" (.ref Y) f3))) Y = some (.dK (ykv ms)) := (upd_ne nYa).trans eY
      have ea8 : (upd G a (.ins C dx (putF "yes" (.ref Y) f3))) a = some (.ins C dx (putF "yes" (.ref Y) f3)) := upd_same
      have nY5 : G5 Y = none := Same.free (show Same G5 G7 from s7) nY
      have l4 : (putF "yes" (.ref Y) f3 : List (Str × V)).length ≤ 4 := pl1 _ _ _ 3 f3l
      have dn8 : KnN.DNAt P w (upd G a (.ins C dx (putF "yes" (.ref Y) f3))) D (plK st fa 0 ys) := (dn5.mono (fun b o z => S _ _ (s7 _ _ z))).set nDa.symm (S _ _ (s7 _ _ ea5)) (fun xs z => by cases z)
      generalize hG8 : upd G a (.ins C dx (putF "yes" (.ref Y) f3)) = G8 at wr eY8 ea8 dn8 ⊢
      -- needs
      refine fun n nn => ?_
      have s9 := same_upd (o := .dK []) nn
      have en9 : (upd G8 n (.dK [])) n = some (.dK []) := upd_same
      have nna : n ≠ a := fun z => by rw [z, ea8] at nn; cases nn
      refine ⟨.ref a, rfl, a, C, dx, _, rfl, s9 _ _ ea8, T.cl_Asks, T.n_needs, by omega, ?_⟩
      have dn9 := dn8.mono s9
      generalize upd G8 n (.dK []) = G9 at s9 en9 dn9 ⊢
      have wr9 : ∀ b o, b ≠ a → G8 b = some o → (upd G9 a (.ins C dx (putF "needs" (.ref n) (putF "yes" (.ref Y) f3)))) b = some o := fun b o nb e => (upd_ne nb).trans (s9 _ _ e)
      have ef : (putF "needs" (.ref n) (putF "yes" (.ref Y) f3) : List (Str × V)) = aflds c D Y n ((2 ^ ys.length - 1 : Nat) : Int) := by rw [← hf3, ← hW]; rfl
      have BH : ∀ b o, H b = some o → b ≠ a → (upd G9 a (.ins C dx (putF "needs" (.ref n) (putF "yes" (.ref Y) f3)))) b = some o := fun b o e nb => wr9 _ _ nb (wr _ _ nb (B5 b o nb e))
      have nnH : H n = none := by
        cases e : H n with
        | none => rfl
        | some o => rw [wr _ _ nna (B5 _ _ nna e)] at nn; cases nn
      refine q _ ⟨c, D, Y, n, dx, ys, ms, st, fa⟩ BH ⟨?_, wr9 _ _ nca (wr _ _ nca ec5), wr9 _ _ nYa eY8, fun v hv => ⟨row_ne (R v (pm.mem_iff.mp hv)).1 ha fun b o nb e => BH b o e nb, (R v (pm.mem_iff.mp hv)).2⟩, fun z => by rw [← show Y = n from z, eY8] at nn; cases nn⟩ ⟨ly, ?_, ?_, fun p hp => (hms p hp).1⟩ ⟨[], ?_, (fun m v _ e => by cases e), (fun k hk => nomatch hk), List.nodup_nil⟩ rfl rfl pm (lists_perm gp.nd pn em fun q hq => (hms q hq).2) nnH (by show (ms.map (·.1)).Perm _; rw [em]; exact pn) (fun q hq => (hms q hq).2) ((upd_ne nna).trans en9) so (dn9.set nDa.symm (s9 _ _ ea8) (fun xs z => by cases z))
      · rw [upd_same, ef]
      · have := congrArg List.length em
        rw [List.length_map] at this
        show ms.length ≤ 6
        omega
      · rw [em]; exact pn.nodup_iff.mpr gp.nd
      · exact (upd_ne nna).trans en9

end
end Kn

set_option Elab.async false
set_option linter.all false
set_option maxRecDepth 100000
set_option maxHeartbeats 4000000
namespace Kn
open PySem PySem.Spec PyProof.Rows L2
open C8 (Cal pe_c pe_gc Mak pe_mk)
section
variable {P : Program} {w : World} {K : PySem.W.Frag} {mg : Str → Option Value} {base : Heap}
theorem sub_len {α : Type} [DecidableEq α] : ∀ {l m : List α}, l.Nodup → (∀ x ∈ l, x ∈ m) → l.length ≤ m.length
  | [], _, _, _ => Nat.zero_le _
  | x :: r, m, d, h => by
    obtain ⟨d1, d2⟩ := List.nodup_cons.mp d
    have hx := h x List.mem_cons_self
    have ih := sub_len (m := m.erase x) d2 (fun y hy => (List.mem_erase_of_ne (fun e : y = x => d1 (by rw [← e]; exact hy))).mpr (h y (List.mem_cons_of_mem _ hy)))
    have e := List.length_erase_of_mem hx
    have : 0 < m.length := List.length_pos_of_mem hx
    rw [List.length_cons]
    omega
theorem putK_nd {kvs : List (Key × V)} (nd : (kvs.map (·.1)).Nodup) (k : Key) (v : V) : ((putK kvs k v).map (·.1)).Nodup := by
  unfold putK
  by_cases c : (kvs.any fun kv => decide (kv.1 = k)) = true
  · rw [if_pos c, List.map_map]
    have e : kvs.map ((·.1) ∘ fun kv : Key × V => if kv.1 = k then (kv.1, v) else kv) = kvs.map (·.1) := List.map_congr_left fun p _ => by
      show (if p.1 = k then (p.1, v) else p).1 = p.1
      by_cases z : p.1 = k
      · rw [if_pos z]
      · rw [if_neg z]
    rw [e]; exact nd
  · rw [if_neg c, List.map_append]
    refine List.nodup_append.mpr ⟨nd, List.nodup_cons.mpr ⟨(fun h => nomatch h), List.nodup_nil⟩, fun a ha b hb e => ?_⟩
    obtain ⟨p, hp, rfl⟩ := List.mem_map.mp ha
    rw [List.mem_singleton.mp hb] at e
    exact c (List.any_eq_true.mpr ⟨p, hp, decide_eq_true e⟩)
/-! which sets stand in the dict of needs -/
def KeyIn (H : Hp) (e : AEnv) (m : Nat) : Prop := ∃ kvs, H e.n = some (.dK kvs) ∧ (Sum.inl (m : Int) : Key) ∈ kvs.map (·.1)
def Closed (H : Hp) (e : AEnv) : Prop := ∀ m, KeyIn H e m → stl e.fa (sel m e.ys) = false → ∀ p ∈ e.ms, ptG e.st p.2.2 (sel m e.ys) = true → KeyIn H e (m &&& p.2.1) ∧ KeyIn H e (m - (m &&& p.2.1))
def Grow (H H' : Hp) (e : AEnv) : Prop := ∀ m, KeyIn H e m → KeyIn H' e m
theorem Grow.refl {H : Hp} {e : AEnv} : Grow H H e := fun _ h => h
theorem Grow.trans {H H' H'' : Hp} {e : AEnv} (a : Grow H H' e) (b : Grow H' H'' e) : Grow H H'' e := fun m h => b m (a m h)
theorem Same.grow {H H' : Hp} {e : AEnv} (s : Same H H') : Grow H H' e := fun _ ⟨kvs, h, i⟩ => ⟨kvs, s _ _ h, i⟩
theorem KeyIn.same {H H' : Hp} {e : AEnv} {kvs : List (Key × V)} {m : Nat} (h : KeyIn H' e m) (a : H e.n = some (.dK kvs)) (s : Same H H') : KeyIn H e m := by
  obtain ⟨ks, b, c⟩ := h
  rw [s _ _ a] at b
  cases b
  exact ⟨kvs, a, c⟩
theorem Closed.same {H H' : Hp} {e : AEnv} {kvs : List (Key × V)} (h : Closed H e) (a : H e.n = some (.dK kvs)) (s : Same H H') : Closed H' e := fun m k us p hp pt =>
  let ⟨x, y⟩ := h m (k.same a s) us p hp pt
  ⟨Same.grow s _ x, Same.grow s _ y⟩
theorem putK_in {kvs : List (Key × V)} {k k' : Key} {v : V} : k' ∈ (putK kvs k v).map (·.1) ↔ k' = k ∨ k' ∈ kvs.map (·.1) := by
  rw [← valN_in, valV_put, ← valN_in]
  by_cases c : k' = k
  · rw [if_pos c]; exact ⟨fun _ => .inl c, fun _ => rfl⟩
  · rw [if_neg c]; exact ⟨.inr, fun h => h.elim (fun z => (c z).elim) id⟩
theorem KeyIn.put {H G : Hp} {e : AEnv} {kvs : List (Key × V)} {m m' : Nat} {v : V} (a : H e.n = some (.dK kvs)) (g : G e.n = some (.dK (putK kvs (.inl (m : Int)) v))) : KeyIn G e m' ↔ m' = m ∨ KeyIn H e m' := by
  constructor
  · rintro ⟨ks, h, i⟩
    rw [g] at h
    cases h
    rcases putK_in.mp i with z | z
    · exact .inl (by have := Sum.inl.inj z; omega)
    · exact .inr ⟨kvs, a, z⟩
  · rintro (rfl | ⟨ks, h, i⟩)
    · exact ⟨_, g, putK_in.mpr (.inl rfl)⟩
    · rw [a] at h
      cases h
      exact ⟨_, g, putK_in.mpr (.inr i)⟩
theorem Closed.put {H G : Hp} {e : AEnv} {kvs : List (Key × V)} {m : Nat} {v : V} (c : Closed H e) (a : H e.n = some (.dK kvs)) (g : G e.n = some (.dK (putK kvs (.inl (m : Int)) v))) (n : stl e.fa (sel m e.ys) = false → ∀ p ∈ e.ms, ptG e.st p.2.2 (sel m e.ys) = true → KeyIn H e (m &&& p.2.1) ∧ KeyIn H e (m - (m &&& p.2.1))) : Closed G e := fun m' k us p hp pt => by
  have up : ∀ x, KeyIn H e x → KeyIn G e x := fun x h => (KeyIn.put a g).mpr (.inr h)
  rcases (KeyIn.put a g).mp k with rfl | k
  · obtain ⟨x, y⟩ := n us p hp pt
    exact ⟨up _ x, up _ y⟩
  · obtain ⟨x, y⟩ := c m' k us p hp pt
    exact ⟨up _ x, up _ y⟩
/-! ### how many asks a set needs -/
theorem AskO.but {C : Addr} {H H' : Hp} {a : Addr} {e : AEnv} {kvs : List (Key × V)} (h : AskO C H a e) (hn : H e.n = some (.dK kvs)) (k : ∀ b o, b ≠ e.n → H b = some o → H' b = some o) : AskO C H' a e :=
  ⟨k _ _ (ne_of h.ob hn fun z => by cases z) h.ob, k _ _ (ne_of h.hc hn fun z => by cases z) h.hc, k _ _ h.yn h.hy, fun v hv => ⟨(h.rw v hv).1.ext fun b vs q => k b _ (fun z => by rw [z, hn] at q; cases q) q, (h.rw v hv).2⟩, h.yn⟩
theorem Memo.put {H : Hp} {e : AEnv} {m : Nat} (h : Memo H e) (lt : m < 2 ^ e.ys.length) (few : e.ys.length ≤ 10) : ∃ kvs, H e.n = some (.dK kvs) ∧ kvs.length < 2000 ∧ ∀ G : Hp, G e.n = some (.dK (putK kvs (.inl (m : Int)) (.int (needOf e m)))) → Memo G e := by
  obtain ⟨kvs, a, ok, ks, nd⟩ := h
  have l1 : kvs.length ≤ 2 ^ e.ys.length := by
    have := sub_len (m := (List.range (2 ^ e.ys.length)).map fun i => (Sum.inl ((i : Nat) : Int) : Key)) nd fun k hk => by
      obtain ⟨i, rfl, hi⟩ := ks k hk
      exact List.mem_map.mpr ⟨i, List.mem_range.mpr hi, rfl⟩
    rw [List.length_map, List.length_map, List.length_range] at this
    exact this
  have l2 : 2 ^ e.ys.length ≤ 2 ^ 10 := Nat.pow_le_pow_right (by decide) few
  refine ⟨kvs, a, by omega, fun G eG => ⟨_, eG, fun i v hi hv => ?_, fun k hk => ?_, putK_nd nd _ _⟩⟩
  · rw [valV_put] at hv
    by_cases c : (Sum.inl (i : Int) : Key) = .inl (m : Int)
    · rw [if_pos c] at hv
      have z : i = m := by have := Sum.inl.inj c; omega
      rw [z, ← Option.some.inj hv]
    · rw [if_neg c] at hv
      exact ok i v hi hv
  · have z := valN_in.mpr hk
    rw [valV_put] at z
    by_cases c : k = .inl (m : Int)
    · exact ⟨m, c, lt⟩
    · rw [if_neg c] at z
      exact ks k (valN_in.mp z)
def sp_Asks_need (_ : PySem.W.Frag) (C : Addr) (κ : Nat) : Sp := fun vs H Q _ => ∃ (a : Addr) (e : AEnv) (m : Nat), vs = [.ref a, .int (m : Int)] ∧ AskO C H a e ∧ GoodA e ∧ Memo H e ∧ Closed H e ∧ m < 2 ^ e.ys.length ∧ (sel m e.ys).length ≤ κ ∧
  ∀ H', (∀ b o, b ≠ e.n → H b = some o → H' b = some o) → AskO C H' a e → Memo H' e → Closed H' e → Grow H H' e → KeyIn H' e m → Q (.int (needOf e m : Int)) H'
def sp_Asks_least_need (_ : PySem.W.Frag) (C : Addr) (κ : Nat) : Sp := fun vs H Q _ => ∃ (a : Addr) (e : AEnv) (m : Nat), vs = [.ref a, .int (m : Int)] ∧ AskO C H a e ∧ GoodA e ∧ Memo H e ∧ Closed H e ∧ m < 2 ^ e.ys.length ∧ (sel m e.ys).length ≤ κ ∧ stl e.fa (sel m e.ys) = false ∧
  ∀ H', (∀ b o, b ≠ e.n → H b = some o → H' b = some o) → AskO C H' a e → Memo H' e → Closed H' e → Grow H H' e → (∀ p ∈ e.ms, ptG e.st p.2.2 (sel m e.ys) = true → KeyIn H' e (m &&& p.2.1) ∧ KeyIn H' e (m - (m &&& p.2.1))) → Q (.int (needOf e m : Int)) H'
def sp_Asks_need_behind (_ : PySem.W.Frag) (C : Addr) (κ : Nat) : Sp := fun vs H Q _ => ∃ (a : Addr) (e : AEnv) (p : Yes) (m : Nat), vs = [.ref a, .str p.1, .int (m : Int)] ∧ AskO C H a e ∧ GoodA e ∧ Memo H e ∧ Closed H e ∧ m < 2 ^ e.ys.length ∧ (sel m e.ys).length ≤ κ + 1 ∧ p ∈ e.ms ∧ ptG e.st p.2.2 (sel m e.ys) = true ∧
  ∀ H', (∀ b o, b ≠ e.n → H b = some o → H' b = some o) → AskO C H' a e → Memo H' e → Closed H' e → Grow H H' e → KeyIn H' e (m &&& p.2.1) → KeyIn H' e (m - (m &&& p.2.1)) → Q (.int (max (needOf e (m &&& p.2.1)) (needOf e (m - (m &&& p.2.1))) : Nat)) H'
theorem max_nat (i j : Nat) : (if (j : Int) > (i : Int) then (j : Int) else (i : Int)) = ((max i j : Nat) : Int) := by
  by_cases c : i < j
  · rw [if_pos (by omega)]; omega
  · rw [if_neg (by omega)]; omega
theorem min_nat (i j : Nat) : (if (j : Int) < (i : Int) then (j : Int) else (i : Int)) = ((min i j : Nat) : Int) := by
  by_cases c : j < i
  · rw [if_pos (by omega)]; omega
  · rw [if_neg (by omega)]; omega
theorem need_fold {e : AEnv} {m : Nat} (g : GoodA e) (us : stl e.fa (sel m e.ys) = false) : needOf e m = (e.ms.filter fun p => ptG e.st p.2.2 (sel m e.ys)).foldl (fun b p => min b (max (needOf e (m &&& p.2.1)) (needOf e (m - (m &&& p.2.1))) + 1)) 1000 := by
  unfold needOf
  rw [nd_eq (cap := 1000) (g := sel m e.ys), us, if_neg (by decide)]
  conv => lhs; unfold lists
  rw [List.foldl_map, List.foldl_filter]
  refine fold_same e.ms (fun p hp b => ?_) 1000
  have yo := g.ok p hp
  by_cases c : ptG e.st p.2.2 (sel m e.ys) = true
  · rw [if_pos c, if_pos c, sel_and yo, sel_diff yo, Nat.add_comm]; rfl
  · rw [if_neg c, if_neg c]
theorem ok_Asks_need_behind {f : Addr} {C : Addr} {fd : FuncData} {κ : Nat} (T : Txt K mg C) (F : Fun K "need_behind" "Asks.need_behind" s_Asks_need_behind f fd) (c_Asks_parts_by : C8.Met P w K mg base 1 C "parts_by" (sp_Asks_parts_by K C) []) (c_Asks_need : C8.Met P w K mg base (6 * κ + 9) C "need" (sp_Asks_need K C κ) []) :
    FnOk P w K mg base CX0 (6 * κ + 11) f fd ["self", "name", "chosen"] (sp_Asks_need_behind K C κ) := by
  have nd := sc_Asks_need_behind.nd
  refine F.ok sc_Asks_need_behind (fun vs H Q E h => ?_) (fun cdv A outer s H vs Q E hr h => ?_)
  · obtain ⟨a, e, p, m, rfl, _⟩ := h
    rfl
  · obtain ⟨a, e, p, m, rfl, o, g, mm, cl, lt, ln, hp, pt, q⟩ := h
    obtain ⟨kv0, m0⟩ := id mm
    refine ⟨_, (pss_cons (ps_asg (C8.pe_mt c_Asks_parts_by hr (by omega) (pv 0) (pa_cons (pv 1) (pa_cons (pv 2) pa_nil))) (pg_tup (by rfl) (pgs_cons (pg_name (i := 3) nd rfl (.inl rfl)) (pgs_cons (pg_name (i := 4) nd rfl (.inl rfl)) pgs_nil))))
      (pss_one (ps_ret (pe_callB (call_max2 rfl) (by rfl) T.m_max (by decide +kernel) (pa_cons (C8.pe_mt c_Asks_need hr (by omega) (pv 0) (pa_cons (pv 3) pa_nil)) (pa_cons (C8.pe_mt c_Asks_need hr (by omega) (pv 0) (pa_cons (pv 4) pa_nil)) pa_nil)))))), ?_⟩
    have nam : ∀ {x : Str}, x ≠ "candidates" → x ≠ "places" → x ≠ "whole" → x ≠ "yes" → x ≠ "needs" → (aflds e.c e.pl e.y e.n ((2 ^ e.ys.length - 1 : Nat) : Int)).lookup x = none := fun h1 h2 h3 h4 h5 => af_none _ _ _ _ _ h1 h2 h3 h4 h5
    have yo := g.ok p hp
    obtain ⟨p1, p2⟩ := pt_lt pt
    have le := (KnA.sub_test m p.2.1).1
    refine ⟨.ref a, rfl, a, _, _, rfl, o.ob, nam (by decide +kernel) (by decide +kernel) (by decide +kernel) (by decide +kernel) (by decide +kernel), .str p.1, rfl, .int (m : Int), rfl, a, e, p, m, rfl, o.f, g, hp, fun H1 t s1 et => ?_⟩
    refine ⟨t, _, rfl, .inl (.inl et), rfl, .int _, _, rfl, .int _, [], rfl, rfl, ?_⟩
    have o1 := o.mono s1
    refine ⟨.ref a, rfl, a, _, _, rfl, o1.ob, nam (by decide +kernel) (by decide +kernel) (by decide +kernel) (by decide +kernel) (by decide +kernel), .int ((m &&& p.2.1 : Nat) : Int), rfl, a, e, m &&& p.2.1, rfl, o1, g, mm.mono s1, cl.same m0.at_ s1, by omega, by rw [sel_and yo]; omega, fun H2 k2 o2 m2 cl2 g2 i2 => ?_⟩
    refine ⟨.ref a, rfl, a, _, _, rfl, o2.ob, nam (by decide +kernel) (by decide +kernel) (by decide +kernel) (by decide +kernel) (by decide +kernel), .int ((m - (m &&& p.2.1) : Nat) : Int), rfl, a, e, m - (m &&& p.2.1), rfl, o2, g, m2, cl2, by omega, by rw [sel_diff yo]; omega, fun H3 k3 o3 m3 cl3 g3 i3 => ?_⟩
    have q' := q H3 (fun b x n z => k3 b x n (k2 b x n (s1 _ _ z))) o3 m3 cl3 ((Same.grow s1).trans (g2.trans g3)) (g3 _ i2) i3
    rw [← max_nat] at q'
    exact ⟨_, _, rfl, q'⟩
theorem ok_Asks_least_need {f : Addr} {C : Addr} {fd : FuncData} {κ : Nat} (T : Txt K mg C) (F : Fun K "least_need" "Asks.least_need" s_Asks_least_need f fd) (c_Asks_parting : C8.Met P w K mg base 1 C "parting" (sp_Asks_parting K C) []) (c_Asks_need_behind : C8.Met P w K mg base (6 * κ + 11) C "need_behind" (sp_Asks_need_behind K C κ) []) :
    FnOk P w K mg base CX0 (6 * κ + 13) f fd ["self", "chosen"] (sp_Asks_least_need K C (κ + 1)) := by
  have nd := sc_Asks_least_need.nd
  refine F.ok sc_Asks_least_need (fun vs H Q E h => ?_) (fun cdv A outer s H vs Q E hr h => ?_)
  · obtain ⟨a, e, m, rfl, _⟩ := h
    rfl
  · obtain ⟨a, e, m, rfl, o, g, mm, cl, lt, ln, us, q⟩ := h
    refine ⟨_, (pss_cons (ps_set (i := 2) nd rfl (.inl rfl) (pe_gc (by rfl) T.c_NEVER))
      (pss_cons (ps_for PassesOwn.never rfl (pi_list (C8.pe_mt c_Asks_parting hr (by omega) (pv 0) (pa_cons (pv 1) pa_nil))) (pg_name (i := 3) nd rfl (.inl rfl)) (pss_one (ps_set (i := 2) nd rfl (.inl rfl) (pe_callB (call_min2 rfl) (by rfl) T.m_min (by decide +kernel) (pa_cons (pv 2) (pa_cons (pe_op op_add (C8.pe_mt c_Asks_need_behind hr (by omega) (pv 0) (pa_cons (pv 3) (pa_cons (pv 1) pa_nil))) pe_int) pa_nil))))))
      (pss_one (ps_ret (pv 2))))), ?_⟩
    have nam : ∀ {x : Str}, x ≠ "candidates" → x ≠ "places" → x ≠ "whole" → x ≠ "yes" → x ≠ "needs" → (aflds e.c e.pl e.y e.n ((2 ^ e.ys.length - 1 : Nat) : Int)).lookup x = none := fun h1 h2 h3 h4 h5 => af_none _ _ _ _ _ h1 h2 h3 h4 h5
    refine ⟨.ref a, rfl, a, _, _, rfl, o.ob, nam (by decide +kernel) (by decide +kernel) (by decide +kernel) (by decide +kernel) (by decide +kernel), .int (m : Int), rfl, a, e, m, rfl, o, g, lt, fun H1 l s1 nl el => ⟨l, rfl, ⟨_, .inl (.inl el)⟩, ?_⟩⟩
    obtain ⟨kv0, mm0⟩ := mm
    have nln : l ≠ e.n := fun z => by rw [z, mm0.at_] at nl; cases nl
    generalize hps : (e.ms.filter fun p => ptG e.st p.2.2 (sel m e.ys)) = pl at el ⊢
    refine for_list (K := K) (xs := pl.map fun p => V.str p.1) (fun i σ G => ∃ y3, σ = [some (.ref a), some (.int (m : Int)), some (.int (((pl.take i).foldl (fun b p => min b (max (needOf e (m &&& p.2.1)) (needOf e (m - (m &&& p.2.1))) + 1)) 1000 : Nat) : Int)), y3] ∧ (∀ b x, b ≠ e.n → H1 b = some x → G b = some x) ∧ AskO C G a e ∧ Memo G e ∧ Closed G e ∧ Grow H1 G e ∧ ∀ p ∈ pl.take i, KeyIn G e (m &&& p.2.1) ∧ KeyIn G e (m - (m &&& p.2.1)))
      ⟨none, rfl, fun b x _ z => z, o.mono s1, Memo.mono ⟨kv0, mm0⟩ s1, cl.same mm0.at_ s1, Grow.refl, fun p hp => nomatch hp⟩ (fun i σ G _ hP => .inl (.inl (hP.choose_spec.2.1 _ _ nln el))) (fun i x σ G hx hP => ?_) (fun σ G hP => ?_)
    · obtain ⟨y3, rfl, k1, o1, m1, cl1, g1, i1⟩ := hP
      rw [List.getElem?_map] at hx
      cases gx : pl[i]? with
      | none => rw [gx] at hx; cases hx
      | some p =>
      rw [gx] at hx
      cases hx
      have mem : p ∈ e.ms.filter fun p => ptG e.st p.2.2 (sel m e.ys) := by rw [hps]; exact List.mem_of_getElem? gx
      obtain ⟨hp, pt⟩ := List.mem_filter.mp mem
      refine ⟨.int _, rfl, .ref a, rfl, a, _, _, rfl, o1.ob, nam (by decide +kernel) (by decide +kernel) (by decide +kernel) (by decide +kernel) (by decide +kernel), .str p.1, rfl, .int (m : Int), rfl, a, e, p, m, rfl, o1, g, m1, cl1, lt, ln, hp, pt, fun H3 k3 o3 m3 cl3 g3 j1 j2 => ?_⟩
      refine ⟨_, 1, rfl, rfl, _, _, rfl, ?_⟩
      refine ⟨some (.str p.1), ?_, fun b x n z => k3 b x n (k1 b x n z), o3, m3, cl3, g1.trans g3, fun p' hp' => ?_⟩
      · rw [take_more gx, List.foldl_append, List.foldl_cons, List.foldl_nil, ← min_nat]
        rfl
      · rw [take_more gx] at hp'
        rcases List.mem_append.mp hp' with z | z
        · exact ⟨g3 _ (i1 p' z).1, g3 _ (i1 p' z).2⟩
        · rw [List.mem_singleton.mp z]; exact ⟨j1, j2⟩
    · obtain ⟨y3, rfl, k1, o1, m1, cl1, g1, i1⟩ := hP
      rw [List.length_map, List.take_length] at i1
      rw [List.length_map, List.take_length]
      have q' := q G (fun b x n z => k1 b x n (s1 _ _ z)) o1 m1 cl1 ((Same.grow s1).trans g1) (fun p hp pt => i1 p (by rw [← hps]; exact List.mem_filter.mpr ⟨hp, pt⟩))
      rw [need_fold g us, hps] at q'
      exact ⟨_, rfl, q'⟩
theorem ok_Asks_need {f : Addr} {C : Addr} {fd : FuncData} {κ k : Nat} (h7 : 7 ≤ k) (T : Txt K mg C) (F : Fun K "need" "Asks.need" s_Asks_need f fd) (c_Asks_is_settled : C8.Met P w K mg base 3 C "is_settled" (sp_Asks_is_settled K C) []) (c_Asks_least_need : C8.Met P w K mg base k C "least_need" (sp_Asks_least_need K C κ) []) :
    FnOk P w K mg base CX0 (k + 2) f fd ["self", "chosen"] (sp_Asks_need K C κ) := by
  have nd := sc_Asks_need.nd
  refine F.ok sc_Asks_need (fun vs H Q E h => ?_) (fun cdv A outer s H vs Q E hr h => ?_)
  · obtain ⟨a, e, m, rfl, _⟩ := h
    rfl
  · obtain ⟨a, e, m, rfl, o, g, mm, cl, lt, ln, q⟩ := h
    refine ⟨_, (pss_cons (ps_if (pt_cmp (pc_dnotin (hu_of hr) (pv 1) (pe_fld (pv 0) rfl))) (pss_one (ps_dput (hu_of hr) (pe_fld (pv 0) rfl) (pv 1) (pe_ifExp (pt_val (C8.pe_mt c_Asks_is_settled hr (by omega) (pv 0) (pa_cons (pv 1) pa_nil))) pe_int (C8.pe_mt c_Asks_least_need hr (by omega) (pv 0) (pa_cons (pv 1) pa_nil))) rfl)) pss_nil)
      (pss_one (ps_ret (pe_dget (hu_of hr) (pe_fld (pv 0) rfl) (pv 1) (fun _ _ => rfl))))), ?_⟩
    have nam : ∀ {x : Str}, x ≠ "candidates" → x ≠ "places" → x ≠ "whole" → x ≠ "yes" → x ≠ "needs" → (aflds e.c e.pl e.y e.n ((2 ^ e.ys.length - 1 : Nat) : Int)).lookup x = none := fun h1 h2 h3 h4 h5 => af_none _ _ _ _ _ h1 h2 h3 h4 h5
    obtain ⟨kvs, mo⟩ := id mm
    refine ⟨.int (m : Int), rfl, .ref a, rfl, a, C, _, _, _, rfl, o.ob, T.cl_Asks, T.n_needs, af_n _ _ _ _ _, e.n, valV kvs (.inl (m : Int)), rfl, .inl ⟨kvs, .inl (m : Int), .inl mo.at_, rfl, rfl⟩, ?_⟩
    -- what is left, once it stands in the dict
    have fin : ∀ G : Hp, (∀ b x, b ≠ e.n → H b = some x → G b = some x) → AskO C G a e → Memo G e → Closed G e → Grow H G e → (∃ ks, G e.n = some (.dK ks) ∧ valV ks (.inl (m : Int)) = some (.int (needOf e m : Int))) → tRet (tDGet (tFld K (tVar 0) "needs") (tVar 1)) { nx := fun _ H' => Q .non H', rt := Q } [some (.ref a), some (.int (m : Int))] G := fun G k1 o1 m1 cl1 g1 ⟨ks, e1, v1⟩ =>
      ⟨.ref a, rfl, a, C, _, _, _, rfl, o1.ob, T.cl_Asks, T.n_needs, af_n _ _ _ _ _, .int (m : Int), rfl, e.n, _, rfl, .inl ⟨ks, .inl (m : Int), .inl e1, rfl, v1.symm⟩, q G k1 o1 m1 cl1 g1 ⟨ks, e1, valN_in.mp (by rw [v1]; rfl)⟩⟩
    cases hv : valV kvs (.inl (m : Int)) with
    | some v =>
      have ev := mo.ok m v lt hv
      rw [ev] at hv
      refine ⟨_, rfl, iteF (fin H (fun _ _ _ z => z) o mm cl Grow.refl ⟨kvs, mo.at_, hv⟩)⟩
    | none =>
      refine ⟨_, rfl, iteT ?_⟩
      refine ⟨.ref a, rfl, a, _, _, rfl, o.ob, nam (by decide +kernel) (by decide +kernel) (by decide +kernel) (by decide +kernel) (by decide +kernel), .int (m : Int), rfl, a, e, m, rfl, o.f, g, fun H1 s1 => ⟨_, rfl, ?_⟩⟩
      have o1 := o.mono s1
      have m1 := mm.mono s1
      have cl1 := cl.same mo.at_ s1
      obtain ⟨kv1, e1, l1, put1⟩ := Memo.put m1 lt g.few
      cases us : stl e.fa (sel m e.ys) with
      | true =>
        have e0 : needOf e m = 0 := by unfold needOf; rw [nd_eq, us, if_pos rfl]
        refine iteT ⟨.ref a, rfl, a, C, _, _, _, rfl, o1.ob, T.cl_Asks, T.n_needs, af_n _ _ _ _ _, .int (m : Int), rfl, e.n, _, rfl, .inl ⟨kv1, .inl (m : Int), e1, rfl, small (by omega), rfl⟩, ?_⟩
        rw [e0] at put1 fin
        exact fin _ (fun b x n z => (upd_ne n).trans (s1 _ _ z)) (o1.but e1 fun b x n z => (upd_ne n).trans z) (put1 _ upd_same) (cl1.put e1 upd_same fun z => by rw [us] at z; cases z) ((Same.grow s1).trans fun x hx => (KeyIn.put e1 upd_same).mpr (.inr hx)) ⟨_, upd_same, by rw [valV_put, if_pos rfl]; rfl⟩
      | false =>
        refine iteF ⟨.ref a, rfl, a, _, _, rfl, o1.ob, nam (by decide +kernel) (by decide +kernel) (by decide +kernel) (by decide +kernel) (by decide +kernel), .int (m : Int), rfl, a, e, m, rfl, o1, g, m1, cl1, lt, ln, us, fun H2 k2 o2 m2 cl2 g2 i2 => ?_⟩
        obtain ⟨kv2, e2, l2, put2⟩ := Memo.put m2 lt g.few
        refine ⟨.ref a, rfl, a, C, _, _, _, rfl, o2.ob, T.cl_Asks, T.n_needs, af_n _ _ _ _ _, .int (m : Int), rfl, e.n, _, rfl, .inl ⟨kv2, .inl (m : Int), e2, rfl, small (by omega), rfl⟩, ?_⟩
        exact fin _ (fun b x n z => (upd_ne n).trans (k2 b x n (s1 _ _ z))) (o2.but e2 fun b x n z => (upd_ne n).trans z) (put2 _ upd_same) (cl2.put e2 upd_same fun _ => i2) (((Same.grow s1).trans g2).trans fun x hx => (KeyIn.put e2 upd_same).mpr (.inr hx)) ⟨_, upd_same, by rw [valV_put, if_pos rfl]⟩
theorem met_need {C : Addr} (T : Txt K mg C) {fN fL fB : Addr} {dN dL dB : FuncData} (cl : Cls K C) (FN : Fun K "need" "Asks.need" s_Asks_need fN dN) (FL : Fun K "least_need" "Asks.least_need" s_Asks_least_need fL dL) (FB : Fun K "need_behind" "Asks.need_behind" s_Asks_need_behind fB dB)
    (mN : Meth K C "need" fN) (mL : Meth K C "least_need" fL) (mB : Meth K C "need_behind" fB) (bN : Binds K dN ["self", "chosen"] []) (bL : Binds K dL ["self", "chosen"] []) (bB : Binds K dB ["self", "name", "chosen"] [])
    (c1 : C8.Met P w K mg base 3 C "is_settled" (sp_Asks_is_settled K C) []) (c2 : C8.Met P w K mg base 1 C "parting" (sp_Asks_parting K C) []) (c3 : C8.Met P w K mg base 1 C "parts_by" (sp_Asks_parts_by K C) []) :
    ∀ κ : Nat, C8.Met P w K mg base (6 * κ + 9) C "need" (sp_Asks_need K C κ) [] := by
  intro κ
  induction κ with
  | zero =>
    have no : ∀ vs H Q E, sp_Asks_least_need K C 0 vs H Q E → False := fun vs H Q E ⟨a, e, m, _, _, _, _, _, _, ln, us, _⟩ => by
      rw [stl_short (by omega)] at us; cases us
    have cL : C8.Met P w K mg base 7 C "least_need" (sp_Asks_least_need K C 0) [] := ⟨fL, dL, ["self", "chosen"], [], cl, mL, ⟨fun vs H Q E h => (no _ _ _ _ h).elim, fun A outer s H args us vs Q E _ _ _ _ h => (no _ _ _ _ h).elim⟩, bL, .nil⟩
    exact ⟨fN, dN, ["self", "chosen"], [], cl, mN, ok_Asks_need (Nat.le_refl 7) T FN c1 cL, bN, .nil⟩
  | succ κ ih =>
    have cB : C8.Met P w K mg base (6 * κ + 11) C "need_behind" (sp_Asks_need_behind K C κ) [] := ⟨fB, dB, ["self", "name", "chosen"], [], cl, mB, ok_Asks_need_behind T FB c3 ih, bB, .nil⟩
    have cL : C8.Met P w K mg base (6 * κ + 13) C "least_need" (sp_Asks_least_need K C (κ + 1)) [] := ⟨fL, dL, ["self", "chosen"], [], cl, mL, ok_Asks_least_need T FL c2 cB, bL, .nil⟩
    exact ⟨fN, dN, ["self", "chosen"], [], cl, mN, ok_Asks_need (k := 6 * κ + 13) (by omega) T FN c1 cL, bN, .nil⟩

end
end Kn

set_option Elab.async false
set_option linter.all false
set_option maxRecDepth 100000
set_option maxHeartbeats 4000000
namespace Kn
open PySem PySem.Spec PyProof.Rows L2
open C8 (Cal pe_c pe_gc Mak pe_mk)
section
variable {P : Program} {w : World} {K : PySem.W.Frag} {mg : Str → Option Value} {base : Heap}
/-! ### the source of digits -/
/-- all stands as it stood, but for one cell -/
def But (s : Addr) (H H' : Hp) : Prop := ∀ b o, H b = some o → b ≠ s → H' b = some o
theorem But.refl {s : Addr} {H : Hp} : But s H H := fun _ _ e _ => e
theorem But.trans {s : Addr} {H H' H'' : Hp} (a : But s H H') (b : But s H' H'') : But s H H'' := fun x o e n => b x o (a x o e n) n
theorem Same.but {s : Addr} {H H' : Hp} (a : Same H H') : But s H H' := fun x o e _ => a x o e
theorem But.ne {s x : Addr} {H : Hp} {o : HO} (hs : H s = some o) (hx : H x = none) : x ≠ s := fun z => by rw [z, hs] at hx; cases hx
structure SrcO (H : Hp) (s c : Addr) (ns : List Int) (i j k : Int) : Prop where
  at_ : H s = some (.lst [.ref c, .int i, .int j, .int k])
  cs : H c = some (.lst (ns.map V.int))
  lo : 0 ≤ i
  hi : i < ns.length
  l : ns.length ≤ 64
  j0 : 0 ≤ j
def SrcAt (H : Hp) (s c : Addr) : Prop := ∃ ns i j k, SrcO H s c ns i j k
theorem SrcO.ne {H : Hp} {s c : Addr} {ns : List Int} {i j k : Int} (h : SrcO H s c ns i j k) : c ≠ s := fun z => by
  have a := h.at_
  rw [← z, h.cs] at a
  have b := HO.lst.inj (Option.some.inj a)
  cases ns with
  | nil => cases b
  | cons x r => cases b
theorem SrcAt.mono {H H' : Hp} {s c : Addr} (h : SrcAt H s c) (k : Same H H') : SrcAt H' s c := by
  obtain ⟨ns, i, j, n, o⟩ := h
  exact ⟨ns, i, j, n, k _ _ o.at_, k _ _ o.cs, o.lo, o.hi, o.l, o.j0⟩
theorem SrcAt.occ {H : Hp} {s c : Addr} (h : SrcAt H s c) : ∃ o, H s = some o := by
  obtain ⟨ns, i, j, n, o⟩ := h
  exact ⟨_, o.at_⟩
theorem SrcAt.ne {H : Hp} {s c x : Addr} (h : SrcAt H s c) (n : H x = none) : x ≠ s := by
  obtain ⟨o, e⟩ := h.occ
  exact But.ne e n
theorem SrcAt.nec {H : Hp} {s c x : Addr} (h : SrcAt H s c) (n : H x = none) : x ≠ c := by
  obtain ⟨ns, i, j, m, o⟩ := h
  exact But.ne o.cs n
theorem SrcAt.set {H : Hp} {s c x : Addr} {u : HO} (h : SrcAt H s c) (n1 : x ≠ s) (n2 : x ≠ c) : SrcAt (upd H x u) s c := by
  obtain ⟨ns, i, j, m, o⟩ := h
  exact ⟨ns, i, j, m, (upd_ne n1.symm).trans o.at_, (upd_ne n2.symm).trans o.cs, o.lo, o.hi, o.l, o.j0⟩
theorem But.set {s x : Addr} {H G : Hp} {u : HO} (n : H x = none) (b : But s H G) : But s H (upd G x u) := fun y o e ne => (upd_ne (ne_of_none e n)).trans (b y o e ne)
theorem But.fresh {s c x : Addr} {H H' : Hp} (b : But s H H') (h : SrcAt H' s c) (n : H' x = none) : H x = none := by
  cases e : H x with
  | none => rfl
  | some o =>
    by_cases z : x = s
    · exact (h.ne n z).elim
    · rw [b x o e z] at n; cases n
theorem SrcO.put {H : Hp} {s c : Addr} {ns : List Int} {i j k : Int} (h : SrcO H s c ns i j k) {i' j' k' : Int} (lo : 0 ≤ i') (hi : i' < ns.length) (j0 : 0 ≤ j') : SrcO (upd H s (.lst [.ref c, .int i', .int j', .int k'])) s c ns i' j' k' :=
  ⟨upd_same, (upd_ne h.ne).trans h.cs, lo, hi, h.l, j0⟩
theorem But.put {s : Addr} {H : Hp} {x : HO} : But s H (upd H s x) := fun _ _ e n => (upd_ne n).trans e
def sp__law_source (K : PySem.W.Frag) : Sp := fun vs H Q _ => ∃ (a : Addr) (ns : List Int), vs = [.ref a] ∧ SqL K H a (ns.map V.int) ∧ ns.length ≤ 63 ∧ ∀ H' s c, Same H H' → H s = none → SrcAt H' s c → Q (.ref s) H'
def sp__law_draw (_ : PySem.W.Frag) : Sp := fun vs H Q _ => ∃ (s c : Addr) (n : Int), vs = [.ref s, .int n] ∧ 0 < n ∧ n < 1073741824 ∧ SrcAt H s c ∧ ∀ H' r, But s H H' → SrcAt H' s c → 0 ≤ r → r < n → Q (.int r) H'
theorem ok__law_source {f : Addr} {C : Addr} {fd : FuncData} (T : Txt K mg C) (F : Fun K "_law_source" "_law_source" s__law_source f fd)  : FnOk P w K mg base CX0 1 f fd ["_law_script"] (sp__law_source K) := by
  have nd := sc__law_source.nd
  refine F.ok sc__law_source (fun vs H Q E h => ?_) (fun cdv A outer s H vs Q E hr h => ?_)
  · obtain ⟨a, ns, rfl, _⟩ := h
    rfl
  · obtain ⟨a, ns, rfl, ha, ln, q⟩ := h
    refine ⟨_, (pss_one (ps_ret (pe_lst (pa_cons (pe_op op_cat (pe_lc (own := [("_law_cell", 1)]) (g := gName 1) (tt := tYes) rfl nd (pi_list (pe_slice sl_list (pv 0) po_none (po_some pe_int))) (blkOk_by (N := ["_law_script", "_law_cell"]) (sc := defScope s__law_source) (by decide +kernel)) (fun _ _ _ _ _ => (pg_name (i := 1) nd rfl (.inl rfl))) (fun _ _ _ _ _ => pts_nil) (fun _ _ _ _ _ => (pe_callTy call_int1 (by rfl) T.m_int (by decide +kernel) (pa_cons (pv 1) pa_nil)))) (pe_lst (pa_cons pe_int pa_nil))) (pa_cons pe_int (pa_cons pe_int (pa_cons pe_int pa_nil))))))), ?_⟩
    refine ⟨.ref a, rfl, 63, rfl, a, ns.map V.int, rfl, ha, fun l nl => ?_⟩
    have ec : cutV (ns.map V.int) none (some (63 : Int)) = ns.map V.int := by
      rw [show (some (63 : Int)) = some ((63 : Nat) : Int) from rfl, cut_to, List.take_of_length_le (by rw [List.length_map]; omega)]
    rw [ec]
    have sl := same_upd (o := .lst (ns.map V.int)) nl
    have el : (upd H l (.lst (ns.map V.int))) l = some (.lst (ns.map V.int)) := upd_same
    generalize upd H l (.lst (ns.map V.int)) = H1 at sl el ⊢
    refine ⟨l, rfl, ⟨_, .inl (.inl el)⟩, fun LD nLD => ?_⟩
    refine lc_list (K := K) (xs := ns.map V.int) (fun i G => Same H1 G ∧ G LD = some (.lst ((ns.take i).map V.int))) ⟨same_upd nLD, upd_same⟩ (fun i G _ hP => .inl (.inl (hP.1 _ _ el))) (fun i x G hx hP => ?_) (fun G hP => ?_)
    · obtain ⟨S, eD⟩ := hP
      rw [List.getElem?_map] at hx
      cases gx : ns[i]? with
      | none => rw [gx] at hx; cases hx
      | some u =>
      rw [gx] at hx
      cases hx
      have hi : i < ns.length := (List.getElem?_eq_some_iff.mp gx).1
      refine ⟨rfl, ?_⟩
      unfold tYes
      refine iteT ⟨.int u, rfl, .inl ⟨u, rfl, _, eD, small (by rw [List.length_map, List.length_take]; omega), same_set nLD S, ?_⟩⟩
      rw [upd_same, take_more gx, List.map_append]; rfl
    · obtain ⟨S, eD⟩ := hP
      rw [List.length_map, List.take_length] at eD
      refine ⟨szl rfl, fun t3 n3 => ?_⟩
      have s3 := same_upd (o := .lst [V.int 0]) n3
      refine ⟨LD, t3, _, [V.int 0], rfl, rfl, s3 _ _ eD, upd_same, smallE (by rw [List.length_map]; show ns.length + 1 ≤ 100000; omega), fun t4 n4 => ?_⟩
      have s4 := s3.trans (same_upd (o := .lst (ns.map V.int ++ [V.int 0])) n4)
      have e4 : (upd (upd G t3 (.lst [V.int 0])) t4 (.lst (ns.map V.int ++ [V.int 0]))) t4 = some (.lst ((ns ++ [0]).map V.int)) := by rw [upd_same, List.map_append]; rfl
      generalize upd (upd G t3 (.lst [V.int 0])) t4 (.lst (ns.map V.int ++ [V.int 0])) = G4 at s4 e4 ⊢
      refine ⟨szl rfl, fun s ns_ => ?_⟩
      have s5 := same_upd (o := .lst [.ref t4, .int 0, .int 0, .int 0]) ns_
      have S5 := sl.trans (S.trans (s4.trans s5))
      refine q _ s t4 S5 ((sl.trans (S.trans s4)).free ns_) ⟨ns ++ [0], 0, 0, 0, upd_same, s5 _ _ e4, Int.le_refl _, ?_, ?_, Int.le_refl _⟩
      · rw [List.length_append]; exact Int.lt_of_lt_of_le (show (0 : Int) < 1 by decide) (by show (1 : Int) ≤ ((ns.length + 1 : Nat) : Int); omega)
      · rw [List.length_append]; show ns.length + 1 ≤ 64; omega
theorem ok__law_draw {f : Addr} {C : Addr} {fd : FuncData} (T : Txt K mg C) (F : Fun K "_law_draw" "_law_draw" s__law_draw f fd)  : FnOk P w K mg base CX0 1 f fd ["_law_source_here", "_law_many"] (sp__law_draw K) := by
  have nd := sc__law_draw.nd
  refine F.ok sc__law_draw (fun vs H Q E h => ?_) (fun cdv A outer s H vs Q E hr h => ?_)
  · obtain ⟨a, c, n, rfl, _⟩ := h
    rfl
  · obtain ⟨a, c, n, rfl, n0, n1, ⟨ns, i, j, k, o⟩, q⟩ := h
    refine ⟨_, (pss_cons (ps_augS (pv 0) pe_int KnL.get_list pe_int ip_add set_list)
      (pss_cons (ps_if (pt_cmpR op_gt (pe_ix (r := rIxL K) ix_list (pv 0) pe_int (fun _ _ => rfl)) pe_int (nomark _)) (pss_cons (ps_set (i := 2) nd rfl (.inl rfl) (pe_op op_mod (pe_callTy call_int1 (by rfl) T.m_int (by decide +kernel) (pa_cons (pe_ix (r := rIxL K) ix_list (pv 0) pe_int (fun _ _ => rfl)) pa_nil)) (pv 1)))
      (pss_cons (ps_asg (pe_op op_fdiv (pe_ix (r := rIxL K) ix_list (pv 0) pe_int (fun _ _ => rfl)) (pv 1)) (pg_sub (pv 0) pe_int set_list))
      (pss_one (ps_ret (pv 2))))) pss_nil)
      (pss_cons (ps_set (i := 3) nd rfl (.inl rfl) (pe_callTy call_int1 (by rfl) T.m_int (by decide +kernel) (pa_cons (pe_ix (r := rIxL K) ix_list (pe_ix (r := rIxL K) ix_list (pv 0) pe_int (fun _ _ => rfl)) (pe_ix (r := rIxL K) ix_list (pv 0) pe_int (fun _ _ => rfl)) (fun _ _ => rfl)) pa_nil)))
      (pss_cons (ps_asg (pe_op op_mod (pe_callTy call_int1 (by rfl) T.m_int (by decide +kernel) (pa_cons (pe_op op_add (pe_ix (r := rIxL K) ix_list (pv 0) pe_int (fun _ _ => rfl)) pe_int) pa_nil)) (pe_callB call_len (by rfl) T.m_len (by decide +kernel) (pa_cons (pe_ix (r := rIxL K) ix_list (pv 0) pe_int (fun _ _ => rfl)) pa_nil))) (pg_sub (pv 0) pe_int set_list))
      (pss_cons (ps_if (pt_cmpR op_ge (pv 3) (pe_op op_pow pe_int pe_int) (nomark _)) (pss_cons (ps_asg (pe_op op_fdiv (pv 3) (pv 1)) (pg_sub (pv 0) pe_int set_list))
      (pss_one (ps_ret (pe_op op_mod (pe_callTy call_int1 (by rfl) T.m_int (by decide +kernel) (pa_cons (pv 3) pa_nil)) (pv 1))))) pss_nil)
      (pss_cons (ps_set (i := 4) nd rfl (.inl rfl) (pe_op op_mod (pe_callTy call_int1 (by rfl) T.m_int (by decide +kernel) (pa_cons (pe_op op_mul (pe_op op_add (pe_op op_add (pv 3) (pe_op op_mul pe_int (pe_ix (r := rIxL K) ix_list (pv 0) pe_int (fun _ _ => rfl)))) pe_int) pe_int) pa_nil)) pe_int))
      (pss_cons (ps_set (i := 4) nd rfl (.inl rfl) (pe_op op_mod (pe_callTy call_int1 (by rfl) T.m_int (by decide +kernel) (pa_cons (pe_op op_mul (pv 4) (pe_op op_add (pe_op op_fdiv (pv 4) pe_int) pe_int)) pa_nil)) pe_int))
      (pss_cons (ps_set (i := 4) nd rfl (.inl rfl) (pe_op op_mod (pe_callTy call_int1 (by rfl) T.m_int (by decide +kernel) (pa_cons (pe_op op_mul (pv 4) (pe_op op_add (pe_op op_fdiv (pv 4) pe_int) pe_int)) pa_nil)) pe_int))
      (pss_one (ps_ret (pe_op op_mod (pe_callTy call_int1 (by rfl) T.m_int (by decide +kernel) (pa_cons (pe_op op_fdiv (pv 4) pe_int) pa_nil)) (pv 1)))))))))))), ?_⟩
    refine ⟨.ref a, rfl, a, _, 3, .int k, rfl, rfl, .inl (.inl o.at_), atI_nat (j := 3) rfl, k, 1, rfl, rfl, a, _, 3, 3, rfl, rfl, o.at_, rfl, ?_⟩
    have o1 := o.put (i' := i) (j' := j) (k' := k + 1) o.lo o.hi o.j0
    have b1 : But a H (upd H a (.lst [.ref c, .int i, .int j, .int (k + 1)])) := But.put
    show Ends.nx _ _ (upd H a (.lst [.ref c, .int i, .int j, .int (k + 1)]))
    generalize upd H a (.lst [.ref c, .int i, .int j, .int (k + 1)]) = G1 at o1 b1 ⊢
    refine ⟨.ref a, rfl, a, _, 2, .int j, rfl, rfl, .inl (.inl o1.at_), atI_nat (j := 2) rfl, j, 0, rfl, rfl, _, rfl, ite2 (fun c0 => ?_) (fun c0 => ?_)⟩
    · refine ⟨.ref a, rfl, a, _, 2, .int j, rfl, rfl, .inl (.inl o1.at_), atI_nat (j := 2) rfl, .inl ⟨j, rfl, .int n, rfl, j, n, rfl, rfl, n0, ?_⟩⟩
      refine ⟨.ref a, rfl, a, _, 2, .int j, rfl, rfl, .inl (.inl o1.at_), atI_nat (j := 2) rfl, .int n, rfl, j, n, rfl, rfl, ⟨n0, n1⟩, .ref a, rfl, a, _, 2, 2, rfl, rfl, o1.at_, rfl, ?_⟩
      have o2 := o1.put (i' := i) (j' := j / n) (k' := k + 1) o1.lo o1.hi (Int.ediv_nonneg o1.j0 (by omega))
      exact ⟨.int (j % n), rfl, q _ (j % n) (b1.trans But.put) ⟨_, _, _, _, o2⟩ (Int.emod_nonneg _ (by omega)) (Int.emod_lt_of_pos _ n0)⟩
    · obtain ⟨ii, rfl⟩ : ∃ m : Nat, i = (m : Int) := ⟨i.toNat, by have := o.lo; omega⟩
      have hi := o.hi
      have l64 := o.l
      have hii : ii < ns.length := by omega
      obtain ⟨x, gx⟩ : ∃ x, ns[ii]? = some x := ⟨_, List.getElem?_eq_getElem hii⟩
      have gx' : (ns.map V.int)[ii]? = some (.int x) := by rw [List.getElem?_map, gx]; rfl
      have lp : (0 : Int) < (ns.length : Int) := by omega
      refine ⟨.ref a, rfl, a, _, 0, .ref c, rfl, rfl, .inl (.inl o1.at_), atI_nat (j := 0) rfl, .ref a, rfl, a, _, 1, .int (ii : Int), rfl, rfl, .inl (.inl o1.at_), atI_nat (j := 1) rfl, c, ns.map V.int, (ii : Int), .int x, rfl, rfl, .inl (.inl o1.cs), atI_nat gx', .inl ⟨x, rfl, ?_⟩⟩
      refine ⟨.ref a, rfl, a, _, 1, .int (ii : Int), rfl, rfl, .inl (.inl o1.at_), atI_nat (j := 1) rfl, (ii : Int), 1, rfl, rfl, .inl ⟨_, rfl, .ref a, rfl, a, _, 0, .ref c, rfl, rfl, .inl (.inl o1.at_), atI_nat (j := 0) rfl, .ref c, ns.length, rfl, .inl ⟨_, .inl (.inl o1.cs), (List.length_map _).symm⟩, _, (ns.length : Int), rfl, rfl, lp, .ref a, rfl, a, _, 1, 1, rfl, rfl, o1.at_, rfl, ?_⟩⟩
      have o2 := o1.put (i' := ((ii : Int) + 1) % (ns.length : Int)) (j' := j) (k' := k + 1) (Int.emod_nonneg _ (by omega)) (Int.emod_lt_of_pos _ lp) o1.j0
      have b2 : But a H (upd G1 a (.lst [.ref c, .int (((ii : Int) + 1) % (ns.length : Int)), .int j, .int (k + 1)])) := b1.trans But.put
      show Ends.nx _ _ (upd G1 a (.lst [.ref c, .int (((ii : Int) + 1) % (ns.length : Int)), .int j, .int (k + 1)]))
      generalize upd G1 a (.lst [.ref c, .int (((ii : Int) + 1) % (ns.length : Int)), .int j, .int (k + 1)]) = G2 at o2 b2 ⊢
      refine ⟨.int x, rfl, 10, 18, rfl, rfl, ⟨by decide, by decide, by decide⟩, _, _, rfl, rfl, _, rfl, ite2 (fun c1 => ?_) (fun c1 => ?_)⟩
      · have c1 := of_decide_eq_true c1
        have x0 : 0 ≤ x := Int.le_trans (by decide) c1
        refine ⟨.int x, rfl, .int n, rfl, x, n, rfl, rfl, ⟨n0, n1⟩, .ref a, rfl, a, _, 2, 2, rfl, rfl, o2.at_, rfl, ?_⟩
        have o3 := o2.put (i' := ((ii : Int) + 1) % (ns.length : Int)) (j' := x / n) (k' := k + 1) o2.lo o2.hi (Int.ediv_nonneg x0 (by omega))
        exact ⟨.int x, rfl, .inl ⟨x, rfl, .int n, rfl, x, n, rfl, rfl, n0, q _ (x % n) (b2.trans But.put) ⟨_, _, _, _, o3⟩ (Int.emod_nonneg _ (by omega)) (Int.emod_lt_of_pos _ n0)⟩⟩
      · refine ⟨.int x, rfl, .ref a, rfl, a, _, 3, .int (k + 1), rfl, rfl, .inl (.inl o2.at_), atI_nat (j := 3) rfl, 7919, k + 1, rfl, rfl, .inl ⟨by decide, by decide⟩, x, _, rfl, rfl, _, 1, rfl, rfl, _, 48271, rfl, rfl, .inr ⟨by decide, by decide⟩, .inl ⟨_, rfl, _, 2147483647, rfl, rfl, (show (0 : Int) < 2147483647 by decide), ?_⟩⟩
        have m1 : ∀ y : Int, 0 ≤ y % 2147483647 ∧ y % 2147483647 < 2147483647 := fun y => ⟨Int.emod_nonneg _ (by decide), Int.emod_lt_of_pos _ (by decide)⟩
        obtain ⟨y1, y2⟩ := m1 ((x + 7919 * (k + 1) + 1) * 48271)
        obtain ⟨y, hy⟩ : ∃ y, ((x + 7919 * (k + 1) + 1) * 48271) % 2147483647 = y := ⟨_, rfl⟩
        rw [hy] at y1 y2
        have ey := congrArg (fun t => some (some (V.int t))) hy
        refine ⟨.int y, ey, .int y, ey, y, 1009, rfl, rfl, ⟨by decide, by decide⟩, y / 1009, 69621, rfl, rfl, y, _, rfl, rfl, .inl ⟨by omega, by omega⟩, .inl ⟨_, rfl, _, 2147483647, rfl, rfl, (show (0 : Int) < 2147483647 by decide), ?_⟩⟩
        obtain ⟨z1, z2⟩ := m1 (y * (y / 1009 + 69621))
        obtain ⟨z, hz⟩ : ∃ z, (y * (y / 1009 + 69621)) % 2147483647 = z := ⟨_, rfl⟩
        rw [hz] at z1 z2
        have ez := congrArg (fun t => some (some (V.int t))) hz
        refine ⟨.int z, ez, .int z, ez, z, 2003, rfl, rfl, ⟨by decide, by decide⟩, z / 2003, 40692, rfl, rfl, z, _, rfl, rfl, .inl ⟨by omega, by omega⟩, .inl ⟨_, rfl, _, 2147483399, rfl, rfl, (show (0 : Int) < 2147483399 by decide), ?_⟩⟩
        obtain ⟨u, hu⟩ : ∃ u, (z * (z / 2003 + 40692)) % 2147483399 = u := ⟨_, rfl⟩
        have eu := congrArg (fun t => some (some (V.int t))) hu
        exact ⟨.int u, eu, u, 3, rfl, rfl, ⟨by decide, by decide⟩, .inl ⟨_, rfl, .int n, rfl, u / 3, n, rfl, rfl, n0, q _ (u / 3 % n) b2 ⟨_, _, _, _, o2⟩ (Int.emod_nonneg _ (by omega)) (Int.emod_lt_of_pos _ n0)⟩⟩

/-! ### names, states, a step -/
def abc : Str := "abcdefghijklmnopqrstuvwxyz"
theorem abc_in : ∀ c ∈ abc.cps.toList, inL c = true := by decide +kernel
theorem cutS_mem {z : Str} {lo hi : Option Int} {c : Nat} (h : c ∈ (cutS z lo hi).cps.toList) : c ∈ z.cps.toList := by
  have h' : c ∈ (z.cps.toList.drop (HT.sIx z.length 0 lo)).take (HT.sIx z.length z.length hi - HT.sIx z.length 0 lo) := h
  exact List.mem_of_mem_drop (List.mem_of_mem_take h')
theorem join_size : ∀ {ys : List Str}, (∀ y ∈ ys, y.cps.size = 1) → (Txt.join "" ys).cps.size = ys.length := by
  intro ys
  rw [TL.join_eq]
  induction ys with
  | nil => intro _; rfl
  | cons x r ih =>
    intro h
    cases r with
    | nil => exact h x List.mem_cons_self
    | cons z r =>
      have h1 := h x List.mem_cons_self
      have h2 := ih fun y hy => h y (List.mem_cons_of_mem _ hy)
      have e : (Str.join "" (x :: z :: r)).cps.size = x.cps.size + 0 + (Str.join "" (z :: r)).cps.size := by
        show ((x.cps ++ #[]) ++ (Str.join "" (z :: r)).cps).size = _
        rw [Array.size_append, Array.size_append]; rfl
      rw [e, List.length_cons]
      omega
theorem join_mem {p : Nat → Prop} : ∀ {ys : List Str}, (∀ y ∈ ys, ∀ c ∈ y.cps.toList, p c) → ∀ c ∈ (Txt.join "" ys).cps.toList, p c := by
  intro ys
  rw [TL.join_eq]
  induction ys with
  | nil => intro _ c hc; exact absurd hc (by decide +revert)
  | cons x r ih =>
    intro h c hc
    cases r with
    | nil => exact h x List.mem_cons_self c hc
    | cons z r =>
      have h2 := ih fun y hy => h y (List.mem_cons_of_mem _ hy)
      have hc' : c ∈ ((x.cps ++ #[]) ++ (Str.join "" (z :: r)).cps).toList := hc
      rw [Array.toList_append, Array.toList_append, List.mem_append, List.mem_append] at hc'
      rcases hc' with (hc' | hc') | hc'
      · exact h x List.mem_cons_self c hc'
      · exact absurd hc' (by simp)
      · exact h2 c hc'
theorem join_sum {zs : List Str} (h : ∀ y ∈ zs, y.cps.size = 1) : (zs.map (·.length)).sum + zs.length * ("" : Str).length = zs.length := by
  have z0 : ("" : Str).length = 0 := rfl
  rw [z0, Nat.mul_zero, Nat.add_zero]
  induction zs with
  | nil => rfl
  | cons x r ih =>
    rw [List.map_cons, List.sum_cons, ih fun y hy => h y (List.mem_cons_of_mem _ hy), List.length_cons]
    have : x.length = 1 := h x List.mem_cons_self
    omega
theorem name_of {z : Str} (h1 : 1 ≤ z.cps.size) (h2 : z.cps.size ≤ 12) (h3 : ∀ c ∈ z.cps.toList, inL c = true) : nameB (.str z) = true := by
  rw [nameB_in h1 h2]
  exact List.all_eq_true.mpr h3
def sp__law_name (_ : PySem.W.Frag) : Sp := fun vs H Q _ => ∃ s c : Addr, vs = [.ref s] ∧ SrcAt H s c ∧ ∀ H' z, But s H H' → SrcAt H' s c → nameB (.str z) = true → z.cps.size ≠ 5 → Q (.str z) H'
theorem ok__law_name {f : Addr} {C : Addr} {fd : FuncData} (T : Txt K mg C) (F : Fun K "_law_name" "_law_name" s__law_name f fd) (c__law_draw : Cal P w K mg base 1 "_law_draw" (sp__law_draw K) []) : FnOk P w K mg base CX0 2 f fd ["_law_source_here"] (sp__law_name K) := by
  have nd := sc__law_name.nd
  refine F.ok sc__law_name (fun vs H Q E h => ?_) (fun cdv A outer s H vs Q E hr h => ?_)
  · obtain ⟨a, c, rfl, _⟩ := h
    rfl
  · obtain ⟨a, c, rfl, src, q⟩ := h
    refine ⟨_, (pss_cons (ps_set (i := 1) nd rfl (.inl rfl) (pe_ix (r := rIxL K) ix_list (pe_lst (pa_cons pe_int (pa_cons pe_int (pa_cons pe_int (pa_cons pe_int (pa_cons pe_int pa_nil)))))) (pe_c c__law_draw hr (by omega) (by rfl) (pa_cons (pv 0) (pa_cons pe_int pa_nil))) (fun _ _ => rfl)))
      (pss_cons (ps_setLc (i := 2) (own := [("_law_k", 3)]) (g := gName 3) (tt := tYes) rfl nd rfl rfl (sw_true rfl rfl rfl (by decide +kernel)) (pi_range1 (by rfl) T.m_range (pa_cons (pv 1) pa_nil)) (blkOk_by (N := ["_law_source_here", "_law_size", "_law_letters", "_law_k"]) (sc := defScope s__law_name) (by decide +kernel)) (fun _ _ _ _ _ => (pg_name (i := 3) nd rfl (.inl rfl))) (fun _ _ _ _ _ => pts_nil) (fun _ _ _ _ _ => (pe_c c__law_draw hr (by omega) (by rfl) (pa_cons (pv 0) (pa_cons pe_int pa_nil)))))
      (pss_one (ps_ret (pe_join pe_str (pe_lc (own := [("_law_k", 3)]) (g := gName 3) (tt := tYes) rfl nd (pi_list (pv 2)) (blkOk_by (N := ["_law_source_here", "_law_size", "_law_letters", "_law_k"]) (sc := defScope s__law_name) (by decide +kernel)) (fun _ _ _ _ _ => (pg_name (i := 3) nd rfl (.inl rfl))) (fun _ _ _ _ _ => pts_nil) (fun _ _ _ _ _ => (pe_ix ix_str pe_str (pv 3) (fun _ _ => rfl))))))))), ?_⟩
    refine ⟨szl rfl, fun p1 n1 => ?_⟩
    have s1 := same_upd (o := .lst [.int 1, .int 2, .int 3, .int 1, .int 12]) n1
    have e1 : (upd H p1 (.lst [V.int 1, .int 2, .int 3, .int 1, .int 12])) p1 = some (.lst [.int 1, .int 2, .int 3, .int 1, .int 12]) := upd_same
    have src1 := src.mono s1
    have n1a := src.ne n1
    have b1 := Same.but (s := a) s1
    generalize upd H p1 (.lst [V.int 1, .int 2, .int 3, .int 1, .int 12]) = H1 at s1 e1 src1 b1 ⊢
    refine ⟨.ref a, rfl, a, c, 5, rfl, by decide, by decide, src1, fun H2 r b2 src2 l0 u0 => ?_⟩
    have e2 := b2 _ _ e1 n1a
    obtain ⟨m, hm, m1, m12, m5⟩ : ∃ m : Nat, atI [V.int 1, .int 2, .int 3, .int 1, .int 12] r = some (.int (m : Int)) ∧ 1 ≤ m ∧ m ≤ 12 ∧ m ≠ 5 := by
      obtain ⟨j, rfl⟩ : ∃ j : Nat, r = (j : Int) := ⟨r.toNat, by omega⟩
      match j, u0 with
      | 0, _ => exact ⟨1, atI_nat (j := 0) rfl, by decide, by decide, by decide⟩
      | 1, _ => exact ⟨2, atI_nat (j := 1) rfl, by decide, by decide, by decide⟩
      | 2, _ => exact ⟨3, atI_nat (j := 2) rfl, by decide, by decide, by decide⟩
      | 3, _ => exact ⟨1, atI_nat (j := 3) rfl, by decide, by decide, by decide⟩
      | 4, _ => exact ⟨12, atI_nat (j := 4) rfl, by decide, by decide, by decide⟩
      | j + 5, h => omega
    refine ⟨p1, _, r, .int (m : Int), rfl, rfl, .inl (.inl e2), hm, ?_⟩
    have B2 := b1.trans b2
    refine ⟨.int (m : Int), rfl, (m : Int), rfl, by omega, by omega, fun LD nLD => ?_⟩
    rw [Int.toNat_natCast]
    have nLa := src2.ne nLD
    have nLc := src2.nec nLD
    refine lc_range (lo := 0) (n := m) (fun i G => But a H2 G ∧ SrcAt G a c ∧ ∃ ks : List Int, G LD = some (.lst (ks.map V.int)) ∧ ks.length = i ∧ ∀ x ∈ ks, 0 ≤ x ∧ x < 26) ⟨But.set nLD But.refl, src2.set nLa nLc, [], upd_same, rfl, fun x hx => nomatch hx⟩ (fun i G hi hP => ?_) (fun G hP => ?_)
    · obtain ⟨b, sG, ks, eD, lk, hk⟩ := hP
      refine ⟨rfl, ?_⟩
      unfold tYes
      refine iteT ⟨.ref a, rfl, a, c, 26, rfl, by decide, by decide, sG, fun G2 r2 b3 sG2 l2 u2 => ?_⟩
      refine ⟨_, b3 _ _ eD nLa, small (by rw [List.length_map]; omega), But.set nLD (b.trans b3), sG2.set nLa nLc, ks ++ [r2], by rw [upd_same, List.map_append]; rfl, by rw [List.length_append, lk]; rfl, fun x hx => ?_⟩
      rcases List.mem_append.mp hx with hx | hx
      · exact hk x hx
      · rw [List.mem_singleton.mp hx]; exact ⟨l2, u2⟩
    · obtain ⟨b, sG, ks, eD, lk, hk⟩ := hP
      have B3 := B2.trans b
      refine ⟨⟨"", rfl⟩, .ref LD, rfl, LD, rfl, ⟨_, .inl (.inl eD)⟩, fun D nD => lc_list (K := K) (a := LD) (xs := ks.map V.int) (fun i G' => Same G G' ∧ ∃ ys : List Str, G' D = some (.lst (ys.map V.str)) ∧ ys.length = i ∧ (∀ y ∈ ys, y.cps.size = 1) ∧ ∀ y ∈ ys, ∀ c ∈ y.cps.toList, inL c = true)
        ⟨same_upd nD, [], upd_same, rfl, (fun y hy => nomatch hy), fun y hy => nomatch hy⟩ (fun i G' _ hP => hP.1.seq (.inl (.inl eD))) (fun i x G' hx hP => ?_) (fun G' hP => ?_)⟩
      · obtain ⟨sm', ys, eY, hl, h1, h2⟩ := hP
        rw [List.getElem?_map] at hx
        cases gx : ks[i]? with
        | none => rw [gx] at hx; cases hx
        | some r =>
        rw [gx] at hx
        cases hx
        obtain ⟨l, u⟩ := hk r (List.mem_of_getElem? gx)
        have hi : i < ks.length := (List.getElem?_eq_some_iff.mp gx).1
        obtain ⟨j, rfl⟩ : ∃ j : Nat, r = (j : Int) := ⟨r.toNat, by omega⟩
        have hj : j < abc.cps.toList.length := by
          have : abc.cps.toList.length = 26 := by decide
          omega
        refine ⟨rfl, ?_⟩
        unfold tYes
        refine iteT ?_
        refine ⟨.int j, rfl, abc, (j : Int), abc.cps.toList[j], rfl, rfl, smallE (by decide), atI_nat (List.getElem?_eq_getElem hj), ys.map V.str, eY, ?_, same_set nD sm', ys ++ [⟨#[abc.cps.toList[j]]⟩], ?_, ?_, ?_, ?_⟩
        · rw [List.length_map]; exact small (by omega)
        · rw [upd_same, List.map_append]; rfl
        · rw [List.length_append, hl]; rfl
        · intro y hy
          rcases List.mem_append.mp hy with hy | hy
          · exact h1 y hy
          · rw [List.mem_singleton.mp hy]; rfl
        · intro y hy c hc
          rcases List.mem_append.mp hy with hy | hy
          · exact h2 y hy c hc
          · rw [List.mem_singleton.mp hy] at hc
            rw [List.mem_singleton.mp (show c ∈ [abc.cps.toList[j]] from hc)]
            exact abc_in _ (List.getElem_mem hj)
      · obtain ⟨sm', ys, eY, hl, h1, h2⟩ := hP
        rw [List.length_map] at hl
        have hz1 := join_size h1
        have hin := join_mem h2
        have hs : (ys.map (·.length)).sum + ys.length * ("" : Str).length ≤ 16777216 := by rw [join_sum h1]; omega
        refine ⟨"", D, ys, rfl, rfl, .inl (.inl (.inl eY)), hs, ?_⟩
        exact q _ _ (B3.trans (Same.but sm')) (sG.mono sm') (name_of (by omega) (by omega) hin) (by omega)

theorem inV_strs {x : Str} {ws : List Str} : inV (.str x) (ws.map V.str) = decide (x ∈ ws) := by
  unfold inV
  induction ws with
  | nil => rfl
  | cons y r ih =>
    rw [List.map_cons, List.any_cons, ih]
    have e : eqV (.str y) (.str x) = decide (y = x) := by
      show (y == x) = decide (y = x)
      by_cases z : y = x
      · rw [z]; simp
      · rw [decide_eq_false z]; exact beq_eq_false_iff_ne.mpr z
    rw [e]
    by_cases z : y = x
    · subst z; simp
    · have z' : ¬ x = y := fun q => z q.symm
      simp [z, z']
theorem flat_ws (ws : List Str) : (ws.map V.str).all flatV = true := by
  rw [List.all_map]
  exact List.all_eq_true.mpr fun _ _ => rfl

theorem nodup_snoc {α : Type} {l : List α} {x : α} (n : l.Nodup) (h : x ∉ l) : (l ++ [x]).Nodup :=
  List.nodup_append.mpr ⟨n, by simp, fun a ha b hb e => h (by rw [List.mem_singleton] at hb; exact hb ▸ e ▸ ha)⟩
def sp__law_names (_ : PySem.W.Frag) : Sp := fun vs H Q _ => ∃ (s c : Addr) (m : Nat), vs = [.ref s, .int (m : Int)] ∧ m ≤ 1000 ∧ SrcAt H s c ∧ ∀ H' l (zs : List Str), But s H H' → SrcAt H' s c → H l = none → H' l = some (.lst (zs.map V.str)) → zs.Nodup → (∀ z ∈ zs, nameB (.str z) = true) → (∀ z ∈ zs, z.cps.size ≠ 5) → zs.length ≤ m → Q (.ref l) H'
theorem ok__law_names {f : Addr} {C : Addr} {fd : FuncData} (T : Txt K mg C) (F : Fun K "_law_names" "_law_names" s__law_names f fd) (c__law_name : Cal P w K mg base 2 "_law_name" (sp__law_name K) []) : FnOk P w K mg base CX0 3 f fd ["_law_source_here", "_law_many"] (sp__law_names K) := by
  have nd := sc__law_names.nd
  refine F.ok sc__law_names (fun vs H Q E h => ?_) (fun cdv A outer s H vs Q E hr h => ?_)
  · obtain ⟨a, c, m, rfl, _⟩ := h
    rfl
  · obtain ⟨a, c, m, rfl, m2, src, q⟩ := h
    refine ⟨_, (pss_cons (ps_set (i := 2) nd rfl (.inl rfl) (pe_lst pa_nil))
      (pss_cons (ps_for PassesOwn.never rfl (pi_range1 (by rfl) T.m_range (pa_cons (pv 1) pa_nil)) (pg_name (i := 3) nd rfl (.inl rfl)) (pss_cons (ps_set (i := 4) nd rfl (.inl rfl) (pe_c c__law_name hr (by omega) (by rfl) (pa_cons (pv 0) pa_nil)))
      (pss_one (ps_if (pt_cmpR op_notIn_seq (pv 4) (pv 2) (by with_unfolding_all rfl)) (pss_one (ps_expr (pe_bm PySem.F.plainAttrs_list PySem.F.slot_list_append PySem.F.type_list_append mt_append (pv 2) (pa_cons (pv 4) pa_nil)))) pss_nil))))
      (pss_one (ps_ret (pv 2))))), ?_⟩
    refine ⟨szl rfl, fun l nl => ?_⟩
    have nla := src.ne nl
    have nlc := src.nec nl
    refine ⟨.int (m : Int), rfl, (m : Int), rfl, by omega, by omega, ?_⟩
    rw [Int.toNat_natCast]
    refine for_range (lo := 0) (n := m) (fun i σ G => ∃ (y3 y4 : Option V) (zs : List Str), σ = [some (.ref a), some (.int (m : Int)), some (.ref l), y3, y4] ∧ But a H G ∧ SrcAt G a c ∧ G l = some (.lst (zs.map V.str)) ∧ zs.Nodup ∧ (∀ z ∈ zs, nameB (.str z) = true ∧ z.cps.size ≠ 5) ∧ zs.length ≤ i ∧ (1 ≤ i → 1 ≤ zs.length))
      ⟨none, none, [], rfl, But.set nl But.refl, src.set nla nlc, upd_same, List.nodup_nil, (fun z hz => nomatch hz), Nat.le_refl _, fun h => by omega⟩ (fun i σ G hi hP => ?_) (fun σ G hP => ?_)
    · obtain ⟨y3, y4, zs, rfl, b, sG, el, nz, hz, lz, l1⟩ := hP
      refine ⟨.ref a, rfl, a, c, rfl, sG, fun G2 z b2 sG2 nmz nz5 => ?_⟩
      have el2 := b2 _ _ el nla
      refine ⟨.str z, rfl, .ref l, rfl, l, zs.map V.str, rfl, .inl (.inl (.inl el2)), rfl, flat_ws _, _, rfl, ?_⟩
      show if (!inV (.str z) (zs.map V.str)) = true then _ else _
      rw [inV_strs]
      by_cases hc : z ∈ zs
      · rw [decide_eq_true hc]
        exact iteF ⟨_, _, zs, rfl, b.trans b2, sG2, el2, nz, hz, by omega, fun _ => List.length_pos_of_mem hc⟩
      · rw [decide_eq_false hc]
        refine iteT ⟨.ref l, rfl, .inl ⟨rfl, _, .inl (.inl el2)⟩, .str z, rfl, l, _, .str z, rfl, rfl, el2, small (by rw [List.length_map]; omega), ?_⟩
        refine ⟨_, _, zs ++ [z], rfl, But.set nl (b.trans b2), sG2.set nla nlc, by rw [upd_same, List.map_append]; rfl, nodup_snoc nz hc, fun x hx => ?_, by rw [List.length_append]; exact Nat.succ_le_succ lz, fun _ => by rw [List.length_append]; exact Nat.le_add_left _ _⟩
        rcases List.mem_append.mp hx with hx | hx
        · exact hz x hx
        · rw [List.mem_singleton.mp hx]; exact ⟨nmz, nz5⟩
    · obtain ⟨y3, y4, zs, rfl, b, sG, el, nz, hz, lz, l1⟩ := hP
      exact ⟨.ref l, rfl, q G l zs b sG nl el nz (fun z h => (hz z h).1) (fun z h => (hz z h).2) lz⟩

end
end Kn

set_option Elab.async false
set_option linter.all false
set_option maxRecDepth 100000
set_option maxHeartbeats 4000000
namespace Kn
open PySem PySem.Spec PyProof.Rows L2
open C8 (Cal pe_c pe_gc Mak pe_mk)
section
variable {P : Program} {w : World} {K : PySem.W.Frag} {mg : Str → Option Value} {base : Heap}
theorem lt_cps : ∀ {a b : List Nat}, ltCps a b = true → a < b
  | [], [], h => by cases h
  | [], y :: t, _ => List.nil_lt_cons y t
  | _ :: _, [], h => by cases h
  | x :: r, y :: t, h => by
    have h' : (decide (x < y) || (x == y && ltCps r t)) = true := h
    rw [Bool.or_eq_true, decide_eq_true_eq, Bool.and_eq_true, beq_iff_eq] at h'
    exact List.cons_lt_cons_iff.mpr (h'.elim .inl fun q => .inr ⟨q.1, lt_cps q.2⟩)
theorem ltS_of {a b : Str} (h : KnA.leS a b) (n : a ≠ b) : ltS a b := by
  refine lt_cps ?_
  cases e : ltCps a.cps.toList b.cps.toList with
  | true => rfl
  | false => exact (n (KnA.str_ext (KnA.le_anti h e))).elim
theorem lt_of_sorted {ns : List Str} (h : sortedS ns = true) (nd : ns.Nodup) : ns.Pairwise ltS := List.Pairwise.imp₂ (fun a b h n => ltS_of h n) (KnA.sorted_pair h) nd
def RowsX (H : Hp) (vs : List V) : Prop := ∃ st fa, Rows H vs st fa ∧ (keysR st fa vs).Nodup
theorem RowsX.nil (H : Hp) : RowsX H [] := ⟨fun _ => 0, fun _ => [], fun v hv => (nomatch hv), List.nodup_nil⟩
/-- tuples stand as they stood -/
theorem Rows.tup {H H' : Hp} {vs : List V} {st : V → Int} {fa : V → List Str} (h : Rows H vs st fa) (s : ∀ b xs, H b = some (.tup xs) → H' b = some (.tup xs)) : Rows H' vs st fa := fun v hv => ⟨(h v hv).1.ext s, (h v hv).2⟩
theorem SrcAt.notup {H : Hp} {s c : Addr} (h : SrcAt H s c) : ∀ {b : Addr} {xs : List V}, H b = some (.tup xs) → b ≠ s := fun {b xs} e z => by
  obtain ⟨ns, i, j, n, o⟩ := h
  rw [z, o.at_] at e; cases e
theorem but_tup {s c : Addr} {H H' : Hp} (b : But s H H') (h : SrcAt H s c) : ∀ x xs, H x = some (.tup xs) → H' x = some (.tup xs) := fun x xs e => b x _ e (h.notup e)
def rd (p : Int × List Str) : PyData := KnA.rowD p
theorem strs_eqv : ∀ (xs ys : List Str), PyData.eqvAll (xs.map PyData.str) (ys.map PyData.str) = decide (xs = ys)
  | [], [] => rfl
  | [], _ :: _ => rfl
  | _ :: _, [] => rfl
  | x :: xs, y :: ys => by
    show ((x == y) && PyData.eqvAll (xs.map PyData.str) (ys.map PyData.str)) = _
    rw [strs_eqv xs ys]
    by_cases e1 : x = y <;> by_cases e2 : xs = ys <;> simp [e1, e2]
theorem rowD_eqv (p q : Int × List Str) : PyData.eqv (KnA.rowD p) (KnA.rowD q) = decide (p = q) := by
  obtain ⟨i, xs⟩ := p
  obtain ⟨j, ys⟩ := q
  show ((i == j) && (PyData.eqvAll (xs.map PyData.str) (ys.map PyData.str) && true)) = _
  rw [strs_eqv]
  by_cases e1 : i = j <;> by_cases e2 : xs = ys <;> simp [e1, e2]
theorem rowD_any (ps : List (Int × List Str)) (q : Int × List Str) : ((ps.map KnA.rowD).any fun z => PyData.eqv z (KnA.rowD q)) = decide (q ∈ ps) := by
  induction ps with
  | nil => rfl
  | cons y r ih =>
    rw [List.map_cons, List.any_cons, ih, rowD_eqv]
    by_cases e : y = q
    · subst e; simp
    · have e' : ¬ q = y := fun z => e z.symm
      simp [e, e']
theorem dp_strs {K : PySem.W.Frag} {H : Hp} : ∀ zs : List Str, DpAll K H (zs.map V.str) (zs.map PyData.str)
  | [] => .nil
  | z :: r => .cons (.str z) (dp_strs r)
theorem dp_row {K : PySem.W.Frag} {H : Hp} {x : V} {i : Int} {zs : List Str} (h : KnA.RowAt H x i zs) : Dp K H x (KnA.rowD (i, zs)) := by
  obtain ⟨t, f, rfl, h1, h2⟩ := h
  exact .tup (.inl (.inl h1)) (.cons (.int i) (.cons (.tup (.inl (.inl h2)) (dp_strs zs)) .nil))
theorem dp_rows {K : PySem.W.Frag} {H : Hp} {st : V → Int} {fa : V → List Str} : ∀ {vs : List V}, Rows H vs st fa → DpAll K H vs (vs.map fun v => KnA.rowD (st v, fa v))
  | [], _ => .nil
  | v :: vs, h => .cons (dp_row (h v List.mem_cons_self).1) (dp_rows fun u hu => h u (List.mem_cons_of_mem _ hu))
theorem strOk_name {z : Str} (h : nameB (.str z) = true) : PyData.strOk z = true := by
  have h' : (decide (1 ≤ z.cps.size) && decide (z.cps.size ≤ 12) && z.cps.toList.all inL) = true := h
  rw [Bool.and_eq_true] at h'
  have hl : ∀ c ∈ letters.cps.toList, c < 0x110000 := by decide +kernel
  unfold PyData.strOk
  rw [Array.all_eq_true]
  intro i hi
  have hm : z.cps[i] ∈ z.cps.toList := Array.getElem_mem_toList hi
  exact decide_eq_true (hl _ (of_decide_eq_true (List.all_eq_true.mp h'.2 _ hm)))
theorem texts_lay {zs : List Str} (h : ∀ z ∈ zs, nameB (.str z) = true) : PyData.canLayAll0 (zs.map PyData.str) = true := by
  induction zs with
  | nil => rfl
  | cons x r ih =>
    show (PyData.strOk x && PyData.canLayAll0 (r.map PyData.str)) = true
    rw [strOk_name (h x List.mem_cons_self), ih fun y hy => h y (List.mem_cons_of_mem _ hy)]; rfl
theorem rowD_lay {i : Int} {zs : List Str} (h : ∀ z ∈ zs, nameB (.str z) = true) : (KnA.rowD (i, zs)).canLay0 = true ∧ (KnA.rowD (i, zs)).depth = 2 := by
  refine ⟨?_, ?_⟩
  · show (true && (PyData.canLayAll0 (zs.map PyData.str) && true)) = true
    rw [texts_lay h]; rfl
  · show max 0 (max (PyData.depthAll (zs.map PyData.str) + 1) 0) + 1 = 2
    rw [KnA.depth_texts]; rfl
theorem rowD_shaped {i : Int} {zs : List Str} (h : ∀ z ∈ zs, nameB (.str z) = true) : SeqAt.shaped (KnA.rowD (i, zs)) = true := by
  obtain ⟨a, b⟩ := rowD_lay (i := i) h
  unfold SeqAt.shaped
  rw [a, b]; rfl
theorem rowDs_lay {ps : List (Int × List Str)} (h : ∀ p ∈ ps, ∀ z ∈ p.2, nameB (.str z) = true) : PyData.canLayAll0 (ps.map KnA.rowD) = true ∧ PyData.depthAll (ps.map KnA.rowD) ≤ 2 := by
  induction ps with
  | nil => exact ⟨rfl, Nat.zero_le _⟩
  | cons x r ih =>
    obtain ⟨a, b⟩ := ih fun y hy => h y (List.mem_cons_of_mem _ hy)
    obtain ⟨c, d⟩ := rowD_lay (i := x.1) (h x List.mem_cons_self)
    refine ⟨?_, ?_⟩
    · show ((KnA.rowD x).canLay0 && PyData.canLayAll0 (r.map KnA.rowD)) = true
      rw [show (KnA.rowD x).canLay0 = true from c, a]; rfl
    · show max (KnA.rowD x).depth (PyData.depthAll (r.map KnA.rowD)) ≤ 2
      rw [show (KnA.rowD x).depth = 2 from d]; omega
theorem rowDs_shaped {ps : List (Int × List Str)} (h : ∀ p ∈ ps, ∀ z ∈ p.2, nameB (.str z) = true) : SeqAt.shaped (.list (ps.map KnA.rowD)) = true := by
  obtain ⟨a, b⟩ := rowDs_lay h
  unfold SeqAt.shaped
  have h2 : (PyData.list (ps.map KnA.rowD)).canLay0 = true := a
  have h3 : (PyData.list (ps.map KnA.rowD)).depth ≤ 64 := by
    show PyData.depthAll (ps.map KnA.rowD) + 1 ≤ 64
    omega
  rw [h2, decide_eq_true h3]; rfl
theorem RowsX.ins {H : Hp} {us : List V} {st : V → Int} {fa : V → List Str} (R : Rows H us st fa) (nk : (keysR st fa us).Nodup) {x : V} {i : Int} {zs : List Str} (rx : KnA.RowAt H x i zs) (g : GoodRow i zs) (nx : x ∉ us) (nw : (i, zs) ∉ us.map fun v => (st v, fa v)) (j : Nat) : RowsX H (us.take j ++ [x] ++ us.drop j) := by
  have pm : (us.take j ++ [x] ++ us.drop j).Perm (x :: us) := by
    rw [List.append_assoc]
    have := KnZ.ins_perm us j x
    exact this
  have e1 : ∀ v ∈ us, (if v = x then i else st v) = st v := fun v hv => if_neg fun (z : v = x) => nx (z ▸ hv)
  have e2 : ∀ v ∈ us, (if v = x then zs else fa v) = fa v := fun v hv => if_neg fun (z : v = x) => nx (z ▸ hv)
  refine ⟨fun v => if v = x then i else st v, fun v => if v = x then zs else fa v, fun v hv => ?_, ?_⟩
  · rcases List.mem_cons.mp (pm.mem_iff.mp hv) with z | z
    · show KnA.RowAt H v (if v = x then i else st v) (if v = x then zs else fa v) ∧ GoodRow (if v = x then i else st v) (if v = x then zs else fa v)
      rw [if_pos z, if_pos z, z]; exact ⟨rx, g⟩
    · show KnA.RowAt H v (if v = x then i else st v) (if v = x then zs else fa v) ∧ GoodRow (if v = x then i else st v) (if v = x then zs else fa v)
      rw [e1 v z, e2 v z]; exact R v z
  · unfold keysR
    refine (pm.map _).nodup_iff.mpr ?_
    rw [List.map_cons]
    have e : (us.map fun v => rk (if v = x then i else st v) (if v = x then zs else fa v)) = keysR st fa us := List.map_congr_left fun v hv => by rw [e1 v hv, e2 v hv]
    rw [e]
    refine List.nodup_cons.mpr ⟨fun m => ?_, nk⟩
    have m' : rk (if x = x then i else st x) (if x = x then zs else fa x) ∈ keysR st fa us := m
    rw [if_pos rfl, if_pos rfl] at m'
    obtain ⟨v, hv, ev⟩ := List.mem_map.mp m'
    obtain ⟨a, b⟩ := rk_inj ev
    exact nw (List.mem_map.mpr ⟨v, hv, by rw [a, b]⟩)
def sp__law_candidates (_ : PySem.W.Frag) : Sp := fun vs H Q _ => ∃ (s c : Addr) (mo : Nat) (sp : Int), vs = [.ref s, .int (mo : Int), .int sp] ∧ 1 ≤ mo ∧ mo ≤ 10 ∧ 1 ≤ sp ∧ sp ≤ 100 ∧ SrcAt H s c ∧
  ∀ H' l us, But s H H' → SrcAt H' s c → H l = none → H' l = some (.lst us) → RowsX H' us → 1 ≤ us.length → us.length ≤ mo → Q (.ref l) H'
theorem ok__law_candidates {f : Addr} {C : Addr} {fd : FuncData} (T : Txt K mg C) (F : Fun K "_law_candidates" "_law_candidates" s__law_candidates f fd) (c__law_names : Cal P w K mg base 3 "_law_names" (sp__law_names K) []) (c__law_draw : Cal P w K mg base 1 "_law_draw" (sp__law_draw K) []) : FnOk P w K mg base CX0 4 f fd ["_law_source_here", "_law_most", "_law_spread"] (sp__law_candidates K) := by
  have nd := sc__law_candidates.nd
  refine F.ok sc__law_candidates (fun vs H Q E h => ?_) (fun cdv A outer s H vs Q E hr h => ?_)
  · obtain ⟨a, c, mo, sp, rfl, _⟩ := h
    rfl
  · obtain ⟨a, c, mo, sp, rfl, mo1, mo2, sp1, sp2, src, q⟩ := h
    refine ⟨_, (pss_cons (ps_set (i := 3) nd rfl (.inl rfl) (pe_callB cr_sortedS (by rfl) T.m_sorted (by decide +kernel) (pa_cons (pe_c c__law_names hr (by omega) (by rfl) (pa_cons (pv 0) (pa_cons pe_int pa_nil))) pa_nil)))
      (pss_cons (ps_set (i := 4) nd rfl (.inl rfl) (pe_lst pa_nil))
      (pss_cons (ps_for PassesOwn.never rfl (pi_range1 (by rfl) T.m_range (pa_cons (pe_op op_add pe_int (pe_c c__law_draw hr (by omega) (by rfl) (pa_cons (pv 0) (pa_cons (pv 1) pa_nil)))) pa_nil)) (pg_name (i := 5) nd rfl (.inl rfl)) (pss_cons (ps_set (i := 6) nd rfl (.inl rfl) (pe_c c__law_draw hr (by omega) (by rfl) (pa_cons (pv 0) (pa_cons (pv 2) pa_nil))))
      (pss_cons (ps_set (i := 7) nd rfl (.inl rfl) (pe_tup (pa_cons (pv 6) (pa_cons (pe_callTy call_tuple_of (by rfl) T.m_tuple (by decide +kernel) (pa_cons (pe_lc (own := [("_law_name_here", 8)]) (g := gName 8) rfl nd (pi_list (pv 3)) (blkOk_by (N := ["_law_source_here", "_law_most", "_law_spread", "_law_names_here", "_law_rows", "_law_turn", "_law_state", "_law_row", "_law_name_here"]) (sc := defScope s__law_candidates) (by decide +kernel)) (fun _ _ _ _ _ => (pg_name (i := 8) nd rfl (.inl rfl))) (fun _ _ _ _ _ => (pts_one (pt_cmpR op_eq (pe_c c__law_draw hr (by omega) (by rfl) (pa_cons (pv 0) (pa_cons pe_int pa_nil))) pe_int (nomark _)))) (fun _ _ _ _ _ => (pv 8))) pa_nil)) pa_nil))))
      (pss_one (ps_if (pt_cmpR (op_notInD (KnC.un65 hr)) (pv 7) (pv 4) (by with_unfolding_all rfl)) (pss_one (ps_expr (pe_bm PySem.F.plainAttrs_list PySem.F.slot_list_insert PySem.F.type_list_insert mt_insert (pv 4) (pa_cons (pe_c c__law_draw hr (by omega) (by rfl) (pa_cons (pv 0) (pa_cons (pe_op op_add (pe_callB call_len (by rfl) T.m_len (by decide +kernel) (pa_cons (pv 4) pa_nil)) pe_int) pa_nil))) (pa_cons (pv 7) pa_nil))))) pss_nil)))))
      (pss_one (ps_ret (pv 4)))))), ?_⟩
    refine ⟨.ref a, rfl, a, c, 3, rfl, by decide, src, fun H1 l1 zs b1 src1 nl1 el1 ndz nmz _ lz => ?_⟩
    refine ⟨l1, zs, rfl, .inl (.inl el1), by omega, fun ns l2 pn srt nl2 => ?_⟩
    have s2 := same_upd (o := .lst (ns.map V.str)) nl2
    have el2 : (upd H1 l2 (.lst (ns.map V.str))) l2 = some (.lst (ns.map V.str)) := upd_same
    have src2 := src1.mono s2
    have B2 : But a H (upd H1 l2 (.lst (ns.map V.str))) := b1.trans (Same.but s2)
    have up := lt_of_sorted srt (pn.nodup_iff.mpr ndz)
    have nmn : ∀ z ∈ ns, nameB (.str z) = true := fun z hz => nmz z (pn.mem_iff.mp hz)
    have l3 : ns.length ≤ 3 := by rw [pn.length_eq]; exact lz
    generalize upd H1 l2 (.lst (ns.map V.str)) = H2 at s2 el2 src2 B2 ⊢
    have nl2H : H l2 = none := by
      cases e : H l2 with
      | none => rfl
      | some o => by_cases z : l2 = a
                  · exact (src1.ne nl2 z).elim
                  · rw [b1 _ _ e z] at nl2; cases nl2
    have nl2a : l2 ≠ a := src1.ne nl2
    refine ⟨szl rfl, fun l3' nl3 => ?_⟩
    have nl3a := src2.ne nl3
    have nl3c := src2.nec nl3
    have nl3H : H l3' = none := But.fresh B2 src2 nl3
    have n32 : l2 ≠ l3' := ne_of_none el2 nl3
    have B3 : But a H (upd H2 l3' (.lst [])) := But.set nl3H B2
    have src3 : SrcAt (upd H2 l3' (.lst [])) a c := src2.set nl3a nl3c
    have el3 : (upd H2 l3' (.lst [])) l3' = some (.lst []) := upd_same
    have el23 : (upd H2 l3' (.lst [])) l2 = some (.lst (ns.map V.str)) := (upd_ne n32).trans el2
    show Ends.nx _ _ (upd H2 l3' (.lst []))
    generalize upd H2 l3' (.lst []) = H3 at B3 src3 el3 el23 ⊢
    clear src2 B2 el2 s2 src1 b1 nl2 nl3
    refine ⟨.ref a, rfl, .int (mo : Int), rfl, a, c, (mo : Int), rfl, by omega, by omega, src3, fun G1 r b1 s1 r0 r1 => ?_⟩
    obtain ⟨n, hn, n1, n2⟩ : ∃ n : Nat, 1 + r = (n : Int) ∧ 1 ≤ n ∧ n ≤ mo := ⟨(1 + r).toNat, by omega, by omega, by omega⟩
    refine ⟨1, r, rfl, rfl, 1 + r, rfl, by omega, by omega, ?_⟩
    rw [hn, Int.toNat_natCast]
    refine for_range (lo := 0) (n := n) (fun i σ G => ∃ (y5 y6 y7 : Option V) (us : List V), σ = [some (.ref a), some (.int (mo : Int)), some (.int sp), some (.ref l2), some (.ref l3'), y5, y6, y7, none] ∧ But a H G ∧ SrcAt G a c ∧ G l2 = some (.lst (ns.map V.str)) ∧ G l3' = some (.lst us) ∧ RowsX G us ∧ us.length ≤ i ∧ (1 ≤ i → 1 ≤ us.length))
      ⟨none, none, none, [], rfl, B3.trans b1, s1, b1 _ _ el23 nl2a, b1 _ _ el3 nl3a, RowsX.nil _, Nat.le_refl _, fun h => by omega⟩ (fun i σ G hi hP => ?_) (fun σ G hP => ?_)
    · obtain ⟨y5, y6, y7, us, rfl, B, sG, e2, e3, ⟨st, fa, R, nk⟩, lu, lu1⟩ := hP
      refine ⟨.ref a, rfl, .int sp, rfl, a, c, sp, rfl, by omega, by omega, sG, fun G2 x b2 s2 x0 x1 => ?_⟩
      have e22 := b2 _ _ e2 nl2a
      have e32 := b2 _ _ e3 nl3a
      have R2 := R.tup (but_tup b2 sG)
      have B2 := B.trans b2
      refine ⟨.int x, rfl, .ref l2, rfl, l2, rfl, ⟨_, .inl (.inl e22)⟩, fun D nD => ?_⟩
      have nDa := s2.ne nD
      have nDc := s2.nec nD
      have nDH := But.fresh B2 s2 nD
      refine lc_list (K := K) (xs := ns.map V.str) (fun j U => But a G2 U ∧ SrcAt U a c ∧ ∃ zs : List Str, U D = some (.lst (zs.map V.str)) ∧ zs.Sublist (ns.take j)) ⟨But.set nD But.refl, s2.set nDa nDc, [], upd_same, List.nil_sublist _⟩ (fun j U _ hP => .inl (.inl (hP.1 _ _ e22 nl2a))) (fun j v U hv hP => ?_) (fun U hP => ?_)
      · obtain ⟨bU, sU, zs', eD, sb⟩ := hP
        rw [List.getElem?_map] at hv
        cases gv : ns[j]? with
        | none => rw [gv] at hv; cases hv
        | some z =>
        rw [gv] at hv
        cases hv
        have lz' : zs'.length ≤ 3 := Nat.le_trans sb.length_le (by rw [List.length_take]; omega)
        refine ⟨rfl, ?_⟩
        refine ⟨.ref a, rfl, a, c, 3, rfl, by decide, by decide, sU, fun U2 r3 b3 s3 t0 t1 => ⟨rfl, _, rfl, ?_⟩⟩
        have eD2 := b3 _ _ eD nDa
        by_cases cc : V.int r3 = V.int 0
        · rw [decide_eq_true cc]
          refine iteT ⟨.str z, rfl, _, eD2, small (by rw [List.length_map]; omega), But.set nD (bU.trans b3), s3.set nDa nDc, zs' ++ [z], by rw [upd_same, List.map_append]; rfl, ?_⟩
          rw [take_more gv]
          exact List.Sublist.append sb (List.Sublist.refl _)
        · rw [decide_eq_false cc]
          refine iteF ⟨bU.trans b3, s3, zs', eD2, sb.trans ?_⟩
          rw [take_more gv]
          exact List.sublist_append_left _ _
      · obtain ⟨bU, sU, zs', eD, sb⟩ := hP
        rw [List.length_map, List.take_length] at sb
        have lz' : zs'.length ≤ 3 := Nat.le_trans sb.length_le l3
        have e2U := bU _ _ e22 nl2a
        have e3U := bU _ _ e32 nl3a
        have RU := R2.tup (but_tup bU s2)
        have BU := B2.trans bU
        refine ⟨D, _, rfl, .inl ⟨.inl (.inl eD), fun f0 nf => ?_⟩⟩
        have sf := same_upd (o := .tup (zs'.map V.str)) nf
        refine ⟨szl rfl, fun t nt => ?_⟩
        have st_ := same_upd (o := .tup [V.int x, .ref f0]) nt
        have S2 := sf.trans st_
        have rx : KnA.RowAt (upd (upd U f0 (.tup (zs'.map V.str))) t (.tup [V.int x, .ref f0])) (.ref t) x zs' := ⟨t, f0, rfl, upd_same, st_ _ _ upd_same⟩
        have ntU : U t = none := sf.free nt
        show Ends.nx _ _ (upd (upd U f0 (.tup (zs'.map V.str))) t (.tup [V.int x, .ref f0]))
        generalize upd (upd U f0 (.tup (zs'.map V.str))) t (.tup [V.int x, .ref f0]) = U3 at S2 rx ⊢
        have e23 := S2 _ _ e2U
        have e33 := S2 _ _ e3U
        have R3 := RU.mono S2
        have s3 := sU.mono S2
        have B3 := BU.trans (Same.but S2)
        have nmz' : ∀ z ∈ zs', nameB (.str z) = true := fun z hz => nmn z (sb.subset hz)
        have gr : GoodRow x zs' := ⟨by show (decide (0 ≤ x) && decide (x ≤ 99)) = true; rw [decide_eq_true x0, decide_eq_true (show x ≤ 99 by omega)]; rfl, lz', nmz', up.sublist sb⟩
        have nmr : ∀ p ∈ us.map fun v => (st v, fa v), ∀ z ∈ p.2, nameB (.str z) = true := fun p hp z hz => by
          obtain ⟨v, hv, rfl⟩ := List.mem_map.mp hp
          exact (R3 v hv).2.nm z hz
        have dps : DpAll K U3 us ((us.map fun v => (st v, fa v)).map KnA.rowD) := by rw [List.map_map]; exact dp_rows R3
        refine ⟨.ref t, rfl, .ref l3', rfl, KnA.rowD (x, zs'), _, dp_row rx, .lst (.inl (.inl e33)) dps, rowD_shaped nmz', rowDs_shaped nmr, _, rfl, ?_⟩
        rw [rowD_any]
        by_cases cc : (x, zs') ∈ us.map fun v => (st v, fa v)
        · rw [decide_eq_true cc]
          have pos : 1 ≤ us.length := by
            have := List.length_pos_of_mem cc
            rwa [List.length_map] at this
          exact iteF ⟨_, _, _, us, rfl, B3, s3, e23, e33, ⟨st, fa, R3, nk⟩, by omega, fun _ => pos⟩
        · rw [decide_eq_false cc]
          refine iteT ⟨.ref l3', rfl, .inl ⟨rfl, _, .inl (.inl e33)⟩, .ref a, rfl, .ref l3', rfl, .ref l3', us.length, rfl, .inl ⟨_, .inl (.inl e33), rfl⟩, (us.length : Int), 1, rfl, rfl, a, c, (us.length : Int) + 1, rfl, by omega, by omega, s3, fun U4 j b4 s4 j0 j1 => ?_⟩
          have e34 := b4 _ _ e33 nl3a
          refine ⟨.ref t, rfl, l3', us, j, .ref t, rfl, rfl, e34, small (by omega), j0, by omega, ?_⟩
          have ntu : V.ref t ∉ us := fun m => by
            obtain ⟨t2, f2, e, h1, _⟩ := (RU _ m).1
            cases e
            rw [ntU] at h1; cases h1
          have RI := RowsX.ins (R3.tup (but_tup b4 s3)) nk (rx.ext (but_tup b4 s3)) gr ntu cc j.toNat
          refine ⟨_, _, _, us.take j.toNat ++ [.ref t] ++ us.drop j.toNat, rfl, But.set nl3H (B3.trans b4), s4.set nl3a ?_, (upd_ne n32).trans (b4 _ _ e23 nl2a), upd_same, ?_, ?_, fun _ => by rw [List.length_append, List.length_append, List.length_singleton]; omega⟩
          · exact nl3c
          · obtain ⟨st', fa', R', nk'⟩ := RI
            exact ⟨st', fa', R'.tup fun b xs e => (upd_ne fun z => by rw [z, e34] at e; cases e).trans e, nk'⟩
          · rw [List.length_append, List.length_append, List.length_singleton, List.length_take, List.length_drop]; omega
    · obtain ⟨y5, y6, y7, us, rfl, B, sG, e2, e3, R, lu, lu1⟩ := hP
      exact ⟨.ref l3', rfl, q G l3' us B sG nl3H e3 R (lu1 n1) (by omega)⟩

end
end Kn

set_option Elab.async false
set_option linter.all false
set_option maxRecDepth 100000
set_option maxHeartbeats 4000000
namespace Kn
open PySem PySem.Spec PyProof.Rows L2
open C8 (Cal pe_c pe_gc Mak pe_mk)
section
variable {P : Program} {w : World} {K : PySem.W.Frag} {mg : Str → Option Value} {base : Heap}
def sp__law_probes (_ : PySem.W.Frag) : Sp := fun vs H Q _ => ∃ (s c l : Addr) (mo : Nat) (us : List V) (st : V → Int) (fa : V → List Str), vs = [.ref s, .int (mo : Int), .ref l] ∧ mo ≤ 6 ∧ SrcAt H s c ∧ l ≠ s ∧ H l = some (.lst us) ∧ Rows H us st fa ∧ us.length ≤ 10 ∧
  ∀ H' d ps, But s H H' → SrcAt H' s c → H d = none → Probes H' d ps → GoodP ps → ps.length ≤ mo → (∀ p ∈ ps, p.1.cps.size ≠ 5) → Q (.ref d) H'
theorem state_in' {i : Int} (h : stateB (.int i) = true) : 0 ≤ i ∧ i ≤ 99 := by
  have h' : (decide (0 ≤ i) && decide (i ≤ 99)) = true := h
  rw [Bool.and_eq_true, decide_eq_true_eq, decide_eq_true_eq] at h'
  exact h'
theorem ok__law_probes {f : Addr} {C : Addr} {fd : FuncData} (T : Txt K mg C) (F : Fun K "_law_probes" "_law_probes" s__law_probes f fd) (c__law_names : Cal P w K mg base 3 "_law_names" (sp__law_names K) []) (c__law_draw : Cal P w K mg base 1 "_law_draw" (sp__law_draw K) []) : FnOk P w K mg base CX0 4 f fd ["_law_source_here", "_law_most", "_law_rows"] (sp__law_probes K) := by
  have nd := sc__law_probes.nd
  refine F.ok sc__law_probes (fun vs H Q E h => ?_) (fun cdv A outer s H vs Q E hr h => ?_)
  · obtain ⟨a, c, l, mo, us, st, fa, rfl, _⟩ := h
    rfl
  · obtain ⟨a, c, l, mo, us, st, fa, rfl, mo6, src, nla, hl, R, few, q⟩ := h
    refine ⟨_, (pss_cons (ps_set (i := 3) nd rfl (.inl rfl) pe_dnewK)
      (pss_cons (ps_for PassesOwn.never rfl (pi_list (pe_c c__law_names hr (by omega) (by rfl) (pa_cons (pv 0) (pa_cons (pe_c c__law_draw hr (by omega) (by rfl) (pa_cons (pv 0) (pa_cons (pe_op op_add (pv 1) pe_int) pa_nil))) pa_nil)))) (pg_name (i := 4) nd rfl (.inl rfl)) (pss_cons (ps_set (i := 5) nd rfl (.inl rfl) (pe_lst pa_nil))
      (pss_cons (ps_for PassesOwn.never rfl (pi_list (pv 2)) (pg_name (i := 6) nd rfl (.inl rfl)) (pss_one (ps_if (pt_cmpR op_eq (pe_c c__law_draw hr (by omega) (by rfl) (pa_cons (pv 0) (pa_cons pe_int pa_nil))) pe_int (nomark _)) (pss_one (ps_expr (pe_bm PySem.F.plainAttrs_list PySem.F.slot_list_append PySem.F.type_list_append mt_append (pv 5) (pa_cons (pe_ix (r := rIxT K) ix_tup (pv 6) pe_int (fun _ _ => rfl)) pa_nil)))) pss_nil)))
      (pss_cons (ps_if (pt_cmpR op_eq (pe_c c__law_draw hr (by omega) (by rfl) (pa_cons (pv 0) (pa_cons pe_int pa_nil))) pe_int (nomark _)) (pss_one (ps_expr (pe_bm PySem.F.plainAttrs_list PySem.F.slot_list_append PySem.F.type_list_append mt_append (pv 5) (pa_cons (pe_c c__law_draw hr (by omega) (by rfl) (pa_cons (pv 0) (pa_cons pe_int pa_nil))) pa_nil)))) pss_nil)
      (pss_one (ps_dput (hu_of hr) (pv 3) (pv 4) (pv 5) rfl))))))
      (pss_one (ps_ret (pv 3))))), ?_⟩
    refine fun d nd_ => ?_
    have nda := src.ne nd_
    have ndc := src.nec nd_
    have B0 : But a H (upd H d (.dK [])) := But.set nd_ But.refl
    have src0 : SrcAt (upd H d (.dK [])) a c := src.set nda ndc
    have ed0 : (upd H d (.dK [])) d = some (.dK []) := upd_same
    generalize upd H d (.dK []) = H0 at B0 src0 ed0 ⊢
    refine ⟨.ref a, rfl, .ref a, rfl, .int (mo : Int), rfl, (mo : Int), 1, rfl, rfl, a, c, (mo : Int) + 1, rfl, by omega, by omega, src0, fun H1 r b1 s1 r0 r1 => ?_⟩
    obtain ⟨m, rfl⟩ : ∃ m : Nat, r = (m : Int) := ⟨r.toNat, by omega⟩
    refine ⟨a, c, m, rfl, by omega, s1, fun H2 l2 ns b2 s2 nl2 el2 ndn nmn nz5 ln => ⟨l2, rfl, ⟨_, .inl (.inl el2)⟩, ?_⟩⟩
    have ed2 := b2 _ _ (b1 _ _ ed0 nda) nda
    have B2 := B0.trans (b1.trans b2)
    have nl2a : l2 ≠ a := s1.ne nl2
    have nl2d : l2 ≠ d := fun z => by rw [z, b1 _ _ ed0 nda] at nl2; cases nl2
    refine for_list (K := K) (xs := ns.map V.str) (fun i σ G => ∃ (y4 y5 y6 : Option V) (ps : List Prb), σ = [some (.ref a), some (.int (mo : Int)), some (.ref l), some (.ref d), y4, y5, y6] ∧ But a H G ∧ SrcAt G a c ∧ G l2 = some (.lst (ns.map V.str)) ∧ Probes G d ps ∧ ps.map (·.1) = ns.take i ∧ (∀ p ∈ ps, p.2.2.length ≤ 100 ∧ p.2.1 ≠ a ∧ p.2.1 ≠ d) ∧ ∀ p ∈ ps, ∀ x ∈ p.2.2, 0 ≤ x ∧ x ≤ 99)
      ⟨none, none, none, [], rfl, B2, s2, el2, ⟨ed2, fun p hp => nomatch hp⟩, rfl, (fun p hp => nomatch hp), fun p hp => nomatch hp⟩ (fun i σ G _ hP => .inl (.inl hP.choose_spec.choose_spec.choose_spec.choose_spec.2.2.2.1)) (fun i v σ G hv hP => ?_) (fun σ G hP => ?_)
    · obtain ⟨y4, y5, y6, ps, rfl, B, sG, e2, P0, em, hsm, hst⟩ := hP
      rw [List.getElem?_map] at hv
      cases gv : ns[i]? with
      | none => rw [gv] at hv; cases hv
      | some nm =>
      rw [gv] at hv
      cases hv
      have hi : i < ns.length := (List.getElem?_eq_some_iff.mp gv).1
      refine ⟨szl rfl, fun l3 nl3 => ?_⟩
      have nl3a := sG.ne nl3
      have nl3c := sG.nec nl3
      have n3d : l3 ≠ d := fun z => by rw [z, P0.at_] at nl3; cases nl3
      have nl3H : H l3 = none := But.fresh B sG nl3
      have el := B _ _ hl nla
      refine ⟨.ref l, rfl, l, rfl, ⟨us, .inl (.inl ((upd_ne (ne_of_none el nl3)).trans el))⟩, ?_⟩
      refine for_list (K := K) (xs := us) (fun j σ U => ∃ (y6 : Option V) (xs : List Int), σ = [some (.ref a), some (.int (mo : Int)), some (.ref l), some (.ref d), some (.str nm), some (.ref l3), y6] ∧ But a G U ∧ SrcAt U a c ∧ U l3 = some (.lst (xs.map V.int)) ∧ xs.length ≤ j ∧ ∀ x ∈ xs, 0 ≤ x ∧ x ≤ 99)
        ⟨y6, [], rfl, But.set nl3 But.refl, sG.set nl3a nl3c, upd_same, Nat.le_refl _, fun x hx => nomatch hx⟩ (fun j σ U _ hP => .inl (.inl (hP.choose_spec.choose_spec.2.1 _ _ el nla))) (fun j v σ U hv hP => ?_) (fun σ U hP => ?_)
      · obtain ⟨y6, xs, rfl, bU, sU, e3, lx, hx⟩ := hP
        have hj : j < us.length := (List.getElem?_eq_some_iff.mp hv).1
        have mem := List.mem_of_getElem? hv
        refine ⟨.ref a, rfl, a, c, 2, rfl, by decide, by decide, sU, fun U2 r3 b3 s3 t0 t1 => ⟨rfl, _, rfl, ?_⟩⟩
        have e32 := b3 _ _ e3 nl3a
        by_cases cc : V.int r3 = V.int 0
        · rw [decide_eq_true cc]
          have rx := ((R v mem).1.ext (but_tup ((B.trans bU).trans b3) src))
          have gs := state_in' (R v mem).2.st
          obtain ⟨t, f0, rfl, h1, h2⟩ := rx
          refine iteT ⟨.ref l3, rfl, .inl ⟨rfl, _, .inl (.inl e32)⟩, .ref t, rfl, t, _, 0, .int (st (.ref t)), rfl, rfl, .inl (.inl h1), atI_nat (j := 0) rfl, l3, _, .int (st (.ref t)), rfl, rfl, e32, small (by rw [List.length_map]; omega), ?_⟩
          refine ⟨_, xs ++ [st (.ref t)], rfl, But.set nl3 (bU.trans b3), s3.set nl3a nl3c, by rw [upd_same, List.map_append]; rfl, by rw [List.length_append]; exact Nat.succ_le_succ lx, fun x h => ?_⟩
          rcases List.mem_append.mp h with h | h
          · exact hx x h
          · rw [List.mem_singleton.mp h]; exact gs
        · rw [decide_eq_false cc]
          exact iteF ⟨_, xs, rfl, bU.trans b3, s3, e32, by omega, hx⟩
      · obtain ⟨y6', xs, rfl, bU, sU, e3, lx, hx⟩ := hP
        -- the entry
        have put : ∀ (U : Hp) (xs : List Int), But a G U → SrcAt U a c → U l3 = some (.lst (xs.map V.int)) → xs.length ≤ 11 → (∀ x ∈ xs, 0 ≤ x ∧ x ≤ 99) → Ends.nx { nx := fun σ G => ∃ (y4 y5 y6 : Option V) (ps : List Prb), σ = [some (.ref a), some (.int (mo : Int)), some (.ref l), some (.ref d), y4, y5, y6] ∧ But a H G ∧ SrcAt G a c ∧ G l2 = some (.lst (ns.map V.str)) ∧ Probes G d ps ∧ ps.map (·.1) = ns.take (i + 1) ∧ (∀ p ∈ ps, p.2.2.length ≤ 100 ∧ p.2.1 ≠ a ∧ p.2.1 ≠ d) ∧ ∀ p ∈ ps, ∀ x ∈ p.2.2, 0 ≤ x ∧ x ≤ 99, rt := Q } [some (.ref a), some (.int (mo : Int)), some (.ref l), some (.ref d), some (.str nm), some (.ref l3), y6'] (upd U d (.dK (putK (pkv ps) (.inr nm) (.ref l3)))) := by
          intro U xs bU sU e3 lx hx
          have nin : (Sum.inr nm : Key) ∉ (pkv ps).map (·.1) := by
            intro hm
            unfold pkv at hm
            rw [List.map_map] at hm
            obtain ⟨q, hq, e⟩ := List.mem_map.mp hm
            have e := Sum.inr.inj (show (Sum.inr q.1 : Key) = Sum.inr nm from e)
            have z : q.1 ∈ ns.take i := by rw [← em]; exact List.mem_map.mpr ⟨q, hq, rfl⟩
            have ndn' := ndn
            rw [← List.take_append_drop i ns] at ndn'
            obtain ⟨_, _, dj⟩ := List.nodup_append.mp ndn'
            refine dj _ z nm (List.mem_of_getElem? (i := 0) ?_) e
            rw [List.getElem?_drop]; exact gv
          have epk : putK (pkv ps) (.inr nm) (.ref l3) = pkv (ps ++ [(nm, l3, xs)]) := by
            rw [putK_new nin]
            unfold pkv
            rw [List.map_append]; rfl
          have e2U := bU _ _ e2 nl2a
          refine ⟨_, _, _, ps ++ [(nm, l3, xs)], rfl, ?_, sU.set nda ndc, (upd_ne nl2d).trans e2U, ⟨by rw [upd_same, epk], fun p hp => ?_⟩, by rw [List.map_append, em, take_more gv]; rfl, fun p hp => ?_, fun p hp => ?_⟩
          · exact But.set nd_ (B.trans bU)
          · rcases List.mem_append.mp hp with hp | hp
            · exact (upd_ne (hsm p hp).2.2).trans (bU _ _ (P0.ls p hp) (hsm p hp).2.1)
            · rw [List.mem_singleton.mp hp]
              exact (upd_ne n3d).trans e3
          · rcases List.mem_append.mp hp with hp | hp
            · exact hsm p hp
            · rw [List.mem_singleton.mp hp]; exact ⟨by show xs.length ≤ 100; omega, nl3a, n3d⟩
          · rcases List.mem_append.mp hp with hp | hp
            · exact hst p hp
            · rw [List.mem_singleton.mp hp]; exact hx
        have lps : ps.length ≤ 6 := by
          have := congrArg List.length em
          rw [List.length_map, List.length_take] at this
          omega
        have lpk : (pkv ps).length ≤ 6 := by unfold pkv; rw [List.length_map]; exact lps
        refine ⟨.ref a, rfl, a, c, 3, rfl, by decide, by decide, sU, fun U2 r3 b3 s3 t0 t1 => ⟨rfl, _, rfl, ?_⟩⟩
        have e32 := b3 _ _ e3 nl3a
        have bU2 := bU.trans b3
        by_cases cc : V.int r3 = V.int 0
        · rw [decide_eq_true cc]
          refine iteT ⟨.ref l3, rfl, .inl ⟨rfl, _, .inl (.inl e32)⟩, .ref a, rfl, a, c, 100, rfl, by decide, by decide, s3, fun U3 z b4 s4 z0 z1 => ?_⟩
          have e33 := b4 _ _ e32 nl3a
          refine ⟨l3, _, .int z, rfl, rfl, e33, small (by rw [List.length_map]; omega), ?_⟩
          have eX : (upd U3 l3 (.lst (xs.map V.int ++ [.int z]))) l3 = some (.lst ((xs ++ [z]).map V.int)) := by rw [upd_same, List.map_append]; rfl
          have bX : But a G (upd U3 l3 (.lst (xs.map V.int ++ [.int z]))) := But.set nl3 (bU2.trans b4)
          have sX := s4.set (u := .lst (xs.map V.int ++ [.int z])) nl3a nl3c
          refine ⟨.ref l3, rfl, .ref d, rfl, .str nm, rfl, d, _, rfl, .inl ⟨pkv ps, .inr nm, bX _ _ P0.at_ nda, rfl, small (by omega), rfl⟩, ?_⟩
          exact put _ (xs ++ [z]) bX sX eX (by rw [List.length_append]; show xs.length + 1 ≤ 11; omega) fun x h => by
            rcases List.mem_append.mp h with h | h
            · exact hx x h
            · rw [List.mem_singleton.mp h]; omega
        · rw [decide_eq_false cc]
          refine iteF ⟨.ref l3, rfl, .ref d, rfl, .str nm, rfl, d, _, rfl, .inl ⟨pkv ps, .inr nm, bU2 _ _ P0.at_ nda, rfl, small (by omega), rfl⟩, ?_⟩
          exact put _ xs bU2 s3 e32 (by omega) hx
    · obtain ⟨y4, y5, y6, ps, rfl, B, sG, e2, P0, em, hsm, hst⟩ := hP
      rw [List.length_map, List.take_length] at em
      refine ⟨.ref d, rfl, q G d ps B sG nd_ P0 ⟨fun p hp => nmn _ (by rw [← em]; exact List.mem_map.mpr ⟨p, hp, rfl⟩), fun p hp => (hsm p hp).1, hst, by rw [em]; exact ndn, by have := congrArg List.length em; rw [List.length_map] at this; omega⟩ (by have := congrArg List.length em; rw [List.length_map] at this; omega) fun p hp => nz5 _ (by rw [← em]; exact List.mem_map.mpr ⟨p, hp, rfl⟩)⟩
def sp__law_passed (_ : PySem.W.Frag) : Sp := fun vs H Q _ => ∃ (s c d : Addr) (ps : List Prb), vs = [.ref s, .ref d] ∧ SrcAt H s c ∧ d ≠ s ∧ (∀ p ∈ ps, p.2.1 ≠ s) ∧ Probes H d ps ∧ GoodP ps ∧
  ∀ H' d' ps', But s H H' → SrcAt H' s c → H d' = none → Probes H' d' ps' → GoodP ps' → (ps'.map (·.2.2)).Perm (ps.map (·.2.2)) → (∀ p ∈ ps', p.2.1 ≠ s) → (∀ p ∈ ps', ∃ q ∈ ps, q.1 = p.1 ∧ q.2.2 = p.2.2) → (ps'.map (·.1)).Perm (ps.map (·.1)) → Q (.ref d') H'
theorem ok__law_passed {f : Addr} {C : Addr} {fd : FuncData} (T : Txt K mg C) (F : Fun K "_law_passed" "_law_passed" s__law_passed f fd) (c__law_draw : Cal P w K mg base 1 "_law_draw" (sp__law_draw K) []) : FnOk P w K mg base CX0 2 f fd ["_law_source_here", "_law_probes_here"] (sp__law_passed K) := by
  have nd := sc__law_passed.nd
  refine F.ok sc__law_passed (fun vs H Q E h => ?_) (fun cdv A outer s H vs Q E hr h => ?_)
  · obtain ⟨a, c, d, ps, rfl, _⟩ := h
    rfl
  · obtain ⟨a, c, d, ps, rfl, src, nda, nla, P0, gp, q⟩ := h
    refine ⟨_, (pss_cons (ps_set (i := 2) nd rfl (.inl rfl) pe_dnewK)
      (pss_cons (ps_set (i := 3) nd rfl (.inl rfl) (pe_callB cr_sortedS (by rfl) T.m_sorted (by decide +kernel) (pa_cons (pe_callTy (call_listD rfl) (by rfl) T.m_list (by decide +kernel) (pa_cons (pv 1) pa_nil)) pa_nil)))
      (pss_cons (ps_if (pt_cmpR op_eq (pe_c c__law_draw hr (by omega) (by rfl) (pa_cons (pv 0) (pa_cons pe_int pa_nil))) pe_int (nomark _)) (pss_one (ps_set (i := 3) nd rfl (.inl rfl) (KnR.pe_rev (pv 3) (pe_un un_neg pe_int)))) pss_nil)
      (pss_cons (ps_for PassesOwn.never rfl (pi_list (pv 3)) (pg_name (i := 4) nd rfl (.inl rfl)) (pss_one (ps_dput (hu_of hr) (pv 2) (pv 4) (pe_callTy call_list_of (by rfl) T.m_list (by decide +kernel) (pa_cons (pe_dget (hu_of hr) (pv 1) (pv 4) (fun _ _ => rfl)) pa_nil)) rfl)))
      (pss_one (ps_ret (pv 2))))))), ?_⟩
    refine fun d2 nd2 => ?_
    have n2a := src.ne nd2
    have n2c := src.nec nd2
    have B0 : But a H (upd H d2 (.dK [])) := But.set nd2 But.refl
    have src0 : SrcAt (upd H d2 (.dK [])) a c := src.set n2a n2c
    have ed0 : (upd H d2 (.dK [])) d2 = some (.dK []) := upd_same
    generalize upd H d2 (.dK []) = H0 at B0 src0 ed0 ⊢
    have lenp := gp.len
    refine ⟨.ref d, rfl, d, pkv ps, rfl, .inl (B0 _ _ P0.at_ nda), fun l1 nl1 => ?_⟩
    have ek : (pkv ps).map (fun kv => kV kv.1) = (ps.map (·.1)).map V.str := by unfold pkv; rw [List.map_map, List.map_map]; rfl
    rw [ek]
    have s1 := same_upd (o := .lst ((ps.map (·.1)).map V.str)) nl1
    refine ⟨l1, ps.map (·.1), rfl, .inl (.inl upd_same), by rw [List.length_map]; omega, fun ns l2 pn _ nl2 => ?_⟩
    have s2 := s1.trans (same_upd (o := .lst (ns.map V.str)) nl2)
    have el2 : (upd (upd H0 l1 (.lst ((ps.map (·.1)).map V.str))) l2 (.lst (ns.map V.str))) l2 = some (.lst (ns.map V.str)) := upd_same
    have n2l : l2 ≠ a := by
      obtain ⟨o, e⟩ := src0.occ
      exact But.ne (s1 _ _ e) nl2
    have nl2d : l2 ≠ d2 := fun z => by rw [z, s1 _ _ ed0] at nl2; cases nl2
    show gName 3 _ _ (upd (upd H0 l1 (.lst ((ps.map (·.1)).map V.str))) l2 (.lst (ns.map V.str))) _
    generalize upd (upd H0 l1 (.lst ((ps.map (·.1)).map V.str))) l2 (.lst (ns.map V.str)) = H2 at s2 el2 ⊢
    have src2 := src0.mono s2
    have B2 : But a H H2 := B0.trans (Same.but s2)
    have ed2 := s2 _ _ ed0
    refine KnC.asg_if (fun σ2 G => ∃ (l4 : Addr) (ns' : List Str), σ2 = [some (.ref a), some (.ref d), some (.ref d2), some (.ref l4), none] ∧ But a H G ∧ SrcAt G a c ∧ l4 ≠ a ∧ l4 ≠ d2 ∧ G l4 = some (.lst (ns'.map V.str)) ∧ ns'.Perm ns ∧ G d2 = some (.dK [])) (fun go => ?_) (fun σ2 G hT => ?_)
    · refine ⟨.ref a, rfl, a, c, 2, rfl, by decide, by decide, src2, fun U r3 b3 s3 t0 t1 => ⟨rfl, _, rfl, ?_⟩⟩
      have el3 := b3 _ _ el2 n2l
      have ed3 := b3 _ _ ed2 n2a
      by_cases cc : V.int r3 = V.int 0
      · rw [decide_eq_true cc]
        refine iteT ⟨.ref l2, rfl, 1, rfl, -1, rfl, l2, _, rfl, rfl, .inl (.inl el3), fun l4 nl4 => ?_⟩
        have n4a := s3.ne nl4
        have n4c := s3.nec nl4
        have B3 := B2.trans b3
        refine go _ _ ⟨l4, ns.reverse, rfl, But.set (But.fresh B3 s3 nl4) B3, s3.set n4a n4c, n4a, (fun z => by rw [z, ed3] at nl4; cases nl4), by rw [upd_same, List.map_reverse], List.reverse_perm ns, (upd_ne fun z => by rw [← z, ed3] at nl4; cases nl4).trans ed3⟩
      · rw [decide_eq_false cc]
        exact iteF (go _ _ ⟨l2, ns, rfl, B2.trans b3, s3, n2l, nl2d, el3, List.Perm.refl _, ed3⟩)
    · obtain ⟨l4, ns', rfl, B3, s3, n4a, n4d, el4, pn', ed3⟩ := hT
      have pn2 := pn'.trans pn
      have ndn : ns'.Nodup := pn2.nodup_iff.mpr gp.nd
      have P3 : Probes G d ps := ⟨B3 _ _ P0.at_ nda, fun p hp => B3 _ _ (P0.ls p hp) (nla p hp)⟩
      have n2d : d2 ≠ d := fun z => by rw [z, P0.at_] at nd2; cases nd2
      refine ⟨.ref l4, rfl, l4, rfl, ⟨_, .inl (.inl el4)⟩, ?_⟩
      refine for_list (K := K) (xs := ns'.map V.str) (fun i σ U => ∃ (y4 : Option V) (qs : List Prb), σ = [some (.ref a), some (.ref d), some (.ref d2), some (.ref l4), y4] ∧ (∀ b o, b ≠ d2 → G b = some o → U b = some o) ∧ Probes U d2 qs ∧ qs.map (·.1) = ns'.take i ∧ ∀ q ∈ qs, G q.2.1 = none ∧ ∃ p ∈ ps, p.1 = q.1 ∧ p.2.2 = q.2.2)
        ⟨none, [], rfl, fun _ _ _ z => z, ⟨ed3, fun p hp => nomatch hp⟩, rfl, fun q hq => nomatch hq⟩ (fun i σ U _ hP => .inl (.inl (hP.choose_spec.choose_spec.2.1 _ _ n4d el4))) (fun i v σ U hv hP => ?_) (fun σ U hP => ?_)
      · obtain ⟨y4, qs, rfl, kU, Q0, em, hq⟩ := hP
        rw [List.getElem?_map] at hv
        cases gv : ns'[i]? with
        | none => rw [gv] at hv; cases hv
        | some nm =>
        rw [gv] at hv
        cases hv
        obtain ⟨p, hp, rfl⟩ := List.mem_map.mp (pn2.mem_iff.mp (List.mem_of_getElem? gv))
        have hd := kU _ _ n2d.symm P3.at_
        have npd : p.2.1 ≠ d2 := ne_of (P3.ls p hp) ed3 (fun z => by cases z)
        have hl := kU _ _ npd (P3.ls p hp)
        refine ⟨.ref d, rfl, .str p.1, rfl, d, .ref p.2.1, rfl, .inl ⟨_, .inr p.1, .inl hd, rfl, (pkv_val gp.nd hp).symm⟩, p.2.1, _, rfl, .inl (.inl (.inl hl)), fun l5 nl5 => ?_⟩
        have s5 := same_upd (o := .lst (p.2.2.map V.int)) nl5
        have e5 : (upd U l5 (.lst (p.2.2.map V.int))) l5 = some (.lst (p.2.2.map V.int)) := upd_same
        have n5d : l5 ≠ d2 := fun z => by rw [z, Q0.at_] at nl5; cases nl5
        have lqs : qs.length ≤ 6 := by
          have h1 := congrArg List.length em
          have h2 := pn2.length_eq
          rw [List.length_map, List.length_take] at h1
          rw [List.length_map] at h2
          omega
        have nin : (Sum.inr p.1 : Key) ∉ (pkv qs).map (·.1) := by
          intro hm
          unfold pkv at hm
          rw [List.map_map] at hm
          obtain ⟨q, hq, e⟩ := List.mem_map.mp hm
          have e := Sum.inr.inj (show (Sum.inr q.1 : Key) = Sum.inr p.1 from e)
          have z : q.1 ∈ ns'.take i := by rw [← em]; exact List.mem_map.mpr ⟨q, hq, rfl⟩
          have ndn' := ndn
          rw [← List.take_append_drop i ns'] at ndn'
          obtain ⟨_, _, dj⟩ := List.nodup_append.mp ndn'
          refine dj _ z p.1 (List.mem_of_getElem? (i := 0) ?_) e
          rw [List.getElem?_drop]; exact gv
        refine ⟨.ref d2, rfl, .str p.1, rfl, d2, _, rfl, .inl ⟨pkv qs, .inr p.1, s5 _ _ Q0.at_, rfl, small (by unfold pkv; rw [List.length_map]; omega), rfl⟩, ?_⟩
        refine ⟨_, qs ++ [(p.1, l5, p.2.2)], rfl, fun b o n e => (upd_ne n).trans (s5 _ _ (kU _ _ n e)), ⟨?_, fun q h => ?_⟩, by rw [List.map_append, em, take_more gv]; rfl, fun q h => ?_⟩
        · rw [upd_same, putK_new nin]; unfold pkv; rw [List.map_append]; rfl
        · rcases List.mem_append.mp h with h | h
          · exact (upd_ne (ne_of (Q0.ls q h) Q0.at_ fun z => by cases z)).trans (s5 _ _ (Q0.ls q h))
          · rw [List.mem_singleton.mp h]
            exact (upd_ne n5d).trans e5
        · rcases List.mem_append.mp h with h | h
          · exact hq q h
          · rw [List.mem_singleton.mp h]
            refine ⟨?_, p, hp, rfl, rfl⟩
            cases e : G l5 with
            | none => rfl
            | some o => rw [kU _ _ n5d e] at nl5; cases nl5
      · obtain ⟨y4, qs, rfl, kU, Q0, em, hq⟩ := hP
        rw [List.length_map, List.take_length] at em
        refine ⟨.ref d2, rfl, q U d2 qs (fun b o e n => kU _ _ (ne_of_none e nd2) (B3 _ _ e n)) ?_ nd2 Q0 ⟨fun q' h => ?_, fun q' h => ?_, fun q' h => ?_, by rw [em]; exact ndn, ?_⟩ ?_ (fun q' h z => ?_) (fun q' h => (hq q' h).2) (by rw [em]; exact pn2)⟩
        · obtain ⟨ns0, i0, j0, k0, o⟩ := s3
          exact ⟨ns0, i0, j0, k0, kU _ _ n2a.symm o.at_, kU _ _ n2c.symm o.cs, o.lo, o.hi, o.l, o.j0⟩
        · obtain ⟨_, p, hp, h1, h2⟩ := hq q' h
          rw [← h1]; exact gp.nm p hp
        · obtain ⟨_, p, hp, h1, h2⟩ := hq q' h
          rw [← h2]; exact gp.sm p hp
        · obtain ⟨_, p, hp, h1, h2⟩ := hq q' h
          rw [← h2]; exact gp.st p hp
        · have h1 := congrArg List.length em
          have h2 := pn2.length_eq
          rw [List.length_map] at h1 h2
          omega
        · have z := lists_perm (ms := qs.map fun q => (q.1, 0, q.2.2)) gp.nd pn2 (by rw [List.map_map]; exact em) fun q' h => by
            obtain ⟨q2, h2, rfl⟩ := List.mem_map.mp h
            obtain ⟨_, p, hp, e1, e2⟩ := hq q2 h2
            exact ⟨p, hp, e1, e2⟩
          unfold lists at z
          rw [List.map_map] at z
          exact z
        · have := (hq q' h).1
          obtain ⟨o, e⟩ := s3.occ
          rw [z, e] at this; cases this

end
end Kn

set_option Elab.async false
set_option linter.all false
set_option maxRecDepth 100000
set_option maxHeartbeats 4000000
namespace Kn
open PySem PySem.Spec PyProof.Rows L2
open C8 (Cal pe_c pe_gc Mak pe_mk)
section
variable {P : Program} {w : World} {K : PySem.W.Frag} {mg : Str → Option Value} {base : Heap}
theorem strs_shapedT {zs : List Str} (h : ∀ z ∈ zs, nameB (.str z) = true) : SeqAt.shaped (.tuple (zs.map PyData.str)) = true := by
  unfold SeqAt.shaped
  have h2 : (PyData.tuple (zs.map PyData.str)).canLay0 = true := texts_lay h
  have h3 : (PyData.tuple (zs.map PyData.str)).depth ≤ 64 := by
    show PyData.depthAll (zs.map PyData.str) + 1 ≤ 64
    rw [KnA.depth_texts]; decide
  rw [h2, decide_eq_true h3]; rfl
theorem stl_head {fa : V → List Str} {h : V} {r : List V} : decide ((((h :: r).filter fun x => !decide (fa x = fa h)).length : Int) = 0) = stl fa (h :: r) := by
  by_cases c : ((h :: r).filter fun x => !decide (fa x = fa h)) = []
  · rw [c, decide_eq_true (show (([] : List V).length : Int) = 0 from rfl)]
    symm
    have e : ∀ x ∈ h :: r, fa x = fa h := fun x hx => by
      cases d : decide (fa x = fa h) with
      | true => exact of_decide_eq_true d
      | false => exact absurd c (List.ne_nil_of_mem (List.mem_filter.mpr ⟨hx, by rw [d]; rfl⟩))
    exact List.all_eq_true.mpr fun x hx => List.all_eq_true.mpr fun y hy => decide_eq_true ((e x hx).trans (e y hy).symm)
  · have pos := List.length_pos_iff.mpr c
    rw [decide_eq_false (by omega)]
    symm
    refine Bool.eq_false_iff.mpr fun z => c ?_
    refine List.filter_eq_nil_iff.mpr fun x hx => ?_
    have := of_decide_eq_true (List.all_eq_true.mp (List.all_eq_true.mp z x hx) h List.mem_cons_self)
    rw [decide_eq_true this]; decide
def sp__law_settled (_ : PySem.W.Frag) : Sp := fun vs H Q _ => ∃ (g : Addr) (us : List V) (st : V → Int) (fa : V → List Str), vs = [.ref g] ∧ H g = some (.tup us) ∧ Rows H us st fa ∧ us.length ≤ 14 ∧ ∀ H', Same H H' → Q (.bl (stl fa us)) H'
theorem ok__law_settled {f : Addr} {C : Addr} {fd : FuncData} (T : Txt K mg C) (F : Fun K "_law_settled" "_law_settled" s__law_settled f fd)  : FnOk P w K mg base CX0 1 f fd ["_law_group"] (sp__law_settled K) := by
  have nd := sc__law_settled.nd
  refine F.ok sc__law_settled (fun vs H Q E h => ?_) (fun cdv A outer s H vs Q E hr h => ?_)
  · obtain ⟨g, us, st, fa, rfl, _⟩ := h
    rfl
  · obtain ⟨g, us, st, fa, rfl, hg, R, few, q⟩ := h
    refine ⟨_, (pss_one (ps_ret (pe_cmpR op_eq (pe_callB call_len (by rfl) T.m_len (by decide +kernel) (pa_cons (pe_lc (own := [("_law_row", 1)]) (g := gName 1) rfl nd (pi_tup (pv 0)) (blkOk_by (N := ["_law_group", "_law_row"]) (sc := defScope s__law_settled) (by decide +kernel)) (fun _ _ _ _ _ => (pg_name (i := 1) nd rfl (.inl rfl))) (fun _ _ _ _ _ => (pts_one (pt_cmpR (show OpR _ (compareOp .NotEq) (rNeD K) from op_neD hr.units) (pe_ix (r := rIxT K) ix_tup (pv 1) pe_int (fun _ _ => rfl)) (pe_ix (r := rIxT K) ix_tup (pe_ix (r := rIxT K) ix_tup (pv 0) pe_int (fun _ _ => rfl)) pe_int (fun _ _ => rfl)) (nomark _)))) (fun _ _ _ _ _ => (pv 1))) pa_nil)) pe_int (nomark _)))), ?_⟩
    by_cases ne : us = []
    · subst ne
      refine ⟨.ref g, rfl, g, rfl, ⟨_, .inl (.inl hg)⟩, fun D nD => ?_⟩
      refine lc_tup (K := K) (a := g) (xs := []) (fun i G => Same H G ∧ G D = some (.lst [])) ⟨same_upd nD, upd_same⟩ (fun i G _ hP => .inl (.inl (hP.1 _ _ hg))) (fun i x G hx hP => by cases hx) (fun G hP => ?_)
      obtain ⟨S, eD⟩ := hP
      exact ⟨.ref D, _, rfl, .inl ⟨_, .inl (.inl eD), rfl⟩, rfl, q G S⟩
    obtain ⟨hd, rs, rfl⟩ : ∃ h r, us = h :: r := by
      cases us with
      | nil => exact (ne rfl).elim
      | cons h r => exact ⟨h, r, rfl⟩
    refine ⟨.ref g, rfl, g, rfl, ⟨_, .inl (.inl hg)⟩, fun D nD => ?_⟩
    refine lc_tup (K := K) (a := g) (xs := hd :: rs) (fun i G => Same H G ∧ G D = some (.lst (((hd :: rs).take i).filter fun x => !decide (fa x = fa hd)))) ⟨same_upd nD, upd_same⟩ (fun i G _ hP => .inl (.inl (hP.1 _ _ hg))) (fun i x G hx hP => ?_) (fun G hP => ?_)
    · obtain ⟨S, eD⟩ := hP
      have mem := List.mem_of_getElem? hx
      have hi : i < (hd :: rs).length := (List.getElem?_eq_some_iff.mp hx).1
      obtain ⟨t, f1, rfl, h1, h2⟩ := (R.mono S x mem).1
      obtain ⟨t0, f0, e0, k1, k2⟩ := (R.mono S hd List.mem_cons_self).1
      have n1 := (R _ mem).2.nm
      have n0 := (R hd List.mem_cons_self).2.nm
      refine ⟨rfl, ?_⟩
      refine ⟨.ref t, rfl, t, _, 1, .ref f1, rfl, rfl, .inl (.inl h1), atI_nat (j := 1) rfl, .ref g, rfl, g, _, 0, hd, rfl, rfl, .inl (.inl (S _ _ hg)), atI_nat (j := 0) rfl, t0, _, 1, .ref f0, e0, rfl, .inl (.inl k1), atI_nat (j := 1) rfl, .tuple ((fa (.ref t)).map PyData.str), .tuple ((fa hd).map PyData.str), .tup (.inl (.inl h2)) (dp_strs _), .tup (.inl (.inl k2)) (dp_strs _), strs_shapedT n1, strs_shapedT n0, _, rfl, ?_⟩
      have ee : PyData.eqv (.tuple ((fa (.ref t)).map PyData.str)) (.tuple ((fa hd).map PyData.str)) = decide (fa (.ref t) = fa hd) := strs_eqv _ _
      rw [ee]
      have tk : (((hd :: rs).take (i + 1)).filter fun x => !decide (fa x = fa hd)) = (((hd :: rs).take i).filter fun x => !decide (fa x = fa hd)) ++ if (!decide (fa (.ref t) = fa hd)) = true then [.ref t] else [] := by
        rw [take_more hx, List.filter_append, List.filter_cons, List.filter_nil]
      by_cases cc : (!decide (fa (.ref t) = fa hd)) = true
      · rw [if_pos cc] at tk
        rw [cc]
        refine iteT ⟨.ref t, rfl, _, eD, Nat.lt_of_le_of_lt (List.length_filter_le _ _) (small (by rw [List.length_take]; omega)), same_set nD S, ?_⟩
        rw [upd_same, tk]
      · rw [if_neg cc, List.append_nil] at tk
        rw [Bool.eq_false_iff.mpr cc]
        exact iteF ⟨S, by rw [tk]; exact eD⟩
    · obtain ⟨S, eD⟩ := hP
      rw [List.take_length] at eD
      refine ⟨.ref D, _, rfl, .inl ⟨_, .inl (.inl eD), rfl⟩, rfl, ?_⟩
      have q' := q G S
      rw [← stl_head] at q'
      have e : ∀ i : Int, decide (V.int i = V.int 0) = decide (i = 0) := fun i => by
        by_cases c : i = 0
        · rw [c]; rfl
        · rw [decide_eq_false c, decide_eq_false fun z => c (V.int.inj z)]
      rw [← e] at q'
      exact q'
def sp__law_part (_ : PySem.W.Frag) : Sp := fun vs H Q _ => ∃ (g l : Addr) (sd : Bool) (us : List V) (ss : List Int) (st : V → Int) (fa : V → List Str), vs = [.ref g, .ref l, .bl sd] ∧ H g = some (.tup us) ∧ H l = some (.lst (ss.map V.int)) ∧ Rows H us st fa ∧ us.length ≤ 14 ∧
  ∀ H' t, Same H H' → H' t = some (.tup (if sd = true then yesG st ss us else noG st ss us)) → Q (.ref t) H'
theorem ok__law_part {f : Addr} {C : Addr} {fd : FuncData} (T : Txt K mg C) (F : Fun K "_law_part" "_law_part" s__law_part f fd)  : FnOk P w K mg base CX0 1 f fd ["_law_group", "_law_states", "_law_side"] (sp__law_part K) := by
  have nd := sc__law_part.nd
  refine F.ok sc__law_part (fun vs H Q E h => ?_) (fun cdv A outer s H vs Q E hr h => ?_)
  · obtain ⟨g, l, sd, us, ss, st, fa, rfl, _⟩ := h
    rfl
  · obtain ⟨g, l, sd, us, ss, st, fa, rfl, hg, hl, R, few, q⟩ := h
    refine ⟨_, (pss_one (ps_ret (pe_callTy call_tuple_of (by rfl) T.m_tuple (by decide +kernel) (pa_cons (pe_lc (own := [("_law_row", 3)]) (g := gName 3) rfl nd (pi_tup (pv 0)) (blkOk_by (N := ["_law_group", "_law_states", "_law_side", "_law_row"]) (sc := defScope s__law_part) (by decide +kernel)) (fun _ _ _ _ _ => (pg_name (i := 3) nd rfl (.inl rfl))) (fun _ _ _ _ _ => (pts_one (pt_cmpR op_eq (pe_cmpR (show OpR _ (compareOp .In) (rIn K false) from op_in_seq) (pe_ix (r := rIxT K) ix_tup (pv 3) pe_int (fun _ _ => rfl)) (pv 1) (by with_unfolding_all rfl)) (pv 2) (nomark _)))) (fun _ _ _ _ _ => (pv 3))) pa_nil)))), ?_⟩
    have ef : (if sd = true then yesG st ss us else noG st ss us) = us.filter fun x => decide (decide (st x ∈ ss) = sd) := by
      cases sd with
      | true =>
        rw [if_pos rfl]
        exact List.filter_congr fun x _ => by cases decide (st x ∈ ss) <;> rfl
      | false =>
        rw [if_neg (by decide)]
        exact List.filter_congr fun x _ => by cases decide (st x ∈ ss) <;> rfl
    rw [ef] at q
    refine ⟨.ref g, rfl, g, rfl, ⟨_, .inl (.inl hg)⟩, fun D nD => ?_⟩
    refine lc_tup (K := K) (a := g) (xs := us) (fun i G => Same H G ∧ G D = some (.lst ((us.take i).filter fun x => decide (decide (st x ∈ ss) = sd)))) ⟨same_upd nD, upd_same⟩ (fun i G _ hP => .inl (.inl (hP.1 _ _ hg))) (fun i x G hx hP => ?_) (fun G hP => ?_)
    · obtain ⟨S, eD⟩ := hP
      have mem := List.mem_of_getElem? hx
      have hi : i < us.length := (List.getElem?_eq_some_iff.mp hx).1
      obtain ⟨t, f1, rfl, h1, h2⟩ := (R.mono S x mem).1
      refine ⟨rfl, ?_⟩
      refine ⟨.ref t, rfl, t, _, 0, .int (st (.ref t)), rfl, rfl, .inl (.inl h1), atI_nat (j := 0) rfl, .ref l, rfl, l, _, rfl, .inl (.inl (.inl (S _ _ hl))), rfl, flat_is _, .bl sd, rfl, rfl, _, rfl, ?_⟩
      have tk : ((us.take (i + 1)).filter fun x => decide (decide (st x ∈ ss) = sd)) = ((us.take i).filter fun x => decide (decide (st x ∈ ss) = sd)) ++ if decide (decide (st (.ref t) ∈ ss) = sd) = true then [.ref t] else [] := by
        rw [take_more hx, List.filter_append, List.filter_cons, List.filter_nil]
      have e : decide (V.bl (inV (V.int (st (.ref t))) (ss.map V.int)) = V.bl sd) = decide (decide (st (.ref t) ∈ ss) = sd) := by
        rw [inV_ints]
        by_cases c : decide (st (.ref t) ∈ ss) = sd
        · rw [decide_eq_true c, c]; simp
        · rw [decide_eq_false c, decide_eq_false fun z => c (V.bl.inj z)]
      show if decide (V.bl (inV (V.int (st (.ref t))) (ss.map V.int)) = V.bl sd) = true then _ else _
      rw [e]
      by_cases cc : decide (decide (st (.ref t) ∈ ss) = sd) = true
      · rw [if_pos cc] at tk
        rw [if_pos cc]
        refine ⟨.ref t, rfl, _, eD, Nat.lt_of_le_of_lt (List.length_filter_le _ _) (small (by rw [List.length_take]; omega)), same_set nD S, ?_⟩
        rw [upd_same, tk]
      · rw [if_neg cc, List.append_nil] at tk
        rw [if_neg cc]
        exact ⟨S, by rw [tk]; exact eD⟩
    · obtain ⟨S, eD⟩ := hP
      rw [List.take_length] at eD
      exact ⟨D, _, rfl, .inl ⟨.inl (.inl eD), fun t nt => q _ t (S.trans (same_upd nt)) upd_same⟩⟩

/-! ### trees, and things that are none -/
inductive Th where
  | nul
  | node (k : V) (l r : Th)
  | lis
  | odd
def ThAt (K : PySem.W.Frag) (H : Hp) : Th → V → Prop
  | .nul, v => ∃ t, v = .ref t ∧ H t = some (.tup [])
  | .node k l r, v => ∃ t x y, v = .ref t ∧ H t = some (.tup [k, x, y]) ∧ Val K H k ∧ ThAt K H l x ∧ ThAt K H r y
  | .lis, v => ∃ t xs, v = .ref t ∧ H t = some (.lst xs)
  | .odd, v => ∃ t xs, v = .ref t ∧ H t = some (.tup xs) ∧ xs.length ≠ 0 ∧ xs.length ≠ 3 ∧ xs.length ≤ 1000
theorem ThAt.mono {K : PySem.W.Frag} {H H' : Hp} (s : Same H H') : ∀ {T : Th} {v : V}, ThAt K H T v → ThAt K H' T v
  | .nul, _, ⟨t, e, h⟩ => ⟨t, e, s _ _ h⟩
  | .node _ _ _, _, ⟨t, x, y, e, h, k, a, b⟩ => ⟨t, x, y, e, s _ _ h, k.mono s, a.mono s, b.mono s⟩
  | .lis, _, ⟨t, xs, e, h⟩ => ⟨t, xs, e, s _ _ h⟩
  | .odd, _, ⟨t, xs, e, h, r⟩ => ⟨t, xs, e, s _ _ h, r⟩
theorem Val.but {K : PySem.W.Frag} {H H' : Hp} {n : Addr} {kvs kvs' : List (Key × V)} (a : H n = some (.dK kvs)) (b : H' n = some (.dK kvs')) (k : ∀ b o, b ≠ n → H b = some o → H' b = some o) {v : V} (h : Val K H v) : Val K H' v := by
  cases h with
  | non => exact .non
  | bl b => exact .bl b
  | int i => exact .int i
  | str z h => exact .str z h
  | lst e => exact .lst (k _ _ (ne_of e a fun z => by cases z) e)
  | tup e => exact .tup (k _ _ (ne_of e a fun z => by cases z) e)
  | @dK c ks e =>
    by_cases z : c = n
    · rw [z]; exact .dK b
    · exact .dK (k _ _ z e)
theorem ThAt.but {K : PySem.W.Frag} {H H' : Hp} {n : Addr} {kvs kvs' : List (Key × V)} (a : H n = some (.dK kvs)) (b : H' n = some (.dK kvs')) (k : ∀ b o, b ≠ n → H b = some o → H' b = some o) : ∀ {T : Th} {v : V}, ThAt K H T v → ThAt K H' T v
  | .nul, _, ⟨t, e, h⟩ => ⟨t, e, k _ _ (ne_of h a fun z => by cases z) h⟩
  | .node _ _ _, _, ⟨t, x, y, e, h, v, p, q⟩ => ⟨t, x, y, e, k _ _ (ne_of h a fun z => by cases z) h, v.but a b k, p.but a b k, q.but a b k⟩
  | .lis, _, ⟨t, xs, e, h⟩ => ⟨t, xs, e, k _ _ (ne_of h a fun z => by cases z) h⟩
  | .odd, _, ⟨t, xs, e, h, r⟩ => ⟨t, xs, e, k _ _ (ne_of h a fun z => by cases z) h, r⟩
/-- how deep a thing is as a tree for a group; 99 for what is none -/
def dep {α : Type} (st : α → Int) (fa : α → List Str) (pb : Str → Option (List Int)) : Th → List α → Nat
  | .nul, g => if stl fa g = true then 0 else 99
  | .node (.str n) l r, g => match pb n with
    | some ss => min 99 (1 + max (dep st fa pb l (yesG st ss g)) (dep st fa pb r (noG st ss g)))
    | none => 99
  | .node _ _ _, _ => 99
  | .lis, _ => 99
  | .odd, _ => 99
theorem dep_name {α : Type} {st : α → Int} {fa : α → List Str} {pb : Str → Option (List Int)} {n : Str} {l r : Th} {g : List α} {ss : List Int} (h : pb n = some ss) : dep st fa pb (.node (.str n) l r) g = min 99 (1 + max (dep st fa pb l (yesG st ss g)) (dep st fa pb r (noG st ss g))) := by
  conv => lhs; unfold dep
  rw [h]
theorem dep_none {α : Type} {st : α → Int} {fa : α → List Str} {pb : Str → Option (List Int)} {n : Str} {l r : Th} {g : List α} (h : pb n = none) : dep st fa pb (.node (.str n) l r) g = 99 := by
  unfold dep
  rw [h]
theorem dep_odd {α : Type} {st : α → Int} {fa : α → List Str} {pb : Str → Option (List Int)} {k : V} {l r : Th} {g : List α} (h : isS k = false) : dep st fa pb (.node k l r) g = 99 := by
  cases k <;> first | rfl | cases h
def pbP {β : Type} (ps : List (Str × β × List Int)) (x : Str) : Option (List Int) := (ps.find? fun p => decide (p.1 = x)).map (·.2.2)
theorem find_uniq {β : Type} : ∀ {ps : List (Str × β)} {p : Str × β}, (ps.map (·.1)).Nodup → p ∈ ps → ps.find? (fun q => decide (q.1 = p.1)) = some p
  | [], _, _, h => nomatch h
  | q :: r, p, nd, h => by
    rw [List.map_cons] at nd
    obtain ⟨a, b⟩ := List.nodup_cons.mp nd
    rcases List.mem_cons.mp h with e | h
    · rw [e, List.find?_cons_of_pos (by simp)]
    · have ne : ¬ q.1 = p.1 := fun e => a (e ▸ List.mem_map.mpr ⟨_, h, rfl⟩)
      rw [List.find?_cons_of_neg (by simp [ne])]
      exact find_uniq b h
theorem pb_in {β : Type} {ps : List (Str × β × List Int)} {p : Str × β × List Int} (nd : (ps.map (·.1)).Nodup) (h : p ∈ ps) : pbP ps p.1 = some p.2.2 := by
  unfold pbP
  rw [find_uniq nd h]; rfl
theorem pb_out {β : Type} {ps : List (Str × β × List Int)} {x : Str} (h : x ∉ ps.map (·.1)) : pbP ps x = none := by
  unfold pbP
  rw [List.find?_eq_none.mpr fun p hp e => h (List.mem_map.mpr ⟨p, hp, of_decide_eq_true e⟩)]; rfl
theorem pb_same {β γ : Type} {ms : List (Str × β × List Int)} {ps : List (Str × γ × List Int)} (nd : (ps.map (·.1)).Nodup) (pm : (ms.map (·.1)).Perm (ps.map (·.1))) (h : ∀ q ∈ ms, ∃ p ∈ ps, p.1 = q.1 ∧ p.2.2 = q.2.2) (x : Str) : pbP ms x = pbP ps x := by
  by_cases c : x ∈ ms.map (·.1)
  · obtain ⟨q, hq, rfl⟩ := List.mem_map.mp c
    obtain ⟨p, hp, e1, e2⟩ := h q hq
    rw [pb_in (pm.nodup_iff.mpr nd) hq, ← e1, pb_in nd hp, e2]
  · rw [pb_out c, pb_out fun z => c (pm.mem_iff.mpr z)]
theorem dep_congr {α : Type} {st : α → Int} {fa : α → List Str} {pb pb' : Str → Option (List Int)} (h : ∀ x, pb x = pb' x) : ∀ (T : Th) (g : List α), dep st fa pb T g = dep st fa pb' T g := by
  have e : pb = pb' := funext h
  rw [e]; exact fun _ _ => rfl
theorem dep_perm {α : Type} {st : α → Int} {fa : α → List Str} {pb : Str → Option (List Int)} : ∀ (T : Th) (g g' : List α), g.Perm g' → dep st fa pb T g = dep st fa pb T g'
  | .nul, g, g', h => by unfold dep; rw [stl_perm h]
  | .lis, _, _, _ => rfl
  | .odd, _, _, _ => rfl
  | .node k l r, g, g', h => by
    cases k with
    | str n =>
      cases e : pb n with
      | none => rw [dep_none e, dep_none e]
      | some ss => rw [dep_name e, dep_name e, dep_perm l (yesG st ss g) (yesG st ss g') (h.filter _), dep_perm r (noG st ss g) (noG st ss g') (h.filter _)]
    | _ => rfl
def NmA (e : AEnv) : Prop := ∀ p ∈ e.ms, nameB (.str p.1) = true

theorem ints_eqv : ∀ (xs ys : List Int), PyData.eqvAll (xs.map PyData.int) (ys.map PyData.int) = decide (xs = ys)
  | [], [] => rfl
  | [], _ :: _ => rfl
  | _ :: _, [] => rfl
  | x :: xs, y :: ys => by
    show ((x == y) && PyData.eqvAll (xs.map PyData.int) (ys.map PyData.int)) = _
    rw [ints_eqv xs ys]
    by_cases e1 : x = y <;> by_cases e2 : xs = ys <;> simp [e1, e2]
theorem ints_lay (xs : List Int) : PyData.canLayAll0 (xs.map PyData.int) = true ∧ PyData.depthAll (xs.map PyData.int) ≤ 1 := by
  induction xs with
  | nil => exact ⟨rfl, Nat.zero_le _⟩
  | cons x r ih =>
    refine ⟨?_, ?_⟩
    · show (true && PyData.canLayAll0 (r.map PyData.int)) = true
      rw [ih.1]; rfl
    · show max 0 (PyData.depthAll (r.map PyData.int)) ≤ 1
      omega
theorem dp_ints {K : PySem.W.Frag} {H : Hp} : ∀ xs : List Int, DpAll K H (xs.map V.int) (xs.map PyData.int)
  | [] => .nil
  | x :: r => .cons (.int x) (dp_ints r)

end
end Kn

set_option Elab.async false
set_option linter.all false
set_option maxRecDepth 100000
set_option maxHeartbeats 4000000
namespace Kn
open PySem PySem.Spec PyProof.Rows L2
open C8 (Cal pe_c pe_gc Mak pe_mk)
section
variable {P : Program} {w : World} {K : PySem.W.Frag} {mg : Str → Option Value} {base : Heap}
/-! ### asked again: what stands in the dict -/
theorem AskF.but {C : Addr} {H H' : Hp} {a : Addr} {e : AEnv} {kvs : List (Key × V)} (h : AskF C H a e) (hn : H e.n = some (.dK kvs)) (k : ∀ b o, b ≠ e.n → H b = some o → H' b = some o) : AskF C H' a e :=
  ⟨k _ _ (ne_of h.ob hn fun z => by cases z) h.ob, k _ _ (ne_of h.hc hn fun z => by cases z) h.hc, h.hy.imp (k _ _ h.yn) fun ⟨o, z⟩ => ⟨o, k _ _ h.yn z⟩, fun v hv => ⟨(h.rw v hv).1.ext fun b vs q => k b _ (fun z => by rw [z, hn] at q; cases q) q, (h.rw v hv).2⟩, h.yn⟩
theorem AskF.mono {C : Addr} {H H' : Hp} {a : Addr} {e : AEnv} (h : AskF C H a e) (s : Same H H') : AskF C H' a e := ⟨s _ _ h.ob, s _ _ h.hc, h.hy.imp (s _ _) fun ⟨o, z⟩ => ⟨o, s _ _ z⟩, h.rw.mono s, h.yn⟩
def sp_needHit (_ : PySem.W.Frag) (C : Addr) : Sp := fun vs H Q _ => ∃ (a : Addr) (e : AEnv) (m : Nat), vs = [.ref a, .int (m : Int)] ∧ AskF C H a e ∧ GoodA e ∧ Memo H e ∧ Closed H e ∧ m < 2 ^ e.ys.length ∧ (stl e.fa (sel m e.ys) = true ∨ KeyIn H e m) ∧
  ∀ H', (∀ b o, b ≠ e.n → H b = some o → H' b = some o) → AskF C H' a e → Memo H' e → Closed H' e → Grow H H' e → Q (.int (needOf e m : Int)) H'
def spNo : Sp := fun _ _ _ _ => False
theorem ok_need_hit {f : Addr} {C : Addr} {fd : FuncData} {k : Nat} (T : Txt K mg C) (F : Fun K "need" "Asks.need" s_Asks_need f fd) (c_Asks_is_settled : C8.Met P w K mg base 3 C "is_settled" (sp_Asks_is_settled K C) []) (c_Asks_least_need : C8.Met P w K mg base 3 C "least_need" spNo []) :
    FnOk P w K mg base CX0 5 f fd ["self", "chosen"] (sp_needHit K C) := by
  have nd := sc_Asks_need.nd
  refine F.ok sc_Asks_need (fun vs H Q E h => ?_) (fun cdv A outer s H vs Q E hr h => ?_)
  · obtain ⟨a, e, m, rfl, _⟩ := h
    rfl
  · obtain ⟨a, e, m, rfl, o, g, mm, cl, lt, hit, q⟩ := h
    refine ⟨_, (pss_cons (ps_if (pt_cmp (pc_dnotin (hu_of hr) (pv 1) (pe_fld (pv 0) rfl))) (pss_one (ps_dput (hu_of hr) (pe_fld (pv 0) rfl) (pv 1) (pe_ifExp (pt_val (C8.pe_mt c_Asks_is_settled hr (by omega) (pv 0) (pa_cons (pv 1) pa_nil))) pe_int (C8.pe_mt c_Asks_least_need hr (by omega) (pv 0) (pa_cons (pv 1) pa_nil))) rfl)) pss_nil)
      (pss_one (ps_ret (pe_dget (hu_of hr) (pe_fld (pv 0) rfl) (pv 1) (fun _ _ => rfl))))), ?_⟩
    have nam : ∀ {x : Str}, x ≠ "candidates" → x ≠ "places" → x ≠ "whole" → x ≠ "yes" → x ≠ "needs" → (aflds e.c e.pl e.y e.n ((2 ^ e.ys.length - 1 : Nat) : Int)).lookup x = none := fun h1 h2 h3 h4 h5 => af_none _ _ _ _ _ h1 h2 h3 h4 h5
    obtain ⟨kvs, mo⟩ := id mm
    refine ⟨.int (m : Int), rfl, .ref a, rfl, a, C, _, _, _, rfl, o.ob, T.cl_Asks, T.n_needs, af_n _ _ _ _ _, e.n, valV kvs (.inl (m : Int)), rfl, .inl ⟨kvs, .inl (m : Int), .inl mo.at_, rfl, rfl⟩, ?_⟩
    have fin : ∀ G : Hp, (∀ b x, b ≠ e.n → H b = some x → G b = some x) → AskF C G a e → Memo G e → Closed G e → Grow H G e → (∃ ks, G e.n = some (.dK ks) ∧ valV ks (.inl (m : Int)) = some (.int (needOf e m : Int))) → tRet (tDGet (tFld K (tVar 0) "needs") (tVar 1)) { nx := fun _ H' => Q .non H', rt := Q } [some (.ref a), some (.int (m : Int))] G := fun G k1 o1 m1 cl1 g1 ⟨ks, e1, v1⟩ =>
      ⟨.ref a, rfl, a, C, _, _, _, rfl, o1.ob, T.cl_Asks, T.n_needs, af_n _ _ _ _ _, .int (m : Int), rfl, e.n, _, rfl, .inl ⟨ks, .inl (m : Int), .inl e1, rfl, v1.symm⟩, q G k1 o1 m1 cl1 g1⟩
    cases hv : valV kvs (.inl (m : Int)) with
    | some v =>
      have ev := mo.ok m v lt hv
      rw [ev] at hv
      refine ⟨_, rfl, iteF (fin H (fun _ _ _ z => z) o mm cl Grow.refl ⟨kvs, mo.at_, hv⟩)⟩
    | none =>
      have us : stl e.fa (sel m e.ys) = true := hit.elim id fun ⟨ks, h, i⟩ => by
        rw [mo.at_] at h
        cases h
        have := valN_in.mpr i
        rw [hv] at this; cases this
      refine ⟨_, rfl, iteT ?_⟩
      refine ⟨.ref a, rfl, a, _, _, rfl, o.ob, nam (by decide +kernel) (by decide +kernel) (by decide +kernel) (by decide +kernel) (by decide +kernel), .int (m : Int), rfl, a, e, m, rfl, o, g, fun H1 s1 => ⟨_, rfl, ?_⟩⟩
      have o1 := o.mono s1
      have m1 := mm.mono s1
      have cl1 := cl.same mo.at_ s1
      obtain ⟨kv1, e1, l1, put1⟩ := Memo.put m1 lt g.few
      have e0 : needOf e m = 0 := by unfold needOf; rw [nd_eq, us, if_pos rfl]
      rw [us]
      refine iteT ⟨.ref a, rfl, a, C, _, _, _, rfl, o1.ob, T.cl_Asks, T.n_needs, af_n _ _ _ _ _, .int (m : Int), rfl, e.n, _, rfl, .inl ⟨kv1, .inl (m : Int), e1, rfl, small (by omega), rfl⟩, ?_⟩
      rw [e0] at put1 fin
      exact fin _ (fun b x n z => (upd_ne n).trans (s1 _ _ z)) (o1.but e1 fun b x n z => (upd_ne n).trans z) (put1 _ upd_same) (cl1.put e1 upd_same fun z => by rw [us] at z; cases z) ((Same.grow s1).trans fun x hx => (KeyIn.put e1 upd_same).mpr (.inr hx)) ⟨_, upd_same, by rw [valV_put, if_pos rfl]; rfl⟩
/-- the parts of a set that stands in the dict stand there, or are settled -/
theorem parts_hit {H : Hp} {e : AEnv} {m : Nat} {p : Yes} (g : GoodA e) (cl : Closed H e) (lt : m < 2 ^ e.ys.length) (k : KeyIn H e m) (us : stl e.fa (sel m e.ys) = false) (hp : p ∈ e.ms) : (stl e.fa (sel (m &&& p.2.1) e.ys) = true ∨ KeyIn H e (m &&& p.2.1)) ∧ (stl e.fa (sel (m - (m &&& p.2.1)) e.ys) = true ∨ KeyIn H e (m - (m &&& p.2.1))) := by
  have yo := g.ok p hp
  have le := (KnA.sub_test m p.2.1).1
  by_cases pt : ptG e.st p.2.2 (sel m e.ys) = true
  · obtain ⟨a, b⟩ := cl m k us p hp pt
    exact ⟨.inr a, .inr b⟩
  · have z := pt_num yo lt
    rw [Bool.eq_false_iff.mpr pt, Bool.and_eq_false_iff] at z
    have s0 : ∀ x : Nat, x = 0 → stl e.fa (sel x e.ys) = true := fun x hx => by
      rw [(sel_zero (m := x) (ys := e.ys) (Nat.lt_of_le_of_lt (by omega) lt)).mp hx]; rfl
    rcases z with z | z
    · have z0 : m &&& p.2.1 = 0 := Classical.byContradiction fun c => by rw [decide_eq_true c] at z; cases z
      exact ⟨.inl (s0 _ z0), .inr (by rw [z0]; exact k)⟩
    · have z0 : m &&& p.2.1 = m := Classical.byContradiction fun c => by rw [decide_eq_true c] at z; cases z
      exact ⟨.inr (by rw [z0]; exact k), .inl (s0 _ (by omega))⟩
def sp_behindHit (_ : PySem.W.Frag) (C : Addr) : Sp := fun vs H Q _ => ∃ (a : Addr) (e : AEnv) (p : Yes) (m : Nat), vs = [.ref a, .str p.1, .int (m : Int)] ∧ AskF C H a e ∧ GoodA e ∧ Memo H e ∧ Closed H e ∧ m < 2 ^ e.ys.length ∧ p ∈ e.ms ∧ KeyIn H e m ∧ stl e.fa (sel m e.ys) = false ∧
  ∀ H', (∀ b o, b ≠ e.n → H b = some o → H' b = some o) → AskF C H' a e → Memo H' e → Closed H' e → Grow H H' e → Q (.int (max (needOf e (m &&& p.2.1)) (needOf e (m - (m &&& p.2.1))) : Nat)) H'
theorem ok_behind_hit {f : Addr} {C : Addr} {fd : FuncData} (T : Txt K mg C) (F : Fun K "need_behind" "Asks.need_behind" s_Asks_need_behind f fd) (c_Asks_parts_by : C8.Met P w K mg base 1 C "parts_by" (sp_Asks_parts_by K C) []) (c_Asks_need : C8.Met P w K mg base 5 C "need" (sp_needHit K C) []) :
    FnOk P w K mg base CX0 7 f fd ["self", "name", "chosen"] (sp_behindHit K C) := by
  have nd := sc_Asks_need_behind.nd
  refine F.ok sc_Asks_need_behind (fun vs H Q E h => ?_) (fun cdv A outer s H vs Q E hr h => ?_)
  · obtain ⟨a, e, p, m, rfl, _⟩ := h
    rfl
  · obtain ⟨a, e, p, m, rfl, o, g, mm, cl, lt, hp, ki, us, q⟩ := h
    obtain ⟨kv0, m0⟩ := id mm
    refine ⟨_, (pss_cons (ps_asg (C8.pe_mt c_Asks_parts_by hr (by omega) (pv 0) (pa_cons (pv 1) (pa_cons (pv 2) pa_nil))) (pg_tup (by rfl) (pgs_cons (pg_name (i := 3) nd rfl (.inl rfl)) (pgs_cons (pg_name (i := 4) nd rfl (.inl rfl)) pgs_nil))))
      (pss_one (ps_ret (pe_callB (call_max2 rfl) (by rfl) T.m_max (by decide +kernel) (pa_cons (C8.pe_mt c_Asks_need hr (by omega) (pv 0) (pa_cons (pv 3) pa_nil)) (pa_cons (C8.pe_mt c_Asks_need hr (by omega) (pv 0) (pa_cons (pv 4) pa_nil)) pa_nil)))))), ?_⟩
    have nam : ∀ {x : Str}, x ≠ "candidates" → x ≠ "places" → x ≠ "whole" → x ≠ "yes" → x ≠ "needs" → (aflds e.c e.pl e.y e.n ((2 ^ e.ys.length - 1 : Nat) : Int)).lookup x = none := fun h1 h2 h3 h4 h5 => af_none _ _ _ _ _ h1 h2 h3 h4 h5
    have le := (KnA.sub_test m p.2.1).1
    obtain ⟨hit1, hit2⟩ := parts_hit g cl lt ki us hp
    refine ⟨.ref a, rfl, a, _, _, rfl, o.ob, nam (by decide +kernel) (by decide +kernel) (by decide +kernel) (by decide +kernel) (by decide +kernel), .str p.1, rfl, .int (m : Int), rfl, a, e, p, m, rfl, o, g, hp, fun H1 t s1 et => ?_⟩
    refine ⟨t, _, rfl, .inl (.inl et), rfl, .int _, _, rfl, .int _, [], rfl, rfl, ?_⟩
    have o1 := o.mono s1
    refine ⟨.ref a, rfl, a, _, _, rfl, o1.ob, nam (by decide +kernel) (by decide +kernel) (by decide +kernel) (by decide +kernel) (by decide +kernel), .int ((m &&& p.2.1 : Nat) : Int), rfl, a, e, m &&& p.2.1, rfl, o1, g, mm.mono s1, cl.same m0.at_ s1, by omega, hit1.imp id (Same.grow s1 _), fun H2 k2 o2 m2 cl2 g2 => ?_⟩
    refine ⟨.ref a, rfl, a, _, _, rfl, o2.ob, nam (by decide +kernel) (by decide +kernel) (by decide +kernel) (by decide +kernel) (by decide +kernel), .int ((m - (m &&& p.2.1) : Nat) : Int), rfl, a, e, m - (m &&& p.2.1), rfl, o2, g, m2, cl2, by omega, hit2.imp id fun z => g2 _ (Same.grow s1 _ z), fun H3 k3 o3 m3 cl3 g3 => ?_⟩
    have q' := q H3 (fun b x n z => k3 b x n (k2 b x n (s1 _ _ z))) o3 m3 cl3 ((Same.grow s1).trans (g2.trans g3))
    rw [← max_nat] at q'
    exact ⟨_, _, rfl, q'⟩
/-! ### the best probe -/
def behind (e : AEnv) (m : Nat) (p : Yes) : Nat := max (needOf e (m &&& p.2.1)) (needOf e (m - (m &&& p.2.1)))
theorem best_pt {e : AEnv} {m : Nat} {p : Yes} (g : GoodA e) (lt : m < 2 ^ e.ys.length) (hp : p ∈ e.ms) (b : behind e m p < needOf e m) : ptG e.st p.2.2 (sel m e.ys) = true := by
  refine Classical.byContradiction fun pt => ?_
  have z := pt_num (g.ok p hp) lt
  have le := (KnA.sub_test m p.2.1).1
  rw [Bool.eq_false_iff.mpr pt, Bool.and_eq_false_iff] at z
  unfold behind at b
  rcases z with z | z
  · have z0 : m &&& p.2.1 = 0 := Classical.byContradiction fun c => by rw [decide_eq_true c] at z; cases z
    rw [z0, Nat.sub_zero] at b
    omega
  · have z0 : m &&& p.2.1 = m := Classical.byContradiction fun c => by rw [decide_eq_true c] at z; cases z
    rw [z0] at b
    omega
theorem fold_min {γ : Type} {f : γ → Nat} : ∀ (l : List γ) (b : Nat), l.foldl (fun b p => min b (f p + 1)) b ≤ b ∧ (∀ p ∈ l, l.foldl (fun b p => min b (f p + 1)) b ≤ f p + 1) ∧ (l.foldl (fun b p => min b (f p + 1)) b = b ∨ ∃ p ∈ l, l.foldl (fun b p => min b (f p + 1)) b = f p + 1)
  | [], b => ⟨Nat.le_refl _, fun p hp => (nomatch hp), .inl rfl⟩
  | x :: l, b => by
    rw [List.foldl_cons]
    obtain ⟨h1, h2, h3⟩ := fold_min l (min b (f x + 1))
    refine ⟨Nat.le_trans h1 (Nat.min_le_left _ _), fun p hp => ?_, ?_⟩
    · rcases List.mem_cons.mp hp with z | z
      · rw [z]; exact Nat.le_trans h1 (Nat.min_le_right _ _)
      · exact h2 p z
    · rcases h3 with h3 | ⟨p, hp, e⟩
      · by_cases c : b ≤ f x + 1
        · exact .inl (by rw [h3]; exact Nat.min_eq_left c)
        · exact .inr ⟨x, List.mem_cons_self, by rw [h3]; exact Nat.min_eq_right (by omega)⟩
      · exact .inr ⟨p, List.mem_cons_of_mem _ hp, e⟩
theorem best_some {e : AEnv} {m : Nat} (g : GoodA e) (us : stl e.fa (sel m e.ys) = false) (n : needOf e m < 1000) : ∃ p ∈ e.ms, behind e m p < needOf e m := by
  have z := need_fold g us
  obtain ⟨_, _, h⟩ := fold_min (f := behind e m) (e.ms.filter fun p => ptG e.st p.2.2 (sel m e.ys)) 1000
  have z' : needOf e m = (e.ms.filter fun p => ptG e.st p.2.2 (sel m e.ys)).foldl (fun b p => min b (behind e m p + 1)) 1000 := z
  rw [← z'] at h
  rcases h with h | ⟨p, hp, h⟩
  · omega
  · exact ⟨p, (List.mem_filter.mp hp).1, by omega⟩
theorem best_eq {e : AEnv} {m : Nat} {p : Yes} (g : GoodA e) (lt : m < 2 ^ e.ys.length) (us : stl e.fa (sel m e.ys) = false) (hp : p ∈ e.ms) (b : behind e m p < needOf e m) : needOf e m = behind e m p + 1 := by
  have z := need_fold g us
  obtain ⟨_, h, _⟩ := fold_min (f := behind e m) (e.ms.filter fun p => ptG e.st p.2.2 (sel m e.ys)) 1000
  have z' : needOf e m = (e.ms.filter fun p => ptG e.st p.2.2 (sel m e.ys)).foldl (fun b p => min b (behind e m p + 1)) 1000 := z
  rw [← z'] at h
  have := h p (List.mem_filter.mpr ⟨hp, best_pt g lt hp b⟩)
  omega
theorem need_few {e : AEnv} {m : Nat} (g : GoodA e) (n : needOf e m < 1000) : needOf e m ≤ 10 := by
  have l := selk_len m e.ys 0
  have f := g.few
  have l' : (sel m e.ys).length ≤ e.ys.length := l
  rcases nd_rel (st := e.st) (fa := e.fa) (ps := lists e.ms) (sel m e.ys).length (sel m e.ys) (Nat.le_refl _) (by omega) with ⟨a, b⟩ | ⟨a, b⟩
  · have : needOf e m = nd e.st e.fa 99 (lists e.ms) (sel m e.ys) := a.symm
    omega
  · have : needOf e m = 1000 := b
    omega

/-! ### tree, is_tree -/
def sp_check_count (_ : PySem.W.Frag) : Sp := fun vs H Q _ => ∃ i n : Int, vs = [.int i, .int n] ∧ 0 ≤ i ∧ i ≤ n ∧ ∀ H', Same H H' → Q .non H'
theorem ok_check_count {f : Addr} {C : Addr} {fd : FuncData} (T : Txt K mg C) (F : Fun K "check_count" "check_count" s_check_count f fd) (c_is_whole : Cal P w K mg base 1 "is_whole" (sp_is_whole K) []) : FnOk P w K mg base CX0 2 f fd ["count", "most"] (sp_check_count K) := by
  have nd := sc_check_count.nd
  refine F.ok sc_check_count (fun vs H Q E h => ?_) (fun cdv A outer s H vs Q E hr h => ?_)
  · obtain ⟨i, n, rfl, _⟩ := h
    rfl
  · obtain ⟨i, n, rfl, i0, i1, q⟩ := h
    refine ⟨_, (pss_one (ps_if (PW.pt (pw_or (pt_not (pt_val (pe_c c_is_whole hr (by omega) (by rfl) (pa_cons (pv 0) pa_nil)))) (pw_or1 (pt_not (pt_chain op_le op_le pe_int (pv 0) (pv 1)))))) (pss_one ps_never) pss_nil)), ?_⟩
    refine ⟨.int i, rfl, .int i, rfl, .int i, fun H1 s1 => ⟨_, rfl, iteF ?_⟩⟩
    refine ⟨.int i, rfl, 0, i, rfl, rfl, _, rfl, ?_⟩
    rw [decide_eq_true i0]
    refine iteT ⟨.int n, rfl, i, n, rfl, rfl, _, rfl, iteNS i1 (q H1 s1)⟩

end
end Kn

set_option Elab.async false
set_option linter.all false
set_option maxRecDepth 100000
set_option maxHeartbeats 4000000
namespace Kn
open PySem PySem.Spec PyProof.Rows L2
open C8 (Cal pe_c pe_gc Mak pe_mk)
section
variable {P : Program} {w : World} {K : PySem.W.Frag} {mg : Str → Option Value} {base : Heap}
/-! ### groups as keys -/
def gk (st : V → Int) (fa : V → List Str) (g : List V) : NestedKey := .tup (keysR st fa g)
theorem keys_inj {st : V → Int} {fa : V → List Str} : ∀ {bs : List V}, (keysR st fa bs).Nodup → ∀ a ∈ bs, ∀ b ∈ bs, rk (st a) (fa a) = rk (st b) (fa b) → a = b
  | [], _, a, ha, _, _, _ => nomatch ha
  | x :: r, nd, a, ha, b, hb, e => by
    obtain ⟨n1, n2⟩ := List.nodup_cons.mp (show (rk (st x) (fa x) :: keysR st fa r).Nodup from nd)
    rcases List.mem_cons.mp ha with ea | ha <;> rcases List.mem_cons.mp hb with eb | hb
    · rw [ea, eb]
    · rw [ea] at e; exact (n1 (e ▸ List.mem_map.mpr ⟨b, hb, rfl⟩)).elim
    · rw [eb] at e; exact (n1 (e ▸ List.mem_map.mpr ⟨a, ha, rfl⟩)).elim
    · exact keys_inj n2 a ha b hb e
theorem groups_inj {st : V → Int} {fa : V → List Str} {bs : List V} (nd : (keysR st fa bs).Nodup) : ∀ {g h : List V}, (∀ x ∈ g, x ∈ bs) → (∀ x ∈ h, x ∈ bs) → keysR st fa g = keysR st fa h → g = h
  | [], [], _, _, _ => rfl
  | [], _ :: _, _, _, e => by cases e
  | _ :: _, [], _, _, e => by cases e
  | x :: g, y :: h, hg, hh, e => by
    obtain ⟨e1, e2⟩ := List.cons.inj (show rk (st x) (fa x) :: keysR st fa g = rk (st y) (fa y) :: keysR st fa h from e)
    rw [keys_inj nd x (hg x List.mem_cons_self) y (hh y List.mem_cons_self) e1, groups_inj nd (fun z hz => hg z (List.mem_cons_of_mem _ hz)) (fun z hz => hh z (List.mem_cons_of_mem _ hz)) e2]
theorem rows_nall {H : Hp} {st : V → Int} {fa : V → List Str} : ∀ {g : List V}, Rows H g st fa → KnN.NAll H (keysR st fa g) g
  | [], _ => .nil
  | v :: g, R => by
    obtain ⟨t, e, nk⟩ := row_nis (R v List.mem_cons_self).1
    have ih := rows_nall fun u hu => R u (List.mem_cons_of_mem _ hu)
    rw [← e] at nk
    exact .cons nk ih
theorem gk_depth (st : V → Int) (fa : V → List Str) : ∀ g : List V, NestedKey.depthAll (keysR st fa g) ≤ 2
  | [] => Nat.zero_le _
  | v :: g => by
    show max (rk (st v) (fa v)).depth (NestedKey.depthAll (keysR st fa g)) ≤ 2
    have a := gk_depth st fa g
    have b : (rk (st v) (fa v)).depth = 2 := by
      show max 0 (max (NestedKey.depthAll ((fa v).map NestedKey.text) + 1) 0) + 1 = 2
      rw [texts_depth]; rfl
    omega
theorem putN_nd {kvs : List (NestedKey × V)} (nd : (kvs.map (·.1)).Nodup) (k : NestedKey) (v : V) : ((putK kvs k v).map (·.1)).Nodup := by
  by_cases c : k ∈ kvs.map (·.1)
  · have e : (putK kvs k v).map (·.1) = kvs.map (·.1) := by
      unfold putK
      rw [valV_any, if_pos (valN_in.mpr c), List.map_map]
      refine List.map_congr_left fun p _ => ?_
      show (if p.1 = k then (p.1, v) else p).1 = p.1
      by_cases z : p.1 = k
      · rw [if_pos z]
      · rw [if_neg z]
    rw [e]; exact nd
  · rw [putK_new c, List.map_append]
    exact nodup_snoc nd c

/-! ### numbers by set -/
def nkv (ns : List (Nat × Nat)) : List (Key × V) := ns.map fun p => (Sum.inl (p.1 : Int), V.int (p.2 : Int))
def numAt (ns : List (Nat × Nat)) (m : Nat) : Nat := ((ns.find? fun p => decide (p.1 = m)).map (·.2)).getD 0
def setN (ns : List (Nat × Nat)) (m n : Nat) : List (Nat × Nat) := if m ∈ ns.map (·.1) then ns.map fun p => if p.1 = m then (m, n) else p else ns ++ [(m, n)]
theorem nkv_keys (ns : List (Nat × Nat)) : (nkv ns).map (·.1) = ns.map fun p => (Sum.inl (p.1 : Int) : Key) := by unfold nkv; rw [List.map_map]; rfl
theorem nkv_in {ns : List (Nat × Nat)} {m : Nat} : (Sum.inl (m : Int) : Key) ∈ (nkv ns).map (·.1) ↔ m ∈ ns.map (·.1) := by
  rw [nkv_keys]
  constructor
  · intro h
    obtain ⟨p, hp, e⟩ := List.mem_map.mp h
    have := Sum.inl.inj e
    exact List.mem_map.mpr ⟨p, hp, by omega⟩
  · intro h
    obtain ⟨p, hp, e⟩ := List.mem_map.mp h
    exact List.mem_map.mpr ⟨p, hp, by rw [e]⟩
theorem nkv_val (m : Nat) : ∀ ns : List (Nat × Nat), (valV (nkv ns) (.inl (m : Int))).getD (.int 0) = .int (numAt ns m : Int)
  | [] => rfl
  | p :: ns => by
    show (valV ((Sum.inl (p.1 : Int), V.int (p.2 : Int)) :: nkv ns) (.inl (m : Int))).getD (.int 0) = _
    by_cases c : p.1 = m
    · rw [valV_pos (p := ((Sum.inl (p.1 : Int) : Key), V.int (p.2 : Int))) (by rw [c])]
      unfold numAt
      rw [List.find?_cons_of_pos (by simp [c])]; rfl
    · have c' : ¬ ((Sum.inl (p.1 : Int) : Key) = .inl (m : Int)) := fun z => c (by have := Sum.inl.inj z; omega)
      rw [valV_neg c', nkv_val m ns]
      unfold numAt
      rw [List.find?_cons_of_neg (by simp [c])]
theorem nkv_put (ns : List (Nat × Nat)) (m n : Nat) : putK (nkv ns) (.inl (m : Int)) (.int (n : Int)) = nkv (setN ns m n) := by
  unfold setN
  by_cases c : m ∈ ns.map (·.1)
  · rw [if_pos c]
    unfold putK
    rw [valV_any, if_pos (valN_in.mpr (nkv_in.mpr c))]
    unfold nkv
    rw [List.map_map, List.map_map]
    refine List.map_congr_left fun p _ => ?_
    show (if (Sum.inl (p.1 : Int) : Key) = .inl (m : Int) then ((Sum.inl (p.1 : Int) : Key), V.int (n : Int)) else (Sum.inl (p.1 : Int), V.int (p.2 : Int))) = (Sum.inl ((if p.1 = m then (m, n) else p).1 : Int), V.int ((if p.1 = m then (m, n) else p).2 : Int))
    by_cases z : p.1 = m
    · rw [if_pos z, if_pos (by rw [z]), z]
    · rw [if_neg z, if_neg fun q => z (by have := Sum.inl.inj q; omega)]
  · rw [if_neg c, putK_new fun z => c (nkv_in.mp z)]
    unfold nkv; rw [List.map_append]; rfl
theorem setN_names (ns : List (Nat × Nat)) (m n : Nat) : (setN ns m n).map (·.1) = if m ∈ ns.map (·.1) then ns.map (·.1) else ns.map (·.1) ++ [m] := by
  unfold setN
  by_cases c : m ∈ ns.map (·.1)
  · rw [if_pos c, if_pos c, List.map_map]
    refine List.map_congr_left fun p _ => ?_
    show (if p.1 = m then (m, n) else p).1 = p.1
    by_cases z : p.1 = m
    · rw [if_pos z, z]
    · rw [if_neg z]
  · rw [if_neg c, if_neg c, List.map_append]; rfl
theorem setN_nd {ns : List (Nat × Nat)} (h : (ns.map (·.1)).Nodup) (m n : Nat) : ((setN ns m n).map (·.1)).Nodup := by
  rw [setN_names]
  by_cases c : m ∈ ns.map (·.1)
  · rw [if_pos c]; exact h
  · rw [if_neg c]; exact nodup_snoc h c
theorem setN_mem {ns : List (Nat × Nat)} {m n : Nat} {p : Nat × Nat} (h : p ∈ setN ns m n) : p = (m, n) ∨ (p ∈ ns ∧ p.1 ≠ m) := by
  unfold setN at h
  by_cases c : m ∈ ns.map (·.1)
  · rw [if_pos c] at h
    obtain ⟨q, hq, e⟩ := List.mem_map.mp h
    by_cases z : q.1 = m
    · rw [if_pos z] at e; exact .inl e.symm
    · rw [if_neg z] at e; exact .inr (e ▸ ⟨hq, z⟩)
  · rw [if_neg c] at h
    rcases List.mem_append.mp h with h | h
    · exact .inr ⟨h, fun z => c (List.mem_map.mpr ⟨p, h, z⟩)⟩
    · exact .inl (List.mem_singleton.mp h)
theorem numAt_in : ∀ {ns : List (Nat × Nat)} {p : Nat × Nat}, (ns.map (·.1)).Nodup → p ∈ ns → numAt ns p.1 = p.2
  | [], _, _, h => nomatch h
  | q :: r, p, nd, h => by
    obtain ⟨a, b⟩ := List.nodup_cons.mp (show (q.1 :: r.map (·.1)).Nodup from nd)
    rcases List.mem_cons.mp h with e | h
    · unfold numAt; rw [e, List.find?_cons_of_pos (by simp)]; rfl
    · have ne : ¬ q.1 = p.1 := fun e => a (e ▸ List.mem_map.mpr ⟨_, h, rfl⟩)
      have ih := numAt_in b h
      unfold numAt at ih ⊢
      rw [List.find?_cons_of_neg (by simp [ne])]
      exact ih
theorem numAt_out {ns : List (Nat × Nat)} {m : Nat} (h : m ∉ ns.map (·.1)) : numAt ns m = 0 := by
  unfold numAt
  rw [List.find?_eq_none.mpr fun p hp e => h (List.mem_map.mpr ⟨p, hp, of_decide_eq_true e⟩)]; rfl
theorem numAt_set {ns : List (Nat × Nat)} (nd : (ns.map (·.1)).Nodup) (m n k : Nat) : numAt (setN ns m n) k = if k = m then n else numAt ns k := by
  have nd' := setN_nd nd m n
  have hm : (m, n) ∈ setN ns m n := by
    unfold setN
    by_cases c : m ∈ ns.map (·.1)
    · rw [if_pos c]
      obtain ⟨q, hq, e⟩ := List.mem_map.mp c
      exact List.mem_map.mpr ⟨q, hq, by rw [if_pos e]⟩
    · rw [if_neg c]; exact List.mem_append_right _ (List.mem_singleton.mpr rfl)
  by_cases z : k = m
  · rw [if_pos z, z]; exact numAt_in nd' hm
  · rw [if_neg z]
    by_cases c : k ∈ ns.map (·.1)
    · obtain ⟨p, hp, rfl⟩ := List.mem_map.mp c
      rw [numAt_in nd hp]
      have hp' : p ∈ setN ns m n := by
        unfold setN
        by_cases c : m ∈ ns.map (·.1)
        · rw [if_pos c]; exact List.mem_map.mpr ⟨p, hp, by rw [if_neg z]⟩
        · rw [if_neg c]; exact List.mem_append_left _ hp
      exact numAt_in nd' hp'
    · rw [numAt_out c, numAt_out]
      rw [setN_names]
      by_cases d : m ∈ ns.map (·.1)
      · rw [if_pos d]; exact c
      · rw [if_neg d]; exact fun h => (List.mem_append.mp h).elim c fun h => z (List.mem_singleton.mp h)
/-! how much is still to come -/
def toCome (N : Nat) (f : Nat → Nat) : Nat := ((List.range N).map f).sum
theorem toCome_lt {f g : Nat → Nat} {m : Nat} (le : ∀ i, f i ≤ g i) (lt : f m < g m) : ∀ {N : Nat}, m < N → toCome N f < toCome N g := by
  have all : ∀ N, toCome N f ≤ toCome N g := by
    intro N
    induction N with
    | zero => exact Nat.le_refl _
    | succ N ih =>
      unfold toCome at ih ⊢
      rw [List.range_succ, List.map_append, List.map_append, List.sum_append, List.sum_append]
      have := le N
      simp only [List.map_cons, List.map_nil, List.sum_cons, List.sum_nil]
      omega
  intro N
  induction N with
  | zero => exact fun h => absurd h (Nat.not_lt_zero _)
  | succ N ih =>
    intro h
    have a := all N
    unfold toCome at ih a ⊢
    rw [List.range_succ, List.map_append, List.map_append, List.sum_append, List.sum_append]
    simp only [List.map_cons, List.map_nil, List.sum_cons, List.sum_nil]
    have b := le N
    by_cases c : m = N
    · subst c; omega
    · have := ih (by omega); omega
/-! ### masks and groups -/
theorem sel_mem {α : Type} {m : Nat} {x : α} : ∀ {ys : List α} {k : Nat}, x ∈ selk m k ys ↔ ∃ i, ys[i]? = some x ∧ m.testBit (k + i) = true
  | [], k => ⟨fun h => (nomatch h), fun ⟨i, h, _⟩ => by cases h⟩
  | y :: ys, k => by
    have ih := sel_mem (m := m) (x := x) (ys := ys) (k := k + 1)
    show x ∈ (if m.testBit k = true then y :: selk m (k + 1) ys else selk m (k + 1) ys) ↔ _
    constructor
    · intro h
      by_cases c : m.testBit k = true
      · rw [if_pos c] at h
        rcases List.mem_cons.mp h with e | h
        · exact ⟨0, by rw [e]; rfl, c⟩
        · obtain ⟨i, h1, h2⟩ := ih.mp h
          exact ⟨i + 1, h1, by rw [show k + (i + 1) = k + 1 + i by omega]; exact h2⟩
      · rw [if_neg c] at h
        obtain ⟨i, h1, h2⟩ := ih.mp h
        exact ⟨i + 1, h1, by rw [show k + (i + 1) = k + 1 + i by omega]; exact h2⟩
    · rintro ⟨i, h1, h2⟩
      cases i with
      | zero =>
        rw [Nat.add_zero] at h2
        rw [if_pos h2, Option.some.inj (show some y = some x from h1)]
        exact List.mem_cons_self
      | succ i =>
        have := ih.mpr ⟨i, h1, by rw [show k + 1 + i = k + (i + 1) by omega]; exact h2⟩
        by_cases c : m.testBit k = true
        · rw [if_pos c]; exact List.mem_cons_of_mem _ this
        · rw [if_neg c]; exact this
theorem sel_bit {α : Type} {m i : Nat} {x : α} {ys : List α} (nd : ys.Nodup) (h : ys[i]? = some x) : m.testBit i = true ↔ x ∈ sel m ys := by
  have hi := (List.getElem?_eq_some_iff.mp h).1
  constructor
  · intro t
    exact sel_mem.mpr ⟨i, h, by rw [Nat.zero_add]; exact t⟩
  · intro t
    obtain ⟨j, h1, h2⟩ := sel_mem.mp t
    rw [Nat.zero_add] at h2
    have : i = j := (List.getElem?_inj hi nd).mp (h.trans h1.symm)
    rw [this]; exact h2
theorem sel_inj {α : Type} {m m' : Nat} {ys : List α} (nd : ys.Nodup) (a : m < 2 ^ ys.length) (b : m' < 2 ^ ys.length) (e : sel m ys = sel m' ys) : m = m' := by
  refine Nat.eq_of_testBit_eq fun i => ?_
  by_cases c : i < ys.length
  · have h : ys[i]? = some ys[i] := List.getElem?_eq_getElem c
    rw [Bool.eq_iff_iff, sel_bit nd h, sel_bit nd h, e]
  · rw [Nat.testBit_lt_two_pow (Nat.lt_of_lt_of_le a (Nat.pow_le_pow_right (by decide) (by omega))), Nat.testBit_lt_two_pow (Nat.lt_of_lt_of_le b (Nat.pow_le_pow_right (by decide) (by omega)))]
theorem sel_sub {α : Type} {m : Nat} : ∀ (ys : List α) (k : Nat), (selk m k ys).Sublist ys
  | [], _ => .slnil
  | y :: ys, k => by
    show (if m.testBit k = true then y :: selk m (k + 1) ys else selk m (k + 1) ys).Sublist (y :: ys)
    by_cases c : m.testBit k = true
    · rw [if_pos c]; exact .cons_cons _ (sel_sub ys (k + 1))
    · rw [if_neg c]; exact .cons _ (sel_sub ys (k + 1))
theorem need_le {e : AEnv} {m : Nat} {p : Yes} (g : GoodA e) (hp : p ∈ e.ms) (pt : ptG e.st p.2.2 (sel m e.ys) = true) : needOf e m ≤ behind e m p + 1 := by
  by_cases us : stl e.fa (sel m e.ys) = true
  · have : needOf e m = 0 := by unfold needOf; rw [nd_eq, us, if_pos rfl]
    omega
  · have us' := Bool.eq_false_iff.mpr us
    have z := need_fold g us'
    obtain ⟨_, h, _⟩ := fold_min (f := behind e m) (e.ms.filter fun p => ptG e.st p.2.2 (sel m e.ys)) 1000
    have z' : needOf e m = (e.ms.filter fun p => ptG e.st p.2.2 (sel m e.ys)).foldl (fun b p => min b (behind e m p + 1)) 1000 := z
    rw [z']
    exact h p (List.mem_filter.mpr ⟨hp, pt⟩)
/-- a pair of two numbers in a tuple -/
def PairAt (H : Hp) (v : V) (q : Nat × Nat) : Prop := ∃ t, v = .ref t ∧ H t = some (.tup [.int (q.1 : Int), .int (q.2 : Int)])
theorem Memo.at' {H H' : Hp} {e : AEnv} (h : Memo H e) (q : H' e.n = H e.n) : Memo H' e := let ⟨kvs, m⟩ := h; ⟨kvs, q.trans m.at_, m.ok, m.ks, m.nd⟩
theorem Closed.at' {H H' : Hp} {e : AEnv} (h : Closed H e) (q : H' e.n = H e.n) : Closed H' e := fun m k us p hp pt =>
  let up : ∀ x, KeyIn H e x → KeyIn H' e x := fun x ⟨kvs, a, b⟩ => ⟨kvs, q.trans a, b⟩
  let ⟨x, y⟩ := h m (let ⟨kvs, a, b⟩ := k; ⟨kvs, q.symm.trans a, b⟩) us p hp pt
  ⟨up _ x, up _ y⟩
theorem pairsAt {H H' : Hp} (k : ∀ t xs, H t = some (.tup xs) → H' t = some (.tup xs)) {vs : List V} {qs : List (Nat × Nat)} (h : Paired (PairAt H) vs qs) : Paired (PairAt H') vs qs := by
  induction h with
  | nil => exact .nil
  | cons a _ ih =>
    obtain ⟨t, e1, e2⟩ := a
    exact .cons ⟨t, e1, k _ _ e2⟩ ih
def sp_harder_parts (_ : PySem.W.Frag) (C : Addr) : Sp := fun vs H Q _ => ∃ (a : Addr) (e : AEnv) (m n : Nat), vs = [.ref a, .int (m : Int), .int (n : Int)] ∧ AskO C H a e ∧ GoodA e ∧ Memo H e ∧ Closed H e ∧ m < 2 ^ e.ys.length ∧ 1 ≤ n ∧ n ≤ needOf e m ∧
  ∀ (H' : Hp) (l : Addr) (ws : List V) (qs : List (Nat × Nat)), (∀ b o, b ≠ e.n → H b = some o → H' b = some o) → AskO C H' a e → Memo H' e → Closed H' e → H l = none → H' l = some (.lst ws) → Paired (PairAt H') ws qs → qs.length ≤ 6 → (∀ q ∈ qs, q.1 < 2 ^ e.ys.length ∧ q.2 + 1 = n ∧ 1 ≤ q.2 ∧ q.2 ≤ needOf e q.1) →
    (2 ≤ n → ∀ p ∈ e.ms, ptG e.st p.2.2 (sel m e.ys) = true → (m &&& p.2.1, n - 1) ∈ qs ∨ (m - (m &&& p.2.1), n - 1) ∈ qs) → Q (.ref l) H'
theorem ok_harder_parts {f : Addr} {C : Addr} {fd : FuncData} (T : Txt K mg C) (F : Fun K "harder_parts" "harder_parts" s_harder_parts f fd) (c_Asks_parting : C8.Met P w K mg base 1 C "parting" (sp_Asks_parting K C) []) (c_Asks_parts_by : C8.Met P w K mg base 1 C "parts_by" (sp_Asks_parts_by K C) []) (c_Asks_need : C8.Met P w K mg base 69 C "need" (sp_Asks_need K C 10) []) : FnOk P w K mg base CX0 71 f fd ["asks", "chosen", "number"] (sp_harder_parts K C) := by
  have nd := sc_harder_parts.nd
  refine F.ok sc_harder_parts (fun vs H Q E h => ?_) (fun cdv A outer s H vs Q E hr h => ?_)
  · obtain ⟨a, e, m, n, rfl, _⟩ := h
    rfl
  · obtain ⟨a, e, m, n, rfl, o, g, mm, cl, lt, n1, nn, q⟩ := h
    refine ⟨_, (pss_cons (ps_if (pt_cmpR op_eq (pv 2) pe_int (nomark _)) (pss_one (ps_ret (pe_lst pa_nil))) pss_nil)
      (pss_cons (ps_set (i := 3) nd rfl (.inl rfl) (pe_lst pa_nil))
      (pss_cons (ps_for PassesOwn.never rfl (pi_list (C8.pe_mt c_Asks_parting hr (by omega) (pv 0) (pa_cons (pv 1) pa_nil))) (pg_name (i := 4) nd rfl (.inl rfl)) (pss_cons (ps_asg (C8.pe_mt c_Asks_parts_by hr (by omega) (pv 0) (pa_cons (pv 4) (pa_cons (pv 1) pa_nil))) (pg_tup (by rfl) (pgs_cons (pg_name (i := 5) nd rfl (.inl rfl)) (pgs_cons (pg_name (i := 6) nd rfl (.inl rfl)) pgs_nil))))
      (pss_one (ps_expr (pe_bm PySem.F.plainAttrs_list PySem.F.slot_list_append PySem.F.type_list_append mt_append (pv 3) (pa_cons (pe_tup (pa_cons (pe_ifExp (pt_cmpR op_ge (C8.pe_mt c_Asks_need hr (by omega) (pv 0) (pa_cons (pv 5) pa_nil)) (pe_op op_sub (pv 2) pe_int) (nomark _)) (pv 5) (pv 6)) (pa_cons (pe_op op_sub (pv 2) pe_int) pa_nil))) pa_nil))))))
      (pss_one (ps_ret (pv 3)))))), ?_⟩
    have nam : ∀ {x : Str}, x ≠ "candidates" → x ≠ "places" → x ≠ "whole" → x ≠ "yes" → x ≠ "needs" → (aflds e.c e.pl e.y e.n ((2 ^ e.ys.length - 1 : Nat) : Int)).lookup x = none := fun h1 h2 h3 h4 h5 => af_none _ _ _ _ _ h1 h2 h3 h4 h5
    obtain ⟨kv0, mo0⟩ := id mm
    refine ⟨.int (n : Int), rfl, rfl, _, rfl, ?_⟩
    by_cases c1 : n = 1
    · subst c1
      refine iteT ⟨szl rfl, fun l nl => ?_⟩
      have s1 := same_upd (o := .lst []) nl
      exact q _ l [] [] (fun b x _ z => s1 _ _ z) (o.mono s1) (mm.mono s1) (cl.same mo0.at_ s1) nl upd_same .nil (Nat.zero_le _) (fun q hq => nomatch hq) fun z => by omega
    rw [decide_eq_false (show ¬ V.int (n : Int) = V.int 1 from fun z => c1 (by have := V.int.inj z; omega))]
    refine iteF ⟨szl rfl, fun l nl => ?_⟩
    have s1 := same_upd (o := .lst []) nl
    have el : (upd H l (.lst [])) l = some (.lst []) := upd_same
    show Ends.nx _ _ (upd H l (.lst []))
    generalize upd H l (.lst []) = H1 at s1 el ⊢
    have o1 := o.mono s1
    have nln : l ≠ e.n := (ne_of_none mo0.at_ nl).symm
    refine ⟨.ref a, rfl, a, _, _, rfl, o1.ob, nam (by decide +kernel) (by decide +kernel) (by decide +kernel) (by decide +kernel) (by decide +kernel), .int (m : Int), rfl, a, e, m, rfl, o1, g, lt, fun H2 l2 s2 nl2 el2 => ⟨l2, rfl, ⟨_, .inl (.inl el2)⟩, ?_⟩⟩
    have s12 := s1.trans s2
    have n2n : l2 ≠ e.n := (ne_of_none (s1 _ _ mo0.at_) nl2).symm
    have n2l : l2 ≠ l := (ne_of_none el nl2).symm
    have nlH2 := s2 _ _ el
    generalize hps : (e.ms.filter fun p => ptG e.st p.2.2 (sel m e.ys)) = pl at el2 ⊢
    have lpl : pl.length ≤ 6 := by rw [← hps]; exact Nat.le_trans (List.length_filter_le _ _) g.lm
    refine for_list (K := K) (a := l2) (xs := pl.map fun p => V.str p.1) (fun i σ G => ∃ (y4 y5 y6 : Option V) (ws : List V) (qs : List (Nat × Nat)), σ = [some (.ref a), some (.int (m : Int)), some (.int (n : Int)), some (.ref l), y4, y5, y6] ∧ (∀ b x, b ≠ e.n → b ≠ l → H2 b = some x → G b = some x) ∧ AskO C G a e ∧ Memo G e ∧ Closed G e ∧ G l = some (.lst ws) ∧ Paired (PairAt G) ws qs ∧ qs.length = i ∧ (∀ q ∈ qs, q.1 < 2 ^ e.ys.length ∧ q.2 + 1 = n ∧ 1 ≤ q.2 ∧ q.2 ≤ needOf e q.1) ∧ ∀ p ∈ pl.take i, (m &&& p.2.1, n - 1) ∈ qs ∨ (m - (m &&& p.2.1), n - 1) ∈ qs)
      ⟨none, none, none, [], [], rfl, fun b x _ _ z => z, o.mono s12, mm.mono s12, cl.same mo0.at_ s12, nlH2, .nil, rfl, (fun q hq => nomatch hq), fun p hp => nomatch hp⟩ (fun i σ G _ hP => .inl (.inl (hP.choose_spec.choose_spec.choose_spec.choose_spec.choose_spec.2.1 _ _ n2n n2l el2))) (fun i x σ G hx hP => ?_) (fun σ G hP => ?_)
    · obtain ⟨y4, y5, y6, ws, qs, rfl, kG, oG, mG, clG, eG, pG, lq, hq, hp1⟩ := hP
      rw [List.getElem?_map] at hx
      cases gx : pl[i]? with
      | none => rw [gx] at hx; cases hx
      | some p =>
      rw [gx] at hx
      cases hx
      have mem : p ∈ e.ms.filter fun p => ptG e.st p.2.2 (sel m e.ys) := by rw [hps]; exact List.mem_of_getElem? gx
      have hi : i < pl.length := (List.getElem?_eq_some_iff.mp gx).1
      obtain ⟨hp, pt⟩ := List.mem_filter.mp mem
      have yo := g.ok p hp
      have le := (KnA.sub_test m p.2.1).1
      have lsel : (sel (m &&& p.2.1) e.ys).length ≤ e.ys.length := selk_len _ e.ys 0
      obtain ⟨kvG, moG⟩ := id mG
      refine ⟨.ref a, rfl, a, _, _, rfl, oG.ob, nam (by decide +kernel) (by decide +kernel) (by decide +kernel) (by decide +kernel) (by decide +kernel), .str p.1, rfl, .int (m : Int), rfl, a, e, p, m, rfl, oG.f, g, hp, fun H3 t s3 et => ?_⟩
      refine ⟨t, _, rfl, .inl (.inl et), rfl, .int _, _, rfl, .int _, [], rfl, rfl, ?_⟩
      have o3 := oG.mono s3
      have m3 := mG.mono s3
      refine ⟨.ref l, rfl, .inl ⟨rfl, _, .inl (.inl (s3 _ _ eG))⟩, .ref a, rfl, a, _, _, rfl, o3.ob, nam (by decide +kernel) (by decide +kernel) (by decide +kernel) (by decide +kernel) (by decide +kernel), .int ((m &&& p.2.1 : Nat) : Int), rfl, a, e, m &&& p.2.1, rfl, o3, g, m3, clG.same moG.at_ s3, by omega, by have := g.few; omega, fun H4 k4 o4 m4 cl4 g4 i4 => ?_⟩
      have cn : ((m &&& p.2.1 : Nat) : Int) = ((m &&& p.2.1 : Nat) : Int) := rfl
      have nl2' := need_le g hp pt
      have hq1 : ∀ q : Nat × Nat, q.1 < 2 ^ e.ys.length → 1 ≤ q.2 → q.2 + 1 = n → q.2 ≤ needOf e q.1 → ∀ q' ∈ qs ++ [q], q'.1 < 2 ^ e.ys.length ∧ q'.2 + 1 = n ∧ 1 ≤ q'.2 ∧ q'.2 ≤ needOf e q'.1 := fun q a b d f q' hq' => by
        rcases List.mem_append.mp hq' with h | h
        · exact hq _ h
        · rw [List.mem_singleton.mp h]; exact ⟨a, d, b, f⟩
      have take : pl.take (i + 1) = pl.take i ++ [p] := by
        rw [List.take_add_one, gx]; rfl
      have hp2 : ∀ q : Nat × Nat, q = (m &&& p.2.1, n - 1) ∨ q = (m - (m &&& p.2.1), n - 1) → ∀ p' ∈ pl.take (i + 1), (m &&& p'.2.1, n - 1) ∈ qs ++ [q] ∨ (m - (m &&& p'.2.1), n - 1) ∈ qs ++ [q] := fun q hqq p' hp' => by
        rw [take] at hp'
        rcases List.mem_append.mp hp' with h | h
        · exact (hp1 p' h).imp (List.mem_append_left _) (List.mem_append_left _)
        · rw [List.mem_singleton.mp h]
          exact hqq.imp (fun z => List.mem_append_right _ (List.mem_singleton.mpr z.symm)) (fun z => List.mem_append_right _ (List.mem_singleton.mpr z.symm))
      have n1 : ((n : Int) - 1) = ((n - 1 : Nat) : Int) := by omega
      refine ⟨.int n, rfl, n, 1, rfl, rfl, ?_⟩
      refine ⟨needOf e (m &&& p.2.1), (n : Int) - 1, rfl, rfl, _, rfl, ?_⟩
      by_cases cc : n - 1 ≤ needOf e (m &&& p.2.1)
      · rw [decide_eq_true (show (n : Int) - 1 ≤ (needOf e (m &&& p.2.1) : Int) by omega)]
        refine iteT ⟨_, rfl, .int n, rfl, n, 1, rfl, rfl, szl rfl, fun pp np => ?_⟩
        have s5 : Same H4 (upd H4 pp (.tup [.int ((m &&& p.2.1 : Nat) : Int), .int ((n : Int) - 1)])) := same_upd np
        have e5 : (upd H4 pp (.tup [.int ((m &&& p.2.1 : Nat) : Int), .int ((n : Int) - 1)])) pp = some (.tup [.int ((m &&& p.2.1 : Nat) : Int), .int ((n : Int) - 1)]) := upd_same
        have e5l : (upd H4 pp (.tup [.int ((m &&& p.2.1 : Nat) : Int), .int ((n : Int) - 1)])) l = some (.lst ws) := s5 _ _ (k4 _ _ nln (s3 _ _ eG))
        have np_l : pp ≠ l := (ne_of_none (k4 _ _ nln (s3 _ _ eG)) np).symm
        refine ⟨l, ws, .ref pp, rfl, rfl, e5l, small (by have := Paired.length pG; omega), ?_⟩
        have kk : ∀ b x, b ≠ e.n → b ≠ l → G b = some x → (upd (upd H4 pp (.tup [.int ((m &&& p.2.1 : Nat) : Int), .int ((n : Int) - 1)])) l (.lst (ws ++ [.ref pp]))) b = some x := fun b x nb nb' z => (upd_ne nb').trans (s5 _ _ (k4 _ _ nb (s3 _ _ z)))
        have k0 : ∀ b x, b ≠ e.n → b ≠ l → H2 b = some x → (upd (upd H4 pp (.tup [.int ((m &&& p.2.1 : Nat) : Int), .int ((n : Int) - 1)])) l (.lst (ws ++ [.ref pp]))) b = some x := fun b x nb nb' z => kk b x nb nb' (kG b x nb nb' z)
        have en5 : (upd (upd H4 pp (.tup [.int ((m &&& p.2.1 : Nat) : Int), .int ((n : Int) - 1)])) l (.lst (ws ++ [.ref pp]))) e.n = (upd H4 pp (.tup [.int ((m &&& p.2.1 : Nat) : Int), .int ((n : Int) - 1)])) e.n := upd_ne nln.symm
        refine ⟨_, _, _, _, qs ++ [(m &&& p.2.1, n - 1)], rfl, k0, o.but mo0.at_ fun b x nb z => k0 b x nb (ne_of_none z nl) (s12 _ _ z), (m4.mono s5).at' en5, (cl4.same m4.choose_spec.at_ s5).at' en5, upd_same, ?_, by rw [List.length_append, lq]; rfl, hq1 _ (by show m &&& p.2.1 < _; omega) (by show 1 ≤ n - 1; omega) (by show n - 1 + 1 = n; omega) cc, hp2 _ (.inl rfl)⟩
        refine Paired.snoc (pairsAt (fun t xs e2 => kk _ _ (ne_of e2 moG.at_ fun z => by cases z) (ne_of e2 eG fun z => by cases z) e2) pG) ⟨pp, rfl, (upd_ne np_l).trans (e5.trans (by rw [n1]))⟩
      · rw [decide_eq_false (show ¬ (n : Int) - 1 ≤ (needOf e (m &&& p.2.1) : Int) by omega)]
        refine iteF ⟨_, rfl, .int n, rfl, n, 1, rfl, rfl, szl rfl, fun pp np => ?_⟩
        have s5 : Same H4 (upd H4 pp (.tup [.int ((m - (m &&& p.2.1) : Nat) : Int), .int ((n : Int) - 1)])) := same_upd np
        have e5 : (upd H4 pp (.tup [.int ((m - (m &&& p.2.1) : Nat) : Int), .int ((n : Int) - 1)])) pp = some (.tup [.int ((m - (m &&& p.2.1) : Nat) : Int), .int ((n : Int) - 1)]) := upd_same
        have e5l : (upd H4 pp (.tup [.int ((m - (m &&& p.2.1) : Nat) : Int), .int ((n : Int) - 1)])) l = some (.lst ws) := s5 _ _ (k4 _ _ nln (s3 _ _ eG))
        have np_l : pp ≠ l := (ne_of_none (k4 _ _ nln (s3 _ _ eG)) np).symm
        refine ⟨l, ws, .ref pp, rfl, rfl, e5l, small (by have := Paired.length pG; omega), ?_⟩
        have kk : ∀ b x, b ≠ e.n → b ≠ l → G b = some x → (upd (upd H4 pp (.tup [.int ((m - (m &&& p.2.1) : Nat) : Int), .int ((n : Int) - 1)])) l (.lst (ws ++ [.ref pp]))) b = some x := fun b x nb nb' z => (upd_ne nb').trans (s5 _ _ (k4 _ _ nb (s3 _ _ z)))
        have k0 : ∀ b x, b ≠ e.n → b ≠ l → H2 b = some x → (upd (upd H4 pp (.tup [.int ((m - (m &&& p.2.1) : Nat) : Int), .int ((n : Int) - 1)])) l (.lst (ws ++ [.ref pp]))) b = some x := fun b x nb nb' z => kk b x nb nb' (kG b x nb nb' z)
        have en5 : (upd (upd H4 pp (.tup [.int ((m - (m &&& p.2.1) : Nat) : Int), .int ((n : Int) - 1)])) l (.lst (ws ++ [.ref pp]))) e.n = (upd H4 pp (.tup [.int ((m - (m &&& p.2.1) : Nat) : Int), .int ((n : Int) - 1)])) e.n := upd_ne nln.symm
        refine ⟨_, _, _, _, qs ++ [(m - (m &&& p.2.1), n - 1)], rfl, k0, o.but mo0.at_ fun b x nb z => k0 b x nb (ne_of_none z nl) (s12 _ _ z), (m4.mono s5).at' en5, (cl4.same m4.choose_spec.at_ s5).at' en5, upd_same, ?_, by rw [List.length_append, lq]; rfl, hq1 _ (by show m - (m &&& p.2.1) < _; omega) (by show 1 ≤ n - 1; omega) (by show n - 1 + 1 = n; omega) (by unfold behind at nl2'; show n - 1 ≤ needOf e (m - (m &&& p.2.1)); omega), hp2 _ (.inr rfl)⟩
        refine Paired.snoc (pairsAt (fun t xs e2 => kk _ _ (ne_of e2 moG.at_ fun z => by cases z) (ne_of e2 eG fun z => by cases z) e2) pG) ⟨pp, rfl, (upd_ne np_l).trans (e5.trans (by rw [n1]))⟩
    · obtain ⟨y4, y5, y6, ws, qs, rfl, kG, oG, mG, clG, eG, pG, lq, hq, hp1⟩ := hP
      refine ⟨.ref l, rfl, ?_⟩
      exact q _ l ws qs (fun b x nb z => kG b x nb (ne_of_none z nl) (s12 _ _ z)) oG mG clG nl eG pG (by rw [lq, List.length_map]; exact lpl) hq fun _ p hp pt => hp1 p (by
        rw [List.take_of_length_le (by rw [List.length_map]; exact Nat.le_refl _), ← hps]
        exact List.mem_filter.mpr ⟨hp, pt⟩)

end
end Kn

set_option Elab.async false
set_option linter.all false
set_option maxRecDepth 100000
set_option maxHeartbeats 4000000
namespace Kn
open PySem PySem.Spec PyProof.Rows L2
open C8 (Cal pe_c pe_gc Mak pe_mk)
section
variable {P : Program} {w : World} {K : PySem.W.Frag} {mg : Str → Option Value} {base : Heap}
/-! ### the walk of the table -/
def Cov (ns qs : List (Nat × Nat)) (m k : Nat) : Prop := k ≤ numAt ns m ∨ ∃ q ∈ qs, q.1 = m ∧ k ≤ q.2
structure WalkT (e : AEnv) (many : Nat) (ns qs : List (Nat × Nat)) : Prop where
  nd : (ns.map (·.1)).Nodup
  ok : ∀ p ∈ ns, p.1 < 2 ^ e.ys.length ∧ 1 ≤ p.2 ∧ p.2 ≤ needOf e p.1 ∧ p.2 ≤ many + 1
  okW : ∀ p ∈ qs, p.1 < 2 ^ e.ys.length ∧ 1 ≤ p.2 ∧ p.2 ≤ needOf e p.1 ∧ p.2 ≤ many + 1
  wh : Cov ns qs (2 ^ e.ys.length - 1) (many + 1)
  cl : ∀ p ∈ ns, ∀ y ∈ e.ms, ptG e.st y.2.2 (sel p.1 e.ys) = true → Cov ns qs (p.1 &&& y.2.1) (p.2 - 1) ∨ Cov ns qs (p.1 - (p.1 &&& y.2.1)) (p.2 - 1)
def costT (e : AEnv) (ns qs : List (Nat × Nat)) : Nat := 8 * toCome (2 ^ e.ys.length) (fun m => 12 - numAt ns m) + qs.length
theorem toCome_le {f : Nat → Nat} {c : Nat} (h : ∀ i, f i ≤ c) : ∀ N, toCome N f ≤ c * N
  | 0 => Nat.zero_le _
  | N + 1 => by
    have ih := toCome_le h N
    unfold toCome at ih ⊢
    rw [List.range_succ, List.map_append, List.sum_append]
    simp only [List.map_cons, List.map_nil, List.sum_cons, List.sum_nil]
    have := h N
    rw [Nat.mul_succ]
    omega
theorem Cov.drop {ns W : List (Nat × Nat)} {m n m' k : Nat} (a : n ≤ numAt ns m) (h : Cov ns (W ++ [(m, n)]) m' k) : Cov ns W m' k := by
  rcases h with h | ⟨q, hq, e, l⟩
  · exact .inl h
  · rcases List.mem_append.mp hq with hq | hq
    · exact .inr ⟨q, hq, e, l⟩
    · rw [List.mem_singleton.mp hq] at e l
      exact .inl (e ▸ Nat.le_trans l a)
theorem Cov.up {ns W qs' : List (Nat × Nat)} {m n m' k : Nat} (nd : (ns.map (·.1)).Nodup) (a : numAt ns m < n) (h : Cov ns (W ++ [(m, n)]) m' k) : Cov (setN ns m n) (W ++ qs') m' k := by
  rcases h with h | ⟨q, hq, e, l⟩
  · refine .inl ?_
    rw [numAt_set nd]
    by_cases c : m' = m
    · rw [if_pos c]; rw [c] at h; omega
    · rw [if_neg c]; exact h
  · rcases List.mem_append.mp hq with hq | hq
    · exact .inr ⟨q, List.mem_append_left _ hq, e, l⟩
    · rw [List.mem_singleton.mp hq] at e l
      refine .inl ?_
      rw [numAt_set nd, if_pos e.symm]; exact l
theorem WalkT.drop {e : AEnv} {many : Nat} {ns W : List (Nat × Nat)} {m n : Nat} (h : WalkT e many ns (W ++ [(m, n)])) (a : ¬ numAt ns m < n) : WalkT e many ns W :=
  ⟨h.nd, h.ok, fun p hp => h.okW p (List.mem_append_left _ hp), h.wh.drop (by omega), fun p hp y hy pt => (h.cl p hp y hy pt).imp (Cov.drop (by omega)) (Cov.drop (by omega))⟩
theorem WalkT.up {e : AEnv} {many : Nat} {ns W qs' : List (Nat × Nat)} {m n : Nat} (h : WalkT e many ns (W ++ [(m, n)])) (a : numAt ns m < n) (hq : ∀ q ∈ qs', q.1 < 2 ^ e.ys.length ∧ q.2 + 1 = n ∧ 1 ≤ q.2 ∧ q.2 ≤ needOf e q.1)
    (hc : 2 ≤ n → ∀ p ∈ e.ms, ptG e.st p.2.2 (sel m e.ys) = true → (m &&& p.2.1, n - 1) ∈ qs' ∨ (m - (m &&& p.2.1), n - 1) ∈ qs') : WalkT e many (setN ns m n) (W ++ qs') := by
  have hm := h.okW (m, n) (List.mem_append_right _ (List.mem_singleton.mpr rfl))
  refine ⟨setN_nd h.nd m n, fun p hp => ?_, fun p hp => ?_, h.wh.up h.nd a, fun p hp y hy pt => ?_⟩
  · rcases setN_mem hp with rfl | ⟨hp, _⟩
    · exact hm
    · exact h.ok p hp
  · rcases List.mem_append.mp hp with hp | hp
    · exact h.okW p (List.mem_append_left _ hp)
    · obtain ⟨a1, a2, a3, a4⟩ := hq p hp
      have := hm.2.2.2
      exact ⟨a1, a3, a4, by show p.2 ≤ many + 1; have : n ≤ many + 1 := this; omega⟩
  · rcases setN_mem hp with rfl | ⟨hp, _⟩
    · by_cases c : 2 ≤ n
      · exact (hc c y hy pt).imp (fun z => .inr ⟨_, List.mem_append_right _ z, rfl, Nat.le_refl _⟩) (fun z => .inr ⟨_, List.mem_append_right _ z, rfl, Nat.le_refl _⟩)
      · exact .inl (.inl (by show n - 1 ≤ _; omega))
    · exact (h.cl p hp y hy pt).imp (Cov.up h.nd a) (Cov.up h.nd a)
theorem cost_drop (e : AEnv) (ns W : List (Nat × Nat)) (q : Nat × Nat) : costT e ns W < costT e ns (W ++ [q]) := by
  unfold costT; rw [List.length_append]; show _ < _ + (_ + 1); omega
theorem cost_up {e : AEnv} {many : Nat} {ns W qs' : List (Nat × Nat)} {m n : Nat} (h : WalkT e many ns (W ++ [(m, n)])) (m10 : many ≤ 10) (a : numAt ns m < n) (l : qs'.length ≤ 6) : costT e (setN ns m n) (W ++ qs') < costT e ns (W ++ [(m, n)]) := by
  have hm := h.okW (m, n) (List.mem_append_right _ (List.mem_singleton.mpr rfl))
  have n11 : n ≤ many + 1 := hm.2.2.2
  have := toCome_lt (f := fun i => 12 - numAt (setN ns m n) i) (g := fun i => 12 - numAt ns i) (m := m) (fun i => by
    show 12 - numAt (setN ns m n) i ≤ 12 - numAt ns i
    rw [numAt_set h.nd]
    by_cases c : i = m
    · rw [if_pos c, c]; omega
    · rw [if_neg c]; exact Nat.le_refl _) (by
    show 12 - numAt (setN ns m n) m < 12 - numAt ns m
    rw [numAt_set h.nd, if_pos rfl]; omega) (N := 2 ^ e.ys.length) hm.1
  unfold costT
  rw [List.length_append, List.length_append]
  show _ < _ + (_ + 1)
  omega
theorem cost_start {e : AEnv} (few : e.ys.length ≤ 10) (q : Nat × Nat) : costT e [] [q] ≤ 98305 := by
  have a := toCome_le (f := fun m => 12 - numAt [] m) (c := 12) (fun i => by show 12 - numAt [] i ≤ 12; omega) (2 ^ e.ys.length)
  have b : 2 ^ e.ys.length ≤ 2 ^ 10 := Nat.pow_le_pow_right (by decide) few
  unfold costT
  show 8 * _ + 1 ≤ _
  omega
theorem WalkT.few {e : AEnv} {many : Nat} {ns qs : List (Nat × Nat)} (h : WalkT e many ns qs) (few : e.ys.length ≤ 10) : ns.length ≤ 1024 := by
  have := sub_len (m := List.range (2 ^ e.ys.length)) h.nd fun k hk => by
    obtain ⟨p, hp, rfl⟩ := List.mem_map.mp hk
    exact List.mem_range.mpr (h.ok p hp).1
  rw [List.length_map, List.length_range] at this
  have b : 2 ^ e.ys.length ≤ 2 ^ 10 := Nat.pow_le_pow_right (by decide) few
  omega
/-! ### a table -/
def bestG (es : List (List V × Nat)) (g : List V) : Nat := ((es.find? fun p => decide (p.1 = g)).map (·.2)).getD 0
structure TabOk (st : V → Int) (fa : V → List Str) (ys : List V) (ps : List Prb) (many : Nat) (es : List (List V × Nat)) : Prop where
  nd : (es.map (·.1)).Nodup
  len : es.length ≤ 1024
  ok : ∀ p ∈ es, p.1.Sublist ys ∧ 1 ≤ p.2 ∧ stl fa p.1 = false
  wh : many < bestG es ys
  top : ∀ p ∈ es, p.2 ≤ many + 1
  st : ∀ p ∈ es, ∀ q ∈ ps, p.2 ≤ 1 + max (bestG es (yesG st q.2.2 p.1)) (bestG es (noG st q.2.2 p.1))
def grp (e : AEnv) (ns : List (Nat × Nat)) : List (List V × Nat) := ns.map fun p => (sel p.1 e.ys, p.2)
theorem grp_best {e : AEnv} (nd : e.ys.Nodup) {m : Nat} (lt : m < 2 ^ e.ys.length) : ∀ {ns : List (Nat × Nat)}, (∀ p ∈ ns, p.1 < 2 ^ e.ys.length) → bestG (grp e ns) (sel m e.ys) = numAt ns m
  | [], _ => rfl
  | p :: r, h => by
    have ih : bestG (grp e r) (sel m e.ys) = numAt r m := grp_best nd lt (fun q hq => h q (List.mem_cons_of_mem _ hq))
    unfold bestG at ih ⊢
    unfold numAt at ih ⊢
    show (Option.map (·.2) (((sel p.1 e.ys, p.2) :: grp e r).find? fun q => decide (q.1 = sel m e.ys))).getD 0 = _
    by_cases c : p.1 = m
    · rw [List.find?_cons_of_pos (by simp [c]), List.find?_cons_of_pos (by simp [c])]; rfl
    · rw [List.find?_cons_of_neg (by simp; exact fun z => c (sel_inj nd (h p List.mem_cons_self) lt z)), List.find?_cons_of_neg (by simp [c])]
      exact ih
theorem nd_of_keys {st : V → Int} {fa : V → List Str} {ys : List V} (h : (keysR st fa ys).Nodup) : ys.Nodup := (List.pairwise_map.mp (show (ys.map fun v => rk (st v) (fa v)).Nodup from h)).imp fun ne e => ne (by rw [e])
theorem walk_tab {e : AEnv} {many : Nat} {ns : List (Nat × Nat)} {ps : List Prb} (h : WalkT e many ns []) (g : GoodA e) (nd : e.ys.Nodup) (lp : ∀ q ∈ ps, ∃ y ∈ e.ms, y.2.2 = q.2.2) : TabOk e.st e.fa e.ys ps many (grp e ns) := by
  have lts : ∀ p ∈ ns, p.1 < 2 ^ e.ys.length := fun p hp => (h.ok p hp).1
  have cov : ∀ {m k : Nat}, Cov ns [] m k → k ≤ numAt ns m := fun c => c.elim id fun ⟨_, hq, _⟩ => nomatch hq
  have p1 : 1 ≤ 2 ^ e.ys.length := Nat.one_le_two_pow
  refine ⟨?_, ?_, fun p hp => ?_, ?_, fun p hp => ?_, fun p hp q hq => ?_⟩
  · have : (grp e ns).map (·.1) = (ns.map (·.1)).map fun m => sel m e.ys := by unfold grp; rw [List.map_map, List.map_map]; rfl
    rw [this]
    refine List.pairwise_map.mpr (h.nd.imp_of_mem fun {a b} ha hb ne eq => ne ?_)
    obtain ⟨p, hp, rfl⟩ := List.mem_map.mp ha
    obtain ⟨q, hq, rfl⟩ := List.mem_map.mp hb
    exact sel_inj nd (lts p hp) (lts q hq) eq
  · unfold grp; rw [List.length_map]; exact h.few g.few
  · obtain ⟨q, hq, rfl⟩ := List.mem_map.mp hp
    obtain ⟨a, b, c, _⟩ := h.ok q hq
    refine ⟨sel_sub _ _, b, ?_⟩
    cases us : stl e.fa (sel q.1 e.ys) with
    | false => rfl
    | true =>
      have : needOf e q.1 = 0 := by unfold needOf; rw [nd_eq, us, if_pos rfl]
      omega
  · have := cov h.wh
    have lw : sel (2 ^ e.ys.length - 1) e.ys = e.ys := selk_whole e.ys 0 e.ys.length (by omega)
    have b := grp_best nd (show 2 ^ e.ys.length - 1 < 2 ^ e.ys.length by omega) lts
    rw [lw] at b
    omega
  · obtain ⟨q, hq, rfl⟩ := List.mem_map.mp hp
    exact (h.ok q hq).2.2.2
  · obtain ⟨r, hr, rfl⟩ := List.mem_map.mp hp
    obtain ⟨y, hy, ey⟩ := lp q hq
    rw [← ey]
    have yo := g.ok y hy
    have le := (KnA.sub_test r.1 y.2.1).1
    have lr := lts r hr
    show r.2 ≤ 1 + max (bestG (grp e ns) (yesG e.st y.2.2 (sel r.1 e.ys))) (bestG (grp e ns) (noG e.st y.2.2 (sel r.1 e.ys)))
    by_cases pt : ptG e.st y.2.2 (sel r.1 e.ys) = true
    · rw [← sel_and yo, ← sel_diff yo, grp_best nd (by omega) lts, grp_best nd (by omega) lts]
      rcases h.cl r hr y hy pt with c | c
      · have := cov c; omega
      · have := cov c; omega
    · have self : bestG (grp e ns) (sel r.1 e.ys) = r.2 := (grp_best nd lr lts).trans (numAt_in h.nd hr)
      have : yesG e.st y.2.2 (sel r.1 e.ys) = sel r.1 e.ys ∨ noG e.st y.2.2 (sel r.1 e.ys) = sel r.1 e.ys := by
        unfold ptG at pt
        rw [Bool.and_eq_true, Bool.not_eq_true', Bool.not_eq_true'] at pt
        by_cases c : (yesG e.st y.2.2 (sel r.1 e.ys)).isEmpty = false
        · have d : (noG e.st y.2.2 (sel r.1 e.ys)).isEmpty = true := by
            cases z : (noG e.st y.2.2 (sel r.1 e.ys)).isEmpty with
            | true => rfl
            | false => exact (pt ⟨c, z⟩).elim
          have d' := List.isEmpty_iff.mp d
          refine .inl (List.filter_eq_self.mpr fun x hx => ?_)
          cases z : decide (e.st x ∈ y.2.2) with
          | true => rfl
          | false =>
            have : x ∈ noG e.st y.2.2 (sel r.1 e.ys) := List.mem_filter.mpr ⟨hx, by rw [z]; rfl⟩
            rw [d'] at this; cases this
        · have d' := List.isEmpty_iff.mp (Bool.not_eq_false _ ▸ c : (yesG e.st y.2.2 (sel r.1 e.ys)).isEmpty = true)
          refine .inr (List.filter_eq_self.mpr fun x hx => ?_)
          cases z : decide (e.st x ∈ y.2.2) with
          | false => rfl
          | true =>
            have : x ∈ yesG e.st y.2.2 (sel r.1 e.ys) := List.mem_filter.mpr ⟨hx, z⟩
            rw [d'] at this; cases this
      rcases this with z | z
      · rw [z, self]; omega
      · rw [z, self]; omega
/-- what lies in the list: groups with a number -/
def ItemAt (H : Hp) (v : V) (p : List V × Nat) : Prop := ∃ t g, v = .ref t ∧ H t = some (.tup [.ref g, .int (p.2 : Int)]) ∧ H g = some (.tup p.1)
def sp_answers (_ : PySem.W.Frag) (_ : Addr) : Sp := fun vs H Q _ => ∃ (r d : Addr) (b : Bool) (xs : List V) (st : V → Int) (fa : V → List Str) (ps : List Prb) (many : Nat), vs = [.ref r, .ref d, .int (many : Int)] ∧ many ≤ 10 ∧ H r = some (rowO b xs) ∧ Rows H xs st fa ∧ (keysR st fa xs).Nodup ∧ 1 ≤ xs.length ∧ xs.length ≤ 10 ∧ Probes H d ps ∧ GoodP ps ∧
  (nd st fa 1000 (ps.map (·.2.2)) xs ≤ many → ∀ H', Same H H' → Q .non H') ∧
  (¬ nd st fa 1000 (ps.map (·.2.2)) xs ≤ many → ∀ (H' : Hp) (l : Addr) (ws ys : List V) (es : List (List V × Nat)), Same H H' → H l = none → H' l = some (.lst ws) → Paired (ItemAt H') ws es → ys.Perm xs → (ys.map fun v => (st v, fa v)).Pairwise (fun p q => KnA.rowLe p q = true) → TabOk st fa ys ps many es → Q (.ref l) H')


end
end Kn

set_option Elab.async false
set_option linter.all false
set_option maxRecDepth 100000
set_option maxHeartbeats 4000000
namespace Kn
open PySem PySem.Spec PyProof.Rows L2
open C8 (Cal pe_c pe_gc Mak pe_mk)
section
variable {P : Program} {w : World} {K : PySem.W.Frag} {mg : Str → Option Value} {base : Heap}
theorem nkv_some : ∀ {ns : List (Nat × Nat)} {p : Nat × Nat}, (ns.map (·.1)).Nodup → p ∈ ns → valV (nkv ns) (.inl (p.1 : Int)) = some (.int (p.2 : Int))
  | [], _, _, h => nomatch h
  | q :: r, p, nd, h => by
    obtain ⟨a, b⟩ := List.nodup_cons.mp (show (q.1 :: r.map (·.1)).Nodup from nd)
    show valV ((Sum.inl (q.1 : Int), V.int (q.2 : Int)) :: nkv r) (.inl (p.1 : Int)) = _
    rcases List.mem_cons.mp h with e | h
    · rw [e, valV_pos (p := ((Sum.inl (q.1 : Int) : Key), V.int (q.2 : Int))) rfl]
    · have ne : ¬ q.1 = p.1 := fun e => a (e ▸ List.mem_map.mpr ⟨_, h, rfl⟩)
      rw [valV_neg (fun z => ne (by have := Sum.inl.inj z; omega)), nkv_some b h]
theorem paired_app {α β : Type} {R : α → β → Prop} {xs xs' : List α} {ys ys' : List β} (h : Paired R xs ys) (h' : Paired R xs' ys') : Paired R (xs ++ xs') (ys ++ ys') := by
  induction h with
  | nil => exact h'
  | cons a _ ih => exact .cons a ih
theorem paired_last {α β : Type} {R : α → β → Prop} {xs : List α} {ys : List β} (h : Paired R xs ys) (z : xs ≠ []) : ∃ xs0 x ys0 y, xs = xs0 ++ [x] ∧ ys = ys0 ++ [y] ∧ Paired R xs0 ys0 ∧ R x y := by
  induction h with
  | nil => exact (z rfl).elim
  | cons a h ih =>
    cases h with
    | nil => exact ⟨[], _, [], _, rfl, rfl, .nil, a⟩
    | cons b h' =>
      obtain ⟨xs0, x, ys0, y, e1, e2, p, q⟩ := ih fun q => by cases q
      exact ⟨_ :: xs0, x, _ :: ys0, y, by rw [e1]; rfl, by rw [e2]; rfl, .cons a p, q⟩
theorem itemsAt {H H' : Hp} (k : ∀ t xs, H t = some (.tup xs) → H' t = some (.tup xs)) {vs : List V} {es : List (List V × Nat)} (h : Paired (ItemAt H) vs es) : Paired (ItemAt H') vs es := by
  induction h with
  | nil => exact .nil
  | cons a _ ih =>
    obtain ⟨t, g, e1, e2, e3⟩ := a
    exact .cons ⟨t, g, e1, k _ _ e2, k _ _ e3⟩ ih
theorem ok_answers {f : Addr} {C : Addr} {fd : FuncData} (T : Txt K mg C) (F : Fun K "answers" "answers" s_answers f fd) (c_check_rows : Cal P w K mg base 4 "check_rows" (sp_check_rows K) []) (c_check_probes : Cal P w K mg base 3 "check_probes" (sp_check_probes K) []) (c_check_count : Cal P w K mg base 2 "check_count" (sp_check_count K) []) (c_Asks_init : Mak P w K mg base 3 "Asks" C (sp_Asks_init (P := P) (w := w) K C) []) (c_harder_parts : Cal P w K mg base 71 "harder_parts" (sp_harder_parts K C) []) (c_Asks_need : C8.Met P w K mg base 69 C "need" (sp_Asks_need K C 10) []) (c_Asks_candidates_in : C8.Met P w K mg base 1 C "candidates_in" (sp_Asks_candidates_in K C) []) : FnOk P w K mg base CX0 72 f fd ["rows", "probes", "many"] (sp_answers K C) := by
  have nd_ := sc_answers.nd
  have nd := nd_
  refine F.ok sc_answers (fun vs H Q E h => ?_) (fun cdv A outer s H vs Q E hr h => ?_)
  · obtain ⟨r, d, b, xs, st, fa, ps, many, rfl, _⟩ := h
    rfl
  · obtain ⟨r, d, b, xs, st, fa, ps, many, rfl, m10, hR, R, ndk, lo, few, P0, gp, q1, q2⟩ := h
    refine ⟨_, (pss_cons (ps_expr (pe_c c_check_rows hr (by omega) (by rfl) (pa_cons (pv 0) pa_nil)))
      (pss_cons (ps_expr (pe_c c_check_probes hr (by omega) (by rfl) (pa_cons (pv 1) pa_nil)))
      (pss_cons (ps_expr (pe_c c_check_count hr (by omega) (by rfl) (pa_cons (pv 2) (pa_cons (pe_gc (by rfl) T.c_MOST_ASKS) pa_nil))))
      (pss_cons (ps_set (i := 3) nd rfl (.inr rfl) (pe_mk c_Asks_init hr (by omega) (by rfl) (pa_cons (pv 0) (pa_cons (pv 1) pa_nil))))
      (pss_cons (ps_if (pt_cmpR op_le (C8.pe_mt c_Asks_need hr (by omega) (pv 3) (pa_cons (pe_fld (pv 3) rfl) pa_nil)) (pv 2) (nomark _)) (pss_one (ps_ret pe_non)) pss_nil)
      (pss_cons (ps_set (i := 4) nd rfl (.inr rfl) pe_dnewK)
      (pss_cons (ps_set (i := 5) nd rfl (.inl rfl) (pe_lst (pa_cons (pe_tup (pa_cons (pe_fld (pv 3) rfl) (pa_cons (pe_op op_add (pv 2) pe_int) pa_nil))) pa_nil)))
      (pss_cons (ps_while PassesOwn.never (pt_cmpR op_gt (pe_callB call_len (by rfl) T.m_len (by decide +kernel) (pa_cons (pv 5) pa_nil)) pe_int (nomark _)) (pss_cons (ps_asg (pe_bm0 PySem.F.plainAttrs_list PySem.F.slot_list_pop PySem.F.type_list_pop mt_pop (pv 5)) (pg_tup (by rfl) (pgs_cons (pg_name (i := 6) nd rfl (.inl rfl)) (pgs_cons (pg_name (i := 7) nd rfl (.inl rfl)) pgs_nil))))
      (pss_one (ps_if (pt_cmpR op_lt (pe_dget2 (hu_of hr) (pv 4) (pv 6) pe_int ⟨rfl, rfl, rfl, rfl⟩) (pv 7) (nomark _)) (pss_cons (ps_dput (hu_of hr) (pv 4) (pv 6) (pv 7) rfl)
      (pss_one (ps_expr (pe_bm PySem.F.plainAttrs_list PySem.F.slot_list_extend PySem.F.type_list_extend mt_extend (pv 5) (pa_cons (pe_c c_harder_parts hr (by omega) (by rfl) (pa_cons (pv 3) (pa_cons (pv 6) (pa_cons (pv 7) pa_nil)))) pa_nil))))) pss_nil))))
      (pss_one (ps_ret (pe_lock (pe_lc (own := [("chosen", 6)]) (g := gName 6) (tt := tYes) rfl nd (pi_keys (pv 4)) (blkOk_by (N := ["rows", "probes", "many", "asks", "numbers", "waiting", "chosen", "number"]) (sc := defScope s_answers) (by decide +kernel)) (fun _ _ _ _ _ => (pg_name (i := 6) nd rfl (.inl rfl))) (fun _ _ _ _ _ => pts_nil) (fun _ _ _ _ _ => (pe_tup (pa_cons (C8.pe_mt c_Asks_candidates_in hr (by omega) (pv 3) (pa_cons (pv 6) pa_nil)) (pa_cons (pe_dget (hu_of hr) (pv 4) (pv 6) (fun _ _ => rfl)) pa_nil)))))))))))))))), ?_⟩
    refine ⟨.ref r, rfl, b, r, xs, st, fa, rfl, hR, R, ndk, lo, few, fun H1 s1 => ?_⟩
    refine ⟨.ref d, rfl, d, ps, rfl, P0.mono s1, gp, fun H2 s2' => ?_⟩
    have s2 := s1.trans s2'
    refine ⟨.int (many : Int), rfl, (many : Int), 10, rfl, by omega, by omega, fun H2b s2b => ?_⟩
    replace s2 := s2.trans s2b
    refine ⟨.ref r, rfl, .ref d, rfl, fun a dx na ndx ne => ?_⟩
    have s3a : Same H2b (upd (upd H2b dx (.own a)) a (.ins C dx [])) := fun y o e => by rw [upd_ne (ne_of_none e na), upd_ne (ne_of_none e ndx)]; exact e
    have s3 := s2.trans s3a
    have ea : (upd (upd H2b dx (.own a)) a (.ins C dx [])) a = some (.ins C dx []) := upd_same
    have naH : H a = none := s2.free na
    generalize upd (upd H2b dx (.own a)) a (.ins C dx []) = H3 at s3 ea ⊢
    refine ⟨a, dx, r, d, b, xs, st, fa, ps, rfl, ea, s3 _ _ hR, R.mono s3, ndk, lo, few, P0.mono s3, gp, fun H4 e k4 o g mm es ef pm lp nn pn yp en0 so dn => ⟨rfl, ?_⟩⟩
    subst es ef
    have cl : Closed H4 e := fun m ⟨ks, h, i⟩ => by
      rw [en0] at h
      cases h
      cases i
    have nnH : H e.n = none := s3.free nn
    have lw : sel (2 ^ e.ys.length - 1) e.ys = e.ys := selk_whole e.ys 0 e.ys.length (by omega)
    have p1 : 1 ≤ 2 ^ e.ys.length := Nat.one_le_two_pow
    have nam : ∀ {x : Str}, x ≠ "candidates" → x ≠ "places" → x ≠ "whole" → x ≠ "yes" → x ≠ "needs" → (aflds e.c e.pl e.y e.n ((2 ^ e.ys.length - 1 : Nat) : Int)).lookup x = none := fun h1 h2 h3 h4 h5 => af_none _ _ _ _ _ h1 h2 h3 h4 h5
    refine ⟨.ref a, rfl, a, _, _, rfl, o.ob, nam (by decide +kernel) (by decide +kernel) (by decide +kernel) (by decide +kernel) (by decide +kernel), .ref a, rfl, a, C, _, _, _, rfl, o.ob, T.cl_Asks, T.n_whole, af_w _ _ _ _ _, a, e, 2 ^ e.ys.length - 1, rfl, o, g, mm, cl, by omega, by rw [lw]; exact g.few, fun H5 k5 o5 m5 cl5 g5 ki5 => ?_⟩
    have S : Same H H5 := fun y x z => k5 y x (ne_of_none z nnH) (k4 y x (s3 _ _ z) (ne_of_none z naH))
    have ev : needOf e (2 ^ e.ys.length - 1) = Kn.nd e.st e.fa 1000 (ps.map (·.2.2)) xs := by
      unfold needOf
      rw [lw]
      exact nd_perm lp e.ys.length e.ys xs (Nat.le_refl _) pm
    rw [← ev] at q1 q2
    refine ⟨.int (many : Int), rfl, (needOf e (2 ^ e.ys.length - 1) : Int), (many : Int), rfl, rfl, _, rfl, ?_⟩
    by_cases c : needOf e (2 ^ e.ys.length - 1) ≤ many
    · rw [decide_eq_true (show ((needOf e (2 ^ e.ys.length - 1) : Nat) : Int) ≤ (many : Int) by omega)]
      exact iteT (q1 c _ S)
    rw [decide_eq_false (show ¬ ((needOf e (2 ^ e.ys.length - 1) : Nat) : Int) ≤ (many : Int) by omega)]
    refine iteF ?_
    have q2 := q2 c
    have nn5 : ∀ {b o}, H b = some o → b ≠ e.n := fun z => ne_of_none z nnH
    intro D nD
    have sD := same_upd (o := .dK []) nD
    have nDH : H D = none := S.free nD
    have nD5 : H5 D = none := nD
    obtain ⟨kv5, mo5⟩ := id m5
    have nDn : e.n ≠ D := ne_of_none mo5.at_ nD
    have eD0 : (upd H5 D (.dK [])) D = some (.dK []) := upd_same
    refine ⟨.ref a, rfl, a, C, _, _, _, rfl, sD _ _ o5.ob, T.cl_Asks, T.n_whole, af_w _ _ _ _ _, .int (many : Int), rfl, (many : Int), 1, rfl, rfl, szl rfl, fun t nt => ⟨szl rfl, fun wa nw => ?_⟩⟩
    have st1 : Same (upd H5 D (.dK [])) (upd (upd H5 D (.dK [])) t (.tup [.int ((2 ^ e.ys.length - 1 : Nat) : Int), .int ((many : Int) + 1)])) := same_upd nt
    have et0 : (upd (upd H5 D (.dK [])) t (.tup [.int ((2 ^ e.ys.length - 1 : Nat) : Int), .int ((many : Int) + 1)])) t = some (.tup [.int ((2 ^ e.ys.length - 1 : Nat) : Int), .int ((many : Int) + 1)]) := upd_same
    have sw : Same (upd (upd H5 D (.dK [])) t (.tup [.int ((2 ^ e.ys.length - 1 : Nat) : Int), .int ((many : Int) + 1)])) (upd (upd (upd H5 D (.dK [])) t (.tup [.int ((2 ^ e.ys.length - 1 : Nat) : Int), .int ((many : Int) + 1)])) wa (.lst [.ref t])) := same_upd nw
    have ew0 : (upd (upd (upd H5 D (.dK [])) t (.tup [.int ((2 ^ e.ys.length - 1 : Nat) : Int), .int ((many : Int) + 1)])) wa (.lst [.ref t])) wa = some (.lst [.ref t]) := upd_same
    have S56 := sD.trans (st1.trans sw)
    have et6 := sw _ _ et0
    have eD6 := sw _ _ (st1 _ _ eD0)
    have nwD : wa ≠ D := (ne_of_none (st1 _ _ eD0) nw).symm
    have nw5 : H5 wa = none := (sD.trans st1).free nw
    have nwn : e.n ≠ wa := ne_of_none mo5.at_ nw5
    generalize upd (upd (upd H5 D (.dK [])) t (.tup [.int ((2 ^ e.ys.length - 1 : Nat) : Int), .int ((many : Int) + 1)])) wa (.lst [.ref t]) = H6 at S56 et6 eD6 ew0 ⊢
    clear sD st1 sw et0 eD0 nw nt nD
    refine ⟨fun k σ G => ∃ (y6 y7 : Option V) (ns qs : List (Nat × Nat)) (ws : List V), σ = [some (.ref r), some (.ref d), some (.int (many : Int)), some (.ref a), some (.ref D), some (.ref wa), y6, y7] ∧ (∀ b x, b ≠ e.n → H5 b = some x → G b = some x) ∧ AskO C G a e ∧ Memo G e ∧ Closed G e ∧ G D = some (.dK (nkv ns)) ∧ G wa = some (.lst ws) ∧ Paired (PairAt G) ws qs ∧ WalkT e many ns qs ∧ costT e ns qs ≤ 98305 ∧ k = costT e ns qs,
      ⟨_, none, none, [], [(2 ^ e.ys.length - 1, many + 1)], [.ref t], rfl, fun b x _ z => S56 _ _ z, o5.mono S56, m5.mono S56, cl5.same mo5.at_ S56, eD6, ew0, .cons ⟨t, rfl, et6⟩ .nil,
        ⟨List.Pairwise.nil, (fun p hp => nomatch hp), fun p hp => by rw [List.mem_singleton.mp hp]; exact ⟨by show 2 ^ e.ys.length - 1 < _; omega, by show 1 ≤ many + 1; omega, by show many + 1 ≤ needOf e (2 ^ e.ys.length - 1); omega, Nat.le_refl _⟩, .inr ⟨_, List.mem_singleton.mpr rfl, rfl, Nat.le_refl _⟩, fun p hp => nomatch hp⟩, cost_start g.few _, rfl⟩, fun k σ G hW => ?_⟩
    obtain ⟨y6, y7, ns, qs, ws, rfl, kG, oG, mG, clG, eD, ew, pG, wk, cs, rfl⟩ := hW
    obtain ⟨kvG, moG⟩ := id mG
    have few := wk.few g.few
    refine ⟨.ref wa, rfl, .ref wa, ws.length, rfl, .inl ⟨_, .inl (.inl ew), rfl⟩, (ws.length : Int), 0, rfl, rfl, _, rfl, ?_⟩
    by_cases z : ws = []
    · subst z
      cases pG
      refine iteF ?_
      refine ⟨D, .dK (nkv ns), eD, trivial, fun od => ?_⟩
      have ndy : e.ys.Nodup := nd_of_keys (List.Perm.nodup ((pm.map fun v => rk (e.st v) (e.fa v)).symm) ndk)
      have tab := walk_tab (ps := ps) wk g ndy fun q hq => by
        obtain ⟨y, hy, ey⟩ := List.mem_map.mp (lp.mem_iff.mpr (List.mem_map.mpr ⟨q, hq, rfl⟩))
        exact ⟨y, hy, ey⟩
      have kF : ∀ b x, b ≠ D → G b = some x → (upd G D (.frz od (.dK (nkv ns)))) b = some x := fun b x nb z => (upd_ne nb).trans z
      have eF : (upd G D (.frz od (.dK (nkv ns)))) D = some (.frz od (.dK (nkv ns))) := upd_same
      have k5F : ∀ b x, b ≠ e.n → H5 b = some x → (upd G D (.frz od (.dK (nkv ns)))) b = some x := fun b x nb z => kF _ _ (ne_of_none z nD5) (kG b x nb z)
      have oF : AskO C (upd G D (.frz od (.dK (nkv ns)))) a e := o5.but mo5.at_ k5F
      generalize upd G D (.frz od (.dK (nkv ns))) = G1 at eF k5F oF ⊢
      refine ⟨.ref D, rfl, D, od, rfl, .inl ⟨_, eF, fun L nL => ?_⟩⟩
      have nLD : D ≠ L := ne_of_none eF nL
      refine KnC.lc_keys (fun i G' => ∃ ws, Same G1 G' ∧ G' L = some (.lst ws) ∧ Paired (ItemAt G') ws ((grp e ns).take i))
        ⟨[], same_upd nL, upd_same, .nil⟩ (fun i G' _ ⟨_, hS, _⟩ => hS _ _ eF) (fun i k v G' hx hP => ?_) (fun G' hP => ?_)
      · obtain ⟨ws, hS, eL, pL⟩ := hP
        unfold nkv at hx
        rw [List.getElem?_map] at hx
        cases gx : ns[i]? with
        | none => rw [gx] at hx; cases hx
        | some p =>
        rw [gx] at hx
        cases hx
        refine ⟨rfl, ?_⟩
        refine ⟨.ref a, rfl, a, _, _, rfl, (oF.mono hS).ob, nam (by decide +kernel) (by decide +kernel) (by decide +kernel) (by decide +kernel) (by decide +kernel), .int (p.1 : Int), rfl, a, e, p.1, rfl, (oF.mono hS).f, g, fun G2 t2 s2 e2 => ?_⟩
        have mem := List.mem_of_getElem? gx
        have eL2 := s2 _ _ eL
        refine ⟨.ref D, rfl, .int (p.1 : Int), rfl, D, .int (p.2 : Int), rfl, .inl ⟨_, .inl (p.1 : Int), .inr ⟨_, s2 _ _ (hS _ _ eF)⟩, rfl, (nkv_some wk.nd mem).symm⟩, szl rfl, fun t3 n3 => ?_⟩
        have s3 : Same G2 (upd G2 t3 (.tup [.ref t2, .int (p.2 : Int)])) := same_upd n3
        have e3 : (upd G2 t3 (.tup [.ref t2, .int (p.2 : Int)])) t3 = some (.tup [.ref t2, .int (p.2 : Int)]) := upd_same
        have e2' := s3 _ _ e2
        have eL3 := s3 _ _ eL2
        have S3 := (hS.trans s2).trans s3
        have p3 : Paired (ItemAt (upd G2 t3 (.tup [.ref t2, .int (p.2 : Int)]))) ws ((grp e ns).take i) := itemsAt (fun t xs z => s3 _ _ (s2 _ _ z)) pL
        refine ⟨ws, eL3, small (by have := Paired.length pL; have lg : (grp e ns).length = ns.length := (by unfold grp; rw [List.length_map]); rw [List.length_take] at this; omega), ?_⟩
        generalize upd G2 t3 (.tup [.ref t2, .int (p.2 : Int)]) = G3 at e3 e2' eL3 S3 p3 ⊢
        have kL : ∀ t xs, G3 t = some (.tup xs) → (upd G3 L (.lst (ws ++ [.ref t3]))) t = some (.tup xs) := fun t xs z => (upd_ne (ne_of z eL3 fun z => by cases z)).trans z
        refine ⟨ws ++ [.ref t3], same_set nL S3, upd_same, ?_⟩
        have tk : (grp e ns).take (i + 1) = (grp e ns).take i ++ [(sel p.1 e.ys, p.2)] := take_more (by unfold grp; rw [List.getElem?_map, gx]; rfl)
        rw [tk]
        exact Paired.snoc (itemsAt kL p3) ⟨t3, t2, rfl, kL _ _ e3, kL _ _ e2'⟩
      · obtain ⟨ws, hS, eL, pL⟩ := hP
        have eD' := hS _ _ eF
        have lt : (nkv ns).length = (grp e ns).length := by unfold nkv grp; rw [List.length_map, List.length_map]
        rw [lt, List.take_length] at pL
        refine ⟨eD', ?_⟩
        have kE : ∀ b x, b ≠ D → G' b = some x → (upd G' D (.dK (nkv ns))) b = some x := fun b x nb z => (upd_ne nb).trans z
        have nLD' : L ≠ D := nLD.symm
        have nH : ∀ {b x}, H b = some x → b ≠ D := fun z => ne_of_none z nDH
        refine q2 _ L ws e.ys (grp e ns) (fun b x z => kE _ _ (nH z) (hS _ _ (k5F _ _ (nn5 z) (S _ _ z)))) ?_ (kE _ _ nLD' eL) (itemsAt (fun t xs z => kE _ _ (ne_of z eD' fun z => by cases z) z) pL) pm so tab
        cases hL : H L with
        | none => rfl
        | some x => exact absurd (k5F _ _ (nn5 hL) (S _ _ hL)) (by rw [nL]; exact fun z => nomatch z)
    · obtain ⟨ws0, v, qs0, ⟨m, n⟩, rfl, rfl, pG0, tv, e1, e2⟩ := paired_last pG z
      subst e1
      have lw : 0 < (ws0 ++ [V.ref tv]).length := List.length_pos_iff.mpr z
      rw [decide_eq_true (show (0 : Int) < ((ws0 ++ [V.ref tv]).length : Int) by omega)]
      refine iteT ⟨fun σ' G' => ∃ (y6 y7 : Option V) (ns' qs' : List (Nat × Nat)) (ws' : List V), σ' = [some (.ref r), some (.ref d), some (.int (many : Int)), some (.ref a), some (.ref D), some (.ref wa), y6, y7] ∧ (∀ b x, b ≠ e.n → H5 b = some x → G' b = some x) ∧ AskO C G' a e ∧ Memo G' e ∧ Closed G' e ∧ G' D = some (.dK (nkv ns')) ∧ G' wa = some (.lst ws') ∧ Paired (PairAt G') ws' qs' ∧ WalkT e many ns' qs' ∧ costT e ns' qs' < costT e ns (qs0 ++ [(m, n)]),
        fun σ' G' ⟨y6, y7, ns', qs', ws', e, a1, a2, a3, a4, a5, a6, a7, a8, a9⟩ => ⟨_, a9, y6, y7, ns', qs', ws', e, a1, a2, a3, a4, a5, a6, a7, a8, Nat.le_trans (Nat.le_of_lt a9) cs, rfl⟩, ?_⟩
      refine ⟨.ref wa, rfl, .inl ⟨rfl, _, .inl (.inl ew)⟩, wa, ws0 ++ [V.ref tv], .ref tv, rfl, rfl, ew, by rw [List.length_append]; exact List.getElem?_concat_length, ?_⟩
      have dl : (ws0 ++ [V.ref tv]).dropLast = ws0 := List.dropLast_concat
      rw [dl]
      have nDw : wa ≠ D := nwD
      have kP : ∀ b x, b ≠ wa → G b = some x → (upd G wa (.lst ws0)) b = some x := fun b x nb z => (upd_ne nb).trans z
      have etv := kP _ _ (ne_of e2 ew fun z => by cases z) e2
      have eDP := kP _ _ nwD.symm eD
      have ewP : (upd G wa (.lst ws0)) wa = some (.lst ws0) := upd_same
      have enP : (upd G wa (.lst ws0)) e.n = G e.n := upd_ne nwn
      have k5P : ∀ b x, b ≠ e.n → H5 b = some x → (upd G wa (.lst ws0)) b = some x := fun b x nb z => kP _ _ (ne_of_none z nw5) (kG b x nb z)
      have oP : AskO C (upd G wa (.lst ws0)) a e := o5.but mo5.at_ k5P
      have mP := mG.at' enP
      have clP := clG.at' enP
      have pP : Paired (PairAt (upd G wa (.lst ws0))) ws0 qs0 := pairsAt (fun t xs z => kP _ _ (ne_of z ew fun z => by cases z) z) pG0
      generalize upd G wa (.lst ws0) = G1 at etv eDP ewP k5P oP mP clP pP ⊢
      obtain ⟨kv1, mo1⟩ := id mP
      clear kP enP
      refine ⟨tv, _, rfl, .inl (.inl etv), rfl, .int (m : Int), _, rfl, .int (n : Int), [], rfl, rfl, ?_⟩
      refine ⟨.ref D, rfl, D, rfl, .inl ⟨_, .inl eDP⟩, .int (m : Int), rfl, valV (nkv ns) (.inl (m : Int)), DGet.k (k := .inl (m : Int)) eDP, ?_⟩
      rw [nkv_val]
      refine ⟨.int (n : Int), rfl, (numAt ns m : Int), (n : Int), rfl, rfl, _, rfl, ?_⟩
      by_cases cn : numAt ns m < n
      · rw [decide_eq_true (show (numAt ns m : Int) < (n : Int) by omega)]
        have lns : (nkv ns).length = ns.length := List.length_map _
        refine iteT ⟨.int (n : Int), rfl, .ref D, rfl, .int (m : Int), rfl, D, _, rfl, DPut.k (k := .inl (m : Int)) eDP (small (by omega)), ?_⟩
        rw [nkv_put]
        have kP : ∀ b x, b ≠ D → G1 b = some x → (upd G1 D (.dK (nkv (setN ns m n)))) b = some x := fun b x nb z => (upd_ne nb).trans z
        have eD2 : (upd G1 D (.dK (nkv (setN ns m n)))) D = some (.dK (nkv (setN ns m n))) := upd_same
        have ew2 := kP _ _ nDw ewP
        have en2 : (upd G1 D (.dK (nkv (setN ns m n)))) e.n = G1 e.n := upd_ne nDn
        have k52 : ∀ b x, b ≠ e.n → H5 b = some x → (upd G1 D (.dK (nkv (setN ns m n)))) b = some x := fun b x nb z => kP _ _ (ne_of_none z nD5) (k5P b x nb z)
        have o2 : AskO C (upd G1 D (.dK (nkv (setN ns m n)))) a e := o5.but mo5.at_ k52
        have m2 := mP.at' en2
        have cl2 := clP.at' en2
        have p2 : Paired (PairAt (upd G1 D (.dK (nkv (setN ns m n))))) ws0 qs0 := pairsAt (fun t xs z => kP _ _ (ne_of z eDP fun z => by cases z) z) pP
        generalize upd G1 D (.dK (nkv (setN ns m n))) = G2 at kP eD2 ew2 k52 o2 m2 cl2 p2 ⊢
        obtain ⟨kv2, mo2⟩ := id m2
        have hm := wk.okW (m, n) (List.mem_append_right _ (List.mem_singleton.mpr rfl))
        refine ⟨.ref wa, rfl, .inl ⟨rfl, _, .inl (.inl ew2)⟩, .ref a, rfl, .int (m : Int), rfl, .int (n : Int), rfl, a, e, m, n, rfl, o2, g, m2, cl2, hm.1, hm.2.1, hm.2.2.1, fun G3 l zs qs1 k3 o3 m3 cl3 nl3 el3 p3 l6 hq hc => ?_⟩
        have lt := cost_up wk m10 cn l6
        have ew3 := k3 _ _ nwn.symm ew2
        have lpz := Paired.length p3
        have lp0 := Paired.length pP
        have lc : (qs0 ++ qs1).length ≤ costT e (setN ns m n) (qs0 ++ qs1) := by unfold costT; omega
        rw [List.length_append] at lc
        have lwn : l ≠ wa := (ne_of_none ew2 nl3).symm
        refine ⟨wa, l, ws0, zs, rfl, rfl, ew3, el3, smallE (by omega), ?_⟩
        have kQ : ∀ b x, b ≠ wa → G3 b = some x → (upd G3 wa (.lst (ws0 ++ zs))) b = some x := fun b x nb z => (upd_ne nb).trans z
        have k5Q : ∀ b x, b ≠ e.n → H5 b = some x → (upd G3 wa (.lst (ws0 ++ zs))) b = some x := fun b x nb z => kQ _ _ (ne_of_none z nw5) (k3 _ _ nb (k52 b x nb z))
        have enQ : (upd G3 wa (.lst (ws0 ++ zs))) e.n = G3 e.n := upd_ne nwn
        exact ⟨_, _, _, _, _, rfl, k5Q, o5.but mo5.at_ k5Q, m3.at' enQ, cl3.at' enQ, kQ _ _ nwD.symm (k3 _ _ nDn.symm eD2), upd_same, paired_app (pairsAt (fun t xs z => kQ _ _ (ne_of z ew2 fun z => by cases z) (k3 _ _ (ne_of z mo2.at_ fun z => by cases z) z)) p2) (pairsAt (fun t xs z => kQ _ _ (ne_of z ew3 fun z => by cases z) z) p3), wk.up cn hq hc, lt⟩
      · rw [decide_eq_false (show ¬ (numAt ns m : Int) < (n : Int) by omega)]
        exact iteF ⟨_, _, ns, qs0, ws0, rfl, k5P, oP, mP, clP, eDP, ewP, pP, wk.drop cn, cost_drop _ _ _ _⟩

end
end Kn

set_option Elab.async false
set_option linter.all false
set_option maxRecDepth 100000
set_option maxHeartbeats 4000000
namespace Kn
open PySem PySem.Spec PyProof.Rows L2
open C8 (Cal pe_c pe_gc Mak pe_mk)
section
variable {P : Program} {w : World} {K : PySem.W.Frag} {mg : Str → Option Value} {base : Heap}
theorem sub_filter {α : Type} [DecidableEq α] {xs ys : List α} (h : xs.Sublist ys) (nd : ys.Nodup) : xs = ys.filter fun x => decide (x ∈ xs) := by
  induction h with
  | slnil => rfl
  | @cons xs ys a h ih =>
    obtain ⟨n1, n2⟩ := List.nodup_cons.mp nd
    rw [List.filter_cons_of_neg (by simp; exact fun z => n1 (h.subset z))]
    exact ih n2
  | @cons_cons xs ys a h ih =>
    obtain ⟨n1, n2⟩ := List.nodup_cons.mp nd
    rw [List.filter_cons_of_pos (by simp)]
    have e : (ys.filter fun x => decide (x ∈ a :: xs)) = ys.filter fun x => decide (x ∈ xs) := List.filter_congr fun x hx => by
      have ne : x ≠ a := fun z => n1 (z ▸ hx)
      rw [Bool.eq_iff_iff, decide_eq_true_eq, decide_eq_true_eq]
      exact ⟨fun z => (List.mem_cons.mp z).resolve_left ne, List.mem_cons_of_mem _⟩
    rw [e, ← ih n2]
theorem set_sel {m : Nat} {ys zs : List V} (h : IsSet m ys zs) (nd : ys.Nodup) (sub : zs.Sublist ys) : m < 2 ^ ys.length ∧ sel m ys = zs := by
  refine ⟨Nat.lt_pow_two_of_testBit m fun i hi => ?_, ?_⟩
  · cases c : m.testBit i with
    | false => rfl
    | true =>
      obtain ⟨x, hx, _⟩ := (h i).mp c
      rw [List.getElem?_eq_none hi] at hx
      cases hx
  · have e1 : sel m ys = ys.filter fun x => decide (x ∈ sel m ys) := sub_filter (sel_sub (m := m) ys 0) nd
    have e2 := sub_filter sub nd
    refine e1.trans (Eq.trans ?_ e2.symm)
    refine List.filter_congr fun x hx => ?_
    obtain ⟨i, hi⟩ := List.getElem?_of_mem hx
    rw [Bool.eq_iff_iff, decide_eq_true_eq, decide_eq_true_eq, ← sel_bit nd hi, h i]
    exact ⟨fun ⟨y, h1, h2⟩ => by rw [hi] at h1; cases h1; exact h2, fun z => ⟨x, hi, z⟩⟩
def Asc (st : V → Int) (fa : V → List Str) (ys : List V) : Prop := (ys.map fun v => (st v, fa v)).Pairwise (fun p q => KnA.rowLe p q = true)
theorem asc_strict {st : V → Int} {fa : V → List Str} {ys g : List V} (h : Asc st fa ys) (nd : (keysR st fa ys).Nodup) (sub : g.Sublist ys) : (g.map fun v => (st v, fa v)).Pairwise (fun p q => KnA.rowLe q p = false) := by
  have a : (g.map fun v => (st v, fa v)).Pairwise (fun p q => KnA.rowLe p q = true) := h.sublist (sub.map _)
  have b : (keysR st fa g).Nodup := nd.sublist (sub.map _)
  have b' : g.Pairwise fun x y => rk (st x) (fa x) ≠ rk (st y) (fa y) := List.pairwise_map.mp (show (g.map fun v => rk (st v) (fa v)).Nodup from b)
  refine List.pairwise_map.mpr ((List.pairwise_map.mp a).imp₂ (fun x y h1 h2 => ?_) b')
  cases c : KnA.rowLe (st y, fa y) (st x, fa x) with
  | false => rfl
  | true =>
    have := KnA.rowLe_anti h1 c
    exact (h2 (by rw [(Prod.mk.inj this).1, (Prod.mk.inj this).2])).elim
/-! ### items of any table -/
structure It where
  tp : Bool
  ds : List KnA.Dat
  nm : Int ⊕ Bool
def numV : Int ⊕ Bool → V
  | .inl n => .int n
  | .inr b => .bl b
def itO (it : It) (c : Addr) : HO := if it.tp = true then .tup [.ref c, numV it.nm] else .lst [.ref c, numV it.nm]
structure ItmP (H : Hp) (t c : Addr) (g : List V) (it : It) : Prop where
  at_ : H t = some (itO it c)
  gr : H c = some (.tup g)
  rows : RowsP H g it.ds
  good : ∀ d ∈ it.ds, GoodRow d.1 d.2
  few : it.ds.length ≤ 14
def ItmAt (H : Hp) (v : V) (it : It) : Prop := ∃ t c g, v = .ref t ∧ ItmP H t c g it
def stlD (ds : List KnA.Dat) : Bool := ds.all fun p => ds.all fun q => decide (p.2 = q.2)
def posI : Int ⊕ Bool → Bool
  | .inl n => decide (1 ≤ n)
  | .inr _ => false
def jItem (E : List KnA.Dat) (it : It) : Bool := it.tp && (posI it.nm && (it.ds.all (fun d => decide (d ∈ E)) && (adjR it.ds && !stlD it.ds)))
theorem ItmP.same {H H' : Hp} {t c : Addr} {g : List V} {it : It} (h : ItmP H t c g it) (s : Same H H') : ItmP H' t c g it := ⟨s _ _ h.at_, s _ _ h.gr, h.rows.ext fun _ _ z => s _ _ z, h.good, h.few⟩
def datsOf (st : V → Int) (fa : V → List Str) (ys : List V) : List KnA.Dat := ys.map fun v => (st v, fa v)
theorem place_in {st : V → Int} {fa : V → List Str} {ys : List V} (ndk : (keysR st fa ys).Nodup) (d : KnA.Dat) : (valV (plK st fa 0 ys) (rk d.1 d.2)).isSome = decide (d ∈ datsOf st fa ys) := by
  by_cases c : d ∈ datsOf st fa ys
  · rw [decide_eq_true c]
    obtain ⟨y, hy, rfl⟩ := List.mem_map.mp c
    obtain ⟨j, hj⟩ := List.getElem?_of_mem hy
    rw [valN_mem (by rw [plK_keys]; exact ndk) (plK_mem st fa (k := 0) hj)]; rfl
  · rw [decide_eq_false c]
    refine Bool.eq_false_iff.mpr fun z => c ?_
    have := valN_in.mp z
    rw [plK_keys] at this
    obtain ⟨y, hy, e⟩ := List.mem_map.mp this
    obtain ⟨e1, e2⟩ := rk_inj e
    exact List.mem_map.mpr ⟨y, hy, by rw [e1, e2]⟩
theorem stlD_set {st : V → Int} {fa : V → List Str} {m : Nat} {ys : List V} {ds : List KnA.Dat} (h : IsSetD st fa m ys ds) (sub : ∀ d ∈ ds, d ∈ datsOf st fa ys) : stl fa (sel m ys) = stlD ds := by
  have mem : ∀ x, x ∈ sel m ys → (st x, fa x) ∈ ds := fun x hx => by
    obtain ⟨i, h1, h2⟩ := sel_mem.mp hx
    rw [Nat.zero_add] at h2
    obtain ⟨y, h3, h4⟩ := (h i).mp h2
    rw [h1] at h3
    cases h3
    exact h4
  have back : ∀ d ∈ ds, ∃ x ∈ sel m ys, (st x, fa x) = d := fun d hd => by
    obtain ⟨y, hy, rfl⟩ := List.mem_map.mp (sub d hd)
    obtain ⟨j, hj⟩ := List.getElem?_of_mem hy
    exact ⟨y, sel_mem.mpr ⟨j, hj, by rw [Nat.zero_add]; exact (h j).mpr ⟨y, hj, hd⟩⟩, rfl⟩
  rw [Bool.eq_iff_iff]
  unfold stl stlD
  simp only [List.all_eq_true, decide_eq_true_eq]
  constructor
  · intro z p hp q hq
    obtain ⟨x, hx, rfl⟩ := back p hp
    obtain ⟨y, hy, rfl⟩ := back q hq
    exact z x hx y hy
  · intro z x hx y hy
    exact z _ (mem x hx) _ (mem y hy)
def sp_is_item {P : Program} {w : World} (_ : PySem.W.Frag) (C : Addr) : Sp := fun vs H Q _ => ∃ (a : Addr) (e : AEnv) (v : V) (it : It), vs = [.ref a, v] ∧ AskO C H a e ∧ GoodA e ∧ ItmAt H v it ∧ KnN.DNAt P w H e.pl (plK e.st e.fa 0 e.ys) ∧ (keysR e.st e.fa e.ys).Nodup ∧ ∀ H', Same H H' → Q (.bl (jItem (datsOf e.st e.fa e.ys) it)) H'
theorem ok_is_item {f : Addr} {C : Addr} {fd : FuncData} (T : Txt K mg C) (F : Fun K "is_item" "is_item" s_is_item f fd) (c_is_whole : Cal P w K mg base 1 "is_whole" (sp_is_whole K) []) (c_is_candidate : Cal P w K mg base 3 "is_candidate" (sp_is_candidate K) []) (c_is_ascending : Cal P w K mg base 1 "is_ascending" (sp_is_ascending K) []) (c_Asks_is_settled : C8.Met P w K mg base 3 C "is_settled" (sp_Asks_is_settled K C) []) (c_Asks_set_of : C8.Met P w K mg base 1 C "set_of" (sp_Asks_set_of (P := P) (w := w) K C) []) : FnOk P w K mg base CX0 5 f fd ["asks", "value"] (sp_is_item (P := P) (w := w) K C) := by
  have nd := sc_is_item.nd
  refine F.ok sc_is_item (fun vs H Q E h => ?_) (fun cdv A outer s H vs Q E hr h => ?_)
  · obtain ⟨a, e, v, p, rfl, _⟩ := h
    rfl
  · obtain ⟨a, e, v, it, rfl, o, g, ⟨t, c, gr, rfl, ip⟩, dn, ndk, q⟩ := h
    refine ⟨_, (pss_cons (ps_if (PW.pt (pw_or (pt_not (pt_val (pe_callB call_isi (by rfl) T.m_isinstance (by decide +kernel) (pa_cons (pv 1) (pa_cons (pe_bltn (v := .ty "tuple") (u := .type "tuple") (by rfl) T.m_tuple (by decide +kernel) rfl) pa_nil))))) (pw_or1 (pt_cmpR op_ne (pe_callB call_len (by rfl) T.m_len (by decide +kernel) (pa_cons (pv 1) pa_nil)) pe_int (nomark _))))) (pss_one (ps_ret pe_bl)) pss_nil)
      (pss_cons (ps_asg (pv 1) (pg_tup (by rfl) (pgs_cons (pg_name (i := 2) nd rfl (.inl rfl)) (pgs_cons (pg_name (i := 3) nd rfl (.inl rfl)) pgs_nil))))
      (pss_cons (ps_if (PW.pt (pw_or (pt_not (pt_val (pe_c c_is_whole hr (by omega) (by rfl) (pa_cons (pv 3) pa_nil)))) (pw_or (pt_cmpR op_lt (pv 3) pe_int (nomark _)) (pw_or1 (pt_not (pt_val (pe_callB call_isi (by rfl) T.m_isinstance (by decide +kernel) (pa_cons (pv 2) (pa_cons (pe_bltn (v := .ty "tuple") (u := .type "tuple") (by rfl) T.m_tuple (by decide +kernel) rfl) pa_nil))))))))) (pss_one (ps_ret pe_bl)) pss_nil)
      (pss_cons (ps_if (pt_not (pt_val (pe_callB (cr_all rfl) (by rfl) T.m_all (by decide +kernel) (pa_cons (pe_lc (own := [("candidate", 4)]) (g := gName 4) (tt := tYes) rfl nd (pi_tup (pv 2)) (blkOk_by (N := ["asks", "value", "candidates", "number", "candidate"]) (sc := defScope s_is_item) (by decide +kernel)) (fun _ _ _ _ _ => (pg_name (i := 4) nd rfl (.inl rfl))) (fun _ _ _ _ _ => pts_nil) (fun _ _ _ _ _ => (pe_and (pe_c c_is_candidate hr (by omega) (by rfl) (pa_cons (pv 4) pa_nil)) (pe_one (pe_cmp (show PC _ _ _ _ (KnN.tNIn P w (tVar 4) (tFld K (tVar 0) "places")) from KnN.pc_nin (KnC.un65 hr) (pv 4) (pe_fld (pv 0) rfl)) rfl))))) pa_nil)))) (pss_one (ps_ret pe_bl)) pss_nil)
      (pss_one (ps_ret (pe_and (pe_c c_is_ascending hr (by omega) (by rfl) (pa_cons (pv 2) pa_nil)) (pe_one (pe_not (C8.pe_mt c_Asks_is_settled hr (by omega) (pv 0) (pa_cons (C8.pe_mt c_Asks_set_of hr (by omega) (pv 0) (pa_cons (pv 2) pa_nil)) pa_nil))))))))))), ?_⟩
    have ht := ip.at_
    have hc := ip.gr
    unfold jItem at q
    unfold itO at ht
    cases tp : it.tp with
    | false =>
      rw [tp] at ht q
      rw [if_neg (by decide)] at ht
      refine ⟨.ref t, rfl, .ref t, .ty "tuple", .type "list", _, false, rfl, .ty _, .base (.lst ht), kit_ty (show kitB "list" "tuple" = some false by decide +kernel), _, rfl, iteT (q H (Same.refl H))⟩
    | true =>
    rw [tp] at ht q
    rw [if_pos rfl] at ht
    refine ⟨.ref t, rfl, .ref t, .ty "tuple", .type "tuple", _, true, rfl, .ty _, .base (.tup ht), kit_ty (show kitB "tuple" "tuple" = some true by decide +kernel), _, rfl, iteF ⟨.ref t, rfl, .ref t, 2, rfl, .inr ⟨_, .inl (.inl ht), rfl⟩, rfl, _, rfl, iteNS rfl ?_⟩⟩
    refine ⟨.ref t, rfl, t, _, rfl, .inl (.inl ht), rfl, .ref c, _, rfl, numV it.nm, [], rfl, rfl, ?_⟩
    cases nm : it.nm with
    | inr b =>
      rw [nm] at q
      refine ⟨.bl b, rfl, .bl b, rfl, .bl b, fun H1 s1 => ⟨_, rfl, ?_⟩⟩
      have wb : wholeB (.bl b) = false := by cases b <;> rfl
      rw [wb]
      exact iteT (q H1 s1)
    | inl n =>
    rw [nm] at q
    refine ⟨.int n, rfl, .int n, rfl, .int n, fun H1 s1 => ⟨_, rfl, ?_⟩⟩
    have wb : wholeB (.int n) = true := rfl
    rw [wb]
    refine iteF ⟨.int n, rfl, n, 1, rfl, rfl, _, rfl, ?_⟩
    by_cases n1 : n < 1
    · rw [decide_eq_true n1]
      have p1 : posI (.inl n) = false := decide_eq_false (by omega)
      rw [p1] at q
      exact iteT (q H1 s1)
    rw [decide_eq_false n1]
    have p1 : posI (.inl n) = true := decide_eq_true (by omega)
    rw [p1] at q
    refine iteF ⟨.ref c, rfl, .ref c, .ty "tuple", .type "tuple", _, true, rfl, .ty _, .base (.tup (s1 _ _ hc)), kit_ty (show kitB "tuple" "tuple" = some true by decide +kernel), _, rfl, iteF ?_⟩
    have lg : gr.length = it.ds.length := Paired.length ip.rows
    have l14 := ip.few
    refine ⟨.ref c, rfl, c, rfl, ⟨_, .inl (.inl (s1 _ _ hc))⟩, fun D nD => ?_⟩
    refine lc_tup (K := K) (a := c) (xs := gr) (fun i G => Same H1 G ∧ G D = some (.lst (((it.ds.take i).map fun d => decide (d ∈ datsOf e.st e.fa e.ys)).map V.bl))) ⟨same_upd nD, upd_same⟩ (fun i G _ hP => .inl (.inl (hP.1 _ _ (s1 _ _ hc)))) (fun i x G hx hP => ?_) (fun G hP => ?_)
    · obtain ⟨S, eD⟩ := hP
      have S1 := s1.trans S
      have hi : i < gr.length := (List.getElem?_eq_some_iff.mp hx).1
      obtain ⟨d, hd, rx⟩ := pairedGet (ip.same S1).rows hx
      have gd := ip.good d (List.mem_of_getElem? hd)
      refine ⟨rfl, ?_⟩
      unfold tYes
      refine iteT ⟨x, rfl, x, d.1, d.2, rfl, rx, gd, fun G2 s2 => ?_⟩
      have S2 := S1.trans s2
      obtain ⟨tx, ex, nk⟩ := row_nis (rx.ext fun t xs z => s2 _ _ z)
      refine ⟨_, rfl, iteT ⟨x, rfl, .ref a, rfl, a, C, _, _, _, rfl, (o.mono S2).ob, T.cl_Asks, T.n_places, af_p _ _ _ _ _, e.pl, _, _, tx, rfl, ex, dn.mono S2, nk, rk_depth _ _, ?_⟩⟩
      rw [place_in ndk]
      refine ⟨_, s2 _ _ eD, small (by rw [List.length_map, List.length_map, List.length_take]; omega), same_set nD (S.trans s2), ?_⟩
      rw [upd_same, take_more hd, List.map_append, List.map_append]; rfl
    · obtain ⟨S, eD⟩ := hP
      rw [lg, List.take_length] at eD
      refine ⟨D, _, rfl, .inl (.inl eD), ?_⟩
      rw [List.all_map]
      have S1 := s1.trans S
      have q2 : (it.ds.all (id ∘ fun d => decide (d ∈ datsOf e.st e.fa e.ys))) = it.ds.all fun d => decide (d ∈ datsOf e.st e.fa e.ys) := rfl
      rw [q2]
      cases al : it.ds.all fun d => decide (d ∈ datsOf e.st e.fa e.ys) with
      | false =>
        rw [al] at q
        exact ⟨_, rfl, iteT (q G S1)⟩
      | true =>
      rw [al] at q
      have o1 := o.mono S1
      have sub : ∀ d ∈ it.ds, d ∈ datsOf e.st e.fa e.ys := fun d hd => of_decide_eq_true (List.all_eq_true.mp al d hd)
      refine ⟨_, rfl, iteF ⟨.ref c, rfl, .inr ⟨c, gr, it.ds, rfl, S1 _ _ hc, (ip.same S1).rows, by omega, fun H2 s2 => ?_⟩⟩⟩
      have S2 := S1.trans s2
      cases ad : adjR it.ds with
      | false =>
        rw [ad] at q
        exact ⟨_, rfl, iteF (q H2 S2)⟩
      | true =>
      rw [ad] at q
      have o2 := o.mono S2
      have nam : ∀ {x : Str}, x ≠ "candidates" → x ≠ "places" → x ≠ "whole" → x ≠ "yes" → x ≠ "needs" → (aflds e.c e.pl e.y e.n ((2 ^ e.ys.length - 1 : Nat) : Int)).lookup x = none := fun h1 h2 h3 h4 h5 => af_none _ _ _ _ _ h1 h2 h3 h4 h5
      refine ⟨_, rfl, iteT ⟨.ref a, rfl, a, _, _, rfl, o2.ob, nam (by decide +kernel) (by decide +kernel) (by decide +kernel) (by decide +kernel) (by decide +kernel), .ref a, rfl, a, _, _, rfl, o2.ob, nam (by decide +kernel) (by decide +kernel) (by decide +kernel) (by decide +kernel) (by decide +kernel), .ref c, rfl, false, a, c, _, e.pl, _, e.ys, gr, e.st, e.fa, it.ds, rfl, o2.ob, af_p _ _ _ _ _, dn.mono S2, S2 _ _ hc, (ip.same S2).rows, fun d hd => (List.mem_map.mp (sub d hd)).elim fun y hy => ⟨y, hy.1, hy.2.symm⟩, ndk, g.few, fun H3 m s3 im => ?_⟩⟩
      refine ⟨a, e, m, rfl, (o2.mono s3).f, g, fun H4 s4 => ?_⟩
      rw [stlD_set im sub]
      exact ⟨_, rfl, q H4 (S2.trans (s3.trans s4))⟩

end
end Kn

set_option Elab.async false
set_option linter.all false
set_option maxRecDepth 100000
set_option maxHeartbeats 4000000
namespace Kn
open PySem PySem.Spec PyProof.Rows L2
open C8 (Cal pe_c pe_gc Mak pe_mk)
section
variable {P : Program} {w : World} {K : PySem.W.Frag} {mg : Str → Option Value} {base : Heap}
/-! ### the judge of any table, on data -/
abbrev Ent := List KnA.Dat × Nat
def numN : Int ⊕ Bool → Nat
  | .inl n => n.toNat
  | .inr _ => 0
def entOf (it : It) : Ent := (it.ds, numN it.nm)
def maxD : List Ent → List KnA.Dat → Nat
  | [], _ => 0
  | p :: r, g => if p.1 = g then max p.2 (maxD r g) else maxD r g
def yesD (ss : List Int) (ds : List KnA.Dat) : List KnA.Dat := ds.filter fun d => decide (d.1 ∈ ss)
def noD (ss : List Int) (ds : List KnA.Dat) : List KnA.Dat := ds.filter fun d => !decide (d.1 ∈ ss)
def stepD (es : List Ent) (p : Ent) (ss : List Int) : Bool := decide (p.2 ≤ 1 + max (maxD es (yesD ss p.1)) (maxD es (noD ss p.1)))
def jTable (E : List KnA.Dat) (pl : List (List Int)) (many : Nat) (its : List It) : Bool :=
  its.all (jItem E) && ((its.map entOf).all (fun p => pl.all fun ss => stepD (its.map entOf) p ss) && decide (many < maxD (its.map entOf) E))
theorem maxD_snoc (p : Ent) (g : List KnA.Dat) : ∀ es : List Ent, maxD (es ++ [p]) g = if p.1 = g then max (maxD es g) p.2 else maxD es g
  | [] => by
    show (if p.1 = g then max p.2 0 else 0) = if p.1 = g then max 0 p.2 else 0
    rw [Nat.max_comm]
  | q :: r => by
    show (if q.1 = g then max q.2 (maxD (r ++ [p]) g) else maxD (r ++ [p]) g) = if p.1 = g then max (if q.1 = g then max q.2 (maxD r g) else maxD r g) p.2 else (if q.1 = g then max q.2 (maxD r g) else maxD r g)
    rw [maxD_snoc p g r]
    by_cases a : q.1 = g <;> by_cases b : p.1 = g
    · rw [if_pos a, if_pos a, if_pos b, if_pos b, Nat.max_assoc]
    · rw [if_pos a, if_pos a, if_neg b, if_neg b]
    · simp only [if_neg a, if_pos b]
    · simp only [if_neg a, if_neg b]
theorem maxD_ge {p : Ent} : ∀ {es : List Ent}, p ∈ es → p.2 ≤ maxD es p.1
  | [], h => nomatch h
  | q :: r, h => by
    show p.2 ≤ if q.1 = p.1 then max q.2 (maxD r p.1) else maxD r p.1
    rcases List.mem_cons.mp h with e | h
    · rw [← e, if_pos rfl]; exact Nat.le_max_left _ _
    · have ih := maxD_ge h
      by_cases a : q.1 = p.1
      · rw [if_pos a]; exact Nat.le_trans ih (Nat.le_max_right _ _)
      · rw [if_neg a]; exact ih
theorem maxD_in {g : List KnA.Dat} : ∀ {es : List Ent}, 1 ≤ maxD es g → ∃ p ∈ es, p.1 = g ∧ p.2 = maxD es g
  | [], h => absurd h (by show ¬ 1 ≤ 0; omega)
  | q :: r, h => by
    by_cases a : q.1 = g
    · have e : maxD (q :: r) g = max q.2 (maxD r g) := if_pos a
      rw [e] at h ⊢
      by_cases c : maxD r g ≤ q.2
      · exact ⟨q, List.mem_cons_self, a, (Nat.max_eq_left c).symm⟩
      · obtain ⟨p, hp, e1, e2⟩ := maxD_in (es := r) (g := g) (by omega)
        exact ⟨p, List.mem_cons_of_mem _ hp, e1, by rw [e2]; omega⟩
    · have e : maxD (q :: r) g = maxD r g := if_neg a
      rw [e] at h ⊢
      obtain ⟨p, hp, e1, e2⟩ := maxD_in h
      exact ⟨p, List.mem_cons_of_mem _ hp, e1, e2⟩
theorem rowLe_self (d : KnA.Dat) : KnA.rowLe d d = true := (KnA.rowLe_total d d).elim id id
/-- ascending: pairwise -/
theorem adj_pair : ∀ {ds : List KnA.Dat}, adjR ds = true → ds.Pairwise fun p q => KnA.rowLe q p = false
  | [], _ => .nil
  | [a], _ => List.pairwise_cons.mpr ⟨fun _ h => (nomatch h), .nil⟩
  | a :: b :: r, h => by
    have h' : (!KnA.rowLe b a && adjR (b :: r)) = true := h
    rw [Bool.and_eq_true, Bool.not_eq_true'] at h'
    have ih := adj_pair h'.2
    refine List.pairwise_cons.mpr ⟨fun x hx => ?_, ih⟩
    rcases List.mem_cons.mp hx with rfl | hx
    · exact h'.1
    · have b1 := (List.pairwise_cons.mp ih).1 x hx
      refine Bool.eq_false_iff.mpr fun z => ?_
      have bx : KnA.rowLe b x = true := by
        rcases KnA.rowLe_total b x with w | w
        · exact w
        · rw [b1] at w; cases w
      have := KnA.rowLe_trans bx z
      rw [h'.1] at this; cases this
theorem strict_le {p q : KnA.Dat} (h : KnA.rowLe q p = false) : KnA.rowLe p q = true := by
  rcases KnA.rowLe_total p q with w | w
  · exact w
  · rw [h] at w; cases w
theorem strict_nd {ds : List KnA.Dat} (h : ds.Pairwise fun p q => KnA.rowLe q p = false) : ds.Nodup := h.imp fun {p q} z e => by
  rw [e, rowLe_self] at z; cases z
/-- two ascending rows with the same members -/
theorem asc_eq {xs ys : List KnA.Dat} (hx : xs.Pairwise fun p q => KnA.rowLe q p = false) (hy : ys.Pairwise fun p q => KnA.rowLe q p = false) (m : ∀ d, d ∈ xs ↔ d ∈ ys) : xs = ys :=
  KnA.rows_one (hx.imp strict_le) (hy.imp strict_le) ((List.perm_ext_iff_of_nodup (strict_nd hx) (strict_nd hy)).mpr m)
theorem datsOf_sel {st : V → Int} {fa : V → List Str} {m : Nat} {ys : List V} {ds : List KnA.Dat} (h : IsSetD st fa m ys ds) (asc : Asc st fa ys) (ndk : (keysR st fa ys).Nodup) (sub : ∀ d ∈ ds, d ∈ datsOf st fa ys) (ad : adjR ds = true) : m < 2 ^ ys.length ∧ datsOf st fa (sel m ys) = ds := by
  refine ⟨Nat.lt_pow_two_of_testBit m fun i hi => ?_, ?_⟩
  · cases c : m.testBit i with
    | false => rfl
    | true =>
      obtain ⟨x, hx, _⟩ := (h i).mp c
      rw [List.getElem?_eq_none hi] at hx
      cases hx
  · refine asc_eq (asc_strict asc ndk (sel_sub (m := m) ys 0)) (adj_pair ad) fun d => ?_
    constructor
    · intro hd
      obtain ⟨x, hx, rfl⟩ := List.mem_map.mp hd
      obtain ⟨i, h1, h2⟩ := sel_mem.mp hx
      rw [Nat.zero_add] at h2
      obtain ⟨y, h3, h4⟩ := (h i).mp h2
      rw [h1] at h3
      cases h3
      exact h4
    · intro hd
      obtain ⟨y, hy, rfl⟩ := List.mem_map.mp (sub d hd)
      obtain ⟨j, hj⟩ := List.getElem?_of_mem hy
      exact List.mem_map.mpr ⟨y, sel_mem.mpr ⟨j, hj, by rw [Nat.zero_add]; exact (h j).mpr ⟨y, hj, hd⟩⟩, rfl⟩
theorem dats_yes {st : V → Int} {fa : V → List Str} (ss : List Int) (g : List V) : datsOf st fa (yesG st ss g) = yesD ss (datsOf st fa g) := by
  unfold datsOf yesG yesD
  rw [List.filter_map]; rfl
theorem dats_no {st : V → Int} {fa : V → List Str} (ss : List Int) (g : List V) : datsOf st fa (noG st ss g) = noD ss (datsOf st fa g) := by
  unfold datsOf noG noD
  rw [List.filter_map]; rfl
theorem dats_inj {st : V → Int} {fa : V → List Str} {ys : List V} (ndk : (keysR st fa ys).Nodup) {m m' : Nat} (a : m < 2 ^ ys.length) (b : m' < 2 ^ ys.length) (e : datsOf st fa (sel m ys) = datsOf st fa (sel m' ys)) : m = m' := by
  refine sel_inj (ys_nd ndk) a b (groups_inj ndk (fun x hx => (sel_sub (m := m) ys 0).subset hx) (fun x hx => (sel_sub (m := m') ys 0).subset hx) ?_)
  have f : ∀ l : List V, keysR st fa l = (datsOf st fa l).map fun p : KnA.Dat => rk p.1 p.2 := fun l => by
    unfold datsOf; rw [List.map_map]; rfl
  rw [f, f, e]
/-- the numbers by set that a table gives -/
structure NumsOf (e : AEnv) (ns : List (Nat × Nat)) (es : List Ent) : Prop where
  nd : (ns.map (·.1)).Nodup
  lt : ∀ p ∈ ns, p.1 < 2 ^ e.ys.length
  at_ : ∀ m, m < 2 ^ e.ys.length → numAt ns m = maxD es (datsOf e.st e.fa (sel m e.ys))
  few : ns.length ≤ es.length
theorem NumsOf.put {e : AEnv} {ns : List (Nat × Nat)} {es : List Ent} (h : NumsOf e ns es) (ndk : (keysR e.st e.fa e.ys).Nodup) {p : Ent} {m : Nat} (lt : m < 2 ^ e.ys.length) (em : datsOf e.st e.fa (sel m e.ys) = p.1) : NumsOf e (setN ns m (max p.2 (numAt ns m))) (es ++ [p]) := by
  refine ⟨setN_nd h.nd _ _, fun q hq => ?_, fun k hk => ?_, ?_⟩
  · rcases setN_mem hq with rfl | ⟨hq, _⟩
    · exact lt
    · exact h.lt q hq
  · rw [numAt_set h.nd, maxD_snoc, h.at_ m lt, em]
    by_cases c : k = m
    · rw [if_pos c, c, em, if_pos rfl, Nat.max_comm]
    · rw [if_neg c, if_neg fun z => c (dats_inj ndk hk lt (z.symm.trans em.symm)), h.at_ k hk]
  · have l := congrArg List.length (setN_names ns m (max p.2 (numAt ns m)))
    rw [List.length_map] at l
    rw [l, List.length_append]
    show _ ≤ es.length + 1
    have := h.few
    by_cases c : m ∈ ns.map (·.1)
    · rw [if_pos c, List.length_map]; omega
    · rw [if_neg c, List.length_append, List.length_map]; show ns.length + 1 ≤ _; omega
def okN (ns : List (Nat × Nat)) (m n : Nat) (y : Nat) : Prop := 2 ≤ n → n ≤ 1 + max (numAt ns (m &&& y)) (numAt ns (m - (m &&& y)))
theorem nums_step {e : AEnv} {ns : List (Nat × Nat)} {es : List Ent} (h : NumsOf e ns es) (g : GoodA e) {y : Yes} (hy : y ∈ e.ms) {p : Nat × Nat} (hp : p ∈ ns) {q : Ent} (hq : q.1 = datsOf e.st e.fa (sel p.1 e.ys)) : stepD es q y.2.2 = decide (q.2 ≤ 1 + max (numAt ns (p.1 &&& y.2.1)) (numAt ns (p.1 - (p.1 &&& y.2.1)))) := by
  have yo := g.ok y hy
  have le := (KnA.sub_test p.1 y.2.1).1
  have lt := h.lt p hp
  unfold stepD
  rw [hq, ← dats_yes, ← dats_no, ← sel_and yo, ← sel_diff yo, h.at_ _ (by omega), h.at_ _ (by omega)]

end
end Kn

set_option Elab.async false
set_option linter.all false
set_option maxRecDepth 100000
set_option maxHeartbeats 4000000
namespace Kn
open PySem PySem.Spec PyProof.Rows L2
open C8 (Cal pe_c pe_gc Mak pe_mk)
section
variable {P : Program} {w : World} {K : PySem.W.Frag} {mg : Str → Option Value} {base : Heap}
theorem for_keys {d : Addr} {o : Obj} {kvs : List (Key × V)} {g : TG} {tb : TS} {D : Ends} {σ : L2.St} {H : Hp} (Pv : Nat → L2.St → Hp → Prop) (h0 : Pv 0 σ H) (hl : ∀ i σ H, i ≤ kvs.length → Pv i σ H → H d = some (.frz o (.dK kvs)))
    (hs : ∀ (i : Nat) (k : Key) (v : V) (σ : L2.St) (H : Hp), kvs[i]? = some (k, v) → Pv i σ H → g (kV k) σ H fun σ2 H2 => tb { D with nx := Pv (i + 1), ct := Pv (i + 1), bk := D.nx } σ2 H2) (hd : ∀ σ H, Pv kvs.length σ H → D.nx σ H) :
    ∃ W : Nat → Nat → L2.St → Hp → Prop, (∃ m, W 0 m σ H) ∧ ∀ i m σ H, W i m σ H →
      ((Itk d o kvs).stop i H ∧ D.nx σ H) ∨ ((Itk d o kvs).go i H ∧ ∃ N : L2.St → Hp → Prop, (∀ σ' H', N σ' H' → ∃ m', m' < m ∧ W (i + 1) m' σ' H') ∧ ∀ x H', (Itk d o kvs).yld i H x H' → g x σ H' fun σ2 H2 => tb { D with nx := N, ct := N, bk := D.nx } σ2 H2) := by
  refine ⟨fun i m σ H => m = kvs.length - i ∧ i ≤ kvs.length ∧ Pv i σ H, ⟨kvs.length, rfl, Nat.zero_le _, h0⟩, fun i m σ H ⟨em, hi, p⟩ => ?_⟩
  have q := hl i σ H hi p
  rcases Nat.lt_or_eq_of_le hi with lt | e
  · refine .inr ⟨⟨q, lt⟩, Pv (i + 1), fun σ' H' p' => ⟨kvs.length - (i + 1), by omega, rfl, lt, p'⟩, fun v H' ⟨eH, k, u, ek, ev⟩ => ?_⟩
    subst ev eH
    exact hs i k u σ _ ek p
  · subst e
    exact .inl ⟨⟨q, Nat.le_refl _⟩, hd σ H p⟩

theorem dat_inj {st : V → Int} {fa : V → List Str} {bs g h : List V} (nd : (keysR st fa bs).Nodup) (hg : ∀ x ∈ g, x ∈ bs) (hh : ∀ x ∈ h, x ∈ bs) (e : (g.map fun v => (st v, fa v)) = h.map fun v => (st v, fa v)) : g = h := by
  refine groups_inj nd hg hh ?_
  have a : ∀ l : List V, keysR st fa l = (l.map fun v => (st v, fa v)).map fun p : Int × List Str => rk p.1 p.2 := fun l => by
    rw [List.map_map]; rfl
  rw [a, a, e]
theorem unlock {G H' : Hp} {d : Addr} {o : HO} (hd : G d = some o) (k : ∀ b x, b ≠ d → G b = some x → H' b = some x) : Same G (upd H' d o) := fun b x e => by
  by_cases z : b = d
  · rw [z] at e ⊢
    rw [hd] at e
    cases e
    exact upd_same
  · rw [upd_ne z]; exact k b x z e
def sp_is_answers (_ : PySem.W.Frag) (_ : Addr) : Sp := fun vs H Q _ => ∃ (r d l : Addr) (b : Bool) (xs ws ys : List V) (st : V → Int) (fa : V → List Str) (ps : List Prb) (many : Nat) (its : List It), vs = [.ref r, .ref d, .int (many : Int), .ref l] ∧ many ≤ 10 ∧ H r = some (rowO b xs) ∧ Rows H xs st fa ∧ (keysR st fa xs).Nodup ∧ 1 ≤ xs.length ∧ xs.length ≤ 10 ∧ Probes H d ps ∧ GoodP ps ∧
  H l = some (.lst ws) ∧ Paired (ItmAt H) ws its ∧ its.length ≤ 2000 ∧ ys.Perm xs ∧ Asc st fa ys ∧ ∀ H', Same H H' → Q (.bl (jTable (datsOf st fa ys) (ps.map (·.2.2)) many its)) H'
theorem itmsAt {H H' : Hp} (s : Same H H') {vs : List V} {its : List It} (h : Paired (ItmAt H) vs its) : Paired (ItmAt H') vs its := by
  induction h with
  | nil => exact .nil
  | cons a _ ih =>
    obtain ⟨t, c, g, e, p⟩ := a
    exact .cons ⟨t, c, g, e, p.same s⟩ ih
theorem ok_is_answers {f : Addr} {C : Addr} {fd : FuncData} (T : Txt K mg C) (F : Fun K "is_answers" "is_answers" s_is_answers f fd) (c_check_rows : Cal P w K mg base 4 "check_rows" (sp_check_rows K) []) (c_check_probes : Cal P w K mg base 3 "check_probes" (sp_check_probes K) []) (c_check_count : Cal P w K mg base 2 "check_count" (sp_check_count K) []) (c_Asks_init : Mak P w K mg base 3 "Asks" C (sp_Asks_init (P := P) (w := w) K C) []) (c_is_item : Cal P w K mg base 5 "is_item" (sp_is_item (P := P) (w := w) K C) []) (c_Asks_set_of : C8.Met P w K mg base 1 C "set_of" (sp_Asks_set_of (P := P) (w := w) K C) []) (c_Asks_parts_by : C8.Met P w K mg base 1 C "parts_by" (sp_Asks_parts_by K C) []) : FnOk P w K mg base CX0 6 f fd ["rows", "probes", "many", "thing"] (sp_is_answers K C) := by
  have nd_ := sc_is_answers.nd
  have nd := nd_
  refine F.ok sc_is_answers (fun vs H Q E h => ?_) (fun cdv A outer s H vs Q E hr h => ?_)
  · obtain ⟨r, d, l, b, xs, ws, ys, st, fa, ps, many, its, rfl, _⟩ := h
    rfl
  · obtain ⟨r, d, l, b, xs, ws, ys, st, fa, ps, many, its, rfl, m10, hR, R, ndk, lo, few, P0, gp, hl, pw, les, pys, asc, q⟩ := h
    refine ⟨_, (pss_cons (ps_expr (pe_c c_check_rows hr (by omega) (by rfl) (pa_cons (pv 0) pa_nil)))
      (pss_cons (ps_expr (pe_c c_check_probes hr (by omega) (by rfl) (pa_cons (pv 1) pa_nil)))
      (pss_cons (ps_expr (pe_c c_check_count hr (by omega) (by rfl) (pa_cons (pv 2) (pa_cons (pe_gc (by rfl) T.c_MOST_ASKS) pa_nil))))
      (pss_cons (ps_set (i := 4) nd rfl (.inr rfl) (pe_mk c_Asks_init hr (by omega) (by rfl) (pa_cons (pv 0) (pa_cons (pv 1) pa_nil))))
      (pss_cons (ps_if (PW.pt (pw_or (pt_not (pt_val (pe_callB call_isi (by rfl) T.m_isinstance (by decide +kernel) (pa_cons (pv 3) (pa_cons (pe_bltn (v := .ty "list") (u := .type "list") (by rfl) T.m_list (by decide +kernel) rfl) pa_nil))))) (pw_or1 (pt_not (pt_val (pe_callB (cr_all rfl) (by rfl) T.m_all (by decide +kernel) (pa_cons (pe_lc (own := [("item", 12)]) (g := gName 12) (tt := tYes) rfl nd (pi_list (pv 3)) (blkOk_by (N := ["rows", "probes", "many", "thing", "asks", "numbers", "candidates", "number", "chosen", "name", "part", "other", "item"]) (sc := defScope s_is_answers) (by decide +kernel)) (fun _ _ _ _ _ => (pg_name (i := 12) nd rfl (.inl rfl))) (fun _ _ _ _ _ => pts_nil) (fun _ _ _ _ _ => (pe_c c_is_item hr (by omega) (by rfl) (pa_cons (pv 4) (pa_cons (pv 12) pa_nil))))) pa_nil))))))) (pss_one (ps_ret pe_bl)) pss_nil)
      (pss_cons (ps_set (i := 5) nd rfl (.inl rfl) pe_dnewK)
      (pss_cons (ps_for PassesOwn.never rfl (pi_list (pv 3)) (pg_tup (by rfl) (pgs_cons (pg_name (i := 6) nd rfl (.inl rfl)) (pgs_cons (pg_name (i := 7) nd rfl (.inl rfl)) pgs_nil))) (pss_cons (ps_set (i := 8) nd rfl (.inl rfl) (C8.pe_mt c_Asks_set_of hr (by omega) (pv 4) (pa_cons (pv 6) pa_nil)))
      (pss_one (ps_dput (hu_of hr) (pv 5) (pv 8) (pe_callB (call_max2 rfl) (by rfl) T.m_max (by decide +kernel) (pa_cons (pv 7) (pa_cons (pe_dget2 (hu_of hr) (pv 5) (pv 8) pe_int ⟨rfl, rfl, rfl, rfl⟩) pa_nil))) rfl))))
      (pss_cons (ps_lock (ps_for PassesOwn.never rfl (pi_items (pv 5)) (pg_tup (by rfl) (pgs_cons (pg_name (i := 8) nd rfl (.inl rfl)) (pgs_cons (pg_name (i := 7) nd rfl (.inl rfl)) pgs_nil))) (pss_one (ps_lock (ps_for PassesOwn.never rfl (pi_keys (pe_fld (pv 4) rfl)) (pg_name (i := 9) nd rfl (.inl rfl)) (pss_cons (ps_asg (C8.pe_mt c_Asks_parts_by hr (by omega) (pv 4) (pa_cons (pv 9) (pa_cons (pv 8) pa_nil))) (pg_tup (by rfl) (pgs_cons (pg_name (i := 10) nd rfl (.inl rfl)) (pgs_cons (pg_name (i := 11) nd rfl (.inl rfl)) pgs_nil))))
      (pss_one (ps_if (PW.pt (pw_and (pt_cmpR op_ge (pv 7) pe_int (nomark _)) (pw_and1 (pt_cmpR op_lt (pe_callB (call_max2 rfl) (by rfl) T.m_max (by decide +kernel) (pa_cons (pe_dget2 (hu_of hr) (pv 5) (pv 10) pe_int ⟨rfl, rfl, rfl, rfl⟩) (pa_cons (pe_dget2 (hu_of hr) (pv 5) (pv 11) pe_int ⟨rfl, rfl, rfl, rfl⟩) pa_nil))) (pe_op op_sub (pv 7) pe_int) (nomark _))))) (pss_one (ps_ret pe_bl)) pss_nil))))))))
      (pss_one (ps_ret (pe_cmpR op_gt (pe_dget2 (hu_of hr) (pv 5) (pe_fld (pv 4) rfl) pe_int ⟨rfl, rfl, rfl, rfl⟩) (pv 2) (nomark _)))))))))))), ?_⟩
    refine ⟨.ref r, rfl, b, r, xs, st, fa, rfl, hR, R, ndk, lo, few, fun H1 s1 => ?_⟩
    refine ⟨.ref d, rfl, d, ps, rfl, P0.mono s1, gp, fun H2 s2' => ?_⟩
    have s2 := s1.trans s2'
    refine ⟨.int (many : Int), rfl, (many : Int), 10, rfl, by omega, by omega, fun H2b s2b => ?_⟩
    replace s2 := s2.trans s2b
    refine ⟨.ref r, rfl, .ref d, rfl, fun a dx na ndx ne => ?_⟩
    have s3a : Same H2b (upd (upd H2b dx (.own a)) a (.ins C dx [])) := fun y o e => by rw [upd_ne (ne_of_none e na), upd_ne (ne_of_none e ndx)]; exact e
    have s3 := s2.trans s3a
    have ea : (upd (upd H2b dx (.own a)) a (.ins C dx [])) a = some (.ins C dx []) := upd_same
    have naH : H a = none := s2.free na
    generalize upd (upd H2b dx (.own a)) a (.ins C dx []) = H3 at s3 ea ⊢
    refine ⟨a, dx, r, d, b, xs, st, fa, ps, rfl, ea, s3 _ _ hR, R.mono s3, ndk, lo, few, P0.mono s3, gp, fun H4 e k4 o g mm es' ef pm lp nn pn yp en0 so dn => ⟨rfl, ?_⟩⟩
    subst es' ef
    have eys : e.ys = ys := dat_inj ndk (fun x hx => pm.subset hx) (fun x hx => pys.subset hx) (KnA.rows_one so asc ((pm.trans pys.symm).map _))
    subst eys
    have ndk' : (keysR e.st e.fa e.ys).Nodup := List.Perm.nodup ((pm.map fun v => rk (e.st v) (e.fa v)).symm) ndk
    have S : Same H H4 := fun y x z => k4 y x (s3 _ _ z) (ne_of_none z naH)
    have nam : ∀ {x : Str}, x ≠ "candidates" → x ≠ "places" → x ≠ "whole" → x ≠ "yes" → x ≠ "needs" → (aflds e.c e.pl e.y e.n ((2 ^ e.ys.length - 1 : Nat) : Int)).lookup x = none := fun h1 h2 h3 h4 h5 => af_none _ _ _ _ _ h1 h2 h3 h4 h5
    have hl4 := S _ _ hl
    have pw4 : Paired (ItmAt H4) ws its := itmsAt S pw
    have lws := Paired.length pw
    refine ⟨.ref l, rfl, .ref l, .ty "list", .type "list", _, true, rfl, .ty _, .base (.lst hl4), kit_ty (show kitB "list" "list" = some true by decide +kernel), _, rfl, iteF ⟨.ref l, rfl, l, rfl, ⟨_, .inl (.inl hl4)⟩, fun D nD => ?_⟩⟩
    refine lc_list (K := K) (a := l) (xs := ws) (fun i G => Same H4 G ∧ G D = some (.lst (((its.take i).map (jItem (datsOf e.st e.fa e.ys))).map V.bl))) ⟨same_upd nD, upd_same⟩ (fun i G _ hP => .inl (.inl (hP.1 _ _ hl4))) (fun i x G hx hP => ?_) (fun G hP => ?_)
    · obtain ⟨S1, eD⟩ := hP
      have hi : i < ws.length := (List.getElem?_eq_some_iff.mp hx).1
      obtain ⟨it, hp, ip⟩ := pairedGet (itmsAt S1 pw4) hx
      refine ⟨rfl, ?_⟩
      unfold tYes
      refine iteT ⟨.ref a, rfl, x, rfl, a, e, x, it, rfl, o.mono S1, g, ip, dn.mono S1, ndk', fun G2 s2 => ?_⟩
      refine ⟨_, s2 _ _ eD, small (by rw [List.length_map, List.length_map, List.length_take]; omega), same_set nD (S1.trans s2), ?_⟩
      rw [upd_same, take_more hp, List.map_append, List.map_append]; rfl
    · obtain ⟨S1, eD⟩ := hP
      rw [lws, List.take_length] at eD
      refine ⟨D, _, rfl, .inl (.inl eD), ?_⟩
      have q2 : (its.map (jItem (datsOf e.st e.fa e.ys))).all id = its.all (jItem (datsOf e.st e.fa e.ys)) := by rw [List.all_map]; rfl
      rw [q2]
      unfold jTable at q
      cases al : its.all (jItem (datsOf e.st e.fa e.ys)) with
      | false =>
        rw [al] at q
        exact ⟨_, rfl, iteT (q G (S.trans S1))⟩
      | true =>
      rw [al] at q
      have good : ∀ it ∈ its, it.tp = true ∧ (∃ n : Nat, it.nm = .inl (n : Int) ∧ 1 ≤ n ∧ (entOf it).2 = n) ∧ (∀ d ∈ it.ds, d ∈ datsOf e.st e.fa e.ys) ∧ adjR it.ds = true := fun it hit => by
        have h := List.all_eq_true.mp al it hit
        unfold jItem at h
        rw [Bool.and_eq_true, Bool.and_eq_true, Bool.and_eq_true, Bool.and_eq_true] at h
        obtain ⟨h1, h2, h3, h4, _⟩ := h
        refine ⟨h1, ?_, fun d hd => of_decide_eq_true (List.all_eq_true.mp h3 d hd), h4⟩
        unfold entOf
        cases nm : it.nm with
        | inr b => rw [nm] at h2; cases h2
        | inl n =>
          rw [nm] at h2
          have n1 : 1 ≤ n := of_decide_eq_true h2
          exact ⟨n.toNat, by rw [Int.toNat_of_nonneg (by omega)], by omega, rfl⟩
      refine ⟨_, rfl, iteF fun D2 nD2 => ?_⟩
      have S2 := S1.trans (same_upd (o := .dK []) nD2)
      have nD24 : H4 D2 = none := S1.free nD2
      have eD2 : (upd G D2 (.dK [])) D2 = some (.dK []) := upd_same
      generalize upd G D2 (.dK []) = G2 at S2 eD2 ⊢
      clear eD q2
      refine ⟨.ref l, rfl, l, rfl, ⟨_, .inl (.inl (S2 _ _ hl4))⟩, ?_⟩
      refine for_list (K := K) (a := l) (xs := ws) (fun i σ G' => ∃ (y6 y7 y8 : Option V) (ns : List (Nat × Nat)), σ = [some (.ref r), some (.ref d), some (.int (many : Int)), some (.ref l), some (.ref a), some (.ref D2), y6, y7, y8, none, none, none, none] ∧ Same H4 G' ∧ G' D2 = some (.dK (nkv ns)) ∧ NumsOf e ns ((its.take i).map entOf) ∧ ∀ it ∈ its.take i, ∃ m ∈ ns.map (·.1), datsOf e.st e.fa (sel m e.ys) = it.ds)
        ⟨none, none, none, [], rfl, S2, eD2, ⟨List.Pairwise.nil, (fun p hp => nomatch hp), fun m _ => rfl, Nat.le_refl _⟩, fun p hp => nomatch hp⟩ (fun i σ G' _ hP => .inl (.inl (hP.choose_spec.choose_spec.choose_spec.choose_spec.2.1 _ _ hl4))) (fun i x σ G' hx hP => ?_) (fun σ G' hP => ?_)
      · obtain ⟨y6, y7, y8, ns, rfl, S', eD', nn', kn⟩ := hP
        have hi : i < ws.length := (List.getElem?_eq_some_iff.mp hx).1
        obtain ⟨it, hp, t, ga, gr, rfl, ip⟩ := pairedGet (itmsAt S' pw4) hx
        have mem := List.mem_of_getElem? hp
        obtain ⟨tp, ⟨n, nm, n1, en⟩, sub, ad⟩ := good it mem
        have o' := o.mono S'
        have ht := ip.at_
        unfold itO at ht
        rw [if_pos tp, nm] at ht
        refine ⟨t, _, rfl, .inl (.inl ht), rfl, .ref ga, _, rfl, .int (n : Int), [], rfl, rfl, ?_⟩
        refine ⟨.ref a, rfl, a, _, _, rfl, o'.ob, nam (by decide +kernel) (by decide +kernel) (by decide +kernel) (by decide +kernel) (by decide +kernel), .ref ga, rfl, false, a, ga, _, e.pl, _, e.ys, gr, e.st, e.fa, it.ds, rfl, o'.ob, af_p _ _ _ _ _, dn.mono S', ip.gr, ip.rows, fun d hd => (List.mem_map.mp (sub d hd)).elim fun y hy => ⟨y, hy.1, hy.2.symm⟩, ndk', g.few, fun H5 m s5 im => ?_⟩
        obtain ⟨lt, es'⟩ := datsOf_sel im so ndk' sub ad
        have eD5 := s5 _ _ eD'
        refine ⟨.int (n : Int), rfl, .ref D2, rfl, D2, rfl, .inl ⟨_, .inl eD5⟩, .int (m : Int), rfl, valV (nkv ns) (.inl (m : Int)), DGet.k (k := .inl (m : Int)) eD5, ?_⟩
        rw [nkv_val]
        refine ⟨(n : Int), (numAt ns m : Int), rfl, ?_⟩
        have mx : (if ((numAt ns m : Nat) : Int) > (n : Int) then ((numAt ns m : Nat) : Int) else (n : Int)) = ((max (entOf it).2 (numAt ns m) : Nat) : Int) := by
          rw [en]
          split <;> omega
        rw [mx]
        have lns := nn'.few
        rw [List.length_map, List.length_take] at lns
        refine ⟨.ref D2, rfl, .int (m : Int), rfl, D2, _, rfl, DPut.k (k := .inl (m : Int)) eD5 (small (by unfold nkv; rw [List.length_map]; omega)), ?_⟩
        rw [nkv_put]
        refine ⟨_, _, _, _, rfl, same_set nD24 (S'.trans s5), upd_same, ?_, fun it' hit => ?_⟩
        · rw [take_more hp, List.map_append]
          exact nn'.put ndk' lt es'
        · rw [take_more hp] at hit
          have inn : ∀ k, k = m ∨ k ∈ ns.map (·.1) → k ∈ (setN ns m (max (entOf it).2 (numAt ns m))).map (·.1) := fun k hk => by
            rw [setN_names]
            by_cases c : m ∈ ns.map (·.1)
            · rw [if_pos c]; exact hk.elim (fun z => z ▸ c) id
            · rw [if_neg c]; exact hk.elim (fun z => List.mem_append_right _ (List.mem_singleton.mpr z)) (List.mem_append_left _)
          rcases List.mem_append.mp hit with h | h
          · obtain ⟨k, hk, e1⟩ := kn it' h
            exact ⟨k, inn k (.inr hk), e1⟩
          · rw [List.mem_singleton.mp h]
            exact ⟨m, inn m (.inl rfl), es'⟩
      · obtain ⟨y6, y7, y8, ns, rfl, S', eD', nn', kn⟩ := hP
        rw [lws, List.take_length] at nn'
        rw [lws, List.take_length] at kn
        have fF : ∀ {m n : Nat} {y : Yes}, (m, n) ∈ ns → y ∈ e.ms → ¬ (n ≤ 1 + max (numAt ns (m &&& y.2.1)) (numAt ns (m - (m &&& y.2.1)))) → 2 ≤ n → ((its.map entOf).all fun p => (ps.map (·.2.2)).all fun ss => stepD (its.map entOf) p ss) = false := fun {m n y} hmn hy bad n2 => by
          have nm : numAt ns m = n := numAt_in nn'.nd hmn
          have n1 := nn'.at_ m (nn'.lt _ hmn)
          obtain ⟨p, hp, e1, e2⟩ := maxD_in (es := its.map entOf) (g := datsOf e.st e.fa (sel m e.ys)) (by omega)
          refine Bool.eq_false_iff.mpr fun z => ?_
          have z1 := List.all_eq_true.mp (List.all_eq_true.mp z p hp) y.2.2 (lp.mem_iff.mp (List.mem_map.mpr ⟨y, hy, rfl⟩))
          rw [nums_step nn' g hy hmn e1] at z1
          have z2 := of_decide_eq_true z1
          exact bad (by rw [← nm, n1, ← e2]; exact z2)
        have fT : (∀ p ∈ ns, ∀ y ∈ e.ms, okN ns p.1 p.2 y.2.1) → ((its.map entOf).all fun p => (ps.map (·.2.2)).all fun ss => stepD (its.map entOf) p ss) = true := fun ok => by
          refine List.all_eq_true.mpr fun p hp => List.all_eq_true.mpr fun ss hss => ?_
          obtain ⟨y, hy, rfl⟩ := List.mem_map.mp (lp.mem_iff.mpr hss)
          obtain ⟨it, hit, rfl⟩ := List.mem_map.mp hp
          obtain ⟨m, hm, em⟩ := kn it hit
          obtain ⟨⟨m', n⟩, hmn, rfl⟩ := List.mem_map.mp hm
          rw [nums_step nn' g hy hmn (q := entOf it) em.symm]
          have ge := maxD_ge hp
          have n1 := nn'.at_ m' (nn'.lt _ hmn)
          have nm : numAt ns m' = n := numAt_in nn'.nd hmn
          have em' : (entOf it).1 = datsOf e.st e.fa (sel m' e.ys) := em.symm
          rw [em', ← n1, nm] at ge
          have := ok _ hmn y hy
          unfold okN at this
          refine decide_eq_true ?_
          show (entOf it).2 ≤ 1 + max (numAt ns (m' &&& y.2.1)) (numAt ns (m' - (m' &&& y.2.1)))
          by_cases c : 2 ≤ n
          · have := this c
            show _ ≤ _
            have t2 : n ≤ 1 + max (numAt ns (m' &&& y.2.1)) (numAt ns (m' - (m' &&& y.2.1))) := this
            omega
          · omega
        refine ⟨D2, .dK (nkv ns), eD', trivial, fun od => ⟨.ref D2, rfl, D2, od, nkv ns, rfl, upd_same, ?_⟩⟩
        have S5 : Same H4 (upd G' D2 (.frz od (.dK (nkv ns)))) := same_set nD24 S'
        have eF : (upd G' D2 (.frz od (.dK (nkv ns)))) D2 = some (.frz od (.dK (nkv ns))) := upd_same
        have kF : ∀ b x, b ≠ D2 → G' b = some x → (upd G' D2 (.frz od (.dK (nkv ns)))) b = some x := fun b x nb z => (upd_ne nb).trans z
        generalize upd G' D2 (.frz od (.dK (nkv ns))) = F1 at S5 eF kF ⊢
        refine for_items (fun i σ G => ∃ (y6 y7 y8 y9 y10 y11 : Option V), σ = [some (.ref r), some (.ref d), some (.int (many : Int)), some (.ref l), some (.ref a), some (.ref D2), y6, y7, y8, y9, y10, y11, none] ∧ Same F1 G ∧ ∀ p ∈ ns.take i, ∀ y ∈ e.ms, okN ns p.1 p.2 y.2.1)
          ⟨y6, y7, y8, none, none, none, rfl, Same.refl F1, fun p hp => nomatch hp⟩ (fun i σ G _ hP => hP.choose_spec.choose_spec.choose_spec.choose_spec.choose_spec.choose_spec.2.1 _ _ eF) (fun i k v T0 σ G hx nT hP => ?_) (fun σ G hP => ?_)
        · obtain ⟨y6, y7, y8, y9, y10, y11, rfl, SG, okP⟩ := hP
          unfold nkv at hx
          rw [List.getElem?_map] at hx
          cases gx : ns[i]? with
          | none => rw [gx] at hx; cases hx
          | some p =>
          rw [gx] at hx
          cases hx
          obtain ⟨m, n⟩ := p
          have memn := List.mem_of_getElem? gx
          have lt : m < 2 ^ e.ys.length := nn'.lt _ memn
          refine ⟨T0, _, rfl, .inl (.inl upd_same), rfl, .int (m : Int), _, rfl, .int (n : Int), [], rfl, rfl, ?_⟩
          have SG2 := SG.trans (same_upd (o := .tup [kV (.inl (m : Int)), .int (n : Int)]) nT)
          generalize upd G T0 (.tup [kV (.inl (m : Int)), .int (n : Int)]) = G2 at SG2 ⊢
          have o2 := o.mono (S5.trans SG2)
          have eF2 := SG2 _ _ eF
          refine ⟨e.y, .dK (ykv e.ms), o2.hy, trivial, fun od2 => ⟨.ref a, rfl, a, C, _, _, _, rfl, (upd_ne (ne_of o2.ob o2.hy fun z => by cases z)).trans o2.ob, T.cl_Asks, T.n_yes, af_y _ _ _ _ _, e.y, od2, rfl, .inl ⟨_, upd_same, ?_⟩⟩⟩
          refine for_keys (fun i σ G => ∃ (y9 y10 y11 : Option V), σ = [some (.ref r), some (.ref d), some (.int (many : Int)), some (.ref l), some (.ref a), some (.ref D2), y6, some (.int (n : Int)), some (.int (m : Int)), y9, y10, y11, none] ∧ (∀ b x, b ≠ e.y → G2 b = some x → G b = some x) ∧ G e.y = some (.frz od2 (.dK (ykv e.ms))) ∧ ∀ y ∈ e.ms.take i, okN ns m n y.2.1)
            ⟨y9, y10, y11, rfl, fun b x nb z => (upd_ne nb).trans z, upd_same, fun y hy => nomatch hy⟩ (fun i σ G _ hP => hP.choose_spec.choose_spec.choose_spec.2.2.1) (fun i k v σ G hx hP => ?_) (fun σ G hP => ?_)
          · obtain ⟨y9, y10, y11, rfl, kG, ey, okY⟩ := hP
            unfold ykv at hx
            rw [List.getElem?_map] at hx
            cases gy : e.ms[i]? with
            | none => rw [gy] at hx; cases hx
            | some y =>
            rw [gy] at hx
            cases hx
            have hy := List.mem_of_getElem? gy
            have yo := g.ok y hy
            have le := (KnA.sub_test m y.2.1).1
            have more : okN ns m n y.2.1 → ∀ y' ∈ e.ms.take (i + 1), okN ns m n y'.2.1 := fun z y' hy' => by
              rw [take_more gy] at hy'
              rcases List.mem_append.mp hy' with h | h
              · exact okY y' h
              · rw [List.mem_singleton.mp h]; exact z
            have oG : AskF C G a e := ⟨kG _ _ (ne_of o2.ob o2.hy fun z => by cases z) o2.ob, kG _ _ (ne_of o2.hc o2.hy fun z => by cases z) o2.hc, .inr ⟨od2, ey⟩, fun v hv => ⟨(o2.rw v hv).1.ext fun b xs z => kG _ _ (ne_of z o2.hy fun z => by cases z) z, (o2.rw v hv).2⟩, o2.yn⟩
            have eDG := kG _ _ (ne_of eF2 o2.hy fun z => by cases z) eF2
            refine ⟨.ref a, rfl, a, _, _, rfl, oG.ob, nam (by decide +kernel) (by decide +kernel) (by decide +kernel) (by decide +kernel) (by decide +kernel), .str y.1, rfl, .int (m : Int), rfl, a, e, y, m, rfl, oG, g, hy, fun H6 t6 s6 e6 => ?_⟩
            refine ⟨t6, _, rfl, .inl (.inl e6), rfl, .int _, _, rfl, .int _, [], rfl, rfl, ?_⟩
            have kG6 : ∀ b x, b ≠ e.y → G2 b = some x → H6 b = some x := fun b x nb z => s6 _ _ (kG b x nb z)
            have ey6 := s6 _ _ ey
            have eD6 := s6 _ _ eDG
            refine ⟨.int (n : Int), rfl, (n : Int), 2, rfl, rfl, _, rfl, ?_⟩
            by_cases c2 : 2 ≤ n
            · rw [decide_eq_true (show (2 : Int) ≤ (n : Int) by omega)]
              refine iteT ⟨.ref D2, rfl, D2, rfl, .inl ⟨_, .inr ⟨_, eD6⟩⟩, .int ((m &&& y.2.1 : Nat) : Int), rfl, _, .inl ⟨_, .inl ((m &&& y.2.1 : Nat) : Int), .inr ⟨_, eD6⟩, rfl, rfl⟩, ?_⟩
              rw [nkv_val]
              refine ⟨.ref D2, rfl, D2, rfl, .inl ⟨_, .inr ⟨_, eD6⟩⟩, .int ((m - (m &&& y.2.1) : Nat) : Int), rfl, _, .inl ⟨_, .inl ((m - (m &&& y.2.1) : Nat) : Int), .inr ⟨_, eD6⟩, rfl, rfl⟩, ?_⟩
              rw [nkv_val]
              refine ⟨_, _, rfl, .int (n : Int), rfl, (n : Int), 1, rfl, rfl, _, (n : Int) - 1, rfl, rfl, _, rfl, ?_⟩
              by_cases bad : n ≤ 1 + max (numAt ns (m &&& y.2.1)) (numAt ns (m - (m &&& y.2.1)))
              · have ge : ¬ ((if ((numAt ns (m - (m &&& y.2.1)) : Nat) : Int) > ((numAt ns (m &&& y.2.1) : Nat) : Int) then ((numAt ns (m - (m &&& y.2.1)) : Nat) : Int) else ((numAt ns (m &&& y.2.1) : Nat) : Int)) < (n : Int) - 1) := by
                  split <;> omega
                rw [decide_eq_false ge]
                exact iteF ⟨_, _, _, rfl, kG6, ey6, more fun _ => bad⟩
              · have lt' : ((if ((numAt ns (m - (m &&& y.2.1)) : Nat) : Int) > ((numAt ns (m &&& y.2.1) : Nat) : Int) then ((numAt ns (m - (m &&& y.2.1)) : Nat) : Int) else ((numAt ns (m &&& y.2.1) : Nat) : Int)) < (n : Int) - 1) := by
                  split <;> omega
                rw [decide_eq_true lt']
                refine iteT ?_
                rw [fF memn hy bad c2] at q
                have sA := SG2.trans (unlock o2.hy kG6)
                refine ⟨ey6, sA _ _ eF, ?_⟩
                exact q _ (S.trans (S'.trans (unlock eD' fun b x nb z => sA _ _ (kF b x nb z))))
            · rw [decide_eq_false (show ¬ (2 : Int) ≤ (n : Int) by omega)]
              exact iteF ⟨_, _, _, rfl, kG6, ey6, more fun z => absurd z c2⟩
          · obtain ⟨y9, y10, y11, rfl, kG, ey, okY⟩ := hP
            have ly : (ykv e.ms).length = e.ms.length := List.length_map _
            rw [ly, List.take_length] at okY
            refine ⟨ey, ?_⟩
            refine ⟨_, _, _, _, _, _, rfl, SG2.trans (unlock o2.hy kG), fun p hp => ?_⟩
            rw [take_more gx] at hp
            rcases List.mem_append.mp hp with h | h
            · exact okP p h
            · rw [List.mem_singleton.mp h]; exact okY
        · obtain ⟨y6, y7, y8, y9, y10, y11, rfl, SG, okP⟩ := hP
          have ln : (nkv ns).length = ns.length := List.length_map _
          rw [ln, List.take_length] at okP
          rw [fT okP] at q
          refine ⟨SG _ _ eF, ?_⟩
          have S6 : Same G' (upd G D2 (.dK (nkv ns))) := unlock eD' fun b x nb z => SG _ _ (kF b x nb z)
          have eD6 : (upd G D2 (.dK (nkv ns))) D2 = some (.dK (nkv ns)) := upd_same
          generalize upd G D2 (.dK (nkv ns)) = G6 at S6 eD6 ⊢
          have S46 := S'.trans S6
          have o6 := o.mono S46
          have p1 : 1 ≤ 2 ^ e.ys.length := Nat.one_le_two_pow
          refine ⟨.ref D2, rfl, D2, rfl, .inl ⟨_, .inl eD6⟩, .ref a, rfl, a, C, _, _, _, rfl, o6.ob, T.cl_Asks, T.n_whole, af_w _ _ _ _ _, _, DGet.k (k := .inl ((2 ^ e.ys.length - 1 : Nat) : Int)) eD6, ?_⟩
          rw [nkv_val]
          have lw : sel (2 ^ e.ys.length - 1) e.ys = e.ys := selk_whole e.ys 0 e.ys.length (by omega)
          have bw := nn'.at_ (2 ^ e.ys.length - 1) (by omega)
          rw [lw] at bw
          refine ⟨.int (many : Int), rfl, _, (many : Int), rfl, rfl, ?_⟩
          show Q (.bl (decide ((many : Int) < (numAt ns (2 ^ e.ys.length - 1) : Int)))) G6
          have dd : decide ((many : Int) < (numAt ns (2 ^ e.ys.length - 1) : Int)) = decide (many < maxD (its.map entOf) (datsOf e.st e.fa e.ys)) := by
            rw [← bw, Bool.eq_iff_iff, decide_eq_true_eq, decide_eq_true_eq]
            omega
          rw [dd]
          exact q _ (S.trans S46)

end
end Kn

set_option Elab.async false
set_option linter.all false
set_option maxRecDepth 100000
set_option maxHeartbeats 4000000
namespace Kn
open PySem PySem.Spec PyProof.Rows L2
open C8 (Cal pe_c pe_gc Mak pe_mk)
section
variable {P : Program} {w : World} {K : PySem.W.Frag} {mg : Str → Option Value} {base : Heap}
theorem op_notInDT {X : Cx} (hu : X.A.units + 65 < cLine) : OpR X (compareOp .NotIn) (fun x y H Q => ∃ d ds, Dp X.K H x d ∧ Dp X.K H y (.tuple ds) ∧ SeqAt.shaped d = true ∧ SeqAt.shaped (.tuple ds) = true ∧ Q (.bl (!ds.any fun z => PyData.eqv z d)) H) := by
  intro pins s σ H x y v u Q I rx ry h
  obtain ⟨d, ds, hd, he, sd, se, q⟩ := h
  obtain ⟨as, r1⟩ := Dp.reads I d x v hd rx
  obtain ⟨bs, r2⟩ := Dp.reads I (.tuple ds) y u he ry
  exact SeqAt.notIn_tuple_reads r2 r1 (SeqAt.canLay_of_shaped se) (SeqAt.canLay_of_shaped sd) (room_in_shaped sd hu) ⟨.bl _, H, I, rfl, q⟩
theorem rowDs_shapedT {ps : List (Int × List Str)} (h : ∀ p ∈ ps, ∀ z ∈ p.2, nameB (.str z) = true) : SeqAt.shaped (.tuple (ps.map KnA.rowD)) = true := by
  obtain ⟨a, b⟩ := rowDs_lay h
  unfold SeqAt.shaped
  have h2 : (PyData.tuple (ps.map KnA.rowD)).canLay0 = true := a
  have h3 : (PyData.tuple (ps.map KnA.rowD)).depth ≤ 64 := by
    show PyData.depthAll (ps.map KnA.rowD) + 1 ≤ 64
    omega
  rw [h2, decide_eq_true h3]; rfl
def adr : V → Addr
  | .ref a => a
  | _ => default
theorem dp_rowsB {K : PySem.W.Frag} {H : Hp} : ∀ {bs : List (V × KnA.Dat)}, (∀ b ∈ bs, KnA.RowAt H b.1 b.2.1 b.2.2) → DpAll K H (bs.map (·.1)) (bs.map fun b => KnA.rowD b.2)
  | [], _ => .nil
  | b :: bs, h => .cons (dp_row (h b List.mem_cons_self)) (dp_rowsB fun u hu => h u (List.mem_cons_of_mem _ hu))
def nrw (st : V → Int) (fa : V → List Str) (v : V) : KnH.NRow := (adr v, rk (st v) (fa v))
theorem row_adr {H : Hp} {x : V} {i : Int} {zs : List Str} (h : KnA.RowAt H x i zs) : V.ref (adr x) = x := by
  obtain ⟨t, f, rfl, _⟩ := h; rfl
theorem row_one {H : Hp} {x : V} {d d' : KnA.Dat} (a : KnA.RowAt H x d.1 d.2) (b : KnA.RowAt H x d'.1 d'.2) : d = d' := by
  obtain ⟨t, f, rfl, h1, h2⟩ := a
  obtain ⟨t', f', e, k1, k2⟩ := b
  cases e
  rw [h1] at k1
  have e1 := HO.tup.inj (Option.some.inj k1)
  injection e1 with a1 a2
  injection a2 with a2 _
  have ef : f = f' := V.ref.inj a2
  rw [ef, k2] at h2
  have e2 := HO.tup.inj (Option.some.inj h2)
  exact Prod.ext (V.int.inj a1) (KnA.str_inj e2.symm)
theorem rowsP_fun {H : Hp} {gr : List V} {ds : List KnA.Dat} (h : RowsP H gr ds) (g : ∀ d ∈ ds, GoodRow d.1 d.2) : ∃ (st : V → Int) (fa : V → List Str), Rows H gr st fa ∧ datsOf st fa gr = ds := by
  unfold RowsP at h
  induction h with
  | nil => exact ⟨fun _ => 0, fun _ => [], (fun v hv => nomatch hv), rfl⟩
  | @cons v d vs ds a t ih =>
    obtain ⟨st, fa, R, e⟩ := ih fun d hd => g d (List.mem_cons_of_mem _ hd)
    have same : ∀ w ∈ vs, w = v → (st w, fa w) = d := fun w hw z => row_one (d := (st w, fa w)) (R w hw).1 (z ▸ a)
    refine ⟨fun w => if w = v then d.1 else st w, fun w => if w = v then d.2 else fa w, fun w hw => ?_, ?_⟩
    · show KnA.RowAt H w (if w = v then d.1 else st w) (if w = v then d.2 else fa w) ∧ GoodRow (if w = v then d.1 else st w) (if w = v then d.2 else fa w)
      by_cases c : w = v
      · rw [if_pos c, if_pos c, c]; exact ⟨a, g d List.mem_cons_self⟩
      · rw [if_neg c, if_neg c]
        exact R w ((List.mem_cons.mp hw).resolve_left c)
    · show ((if v = v then d.1 else st v), (if v = v then d.2 else fa v)) :: vs.map _ = d :: ds
      rw [if_pos rfl, if_pos rfl, ← e]
      congr 1
      refine List.map_congr_left fun w hw => ?_
      show ((if w = v then d.1 else st w), (if w = v then d.2 else fa w)) = (st w, fa w)
      by_cases c : w = v
      · rw [if_pos c, if_pos c, ← same w hw c]
      · rw [if_neg c, if_neg c]
theorem pair_adj : ∀ {ds : List KnA.Dat}, (ds.Pairwise fun p q => KnA.rowLe q p = false) → adjR ds = true
  | [], _ => rfl
  | [_], _ => rfl
  | a :: b :: r, h => by
    obtain ⟨h1, h2⟩ := List.pairwise_cons.mp h
    show (!KnA.rowLe b a && adjR (b :: r)) = true
    rw [h1 b List.mem_cons_self, pair_adj h2]; rfl
theorem le_strict {ds : List KnA.Dat} (h : ds.Pairwise fun p q => KnA.rowLe p q = true) (nd : ds.Nodup) : ds.Pairwise fun p q => KnA.rowLe q p = false := h.imp₂ (fun p q a b => by
  cases c : KnA.rowLe q p with
  | false => rfl
  | true => exact (b (KnA.rowLe_anti a c)).elim) nd
theorem rowDs_eqv : ∀ xs ys : List KnA.Dat, PyData.eqvAll (xs.map KnA.rowD) (ys.map KnA.rowD) = decide (xs = ys)
  | [], [] => rfl
  | [], _ :: _ => rfl
  | _ :: _, [] => rfl
  | x :: xs, y :: ys => by
    show (PyData.eqv (KnA.rowD x) (KnA.rowD y) && PyData.eqvAll (xs.map KnA.rowD) (ys.map KnA.rowD)) = _
    rw [rowD_eqv, rowDs_eqv xs ys]
    by_cases e1 : x = y <;> by_cases e2 : xs = ys <;> simp [e1, e2]
/-- the rows of a set of these rows, sorted: just these rows in just this order? -/
theorem set_sortedD {st : V → Int} {fa : V → List Str} {gr : List V} {M : List KnH.NRow} {bs' : List (V × KnA.Dat)} (H : Hp) (R : Rows H gr st fa) (h1 : ∀ p ∈ M, p ∈ gr.map (nrw st fa)) (h2 : ∀ p ∈ gr.map (nrw st fa), p.2 ∈ M.map (·.2)) (h3 : (M.map (·.2)).Nodup)
    (pm : bs'.Perm ((M.map fun p => ((p.1, (st (.ref p.1), fa (.ref p.1))) : Addr × KnA.Dat)).map fun b => (V.ref b.1, b.2))) (so : (bs'.map (·.2)).Pairwise (fun p q => KnA.rowLe p q = true)) : decide (datsOf st fa gr = bs'.map (·.2)) = adjR (datsOf st fa gr) := by
  have key : ∀ p ∈ M, p.2 = rk (st (.ref p.1)) (fa (.ref p.1)) := fun p hp => by
    obtain ⟨v, hv, rfl⟩ := List.mem_map.mp (h1 p hp)
    show rk (st v) (fa v) = rk (st (V.ref (adr v))) (fa (V.ref (adr v)))
    rw [row_adr (R v hv).1]
  have pm2 : (bs'.map (·.2)).Perm (M.map fun p => ((st (.ref p.1), fa (.ref p.1)) : KnA.Dat)) := by
    have := pm.map (·.2)
    rwa [List.map_map, List.map_map] at this
  have ndM : (M.map fun p => ((st (.ref p.1), fa (.ref p.1)) : KnA.Dat)).Nodup := by
    refine List.pairwise_map.mpr ((List.pairwise_map.mp h3).imp_of_mem fun {p q} hp hq ne e => ne ?_)
    rw [key p hp, key q hq, (Prod.mk.inj e).1, (Prod.mk.inj e).2]
  have str := le_strict so (pm2.symm.nodup ndM)
  have mem : ∀ d, d ∈ datsOf st fa gr ↔ d ∈ bs'.map (·.2) := fun d => by
    rw [pm2.mem_iff]
    constructor
    · intro hd
      obtain ⟨v, hv, rfl⟩ := List.mem_map.mp hd
      obtain ⟨q, hq, e⟩ := List.mem_map.mp (h2 (nrw st fa v) (List.mem_map.mpr ⟨v, hv, rfl⟩))
      have e' : q.2 = rk (st v) (fa v) := e
      rw [key q hq] at e'
      obtain ⟨a, b⟩ := rk_inj e'
      exact List.mem_map.mpr ⟨q, hq, by rw [a, b]⟩
    · intro hd
      obtain ⟨p, hp, rfl⟩ := List.mem_map.mp hd
      obtain ⟨v, hv, e⟩ := List.mem_map.mp (h1 p hp)
      refine List.mem_map.mpr ⟨v, hv, ?_⟩
      rw [← e]
      show (st v, fa v) = (st (V.ref (adr v)), fa (V.ref (adr v)))
      rw [row_adr (R v hv).1]
  cases c : adjR (datsOf st fa gr) with
  | true => exact decide_eq_true (asc_eq (adj_pair c) str mem)
  | false =>
    refine decide_eq_false fun e => ?_
    rw [e, pair_adj str] at c
    cases c
def sp__law_is_row (_ : PySem.W.Frag) : Sp := fun vs H Q _ => ∃ (b : Addr) (ys : List V) (st : V → Int) (fa : V → List Str) (v : V) (it : It), vs = [.ref b, v] ∧ H b = some (.tup ys) ∧ Rows H ys st fa ∧ ItmAt H v it ∧ ∀ H', Same H H' → Q (.bl (jItem (datsOf st fa ys) it)) H'
theorem ok__law_is_row {f : Addr} {C : Addr} {fd : FuncData} (T : Txt K mg C) (F : Fun K "_law_is_row" "_law_is_row" s__law_is_row f fd) (c__law_settled : Cal P w K mg base 1 "_law_settled" (sp__law_settled K) []) : FnOk P w K mg base CX0 2 f fd ["_law_everything", "_law_item"] (sp__law_is_row K) := by
  have nd := sc__law_is_row.nd
  refine F.ok sc__law_is_row (fun vs H Q E h => ?_) (fun cdv A outer s H vs Q E hr h => ?_)
  · obtain ⟨b, ys, st, fa, v, it, rfl, _⟩ := h
    rfl
  · obtain ⟨b, ys, st, fa, v, it, rfl, hb, R, ⟨t, c, gr, rfl, ip⟩, q⟩ := h
    refine ⟨_, (pss_cons (ps_if (PW.pt (pw_or (pt_not (pt_val (pe_callB call_isi (by rfl) T.m_isinstance (by decide +kernel) (pa_cons (pv 1) (pa_cons (pe_bltn (v := .ty "tuple") (u := .type "tuple") (by rfl) T.m_tuple (by decide +kernel) rfl) pa_nil))))) (pw_or (pt_cmpR op_ne (pe_callB call_len (by rfl) T.m_len (by decide +kernel) (pa_cons (pv 1) pa_nil)) pe_int (nomark _)) (pw_or1 (pt_not (pt_val (pe_callB call_isi (by rfl) T.m_isinstance (by decide +kernel) (pa_cons (pe_ix (r := rIxT K) ix_tup (pv 1) pe_int (fun _ _ => rfl)) (pa_cons (pe_bltn (v := .ty "tuple") (u := .type "tuple") (by rfl) T.m_tuple (by decide +kernel) rfl) pa_nil))))))))) (pss_one (ps_ret pe_bl)) pss_nil)
      (pss_cons (ps_if (PW.pt (pw_or (pt_not (pt_val (pe_callB call_isi (by rfl) T.m_isinstance (by decide +kernel) (pa_cons (pe_ix (r := rIxT K) ix_tup (pv 1) pe_int (fun _ _ => rfl)) (pa_cons (pe_bltn (v := .ty "int") (u := .type "int") (by rfl) T.m_int (by decide +kernel) rfl) pa_nil))))) (pw_or (pt_val (pe_callB call_isi (by rfl) T.m_isinstance (by decide +kernel) (pa_cons (pe_ix (r := rIxT K) ix_tup (pv 1) pe_int (fun _ _ => rfl)) (pa_cons (pe_bltn (v := .ty "bool") (u := .type "bool") (by rfl) T.m_bool (by decide +kernel) rfl) pa_nil)))) (pw_or1 (pt_cmpR op_lt (pe_ix (r := rIxT K) ix_tup (pv 1) pe_int (fun _ _ => rfl)) pe_int (nomark _)))))) (pss_one (ps_ret pe_bl)) pss_nil)
      (pss_cons (ps_for PassesOwn.never rfl (pi_tup (pe_ix (r := rIxT K) ix_tup (pv 1) pe_int (fun _ _ => rfl))) (pg_name (i := 2) nd rfl (.inl rfl)) (pss_cons (ps_if (PW.pt (pw_or (pt_not (pt_val (pe_callB call_isi (by rfl) T.m_isinstance (by decide +kernel) (pa_cons (pv 2) (pa_cons (pe_bltn (v := .ty "tuple") (u := .type "tuple") (by rfl) T.m_tuple (by decide +kernel) rfl) pa_nil))))) (pw_or (pt_cmpR op_ne (pe_callB call_len (by rfl) T.m_len (by decide +kernel) (pa_cons (pv 2) pa_nil)) pe_int (nomark _)) (pw_or1 (pt_val (pe_callB call_isi (by rfl) T.m_isinstance (by decide +kernel) (pa_cons (pe_ix (r := rIxT K) ix_tup (pv 2) pe_int (fun _ _ => rfl)) (pa_cons (pe_bltn (v := .ty "bool") (u := .type "bool") (by rfl) T.m_bool (by decide +kernel) rfl) pa_nil)))))))) (pss_one (ps_ret pe_bl)) pss_nil)
      (pss_one (ps_if (pt_cmpR (op_notInDT (KnC.un65 hr)) (pv 2) (pv 0) (by with_unfolding_all rfl)) (pss_one (ps_ret pe_bl)) pss_nil))))
      (pss_one (ps_ret (pe_and (pe_cmpR (op_eqD hr.units) (pe_callTy call_list_of (by rfl) T.m_list (by decide +kernel) (pa_cons (pe_ix (r := rIxT K) ix_tup (pv 1) pe_int (fun _ _ => rfl)) pa_nil)) (pe_callB (show CallR _ (.builtin "sorted") (KnH.rSortedSN P w) from KnH.cr_sortedSN rfl (KnC.un65 hr)) (by rfl) T.m_sorted (by decide +kernel) (pa_cons (pe_callTy (show CallR _ (.type "set") (KnH.rSetOfNT K P w) from KnH.cr_setOfNT rfl (KnC.un65 hr)) (by rfl) T.m_set (by decide +kernel) (pa_cons (pe_ix (r := rIxT K) ix_tup (pv 1) pe_int (fun _ _ => rfl)) pa_nil)) pa_nil)) (nomark _)) (pe_one (pe_not (pe_c c__law_settled hr (by omega) (by rfl) (pa_cons (pe_ix (r := rIxT K) ix_tup (pv 1) pe_int (fun _ _ => rfl)) pa_nil)))))))))), ?_⟩
    have ht := ip.at_
    have hc := ip.gr
    unfold jItem at q
    unfold itO at ht
    cases tp : it.tp with
    | false =>
      rw [tp] at ht q
      rw [if_neg (by decide)] at ht
      refine ⟨.ref t, rfl, .ref t, .ty "tuple", .type "list", _, false, rfl, .ty _, .base (.lst ht), kit_ty (show kitB "list" "tuple" = some false by decide +kernel), _, rfl, iteT (q H (Same.refl H))⟩
    | true =>
    rw [tp] at ht q
    rw [if_pos rfl] at ht
    refine ⟨.ref t, rfl, .ref t, .ty "tuple", .type "tuple", _, true, rfl, .ty _, .base (.tup ht), kit_ty (show kitB "tuple" "tuple" = some true by decide +kernel), _, rfl, iteF ⟨.ref t, rfl, .ref t, 2, rfl, .inr ⟨_, .inl (.inl ht), rfl⟩, rfl, _, rfl, iteNS rfl ?_⟩⟩
    refine ⟨.ref t, rfl, t, _, 0, .ref c, rfl, rfl, .inl (.inl ht), atI_nat (j := 0) rfl, .ref c, .ty "tuple", .type "tuple", _, true, rfl, .ty _, .base (.tup hc), kit_ty (show kitB "tuple" "tuple" = some true by decide +kernel), _, rfl, iteF ?_⟩
    cases nm : it.nm with
    | inr bb =>
      rw [nm] at q ht
      refine ⟨.ref t, rfl, t, _, 1, .bl bb, rfl, rfl, .inl (.inl ht), atI_nat (j := 1) rfl, .bl bb, .ty "int", .type "bool", _, true, rfl, .ty _, .base (.bl _), kit_ty (show kitB "bool" "int" = some true by decide +kernel), _, rfl, iteF ?_⟩
      exact ⟨.ref t, rfl, t, _, 1, .bl bb, rfl, rfl, .inl (.inl ht), atI_nat (j := 1) rfl, .bl bb, .ty "bool", .type "bool", _, true, rfl, .ty _, .base (.bl _), kit_ty (show kitB "bool" "bool" = some true by decide +kernel), _, rfl, iteT (q H (Same.refl H))⟩
    | inl n =>
    rw [nm] at q ht
    refine ⟨.ref t, rfl, t, _, 1, .int n, rfl, rfl, .inl (.inl ht), atI_nat (j := 1) rfl, .int n, .ty "int", .type "int", _, true, rfl, .ty _, .base (.int _), kit_ty (show kitB "int" "int" = some true by decide +kernel), _, rfl, iteF ?_⟩
    refine ⟨.ref t, rfl, t, _, 1, .int n, rfl, rfl, .inl (.inl ht), atI_nat (j := 1) rfl, .int n, .ty "bool", .type "int", _, false, rfl, .ty _, .base (.int _), kit_ty (show kitB "int" "bool" = some false by decide +kernel), _, rfl, iteF ?_⟩
    refine ⟨.ref t, rfl, t, _, 1, .int n, rfl, rfl, .inl (.inl ht), atI_nat (j := 1) rfl, n, 1, rfl, rfl, _, rfl, ?_⟩
    by_cases n1 : n < 1
    · rw [decide_eq_true n1]
      have p1 : posI (.inl n) = false := decide_eq_false (by omega)
      rw [p1] at q
      exact iteT (q H (Same.refl H))
    rw [decide_eq_false n1]
    have p1 : posI (.inl n) = true := decide_eq_true (by omega)
    rw [p1] at q
    refine iteF ?_
    refine ⟨.ref t, rfl, t, _, 0, .ref c, rfl, rfl, .inl (.inl ht), atI_nat (j := 0) rfl, c, rfl, ⟨_, .inl (.inl hc)⟩, ?_⟩
    have lg : gr.length = it.ds.length := Paired.length ip.rows
    have l14 := ip.few
    have nms : ∀ p ∈ datsOf st fa ys, ∀ z ∈ p.2, nameB (.str z) = true := fun p hp => by
      obtain ⟨y, hy, rfl⟩ := List.mem_map.mp hp
      exact (R y hy).2.nm
    have eqm : (ys.map fun v => KnA.rowD (st v, fa v)) = (datsOf st fa ys).map KnA.rowD := by unfold datsOf; rw [List.map_map]; rfl
    refine for_tup (K := K) (a := c) (xs := gr) (fun i σ G => ∃ (y2 : Option V), σ = [some (.ref b), some (.ref t), y2] ∧ Same H G ∧ ∀ d ∈ it.ds.take i, d ∈ datsOf st fa ys)
      ⟨none, rfl, Same.refl H, fun d hd => nomatch hd⟩ (fun i σ G _ hP => .inl (.inl (hP.choose_spec.2.1 _ _ hc))) (fun i x σ G hx hP => ?_) (fun σ G hP => ?_)
    · obtain ⟨y2, rfl, S, okd⟩ := hP
      obtain ⟨d, hd, rx⟩ := pairedGet (ip.same S).rows hx
      have gd := ip.good d (List.mem_of_getElem? hd)
      have dp := dp_row (K := K) rx
      obtain ⟨tx, fx, rfl, h1, h2⟩ := rx
      refine ⟨.ref tx, rfl, .ref tx, .ty "tuple", .type "tuple", _, true, rfl, .ty _, .base (.tup h1), kit_ty (show kitB "tuple" "tuple" = some true by decide +kernel), _, rfl, iteF ⟨.ref tx, rfl, .ref tx, 2, rfl, .inr ⟨_, .inl (.inl h1), rfl⟩, rfl, _, rfl, iteNS rfl ⟨.ref tx, rfl, tx, _, 0, .int d.1, rfl, rfl, .inl (.inl h1), atI_nat (j := 0) rfl, .int _, .ty "bool", .type "int", _, false, rfl, .ty _, .base (.int _), kit_ty (show kitB "int" "bool" = some false by decide +kernel), _, rfl, iteF ?_⟩⟩⟩
      refine ⟨.ref tx, rfl, .ref b, rfl, KnA.rowD (d.1, d.2), (datsOf st fa ys).map KnA.rowD, dp, .tup (.inl (.inl (S _ _ hb))) (eqm ▸ dp_rows (R.mono S)), rowD_shaped gd.nm, rowDs_shapedT nms, _, rfl, ?_⟩
      rw [rowD_any]
      by_cases c : d ∈ datsOf st fa ys
      · rw [decide_eq_true (show (d.1, d.2) ∈ datsOf st fa ys from c)]
        refine iteF ⟨_, rfl, S, fun d' hd' => ?_⟩
        rw [take_more hd] at hd'
        rcases List.mem_append.mp hd' with h | h
        · exact okd d' h
        · rw [List.mem_singleton.mp h]; exact c
      · rw [decide_eq_false (show ¬ (d.1, d.2) ∈ datsOf st fa ys from c)]
        refine iteT ?_
        have al : (it.ds.all fun d => decide (d ∈ datsOf st fa ys)) = false := Bool.eq_false_iff.mpr fun z => c (of_decide_eq_true (List.all_eq_true.mp z d (List.mem_of_getElem? hd)))
        rw [al] at q
        exact q G S
    · obtain ⟨y2, rfl, S, okd⟩ := hP
      rw [lg, List.take_length] at okd
      have al : (it.ds.all fun d => decide (d ∈ datsOf st fa ys)) = true := List.all_eq_true.mpr fun d hd => decide_eq_true (okd d hd)
      rw [al] at q
      obtain ⟨st', fa', Rg, eds⟩ := rowsP_fun ip.rows ip.good
      have hcG := S _ _ hc
      have htG := S _ _ ht
      refine ⟨.ref t, rfl, t, _, 0, .ref c, rfl, rfl, .inl (.inl htG), atI_nat (j := 0) rfl, c, gr, rfl, .inr (.inl (.inl hcG)), ?_⟩
      intro L nL
      have S1 := S.trans (same_upd (o := .lst gr) nL)
      have eL : (upd G L (.lst gr)) L = some (.lst gr) := upd_same
      generalize upd G L (.lst gr) = G1 at S1 eL ⊢
      have ekg : (gr.map (nrw st' fa')).map (fun p => V.ref p.1) = gr := by
        rw [List.map_map]
        exact (List.map_congr_left fun v hv => row_adr (Rg v hv).1).trans (List.map_id _)
      refine ⟨.ref t, rfl, t, _, 0, .ref c, rfl, rfl, .inl (.inl (S1 _ _ ht)), atI_nat (j := 0) rfl, c, gr.map (nrw st' fa'), rfl, ekg.symm ▸ .inl (.inl (S1 _ _ hc)), fun p hp => ?_, fun Ls ndL hL => ?_, fun S2 M nS nsM h1 h2 h3 => ?_⟩
      · obtain ⟨v, hv, rfl⟩ := List.mem_map.mp hp
        obtain ⟨tv, ev, nk⟩ := row_nis (Rg.mono S1 v hv).1
        exact ⟨by show KnN.NIs G1 (rk (st' v) (fa' v)) (V.ref (adr v)); rw [ev] at nk ⊢; exact nk, rk_depth _ _⟩
      · have := sub_len ndL hL
        rw [List.length_map, List.length_map] at this
        omega
      · have S3 := S1.trans (same_upd (o := KnH.SetFN P w S2 M) nS)
        have eL3 : (upd G1 S2 (KnH.SetFN P w S2 M)) L = some (.lst gr) := (same_upd nS) _ _ eL
        have eS := nsM.1
        generalize upd G1 S2 (KnH.SetFN P w S2 M) = G2 at S3 eL3 eS ⊢
        have Mrow : ∀ p ∈ M, KnA.RowAt G2 (V.ref p.1) (st' (.ref p.1)) (fa' (.ref p.1)) := fun p hp => by
          obtain ⟨v, hv, rfl⟩ := List.mem_map.mp (h1 p hp)
          have := (Rg.mono S3 v hv).1
          show KnA.RowAt G2 (V.ref (adr v)) (st' (V.ref (adr v))) (fa' (V.ref (adr v)))
          rw [row_adr this]; exact this
        refine ⟨S2, M.map fun p => (p.1, (st' (.ref p.1), fa' (.ref p.1))), rfl, ⟨M, eS, by rw [List.map_map]; rfl⟩, fun b hb => ?_, fun bs' z pm so nz => ?_⟩
        · obtain ⟨p, hp, rfl⟩ := List.mem_map.mp hb
          exact Mrow p hp
        · have eb := set_sortedD H Rg h1 h2 h3 pm so
          rw [eds] at eb
          have S4 := S3.trans (same_upd (o := .lst (bs'.map (·.1))) nz)
          have eL4 := (same_upd (o := .lst (bs'.map (·.1))) nz) _ _ eL3
          have ez : (upd G2 z (.lst (bs'.map (·.1)))) z = some (.lst (bs'.map (·.1))) := upd_same
          have hrow : ∀ b ∈ bs', KnA.RowAt (upd G2 z (.lst (bs'.map (·.1)))) b.1 b.2.1 b.2.2 := fun b hb => by
            obtain ⟨q, hq, rfl⟩ := List.mem_map.mp (pm.subset hb)
            obtain ⟨p, hp, rfl⟩ := List.mem_map.mp hq
            exact (Mrow p hp).ext fun a vs e => (same_upd nz) _ _ e
          generalize upd G2 z (.lst (bs'.map (·.1))) = G3 at S4 eL4 ez hrow ⊢
          have nmg : ∀ p ∈ it.ds, ∀ z ∈ p.2, nameB (.str z) = true := fun p hp => (ip.good p hp).nm
          have nmb : ∀ p ∈ bs'.map (·.2), ∀ z ∈ p.2, nameB (.str z) = true := fun p hp => by
            obtain ⟨b, hb, rfl⟩ := List.mem_map.mp hp
            obtain ⟨q, hq, rfl⟩ := List.mem_map.mp (pm.subset hb)
            obtain ⟨r, hr, rfl⟩ := List.mem_map.mp hq
            obtain ⟨v, hv, rfl⟩ := List.mem_map.mp (h1 r hr)
            show ∀ z ∈ fa' (V.ref (adr v)), nameB (.str z) = true
            rw [row_adr (Rg v hv).1]
            exact (Rg v hv).2.nm
          have e1 : (gr.map fun v => KnA.rowD (st' v, fa' v)) = it.ds.map KnA.rowD := by rw [← eds]; unfold datsOf; rw [List.map_map]; rfl
          have e2 : (bs'.map fun b => KnA.rowD b.2) = (bs'.map (·.2)).map KnA.rowD := by rw [List.map_map]; rfl
          refine ⟨.list (it.ds.map KnA.rowD), .list ((bs'.map (·.2)).map KnA.rowD), .lst (.inl (.inl eL4)) (e1 ▸ dp_rows (Rg.mono S4)), .lst (.inl (.inl ez)) (e2 ▸ dp_rowsB hrow), rowDs_shaped nmg, rowDs_shaped nmb, _, rfl, ?_⟩
          have ev : PyData.eqv (.list (it.ds.map KnA.rowD)) (.list ((bs'.map (·.2)).map KnA.rowD)) = adjR it.ds := (rowDs_eqv _ _).trans eb
          rw [ev]
          cases ad : adjR it.ds with
          | false =>
            rw [ad] at q
            exact iteF (q _ S4)
          | true =>
          rw [ad] at q
          refine iteT ⟨.ref t, rfl, t, _, 0, .ref c, rfl, rfl, .inl (.inl (S4 _ _ ht)), atI_nat (j := 0) rfl, c, gr, st', fa', rfl, S4 _ _ hc, Rg.mono S4, by omega, fun H5 s5 => ?_⟩
          have sd : stl fa' gr = stlD it.ds := by
            rw [← eds]
            unfold stl stlD datsOf
            rw [List.all_map]
            refine congrArg (fun f => gr.all f) (funext fun x => ?_)
            show _ = (gr.map fun v => (st' v, fa' v)).all fun q => decide (fa' x = q.2)
            rw [List.all_map]; rfl
          rw [sd]
          exact ⟨_, rfl, q _ (S4.trans s5)⟩

end
end Kn

set_option Elab.async false
set_option linter.all false
set_option maxRecDepth 100000
set_option maxHeartbeats 4000000
namespace Kn
open PySem PySem.Spec PyProof.Rows L2
open C8 (Cal pe_c pe_gc Mak pe_mk)
section
variable {P : Program} {w : World} {K : PySem.W.Frag} {mg : Str → Option Value} {base : Heap}
def gkD (ds : List KnA.Dat) : NestedKey := .tup (ds.map fun d => rk d.1 d.2)
theorem gk_gkD (st : V → Int) (fa : V → List Str) (g : List V) : gk st fa g = gkD (datsOf st fa g) := by
  unfold gk gkD datsOf
  rw [List.map_map]; rfl
theorem gkD_inj : ∀ {a b : List KnA.Dat}, gkD a = gkD b → a = b := by
  intro a b h
  have h1 : (a.map fun d => rk d.1 d.2) = b.map fun d => rk d.1 d.2 := NestedKey.tup.inj h
  clear h
  induction a generalizing b with
  | nil => cases b with
    | nil => rfl
    | cons y b => cases h1
  | cons x a ih => cases b with
    | nil => cases h1
    | cons y b =>
      obtain ⟨e1, e2⟩ := List.cons.inj (show rk x.1 x.2 :: a.map (fun d => rk d.1 d.2) = rk y.1 y.2 :: b.map (fun d => rk d.1 d.2) from h1)
      obtain ⟨f1, f2⟩ := rk_inj e1
      rw [ih e2, Prod.ext f1 f2]
structure BestAt (kvs : List (NestedKey × V)) (es : List Ent) : Prop where
  val : ∀ g : List KnA.Dat, (valV kvs (gkD g)).getD (.int 0) = .int (maxD es g : Int)
  few : kvs.length ≤ es.length
theorem BestAt.put {kvs : List (NestedKey × V)} {es : List Ent} (h : BestAt kvs es) (p : Ent) : BestAt (putK kvs (gkD p.1) (.int ((max p.2 (maxD es p.1) : Nat) : Int))) (es ++ [p]) := by
  refine ⟨fun g => ?_, ?_⟩
  · rw [valV_put, maxD_snoc]
    by_cases c : p.1 = g
    · rw [if_pos (by rw [c]), if_pos c, c, Nat.max_comm]; rfl
    · rw [if_neg fun z => c (gkD_inj z).symm, if_neg c]; exact h.val g
  · rw [List.length_append]
    show _ ≤ es.length + 1
    have := h.few
    by_cases c : gkD p.1 ∈ kvs.map (·.1)
    · unfold putK
      rw [valV_any, if_pos (valN_in.mpr c), List.length_map]; omega
    · rw [putK_new c, List.length_append]; show kvs.length + 1 ≤ _; omega
theorem itmsAt' {H H' : Hp} (s : Same H H') {vs : List V} {its : List It} (h : Paired (ItmAt H) vs its) : Paired (ItmAt H') vs its := itmsAt s h
theorem gk_nis {H : Hp} {st : V → Int} {fa : V → List Str} {g : List V} {c : Addr} (R : Rows H g st fa) (h : H c = some (.tup g)) : KnN.NIs H (gk st fa g) (.ref c) := .tup h (rows_nall R)
theorem gk_deep (st : V → Int) (fa : V → List Str) (g : List V) : (gk st fa g).depth ≤ 8 := by
  show NestedKey.depthAll (keysR st fa g) + 1 ≤ 8
  have := gk_depth st fa g
  omega
theorem item_good {E : List KnA.Dat} {it : It} (h : jItem E it = true) : it.tp = true ∧ (∃ n : Nat, it.nm = .inl (n : Int) ∧ 1 ≤ n ∧ (entOf it).2 = n) ∧ (∀ d ∈ it.ds, d ∈ E) ∧ adjR it.ds = true := by
  unfold jItem at h
  rw [Bool.and_eq_true, Bool.and_eq_true, Bool.and_eq_true, Bool.and_eq_true] at h
  obtain ⟨h1, h2, h3, h4, _⟩ := h
  refine ⟨h1, ?_, fun d hd => of_decide_eq_true (List.all_eq_true.mp h3 d hd), h4⟩
  unfold entOf
  cases nm : it.nm with
  | inr b => rw [nm] at h2; cases h2
  | inl n =>
    rw [nm] at h2
    have n1 : 1 ≤ n := of_decide_eq_true h2
    exact ⟨n.toNat, by rw [Int.toNat_of_nonneg (by omega)], by omega, rfl⟩
def sp__law_is_table (_ : PySem.W.Frag) : Sp := fun vs H Q _ => ∃ (r d l : Addr) (xs ws ys : List V) (st : V → Int) (fa : V → List Str) (ps : List Prb) (many : Nat) (its : List It), vs = [.ref r, .ref d, .int (many : Int), .ref l] ∧ H r = some (.lst xs) ∧ Rows H xs st fa ∧ (keysR st fa xs).Nodup ∧ xs.length ≤ 10 ∧ Probes H d ps ∧ GoodP ps ∧
  H l = some (.lst ws) ∧ Paired (ItmAt H) ws its ∧ its.length ≤ 2000 ∧ ys.Perm xs ∧ Asc st fa ys ∧ ∀ H', Same H H' → Q (.bl (jTable (datsOf st fa ys) (ps.map (·.2.2)) many its)) H'
theorem ok__law_is_table {f : Addr} {C : Addr} {fd : FuncData} (T : Txt K mg C) (F : Fun K "_law_is_table" "_law_is_table" s__law_is_table f fd) (c__law_is_row : Cal P w K mg base 2 "_law_is_row" (sp__law_is_row K) []) (c__law_part : Cal P w K mg base 1 "_law_part" (sp__law_part K) []) : FnOk P w K mg base CX0 3 f fd ["_law_rows", "_law_probes_here", "_law_many", "_law_thing"] (sp__law_is_table K) := by
  have nd := sc__law_is_table.nd
  refine F.ok sc__law_is_table (fun vs H Q E h => ?_) (fun cdv A outer s H vs Q E hr h => ?_)
  · obtain ⟨r, d, l, xs, ws, ys, st, fa, ps, many, its, rfl, _⟩ := h
    rfl
  · obtain ⟨r, d, l, xs, ws, ys, st, fa, ps, many, its, rfl, hx, Rx, ndx, few, P0, gp, hl, pw, les, pys, asc, q⟩ := h
    refine ⟨_, (pss_cons (ps_set (i := 4) nd rfl (.inl rfl) (pe_callTy call_tuple_of (by rfl) T.m_tuple (by decide +kernel) (pa_cons (pe_callB (show CallR _ (.builtin "sorted") (KnA.rSortedRO K) from KnA.cr_sortedRO (KnC.un65 hr)) (by rfl) T.m_sorted (by decide +kernel) (pa_cons (pv 0) pa_nil)) pa_nil)))
      (pss_cons (ps_if (pt_not (pt_val (pe_callB call_isi (by rfl) T.m_isinstance (by decide +kernel) (pa_cons (pv 3) (pa_cons (pe_bltn (v := .ty "list") (u := .type "list") (by rfl) T.m_list (by decide +kernel) rfl) pa_nil))))) (pss_one (ps_ret pe_bl)) pss_nil)
      (pss_cons (ps_set (i := 5) nd rfl (.inl rfl) KnN.pe_nnew)
      (pss_cons (ps_for PassesOwn.never rfl (pi_list (pv 3)) (pg_name (i := 6) nd rfl (.inl rfl)) (pss_cons (ps_if (pt_not (pt_val (pe_c c__law_is_row hr (by omega) (by rfl) (pa_cons (pv 4) (pa_cons (pv 6) pa_nil))))) (pss_one (ps_ret pe_bl)) pss_nil)
      (pss_one (KnN.ps_nput (KnC.un65 hr) (pv 5) (pe_ix (r := rIxT K) ix_tup (pv 6) pe_int (fun _ _ => rfl)) (pe_callB (call_max2 rfl) (by rfl) T.m_max (by decide +kernel) (pa_cons (pe_ix (r := rIxT K) ix_tup (pv 6) pe_int (fun _ _ => rfl)) (pa_cons (KnN.pe_nget2 (KnC.un65 hr) (pv 5) (pe_ix (r := rIxT K) ix_tup (pv 6) pe_int (fun _ _ => rfl)) pe_int ⟨rfl, rfl, rfl, rfl⟩) pa_nil))) rfl))))
      (pss_cons (ps_for PassesOwn.never rfl (pi_list (pv 3)) (pg_name (i := 6) nd rfl (.inl rfl)) (pss_one (ps_for PassesOwn.never rfl (pi_list (KnM.pe_listVals rfl (by rfl) T.m_list (pv 1))) (pg_name (i := 7) nd rfl (.inl rfl)) (pss_cons (ps_set (i := 8) nd rfl (.inl rfl) (KnN.pe_nget2 (KnC.un65 hr) (pv 5) (pe_c c__law_part hr (by omega) (by rfl) (pa_cons (pe_ix (r := rIxT K) ix_tup (pv 6) pe_int (fun _ _ => rfl)) (pa_cons (pv 7) (pa_cons pe_bl pa_nil)))) pe_int ⟨rfl, rfl, rfl, rfl⟩))
      (pss_cons (ps_set (i := 9) nd rfl (.inl rfl) (KnN.pe_nget2 (KnC.un65 hr) (pv 5) (pe_c c__law_part hr (by omega) (by rfl) (pa_cons (pe_ix (r := rIxT K) ix_tup (pv 6) pe_int (fun _ _ => rfl)) (pa_cons (pv 7) (pa_cons pe_bl pa_nil)))) pe_int ⟨rfl, rfl, rfl, rfl⟩))
      (pss_one (ps_if (pt_cmpR op_lt (pe_callB (call_max2 rfl) (by rfl) T.m_max (by decide +kernel) (pa_cons (pv 8) (pa_cons (pv 9) pa_nil))) (pe_op op_sub (pe_ix (r := rIxT K) ix_tup (pv 6) pe_int (fun _ _ => rfl)) pe_int) (nomark _)) (pss_one (ps_ret pe_bl)) pss_nil)))))))
      (pss_one (ps_ret (pe_cmpR op_gt (KnN.pe_nget2 (KnC.un65 hr) (pv 5) (pv 4) pe_int ⟨rfl, rfl, rfl, rfl⟩) (pv 2) (nomark _))))))))), ?_⟩
    have ndk : (keysR st fa ys).Nodup := List.Perm.nodup ((pys.map fun v => rk (st v) (fa v)).symm) ndx
    have R : Rows H ys st fa := fun v hv => Rx v (pys.subset hv)
    have fewy : ys.length ≤ 10 := by rw [pys.length_eq]; exact few
    have lws := Paired.length pw
    have em : (xs.map fun v => (v, (st v, fa v))).map (·.1) = xs := by rw [List.map_map]; exact List.map_id _
    refine ⟨.ref r, rfl, r, xs.map fun v => (v, (st v, fa v)), rfl, em.symm ▸ .inl (.inl hx), fun b hb => ?_, fun bs' sp pm so nsp => ?_⟩
    · obtain ⟨v, hv, rfl⟩ := List.mem_map.mp hb
      exact (Rx v hv).1
    have eys : bs'.map (·.1) = ys := by
      have hb : ∀ b ∈ bs', b.1 ∈ xs ∧ b.2 = (st b.1, fa b.1) := fun b hb => by
        obtain ⟨v, hv, rfl⟩ := List.mem_map.mp (pm.subset hb)
        exact ⟨hv, rfl⟩
      have e1 : (bs'.map (·.1)).map (fun v => (st v, fa v)) = bs'.map (·.2) := by
        rw [List.map_map]
        exact List.map_congr_left fun b h => (hb b h).2.symm
      have p1 : (bs'.map (·.1)).Perm xs := by have := pm.map (·.1); rwa [em] at this
      refine dat_inj ndx (fun x hx => p1.subset hx) (fun x hx => pys.subset hx) ?_
      rw [e1]
      refine KnA.rows_one so asc ?_
      rw [← e1]
      exact (p1.trans pys.symm).map _
    rw [eys]
    have s1 := same_upd (o := .lst ys) nsp
    have esp : (upd H sp (.lst ys)) sp = some (.lst ys) := upd_same
    generalize upd H sp (.lst ys) = H1 at s1 esp ⊢
    refine ⟨sp, ys, rfl, .inl ⟨.inl (.inl esp), fun b nb => ?_⟩⟩
    have s2 := s1.trans (same_upd (o := .tup ys) nb)
    have hb : (upd H1 b (.tup ys)) b = some (.tup ys) := upd_same
    generalize upd H1 b (.tup ys) = H2 at s2 hb ⊢
    refine ⟨.ref l, rfl, .ref l, .ty "list", .type "list", _, true, rfl, .ty _, .base (.lst (s2 _ _ hl)), kit_ty (show kitB "list" "list" = some true by decide +kernel), _, rfl, iteF ?_⟩
    intro B H3 nB k3 dn3
    have s23 : Same H2 H3 := fun y o e => (k3 y (ne_of_none e nB)).trans e
    have lis : ∀ {i : Nat} {x : V}, ws[i]? = some x → i < its.length := fun hx => by
      have := (List.getElem?_eq_some_iff.mp hx).1
      omega
    refine ⟨.ref l, rfl, l, rfl, ⟨_, .inl (.inl (s23 _ _ (s2 _ _ hl)))⟩, ?_⟩
    unfold jTable at q
    refine for_list (K := K) (a := l) (xs := ws) (fun i σ G => ∃ (y6 : Option V) (kvs : List (NestedKey × V)), σ = [some (.ref r), some (.ref d), some (.int (many : Int)), some (.ref l), some (.ref b), some (.ref B), y6, none, none, none] ∧ Same H2 G ∧ KnN.DNAt P w G B kvs ∧ BestAt kvs ((its.take i).map entOf) ∧ ∀ it ∈ its.take i, jItem (datsOf st fa ys) it = true)
      ⟨none, [], rfl, s23, dn3, ⟨fun g => rfl, Nat.le_refl _⟩, fun it h => nomatch h⟩ (fun i σ G _ hP => .inl (.inl (hP.choose_spec.choose_spec.2.1 _ _ (s2 _ _ hl)))) (fun i x σ G hx hP => ?_) (fun σ G hP => ?_)
    · obtain ⟨y6, kvs, rfl, S, dn, bt, okI⟩ := hP
      have S1 := s2.trans S
      have hi := lis hx
      obtain ⟨it, hp, ip0⟩ := pairedGet (itmsAt S1 pw) hx
      have mem := List.mem_of_getElem? hp
      refine ⟨.ref b, rfl, x, rfl, b, ys, st, fa, x, it, rfl, S _ _ hb, R.mono S1, ip0, fun G2 sg => ⟨_, rfl, ?_⟩⟩
      cases ji : jItem (datsOf st fa ys) it with
      | false =>
        refine iteT ?_
        have al : its.all (jItem (datsOf st fa ys)) = false := Bool.eq_false_iff.mpr fun z => by
          have := List.all_eq_true.mp z it mem
          rw [ji] at this; cases this
        rw [al] at q
        exact q G2 (S1.trans sg)
      | true =>
      refine iteF ?_
      obtain ⟨tp, ⟨n, nm, n1, en⟩, _, _⟩ := item_good ji
      obtain ⟨t, c, gr, rfl, ip⟩ := ip0
      have ip2 := ip.same sg
      have ht2 := ip2.at_
      unfold itO at ht2
      rw [if_pos tp, nm] at ht2
      have hc2 := ip2.gr
      have dn2 := dn.mono sg
      obtain ⟨st', fa', Rg, eds⟩ := rowsP_fun ip2.rows ip2.good
      have nk : KnN.NIs G2 (gkD it.ds) (.ref c) := by rw [← eds, ← gk_gkD]; exact gk_nis Rg hc2
      have dk : (gkD it.ds).depth ≤ 8 := by rw [← eds, ← gk_gkD]; exact gk_deep _ _ _
      refine ⟨.ref t, rfl, t, _, 1, .int (n : Int), rfl, rfl, .inl (.inl ht2), atI_nat (j := 1) rfl, .ref B, rfl, B, _, rfl, dn2, .ref t, rfl, t, _, 0, .ref c, rfl, rfl, .inl (.inl ht2), atI_nat (j := 0) rfl, _, gkD it.ds, c, rfl, dn2, nk, dk, ?_⟩
      rw [bt.val]
      refine ⟨(n : Int), (maxD ((its.take i).map entOf) it.ds : Int), rfl, ?_⟩
      have mx : (if ((maxD ((its.take i).map entOf) it.ds : Nat) : Int) > (n : Int) then ((maxD ((its.take i).map entOf) it.ds : Nat) : Int) else (n : Int)) = ((max (entOf it).2 (maxD ((its.take i).map entOf) (entOf it).1) : Nat) : Int) := by
        rw [en]
        show (if ((maxD ((its.take i).map entOf) it.ds : Nat) : Int) > (n : Int) then ((maxD ((its.take i).map entOf) it.ds : Nat) : Int) else (n : Int)) = ((max n (maxD ((its.take i).map entOf) it.ds) : Nat) : Int)
        split <;> omega
      rw [mx]
      have lkv := bt.few
      rw [List.length_map, List.length_take] at lkv
      refine ⟨.ref B, rfl, .ref t, rfl, t, _, 0, .ref c, rfl, rfl, .inl (.inl ht2), atI_nat (j := 0) rfl, B, _, gkD it.ds, c, rfl, rfl, dn2, nk, dk, small (by omega), fun G3 k3' dn3' => ?_⟩
      refine ⟨_, _, rfl, fun y o e => (k3' y (ne_of_none e nB)).trans ((S.trans sg) _ _ e), dn3', ?_, fun it' hit => ?_⟩
      · rw [take_more hp, List.map_append]
        exact bt.put (entOf it)
      · rw [take_more hp] at hit
        rcases List.mem_append.mp hit with h | h
        · exact okI it' h
        · rw [List.mem_singleton.mp h]; exact ji
    · obtain ⟨y6, kvs, rfl, S, dn, bt, okI⟩ := hP
      rw [lws, List.take_length] at bt okI
      have al : its.all (jItem (datsOf st fa ys)) = true := List.all_eq_true.mpr okI
      rw [al] at q
      have S1 := s2.trans S
      refine ⟨.ref l, rfl, l, rfl, ⟨_, .inl (.inl (S1 _ _ hl))⟩, ?_⟩
      refine for_list (K := K) (a := l) (xs := ws) (fun i σ G' => ∃ (y6 y7 y8 y9 : Option V), σ = [some (.ref r), some (.ref d), some (.int (many : Int)), some (.ref l), some (.ref b), some (.ref B), y6, y7, y8, y9] ∧ Same G G' ∧ ∀ it ∈ its.take i, ∀ ss ∈ ps.map (·.2.2), stepD (its.map entOf) (entOf it) ss = true)
        ⟨y6, none, none, none, rfl, Same.refl G, fun it h => nomatch h⟩ (fun i σ G' _ hP => .inl (.inl (hP.choose_spec.choose_spec.choose_spec.choose_spec.2.1 _ _ (S1 _ _ hl)))) (fun i x σ G' hx hP => ?_) (fun σ G' hP => ?_)
      · obtain ⟨y6, y7, y8, y9, rfl, SG, okS⟩ := hP
        have S2 := S1.trans SG
        have hi := lis hx
        obtain ⟨it, hp, t, c, gr, rfl, ip⟩ := pairedGet (itmsAt S2 pw) hx
        have mem := List.mem_of_getElem? hp
        obtain ⟨tp, ⟨n, nm, n1, en⟩, _, _⟩ := item_good (okI it mem)
        have ht := ip.at_
        unfold itO at ht
        rw [if_pos tp, nm] at ht
        have hc := ip.gr
        obtain ⟨st', fa', Rg, eds⟩ := rowsP_fun ip.rows ip.good
        have P2 := P0.mono S2
        have lgr : gr.length ≤ 14 := by rw [Paired.length ip.rows]; exact ip.few
        refine ⟨.ref d, rfl, d, pkv ps, rfl, .inl P2.at_, fun pl npl => ?_⟩
        have SL := same_upd (o := .lst ((pkv ps).map (·.2))) npl
        have epl : (upd G' pl (.lst ((pkv ps).map (·.2)))) pl = some (.lst ((pkv ps).map (·.2))) := upd_same
        generalize upd G' pl (.lst ((pkv ps).map (·.2))) = G4 at SL epl ⊢
        refine ⟨pl, rfl, ⟨_, .inl (.inl epl)⟩, ?_⟩
        refine for_list (K := K) (a := pl) (xs := (pkv ps).map (·.2)) (fun i σ G'' => ∃ (y7 y8 y9 : Option V), σ = [some (.ref r), some (.ref d), some (.int (many : Int)), some (.ref l), some (.ref b), some (.ref B), some (.ref t), y7, y8, y9] ∧ Same G4 G'' ∧ ∀ ss ∈ (ps.take i).map (·.2.2), stepD (its.map entOf) (entOf it) ss = true)
          ⟨y7, y8, y9, rfl, Same.refl G4, fun ss h => nomatch h⟩ (fun i σ G'' _ hP => .inl (.inl (hP.choose_spec.choose_spec.choose_spec.2.1 _ _ epl))) (fun i x σ G'' hx hP => ?_) (fun σ G'' hP => ?_)
        · obtain ⟨y7, y8, y9, rfl, S4, okL⟩ := hP
          have S5 := SL.trans S4
          unfold pkv at hx
          rw [List.map_map, List.getElem?_map] at hx
          cases gq : ps[i]? with
          | none => rw [gq] at hx; cases hx
          | some q0 =>
          rw [gq] at hx
          cases hx
          have memq := List.mem_of_getElem? gq
          refine ⟨.ref B, rfl, B, _, rfl, dn.mono (SG.trans S5), .ref t, rfl, t, _, 0, .ref c, rfl, rfl, .inl (.inl (S5 _ _ ht)), atI_nat (j := 0) rfl, .ref q0.2.1, rfl, c, q0.2.1, true, gr, q0.2.2, st', fa', rfl, S5 _ _ hc, (P2.mono S5).ls q0 memq, Rg.mono S5, lgr, fun H6 t6 s6 e6 => ?_⟩
          have S6 := S5.trans s6
          refine ⟨_, gk st' fa' (yesG st' q0.2.2 gr), t6, rfl, dn.mono (SG.trans S6), gk_nis (fun v hv => (Rg.mono S6) v (List.mem_filter.mp hv).1) e6, gk_deep _ _ _, ?_⟩
          rw [gk_gkD st' fa' (yesG st' q0.2.2 gr), bt.val, dats_yes, eds]
          refine ⟨.ref B, rfl, B, _, rfl, dn.mono (SG.trans S6), .ref t, rfl, t, _, 0, .ref c, rfl, rfl, .inl (.inl (S6 _ _ ht)), atI_nat (j := 0) rfl, .ref q0.2.1, rfl, c, q0.2.1, false, gr, q0.2.2, st', fa', rfl, S6 _ _ hc, (P2.mono S6).ls q0 memq, Rg.mono S6, lgr, fun H7 t7 s7 e7 => ?_⟩
          have S7 := S6.trans s7
          refine ⟨_, gk st' fa' (noG st' q0.2.2 gr), t7, rfl, dn.mono (SG.trans S7), gk_nis (fun v hv => (Rg.mono S7) v (List.mem_filter.mp hv).1) e7, gk_deep _ _ _, ?_⟩
          rw [gk_gkD st' fa' (noG st' q0.2.2 gr), bt.val, dats_no, eds]
          refine ⟨.int (maxD (its.map entOf) (yesD q0.2.2 it.ds) : Int), rfl, .int (maxD (its.map entOf) (noD q0.2.2 it.ds) : Int), rfl, _, _, rfl, .ref t, rfl, t, _, 1, .int (n : Int), rfl, rfl, .inl (.inl (S7 _ _ ht)), atI_nat (j := 1) rfl, (n : Int), 1, rfl, rfl, _, (n : Int) - 1, rfl, rfl, _, rfl, ?_⟩
          have se : stepD (its.map entOf) (entOf it) q0.2.2 = decide (n ≤ 1 + max (maxD (its.map entOf) (yesD q0.2.2 it.ds)) (maxD (its.map entOf) (noD q0.2.2 it.ds))) := by
            unfold stepD
            rw [en]; rfl
          by_cases ok : n ≤ 1 + max (maxD (its.map entOf) (yesD q0.2.2 it.ds)) (maxD (its.map entOf) (noD q0.2.2 it.ds))
          · have ge : ¬ ((if ((maxD (its.map entOf) (noD q0.2.2 it.ds) : Nat) : Int) > ((maxD (its.map entOf) (yesD q0.2.2 it.ds) : Nat) : Int) then ((maxD (its.map entOf) (noD q0.2.2 it.ds) : Nat) : Int) else ((maxD (its.map entOf) (yesD q0.2.2 it.ds) : Nat) : Int)) < (n : Int) - 1) := by
              split <;> omega
            rw [decide_eq_false ge]
            refine iteF ⟨_, _, _, rfl, S4.trans (s6.trans s7), fun ss hss => ?_⟩
            rw [take_more gq, List.map_append] at hss
            rcases List.mem_append.mp hss with h | h
            · exact okL ss h
            · rw [List.mem_singleton.mp h, se]; exact decide_eq_true ok
          · have lt : ((if ((maxD (its.map entOf) (noD q0.2.2 it.ds) : Nat) : Int) > ((maxD (its.map entOf) (yesD q0.2.2 it.ds) : Nat) : Int) then ((maxD (its.map entOf) (noD q0.2.2 it.ds) : Nat) : Int) else ((maxD (its.map entOf) (yesD q0.2.2 it.ds) : Nat) : Int)) < (n : Int) - 1) := by
              split <;> omega
            rw [decide_eq_true lt]
            refine iteT ?_
            have bad : ((its.map entOf).all fun p => (ps.map (·.2.2)).all fun ss => stepD (its.map entOf) p ss) = false := Bool.eq_false_iff.mpr fun z => by
              have := List.all_eq_true.mp (List.all_eq_true.mp z (entOf it) (List.mem_map.mpr ⟨it, mem, rfl⟩)) q0.2.2 (List.mem_map.mpr ⟨q0, memq, rfl⟩)
              rw [se] at this
              exact ok (of_decide_eq_true this)
            rw [bad] at q
            exact q _ (S2.trans S7)
        · obtain ⟨y7, y8, y9, rfl, S4, okL⟩ := hP
          have lp : ((pkv ps).map (·.2)).length = ps.length := by unfold pkv; rw [List.length_map, List.length_map]
          rw [lp, List.take_length] at okL
          refine ⟨_, _, _, _, rfl, SG.trans (SL.trans S4), fun it' hit => ?_⟩
          rw [take_more hp] at hit
          rcases List.mem_append.mp hit with h | h
          · exact okS it' h
          · rw [List.mem_singleton.mp h]; exact okL
      · obtain ⟨y6, y7, y8, y9, rfl, SG, okS⟩ := hP
        rw [lws, List.take_length] at okS
        have allT : ((its.map entOf).all fun p => (ps.map (·.2.2)).all fun ss => stepD (its.map entOf) p ss) = true := List.all_eq_true.mpr fun p hp => by
          obtain ⟨it, hit, rfl⟩ := List.mem_map.mp hp
          exact List.all_eq_true.mpr fun ss hss => okS it hit ss hss
        rw [allT] at q
        refine ⟨.ref B, rfl, B, _, rfl, dn.mono SG, .ref b, rfl, _, gk st fa ys, b, rfl, dn.mono SG, gk_nis (R.mono (S1.trans SG)) (SG _ _ (S _ _ hb)), gk_deep _ _ _, ?_⟩
        rw [gk_gkD, bt.val]
        refine ⟨.int (many : Int), rfl, _, (many : Int), rfl, rfl, ?_⟩
        show Q (.bl (decide ((many : Int) < (maxD (its.map entOf) (datsOf st fa ys) : Int)))) G'
        have dd : decide ((many : Int) < (maxD (its.map entOf) (datsOf st fa ys) : Int)) = decide (many < maxD (its.map entOf) (datsOf st fa ys)) := by
          rw [Bool.eq_iff_iff, decide_eq_true_eq, decide_eq_true_eq]
          omega
        rw [dd]
        exact q _ (S1.trans SG)

end
end Kn

set_option Elab.async false
set_option linter.all false
set_option maxRecDepth 100000
set_option maxHeartbeats 4000000
namespace Kn
open PySem PySem.Spec PyProof.Rows L2
open C8 (Cal pe_c pe_gc Mak pe_mk)
section
variable {P : Program} {w : World} {K : PySem.W.Frag} {mg : Str → Option Value} {base : Heap}
theorem ItmP.mk' {H : Hp} {t c : Addr} {g : List V} {st : V → Int} {fa : V → List Str} {n : Int} (ht : H t = some (.tup [.ref c, .int n])) (hc : H c = some (.tup g)) (R : Rows H g st fa) (few : g.length ≤ 14) : ItmP H t c g ⟨true, datsOf st fa g, .inl n⟩ :=
  ⟨ht, hc, RowsP.of R, fun d hd => (List.mem_map.mp hd).elim fun v hv => hv.2 ▸ (R v hv.1).2, by show (List.map _ g).length ≤ 14; rw [List.length_map]; exact few⟩
theorem itmsTup {H H' : Hp} (k : ∀ t xs, H t = some (.tup xs) → H' t = some (.tup xs)) {vs : List V} {its : List It} (h : Paired (ItmAt H) vs its) (tp : ∀ it ∈ its, it.tp = true) : Paired (ItmAt H') vs its := by
  induction h with
  | nil => exact .nil
  | cons a _ ih =>
    obtain ⟨t, c, g, e, p⟩ := a
    have t1 := tp _ List.mem_cons_self
    have at1 := p.at_
    unfold itO at at1
    rw [if_pos t1] at at1
    refine .cons ⟨t, c, g, e, ?_, k _ _ p.gr, p.rows.ext k, p.good, p.few⟩ (ih fun it hit => tp it (List.mem_cons_of_mem _ hit))
    unfold itO
    rw [if_pos t1]
    exact k _ _ at1
def okI (k : Nat) (it : It) : Prop := it.ds.length ≤ k ∧ -(k : Int) ≤ KnB.nOf it.nm ∧ KnB.nOf it.nm ≤ (k : Int)
theorem okI.up {k : Nat} {it : It} (h : okI k it) : okI (k + 1) it := ⟨Nat.le_succ_of_le h.1, by have := h.2.1; omega, by have := h.2.2; omega⟩
def sp__law_plain (_ : PySem.W.Frag) : Sp := fun vs H Q _ => ∃ (r d : Addr) (us : List V) (st : V → Int) (fa : V → List Str) (ps : List Prb) (many : Nat), vs = [.ref r, .ref d, .int (many : Int)] ∧ H r = some (.lst us) ∧ Rows H us st fa ∧ us.length ≤ 10 ∧ many ≤ 9 ∧ Probes H d ps ∧ GoodP ps ∧
  ∀ (H' : Hp) (L : Addr) (ws : List V) (its : List It), Same H H' → H L = none → H' L = some (.lst ws) → Paired (ItmAt H') ws its → its.length ≤ 20 → 1 ≤ its.length → (∀ it ∈ its, it.tp = true ∧ okI 10 it) → Q (.ref L) H'
theorem ok__law_plain {f : Addr} {C : Addr} {fd : FuncData} (T : Txt K mg C) (F : Fun K "_law_plain" "_law_plain" s__law_plain f fd) (c__law_part : Cal P w K mg base 1 "_law_part" (sp__law_part K) []) (c__law_settled : Cal P w K mg base 1 "_law_settled" (sp__law_settled K) []) : FnOk P w K mg base CX0 2 f fd ["_law_rows", "_law_probes_here", "_law_many"] (sp__law_plain K) := by
  have nd := sc__law_plain.nd
  refine F.ok sc__law_plain (fun vs H Q E h => ?_) (fun cdv A outer s H vs Q E hr h => ?_)
  · obtain ⟨r, d, us, st, fa, ps, many, rfl, _⟩ := h
    rfl
  · obtain ⟨r, d, us, st, fa, ps, many, rfl, hx, Rx, few, m9, P0, gp, q⟩ := h
    refine ⟨_, (pss_cons (ps_set (i := 3) nd rfl (.inl rfl) (pe_callTy call_tuple_of (by rfl) T.m_tuple (by decide +kernel) (pa_cons (pe_callB (show CallR _ (.builtin "sorted") (KnA.rSortedRO K) from KnA.cr_sortedRO (KnC.un65 hr)) (by rfl) T.m_sorted (by decide +kernel) (pa_cons (pv 0) pa_nil)) pa_nil)))
      (pss_cons (ps_set (i := 4) nd rfl (.inl rfl) (pe_lst (pa_cons (pe_tup (pa_cons (pv 3) (pa_cons (pe_op op_add (pv 2) pe_int) pa_nil))) pa_nil)))
      (pss_cons (ps_for PassesOwn.never rfl (pi_list (KnM.pe_listVals rfl (by rfl) T.m_list (pv 1))) (pg_name (i := 5) nd rfl (.inl rfl)) (pss_one (ps_for PassesOwn.never rfl (pi_list (pe_lst (pa_cons pe_bl (pa_cons pe_bl pa_nil)))) (pg_name (i := 6) nd rfl (.inl rfl)) (pss_cons (ps_set (i := 7) nd rfl (.inl rfl) (pe_c c__law_part hr (by omega) (by rfl) (pa_cons (pv 3) (pa_cons (pv 5) (pa_cons (pv 6) pa_nil)))))
      (pss_one (ps_if (pt_not (pt_val (pe_c c__law_settled hr (by omega) (by rfl) (pa_cons (pv 7) pa_nil)))) (pss_one (ps_expr (pe_bm PySem.F.plainAttrs_list PySem.F.slot_list_append PySem.F.type_list_append mt_append (pv 4) (pa_cons (pe_tup (pa_cons (pv 7) (pa_cons (pe_callB (call_max2 rfl) (by rfl) T.m_max (by decide +kernel) (pa_cons pe_int (pa_cons (pv 2) pa_nil))) pa_nil))) pa_nil)))) pss_nil))))))
      (pss_one (ps_ret (pv 4)))))), ?_⟩
    have em : (us.map fun v => (v, (st v, fa v))).map (·.1) = us := by rw [List.map_map]; exact List.map_id _
    refine ⟨.ref r, rfl, r, us.map fun v => (v, (st v, fa v)), rfl, em.symm ▸ .inl (.inl hx), fun b hb => ?_, fun bs' sp pm so nsp => ?_⟩
    · obtain ⟨v, hv, rfl⟩ := List.mem_map.mp hb
      exact (Rx v hv).1
    have p1 : (bs'.map (·.1)).Perm us := by have := pm.map (·.1); rwa [em] at this
    generalize bs'.map (·.1) = ys at p1 ⊢
    have s1 := same_upd (o := .lst ys) nsp
    have esp : (upd H sp (.lst ys)) sp = some (.lst ys) := upd_same
    generalize upd H sp (.lst ys) = H1 at s1 esp ⊢
    refine ⟨sp, ys, rfl, .inl ⟨.inl (.inl esp), fun b nb => ?_⟩⟩
    have s2 := s1.trans (same_upd (o := .tup ys) nb)
    have hb : (upd H1 b (.tup ys)) b = some (.tup ys) := upd_same
    generalize upd H1 b (.tup ys) = H2 at s2 hb ⊢
    have R : Rows H2 ys st fa := fun v hv => (Rx.mono s2) v (p1.subset hv)
    have ly : ys.length ≤ 10 := by rw [p1.length_eq]; exact few
    refine ⟨.ref b, rfl, .int (many : Int), rfl, (many : Int), 1, rfl, rfl, szl rfl, fun t nt => ⟨szl rfl, fun L nL => ?_⟩⟩
    have st2 : Same H2 (upd H2 t (.tup [.ref b, .int ((many : Int) + 1)])) := same_upd nt
    have et : (upd H2 t (.tup [.ref b, .int ((many : Int) + 1)])) t = some (.tup [.ref b, .int ((many : Int) + 1)]) := upd_same
    have sL := same_upd (o := .lst [.ref t]) nL
    have nLH : H L = none := s2.free (st2.free nL)
    have eL : (upd (upd H2 t (.tup [.ref b, .int ((many : Int) + 1)])) L (.lst [.ref t])) L = some (.lst [.ref t]) := upd_same
    have S3 := (s2.trans st2).trans sL
    have S23 := st2.trans sL
    have et3 := sL _ _ et
    generalize upd (upd H2 t (.tup [.ref b, .int ((many : Int) + 1)])) L (.lst [.ref t]) = H3 at eL S3 S23 et3 ⊢
    have P3 := P0.mono S3
    have R3 := R.mono S23
    have hb3 := S23 _ _ hb
    have nbL : b ≠ L := ne_of hb3 eL fun z => by cases z
    refine ⟨.ref d, rfl, d, pkv ps, rfl, .inl P3.at_, fun pl npl => ?_⟩
    have spl := same_upd (o := .lst ((pkv ps).map (·.2))) npl
    have epl : (upd H3 pl (.lst ((pkv ps).map (·.2)))) pl = some (.lst ((pkv ps).map (·.2))) := upd_same
    have eL4 := spl _ _ eL
    have nplL : pl ≠ L := (ne_of_none eL npl).symm
    generalize upd H3 pl (.lst ((pkv ps).map (·.2))) = H4 at spl epl eL4 ⊢
    have S4 := S3.trans spl
    have P4 := P3.mono spl
    have R4 := R3.mono spl
    have hb4 := spl _ _ hb3
    have it0 : ItmAt H4 (.ref t) ⟨true, datsOf st fa ys, .inl ((many : Int) + 1)⟩ := ⟨t, b, ys, rfl, .mk' (spl _ _ et3) hb4 R4 (by omega)⟩
    have nH : ∀ {x o}, H x = some o → x ≠ L := fun z => ne_of_none z nLH
    refine ⟨pl, rfl, ⟨_, .inl (.inl epl)⟩, ?_⟩
    refine for_list (K := K) (a := pl) (xs := (pkv ps).map (·.2)) (fun i σ G => ∃ (y5 y6 y7 : Option V) (ws : List V) (its : List It), σ = [some (.ref r), some (.ref d), some (.int (many : Int)), some (.ref b), some (.ref L), y5, y6, y7] ∧ (∀ x o, x ≠ L → H4 x = some o → G x = some o) ∧ G L = some (.lst ws) ∧ Paired (ItmAt G) ws its ∧ its.length ≤ 1 + 2 * i ∧ 1 ≤ its.length ∧ ∀ it ∈ its, it.tp = true ∧ okI 10 it)
      ⟨none, none, none, [.ref t], [_], rfl, fun x o _ z => z, eL4, .cons it0 .nil, Nat.le_refl _, Nat.le_refl _, fun it hit => by rw [List.mem_singleton.mp hit]; exact ⟨rfl, by show (List.map _ ys).length ≤ 10; rw [List.length_map]; exact ly, by show -((10 : Nat) : Int) ≤ (many : Int) + 1; omega, by show (many : Int) + 1 ≤ ((10 : Nat) : Int); omega⟩⟩ (fun i σ G _ hP => .inl (.inl (hP.choose_spec.choose_spec.choose_spec.choose_spec.choose_spec.2.1 _ _ nplL epl))) (fun i x σ G hx hP => ?_) (fun σ G hP => ?_)
    · obtain ⟨y5, y6, y7, ws, its, rfl, kG, eG, pG, lG, l1, okG⟩ := hP
      unfold pkv at hx
      rw [List.map_map, List.getElem?_map] at hx
      cases gq : ps[i]? with
      | none => rw [gq] at hx; cases hx
      | some q0 =>
      rw [gq] at hx
      cases hx
      have memq := List.mem_of_getElem? gq
      have hi : i < ps.length := (List.getElem?_eq_some_iff.mp gq).1
      have lps := gp.len
      refine ⟨szl rfl, fun D nD => ⟨D, rfl, ⟨_, .inl (.inl upd_same)⟩, ?_⟩⟩
      have sD := same_upd (o := .lst [V.bl true, .bl false]) nD
      have eDD : (upd G D (.lst [V.bl true, .bl false])) D = some (.lst [V.bl true, .bl false]) := upd_same
      have nDL : D ≠ L := (ne_of_none eG nD).symm
      refine for_list (K := K) (a := D) (xs := [V.bl true, .bl false]) (fun j σ G' => ∃ (y6 y7 : Option V) (ws' : List V) (its' : List It), σ = [some (.ref r), some (.ref d), some (.int (many : Int)), some (.ref b), some (.ref L), some (.ref q0.2.1), y6, y7] ∧ (∀ x o, x ≠ L → H4 x = some o → G' x = some o) ∧ G' D = some (.lst [V.bl true, .bl false]) ∧ G' L = some (.lst ws') ∧ Paired (ItmAt G') ws' its' ∧ its'.length ≤ 1 + 2 * i + j ∧ 1 ≤ its'.length ∧ ∀ it ∈ its', it.tp = true ∧ okI 10 it)
        ⟨y6, y7, ws, its, rfl, fun x o n z => sD _ _ (kG x o n z), eDD, sD _ _ eG, itmsAt sD pG, lG, l1, okG⟩ (fun j σ G' _ hP => .inl (.inl hP.choose_spec.choose_spec.choose_spec.choose_spec.2.2.1)) (fun j x σ G' hx' hP => ?_) (fun σ G' hP => ?_)
      · obtain ⟨y6, y7, ws', its', rfl, kG', eD', eL', pG', lG', l1', ok'⟩ := hP
        obtain ⟨sd, rfl⟩ : ∃ sd, x = .bl sd := by
          match j, hx' with
          | 0, h => exact ⟨true, (Option.some.inj h).symm⟩
          | 1, h => exact ⟨false, (Option.some.inj h).symm⟩
        have hj : j < 2 := (List.getElem?_eq_some_iff.mp hx').1
        have hbG := kG' _ _ nbL hb4
        have RG : Rows G' ys st fa := fun v hv => ⟨(R4 v hv).1.ext fun t xs z => kG' _ _ (ne_of z eL4 fun z => by cases z) z, (R4 v hv).2⟩
        have lsG := kG' _ _ (nH (P0.ls q0 memq)) (P4.ls q0 memq)
        refine ⟨.ref b, rfl, .ref q0.2.1, rfl, .bl sd, rfl, b, q0.2.1, sd, ys, q0.2.2, st, fa, rfl, hbG, lsG, RG, by omega, fun H5 t5 s5 e5 => ?_⟩
        generalize hpg : (if sd = true then yesG st q0.2.2 ys else noG st q0.2.2 ys) = pg at e5
        have subp : ∀ v ∈ pg, v ∈ ys := fun v hv => by
          rw [← hpg] at hv
          cases sd with
          | true => rw [if_pos rfl] at hv; exact (List.mem_filter.mp hv).1
          | false => rw [if_neg (by decide)] at hv; exact (List.mem_filter.mp hv).1
        have lpg : pg.length ≤ 10 := by
          rw [← hpg]
          cases sd with
          | true => rw [if_pos rfl]; exact Nat.le_trans (List.length_filter_le _ _) ly
          | false => rw [if_neg (by decide)]; exact Nat.le_trans (List.length_filter_le _ _) ly
        have Rp : Rows H5 pg st fa := fun v hv => (RG.mono s5) v (subp v hv)
        refine ⟨.ref t5, rfl, t5, pg, st, fa, rfl, e5, Rp, by omega, fun H6 s6 => ⟨_, rfl, ?_⟩⟩
        have s56 := s5.trans s6
        cases sl : stl fa pg with
        | true => exact iteF ⟨_, _, ws', its', rfl, fun x o n z => s56 _ _ (kG' x o n z), s56 _ _ eD', s56 _ _ eL', itmsAt s56 pG', by omega, l1', ok'⟩
        | false =>
          refine iteT ?_
          have eL6 := s56 _ _ eL'
          refine ⟨.ref L, rfl, .inl ⟨rfl, _, .inl (.inl eL6)⟩, .ref t5, rfl, .int (many : Int), rfl, 1, (many : Int), rfl, szl rfl, fun p np => ?_⟩
          have s7 : Same H6 (upd H6 p (.tup [.ref t5, .int (if (many : Int) > 1 then (many : Int) else 1)])) := same_upd np
          have e7 : (upd H6 p (.tup [.ref t5, .int (if (many : Int) > 1 then (many : Int) else 1)])) p = some (.tup [.ref t5, .int (if (many : Int) > 1 then (many : Int) else 1)]) := upd_same
          have eL7 := s7 _ _ eL6
          have S7 := s56.trans s7
          have l5 := Paired.length pG'
          refine ⟨L, ws', .ref p, rfl, rfl, eL7, small (by omega), ?_⟩
          have kU : ∀ x o, x ≠ L → (upd H6 p (.tup [.ref t5, .int (if (many : Int) > 1 then (many : Int) else 1)])) x = some o → (upd (upd H6 p (.tup [.ref t5, .int (if (many : Int) > 1 then (many : Int) else 1)])) L (.lst (ws' ++ [.ref p]))) x = some o := fun x o n z => (upd_ne n).trans z
          have kT : ∀ t xs, (upd H6 p (.tup [.ref t5, .int (if (many : Int) > 1 then (many : Int) else 1)])) t = some (.tup xs) → (upd (upd H6 p (.tup [.ref t5, .int (if (many : Int) > 1 then (many : Int) else 1)])) L (.lst (ws' ++ [.ref p]))) t = some (.tup xs) := fun t xs z => kU _ _ (ne_of z eL7 fun z => by cases z) z
          have Rp7 : Rows (upd (upd H6 p (.tup [.ref t5, .int (if (many : Int) > 1 then (many : Int) else 1)])) L (.lst (ws' ++ [.ref p]))) pg st fa := fun v hv => ⟨(Rp v hv).1.ext fun t xs z => kT _ _ (s7 _ _ (s6 _ _ z)), (Rp v hv).2⟩
          refine ⟨_, _, ws' ++ [.ref p], its' ++ [⟨true, datsOf st fa pg, .inl (if (many : Int) > 1 then (many : Int) else 1)⟩], rfl, fun x o n z => kU _ _ n (S7 _ _ (kG' x o n z)), kU _ _ nDL (S7 _ _ eD'), upd_same, Paired.snoc (itmsTup (fun t xs z => kT _ _ (S7 _ _ z)) pG' fun it hit => (ok' it hit).1) ⟨p, t5, pg, rfl, .mk' (kT _ _ e7) (kT _ _ (s7 _ _ (s6 _ _ e5))) Rp7 (by omega)⟩, by rw [List.length_append]; show its'.length + 1 ≤ _; omega, by rw [List.length_append]; omega, fun it hit => ?_⟩
          rcases List.mem_append.mp hit with h | h
          · exact ok' it h
          · rw [List.mem_singleton.mp h]
            exact ⟨rfl, by show (List.map _ pg).length ≤ 10; rw [List.length_map]; exact lpg, by show -((10 : Nat) : Int) ≤ if (many : Int) > 1 then (many : Int) else 1; split <;> omega, by show (if (many : Int) > 1 then (many : Int) else 1) ≤ ((10 : Nat) : Int); split <;> omega⟩
      · obtain ⟨y6, y7, ws', its', rfl, kG', eD', eL', pG', lG', l1', ok'⟩ := hP
        exact ⟨_, _, _, ws', its', rfl, kG', eL', pG', by have : [V.bl true, V.bl false].length = 2 := rfl; omega, l1', ok'⟩
    · obtain ⟨y5, y6, y7, ws, its, rfl, kG, eG, pG, lG, l1, okG⟩ := hP
      have lp : ((pkv ps).map (·.2)).length = ps.length := by unfold pkv; rw [List.length_map, List.length_map]
      have lps := gp.len
      refine ⟨_, rfl, q G L ws its (fun x o z => kG _ _ (nH z) (S4 _ _ z)) nLH eG pG (by omega) l1 okG⟩

end
end Kn

set_option Elab.async false
set_option linter.all false
set_option maxRecDepth 100000
set_option maxHeartbeats 4000000
namespace Kn
open PySem PySem.Spec PyProof.Rows L2
open C8 (Cal pe_c pe_gc Mak pe_mk)
section
variable {P : Program} {w : World} {K : PySem.W.Frag} {mg : Str → Option Value} {base : Heap}
theorem cut_toN {xs : List V} {a : Nat} : cutV xs none (some (a : Int)) = xs.take a := by
  unfold cutV
  rw [HT.sIx_nat, HT.sIx_none, List.drop_zero, Nat.sub_zero]
  by_cases h : a ≤ xs.length
  · rw [Nat.min_eq_left h]
  · rw [Nat.min_eq_right (by omega : xs.length ≤ a), List.take_of_length_le (Nat.le_refl _), List.take_of_length_le (by omega)]
theorem pairedTake {α β : Type} {R : α → β → Prop} {xs : List α} {ys : List β} (h : Paired R xs ys) : ∀ n, Paired R (xs.take n) (ys.take n) := by
  induction h with
  | nil => intro n; rw [List.take_nil, List.take_nil]; exact .nil
  | cons a _ ih =>
    intro n
    cases n with
    | zero => exact .nil
    | succ n => exact .cons a (ih n)
theorem pairedDrop {α β : Type} {R : α → β → Prop} {xs : List α} {ys : List β} (h : Paired R xs ys) : ∀ n, Paired R (xs.drop n) (ys.drop n) := by
  induction h with
  | nil => intro n; rw [List.drop_nil, List.drop_nil]; exact .nil
  | cons a t ih =>
    intro n
    cases n with
    | zero => exact .cons a t
    | succ n => exact ih n
theorem pairedRev {α β : Type} {R : α → β → Prop} {xs : List α} {ys : List β} (h : Paired R xs ys) : Paired R xs.reverse ys.reverse := by
  induction h with
  | nil => exact .nil
  | cons a _ ih => rw [List.reverse_cons, List.reverse_cons]; exact Paired.snoc ih a
theorem catA_use {K : PySem.W.Frag} {x y : V} {H : Hp} {Q : VK} (a b : Addr) (xs ys : List V) (hx : x = .ref a) (hy : y = .ref b) (ea : H a = some (.tup xs)) (eb : H b = some (.tup ys)) (sz : xs.length + ys.length ≤ sizeLine)
    (h : ∀ p H', Same H H' → H' p = some (.tup (xs ++ ys)) → Q (.ref p) H') : rCatA K x y H Q :=
  ⟨a, b, xs, ys, hx, hy, .inl (.inl ea), .inl (.inl eb), sz, fun e => h b H (Same.refl H) (by rw [e]; exact eb), fun _ e => h a H (Same.refl H) (by rw [e, List.append_nil]; exact ea), fun _ _ p np => h p _ (same_upd np) upd_same⟩
def strD : KnA.Dat := (99, ["zzz", "zzzz"])
theorem stranger : GoodRow strD.1 strD.2 := ⟨by decide +kernel, by decide, by decide +kernel, by unfold ltS; decide +kernel⟩
def sp__law_changed (_ : PySem.W.Frag) : Sp := fun vs H Q _ => ∃ (s c l : Addr) (ws : List V) (its : List It) (k : Nat), vs = [.ref s, .ref l] ∧ SrcAt H s c ∧ l ≠ s ∧ H l = some (.lst ws) ∧ Paired (ItmAt H) ws its ∧ 1 ≤ its.length ∧ its.length ≤ 1100 ∧ k ≤ 13 ∧ (∀ it ∈ its, it.tp = true ∧ okI k it) ∧
  ∀ (H' : Hp) (L : Addr) (ws' : List V) (its' : List It), But s H H' → SrcAt H' s c → H L = none → H' L = some (.lst ws') → Paired (ItmAt H') ws' its' → its'.length ≤ its.length + 1 → (∀ it ∈ its', okI (k + 1) it) → Q (.ref L) H'
theorem ok__law_changed {f : Addr} {C : Addr} {fd : FuncData} (T : Txt K mg C) (F : Fun K "_law_changed" "_law_changed" s__law_changed f fd) (c__law_draw : Cal P w K mg base 1 "_law_draw" (sp__law_draw K) []) : FnOk P w K mg base CX0 2 f fd ["_law_source_here", "_law_items"] (sp__law_changed K) := by
  have nd := sc__law_changed.nd
  refine F.ok sc__law_changed (fun vs H Q E h => ?_) (fun cdv A outer s0 H vs Q E hr h => ?_)
  · obtain ⟨s, c, l, ws, its, k, rfl, _⟩ := h
    rfl
  · obtain ⟨s, c, l, ws, its, k, rfl, src, nls, hl, pw, n1, n2, k13, ok, q⟩ := h
    refine ⟨_, (pss_cons (ps_set (i := 2) nd rfl (.inl rfl) (pe_c c__law_draw hr (by omega) (by rfl) (pa_cons (pv 0) (pa_cons pe_int pa_nil))))
      (pss_cons (ps_set (i := 3) nd rfl (.inl rfl) (pe_c c__law_draw hr (by omega) (by rfl) (pa_cons (pv 0) (pa_cons (pe_callB call_len (by rfl) T.m_len (by decide +kernel) (pa_cons (pv 1) pa_nil)) pa_nil))))
      (pss_cons (ps_asg (pe_ix (r := rIxL K) ix_list (pv 1) (pv 3) (fun _ _ => rfl)) (pg_tup (by rfl) (pgs_cons (pg_name (i := 4) nd rfl (.inl rfl)) (pgs_cons (pg_name (i := 5) nd rfl (.inl rfl)) pgs_nil))))
      (pss_cons (ps_if (pt_cmpR op_eq (pv 2) pe_int (nomark _)) (pss_one (ps_ret (pe_op op_cat (pe_slice sl_list (pv 1) po_none (po_some (pv 3))) (pe_slice sl_list (pv 1) (po_some (pe_op op_add (pv 3) pe_int)) po_none)))) pss_nil)
      (pss_cons (ps_if (pt_cmpR op_eq (pv 2) pe_int (nomark _)) (pss_one (ps_ret (pe_op op_cat (pv 1) (pe_lst (pa_cons (pe_ix (r := rIxL K) ix_list (pv 1) (pv 3) (fun _ _ => rfl)) pa_nil))))) pss_nil)
      (pss_cons (ps_set (i := 6) nd rfl (.inl rfl) (pe_c c__law_draw hr (by omega) (by rfl) (pa_cons (pv 0) (pa_cons (pe_callB (call_max2 rfl) (by rfl) T.m_max (by decide +kernel) (pa_cons pe_int (pa_cons (pe_callB call_len (by rfl) T.m_len (by decide +kernel) (pa_cons (pv 4) pa_nil)) pa_nil))) pa_nil))))
      (pss_cons (ps_set (i := 7) nd rfl (.inl rfl) (pe_tup (pa_cons (pv 4) (pa_cons (pe_op KnB.op_addNB (pv 5) pe_int) pa_nil))))
      (pss_cons (ps_if (pt_cmpR op_eq (pv 2) pe_int (nomark _)) (pss_one (ps_set (i := 7) nd rfl (.inl rfl) (pe_tup (pa_cons (pv 4) (pa_cons (pe_op KnB.op_subNB (pv 5) pe_int) pa_nil))))) pss_nil)
      (pss_cons (ps_if (pt_cmpR op_eq (pv 2) pe_int (nomark _)) (pss_one (ps_set (i := 7) nd rfl (.inl rfl) (pe_tup (pa_cons (pv 4) (pa_cons (pe_cmpR KnB.op_eqNB (pv 5) pe_int (nomark _)) pa_nil))))) pss_nil)
      (pss_cons (ps_if (pt_cmpR op_eq (pv 2) pe_int (nomark _)) (pss_one (ps_set (i := 7) nd rfl (.inl rfl) (pe_tup (pa_cons (pe_op op_catA (pe_slice sl_tupA (pv 4) po_none (po_some (pv 6))) (pe_slice sl_tupA (pv 4) (po_some (pe_op op_add (pv 6) pe_int)) po_none)) (pa_cons (pv 5) pa_nil))))) pss_nil)
      (pss_cons (ps_if (pt_cmpR op_eq (pv 2) pe_int (nomark _)) (pss_one (ps_set (i := 7) nd rfl (.inl rfl) (pe_tup (pa_cons (KnR.pe_revT (pv 4) (pe_un un_neg pe_int)) (pa_cons (pv 5) pa_nil))))) pss_nil)
      (pss_cons (ps_if (pt_cmpR op_eq (pv 2) pe_int (nomark _)) (pss_one (ps_set (i := 7) nd rfl (.inl rfl) (pe_tup (pa_cons (pe_op op_catA (pv 4) (pe_tup (pa_cons (pe_tup (pa_cons pe_int (pa_cons (pe_tup (pa_cons pe_str (pa_cons pe_str pa_nil))) pa_nil))) pa_nil))) (pa_cons (pv 5) pa_nil))))) pss_nil)
      (pss_cons (ps_if (pt_cmpR op_eq (pv 2) pe_int (nomark _)) (pss_one (ps_set (i := 7) nd rfl (.inl rfl) (pe_lst (pa_cons (pv 4) (pa_cons (pv 5) pa_nil))))) pss_nil)
      (pss_one (ps_ret (pe_op op_cat (pe_op op_cat (pe_slice sl_list (pv 1) po_none (po_some (pv 3))) (pe_lst (pa_cons (pv 7) pa_nil))) (pe_slice sl_list (pv 1) (po_some (pe_op op_add (pv 3) pe_int)) po_none))))))))))))))))), ?_⟩
    have lws := Paired.length pw
    refine ⟨.ref s, rfl, s, c, 9, rfl, by decide, by decide, src, fun H1 kd b1 src1 r0 r1 => ?_⟩
    have hl1 := b1 _ _ hl nls
    refine ⟨.ref s, rfl, .ref l, rfl, .ref l, ws.length, rfl, .inl ⟨_, .inl (.inl hl1), rfl⟩, s, c, (ws.length : Int), rfl, by omega, by omega, src1, fun H2 pl b2 src2 p0 p1 => ?_⟩
    have b12 := b1.trans b2
    have hl2 := b12 _ _ hl nls
    obtain ⟨j, rfl⟩ : ∃ j : Nat, pl = (j : Int) := ⟨pl.toNat, by omega⟩
    have hj : j < ws.length := by omega
    have gw : ws[j]? = some ws[j] := List.getElem?_eq_getElem hj
    have pw2 : Paired (ItmAt H2) ws its := itmsTup (but_tup b12 src) pw fun it hit => (ok it hit).1
    obtain ⟨it, hit, t, cg, gr, et, ip⟩ := pairedGet pw2 gw
    have mem := List.mem_of_getElem? hit
    obtain ⟨tp, lk, lk1, lk2⟩ := ok it mem
    have ht := ip.at_
    unfold itO at ht
    rw [if_pos tp] at ht
    refine ⟨.ref l, rfl, .int (j : Int), rfl, l, ws, (j : Int), ws[j], rfl, rfl, .inl (.inl hl2), atI_nat gw, ?_⟩
    refine ⟨t, _, et, .inl (.inl ht), rfl, .ref cg, _, rfl, numV it.nm, [], rfl, rfl, ?_⟩
    have c1 : cutV ws none (some (j : Int)) = ws.take j := cut_toN
    have c2 : cutV ws (some ((j : Int) + 1)) none = ws.drop (j + 1) := by
      have := cut_from (xs := ws) (a := j + 1)
      rwa [show ((j + 1 : Nat) : Int) = (j : Int) + 1 from by omega] at this
    have fresh : ∀ {G : Hp} {L : Addr}, Same H2 G → G L = none → H L = none := fun {G L} sG nL => by
      cases z : H L with
      | none => rfl
      | some o =>
        by_cases e : L = s
        · obtain ⟨ns, a1, a2, a3, o2⟩ := src2
          have := sG _ _ o2.at_
          rw [← e, nL] at this; cases this
        · have := sG _ _ (b12 _ _ z e)
          rw [nL] at this; cases this
    have kinds : kd = 0 ∨ kd = 1 ∨ kd = 2 ∨ kd = 3 ∨ kd = 4 ∨ kd = 5 ∨ kd = 6 ∨ kd = 7 ∨ kd = 8 := by omega
    by_cases k0 : kd = 0
    · subst k0
      refine ⟨.int 0, rfl, rfl, _, rfl, iteT ?_⟩
      refine ⟨.ref l, rfl, .int (j : Int), rfl, (j : Int), rfl, l, ws, rfl, .inl (.inl hl2), fun p1 np1 => ?_⟩
      rw [c1]
      have s3 : Same H2 (upd H2 p1 (.lst (ws.take j))) := same_upd np1
      have e1 : (upd H2 p1 (.lst (ws.take j))) p1 = some (.lst (ws.take j)) := upd_same
      generalize upd H2 p1 (.lst (ws.take j)) = H3 at s3 e1 ⊢
      refine ⟨.ref l, rfl, .int (j : Int), rfl, (j : Int), 1, rfl, rfl, (j : Int) + 1, rfl, l, ws, rfl, .inl (.inl (s3 _ _ hl2)), fun p2 np2 => ?_⟩
      rw [c2]
      have s4 : Same H3 (upd H3 p2 (.lst (ws.drop (j + 1)))) := same_upd np2
      have e2 : (upd H3 p2 (.lst (ws.drop (j + 1)))) p2 = some (.lst (ws.drop (j + 1))) := upd_same
      generalize upd H3 p2 (.lst (ws.drop (j + 1))) = H4 at s4 e2 ⊢
      refine ⟨p1, p2, _, _, rfl, rfl, s4 _ _ e1, e2, smallE (by rw [List.length_take, List.length_drop]; omega), fun L nL => ?_⟩
      have s5 := (s3.trans s4).trans (same_upd (o := .lst (ws.take j ++ ws.drop (j + 1))) nL)
      have nLH := fresh (s3.trans s4) nL
      refine q _ L _ (its.take j ++ its.drop (j + 1)) (b12.trans (Same.but s5)) (src2.mono s5) nLH upd_same (paired_app (pairedTake (itmsAt s5 pw2) j) (pairedDrop (itmsAt s5 pw2) (j + 1))) (by rw [List.length_append, List.length_take, List.length_drop]; omega) fun it' hit' => ?_
      have : it' ∈ its := (List.mem_append.mp hit').elim List.mem_of_mem_take List.mem_of_mem_drop
      exact (ok it' this).2.up
    · refine ⟨.int kd, rfl, rfl, _, rfl, ?_⟩
      rw [decide_eq_false (show ¬ V.int kd = V.int 0 from fun z => k0 (V.int.inj z))]
      refine iteF ?_
      by_cases k1 : kd = 1
      · subst k1
        refine ⟨.int 1, rfl, rfl, _, rfl, iteT ?_⟩
        refine ⟨.ref l, rfl, .ref l, rfl, .int (j : Int), rfl, l, ws, (j : Int), ws[j], rfl, rfl, .inl (.inl hl2), atI_nat gw, szl rfl, fun p1 np1 => ?_⟩
        have s3 : Same H2 (upd H2 p1 (.lst [ws[j]])) := same_upd np1
        have e1 : (upd H2 p1 (.lst [ws[j]])) p1 = some (.lst [ws[j]]) := upd_same
        show rCat _ _ (upd H2 p1 (.lst [ws[j]])) _
        generalize upd H2 p1 (.lst [ws[j]]) = H3 at s3 e1 ⊢
        refine ⟨l, p1, _, _, rfl, rfl, s3 _ _ hl2, e1, smallE (by show ws.length + 1 ≤ _; omega), fun L nL => ?_⟩
        have s5 := s3.trans (same_upd (o := .lst (ws ++ [ws[j]])) nL)
        have pw5 := itmsAt s5 pw2
        refine q _ L _ (its ++ [it]) (b12.trans (Same.but s5)) (src2.mono s5) (fresh s3 nL) upd_same (Paired.snoc pw5 ⟨t, cg, gr, et, ip.same s5⟩) (by rw [List.length_append]; exact Nat.le_refl _) fun it' hit' => ?_
        have : it' ∈ its := (List.mem_append.mp hit').elim id fun z => List.mem_singleton.mp z ▸ mem
        exact (ok it' this).2.up
      refine ⟨.int kd, rfl, rfl, _, rfl, ?_⟩
      rw [decide_eq_false (show ¬ V.int kd = V.int 1 from fun z => k1 (V.int.inj z))]
      refine iteF ?_
      have vn : numV it.nm = KnB.vOf it.nm := by cases it.nm <;> rfl
      have hcg := ip.gr
      refine ⟨.ref s, rfl, .ref cg, rfl, .ref cg, gr.length, rfl, .inr ⟨_, .inl (.inl hcg), rfl⟩, 1, (gr.length : Int), rfl, s, c, _, rfl, ?_, ?_, src2, fun H3 sp b3 src3 s0 s1 => ?_⟩
      · split <;> omega
      · have := ip.few
        have := Paired.length ip.rows
        split <;> omega
      have b13 := b12.trans b3
      have hl3 := b13 _ _ hl nls
      have pw3 : Paired (ItmAt H3) ws its := itmsTup (but_tup b13 src) pw fun it hit => (ok it hit).1
      have kT := but_tup b3 src2
      have ip3 : ItmP H3 t cg gr it := by
        refine ⟨?_, kT _ _ ip.gr, ip.rows.ext kT, ip.good, ip.few⟩
        unfold itO
        rw [if_pos tp]
        exact kT _ _ ht
      refine ⟨.ref cg, rfl, numV it.nm, rfl, it.nm, 1, vn, rfl, szl rfl, fun t7 nt7 => ?_⟩
      have s4 : Same H3 (upd H3 t7 (.tup [.ref cg, .int (KnB.nOf it.nm + 1)])) := same_upd nt7
      have e7 : (upd H3 t7 (.tup [.ref cg, .int (KnB.nOf it.nm + 1)])) t7 = some (.tup [.ref cg, .int (KnB.nOf it.nm + 1)]) := upd_same
      have fresh3 : ∀ {G : Hp} {L : Addr}, Same H3 G → G L = none → H L = none := fun {G L} sG nL => by
        cases z : H L with
        | none => rfl
        | some o =>
          by_cases e : L = s
          · obtain ⟨ns, a1, a2, a3, o2⟩ := src3
            have := sG _ _ o2.at_
            rw [← e, nL] at this; cases this
          · have := sG _ _ (b13 _ _ z e)
            rw [nL] at this; cases this
      generalize upd H3 t7 (.tup [.ref cg, .int (KnB.nOf it.nm + 1)]) = H7 at s4 e7 ⊢
      have tup : ∀ {G : Hp} {t8 : Addr} {nm' : Int ⊕ Bool}, Same H3 G → G t8 = some (.tup [.ref cg, numV nm']) → ItmP G t8 cg gr ⟨true, it.ds, nm'⟩ := fun {G t8 nm'} sg e => ⟨e, sg _ _ ip3.gr, ip3.rows.ext fun _ _ z => sg _ _ z, ip3.good, ip3.few⟩
      have rest : kd = 2 ∨ kd = 3 ∨ kd = 4 ∨ kd = 5 ∨ kd = 6 ∨ kd = 7 ∨ kd = 8 := by omega
      rcases rest with rfl | rfl | rfl | rfl | rfl | rfl | rfl
      · refine ⟨.int 2, rfl, rfl, _, rfl, ?_⟩
        rw [decide_eq_false (show ¬ V.int (2 : Int) = V.int 3 from fun z => by have := V.int.inj z; omega)]
        refine iteF ?_
        refine ⟨.int 2, rfl, rfl, _, rfl, ?_⟩
        rw [decide_eq_false (show ¬ V.int (2 : Int) = V.int 4 from fun z => by have := V.int.inj z; omega)]
        refine iteF ?_
        refine ⟨.int 2, rfl, rfl, _, rfl, ?_⟩
        rw [decide_eq_false (show ¬ V.int (2 : Int) = V.int 5 from fun z => by have := V.int.inj z; omega)]
        refine iteF ?_
        refine ⟨.int 2, rfl, rfl, _, rfl, ?_⟩
        rw [decide_eq_false (show ¬ V.int (2 : Int) = V.int 6 from fun z => by have := V.int.inj z; omega)]
        refine iteF ?_
        refine ⟨.int 2, rfl, rfl, _, rfl, ?_⟩
        rw [decide_eq_false (show ¬ V.int (2 : Int) = V.int 7 from fun z => by have := V.int.inj z; omega)]
        refine iteF ?_
        refine ⟨.int 2, rfl, rfl, _, rfl, ?_⟩
        rw [decide_eq_false (show ¬ V.int (2 : Int) = V.int 8 from fun z => by have := V.int.inj z; omega)]
        refine iteF ?_
        refine ⟨.ref l, rfl, .int (j : Int), rfl, (j : Int), rfl, l, ws, rfl, .inl (.inl (s4 _ _ hl3)), fun p1 np1 => ?_⟩
        rw [c1]
        have f1 : Same H7 (upd H7 p1 (.lst (ws.take j))) := same_upd np1
        have g1 : (upd H7 p1 (.lst (ws.take j))) p1 = some (.lst (ws.take j)) := upd_same
        generalize upd H7 p1 (.lst (ws.take j)) = F1 at f1 g1 ⊢
        refine ⟨.ref t7, rfl, szl rfl, fun p2 np2 => ?_⟩
        have f2 : Same F1 (upd F1 p2 (.lst [.ref t7])) := same_upd np2
        have g2 : (upd F1 p2 (.lst [.ref t7])) p2 = some (.lst [.ref t7]) := upd_same
        show rCat _ _ (upd F1 p2 (.lst [.ref t7])) _
        generalize upd F1 p2 (.lst [.ref t7]) = F2 at f2 g2 ⊢
        refine ⟨p1, p2, _, _, rfl, rfl, f2 _ _ g1, g2, smallE (by rw [List.length_take]; show _ + 1 ≤ _; omega), fun p3 np3 => ?_⟩
        have f3 : Same F2 (upd F2 p3 (.lst (ws.take j ++ [.ref t7]))) := same_upd np3
        have g3 : (upd F2 p3 (.lst (ws.take j ++ [.ref t7]))) p3 = some (.lst (ws.take j ++ [.ref t7])) := upd_same
        generalize upd F2 p3 (.lst (ws.take j ++ [.ref t7])) = F3 at f3 g3 ⊢
        have S3 := s4.trans (f1.trans (f2.trans f3))
        refine ⟨.ref l, rfl, .int (j : Int), rfl, (j : Int), 1, rfl, rfl, (j : Int) + 1, rfl, l, ws, rfl, .inl (.inl (S3 _ _ hl3)), fun p4 np4 => ?_⟩
        rw [c2]
        have f4 : Same F3 (upd F3 p4 (.lst (ws.drop (j + 1)))) := same_upd np4
        have g4 : (upd F3 p4 (.lst (ws.drop (j + 1)))) p4 = some (.lst (ws.drop (j + 1))) := upd_same
        generalize upd F3 p4 (.lst (ws.drop (j + 1))) = F4 at f4 g4 ⊢
        refine ⟨p3, p4, _, _, rfl, rfl, f4 _ _ g3, g4, smallE (by rw [List.length_append, List.length_take, List.length_drop]; show _ + 1 + _ ≤ _; omega), fun L nL => ?_⟩
        have S5 := S3.trans (f4.trans (same_upd (o := .lst (ws.take j ++ [.ref t7] ++ ws.drop (j + 1))) nL))
        have SG := f1.trans (f2.trans (f3.trans (f4.trans (same_upd (o := .lst (ws.take j ++ [.ref t7] ++ ws.drop (j + 1))) nL))))
        have ne := fresh3 (S3.trans f4) nL
        have pw5 := itmsAt S5 pw3
        refine q _ L _ (its.take j ++ [⟨true, it.ds, .inl (KnB.nOf it.nm + 1)⟩] ++ its.drop (j + 1)) (b13.trans (Same.but S5)) (src3.mono S5) ne upd_same (paired_app (Paired.snoc (pairedTake pw5 j) (⟨t7, cg, gr, rfl, (tup (nm' := .inl (KnB.nOf it.nm + 1)) s4 e7).same SG⟩)) (pairedDrop pw5 (j + 1))) (by rw [List.length_append, List.length_append, List.length_take, List.length_drop]; show _ + 1 + _ ≤ _; omega) fun it' hit' => ?_
        rcases List.mem_append.mp hit' with z | z
        · rcases List.mem_append.mp z with z | z
          · exact (ok it' (List.mem_of_mem_take z)).2.up
          · rw [List.mem_singleton.mp z]
            exact ⟨by show it.ds.length ≤ k + 1; omega, by show -(((k + 1 : Nat)) : Int) ≤ KnB.nOf it.nm + 1; omega, by show KnB.nOf it.nm + 1 ≤ (((k + 1 : Nat)) : Int); omega⟩
        · exact (ok it' (List.mem_of_mem_drop z)).2.up
      · refine ⟨.int 3, rfl, rfl, _, rfl, iteT ?_⟩
        refine ⟨.ref cg, rfl, numV it.nm, rfl, it.nm, 1, vn, rfl, szl rfl, fun t8 n8 => ?_⟩
        have s8 : Same H7 (upd H7 t8 (.tup [.ref cg, .int (KnB.nOf it.nm - 1)])) := same_upd n8
        have e8 : (upd H7 t8 (.tup [.ref cg, .int (KnB.nOf it.nm - 1)])) t8 = some (.tup [.ref cg, .int (KnB.nOf it.nm - 1)]) := upd_same
        show Ends.nx _ _ (upd H7 t8 (.tup [.ref cg, .int (KnB.nOf it.nm - 1)]))
        generalize upd H7 t8 (.tup [.ref cg, .int (KnB.nOf it.nm - 1)]) = H8 at s8 e8 ⊢
        have s48 := s4.trans s8
        refine ⟨.int 3, rfl, rfl, _, rfl, ?_⟩
        rw [decide_eq_false (show ¬ V.int (3 : Int) = V.int 4 from fun z => by have := V.int.inj z; omega)]
        refine iteF ?_
        refine ⟨.int 3, rfl, rfl, _, rfl, ?_⟩
        rw [decide_eq_false (show ¬ V.int (3 : Int) = V.int 5 from fun z => by have := V.int.inj z; omega)]
        refine iteF ?_
        refine ⟨.int 3, rfl, rfl, _, rfl, ?_⟩
        rw [decide_eq_false (show ¬ V.int (3 : Int) = V.int 6 from fun z => by have := V.int.inj z; omega)]
        refine iteF ?_
        refine ⟨.int 3, rfl, rfl, _, rfl, ?_⟩
        rw [decide_eq_false (show ¬ V.int (3 : Int) = V.int 7 from fun z => by have := V.int.inj z; omega)]
        refine iteF ?_
        refine ⟨.int 3, rfl, rfl, _, rfl, ?_⟩
        rw [decide_eq_false (show ¬ V.int (3 : Int) = V.int 8 from fun z => by have := V.int.inj z; omega)]
        refine iteF ?_
        refine ⟨.ref l, rfl, .int (j : Int), rfl, (j : Int), rfl, l, ws, rfl, .inl (.inl (s48 _ _ hl3)), fun p1 np1 => ?_⟩
        rw [c1]
        have f1 : Same H8 (upd H8 p1 (.lst (ws.take j))) := same_upd np1
        have g1 : (upd H8 p1 (.lst (ws.take j))) p1 = some (.lst (ws.take j)) := upd_same
        generalize upd H8 p1 (.lst (ws.take j)) = F1 at f1 g1 ⊢
        refine ⟨.ref t8, rfl, szl rfl, fun p2 np2 => ?_⟩
        have f2 : Same F1 (upd F1 p2 (.lst [.ref t8])) := same_upd np2
        have g2 : (upd F1 p2 (.lst [.ref t8])) p2 = some (.lst [.ref t8]) := upd_same
        show rCat _ _ (upd F1 p2 (.lst [.ref t8])) _
        generalize upd F1 p2 (.lst [.ref t8]) = F2 at f2 g2 ⊢
        refine ⟨p1, p2, _, _, rfl, rfl, f2 _ _ g1, g2, smallE (by rw [List.length_take]; show _ + 1 ≤ _; omega), fun p3 np3 => ?_⟩
        have f3 : Same F2 (upd F2 p3 (.lst (ws.take j ++ [.ref t8]))) := same_upd np3
        have g3 : (upd F2 p3 (.lst (ws.take j ++ [.ref t8]))) p3 = some (.lst (ws.take j ++ [.ref t8])) := upd_same
        generalize upd F2 p3 (.lst (ws.take j ++ [.ref t8])) = F3 at f3 g3 ⊢
        have S3 := s48.trans (f1.trans (f2.trans f3))
        refine ⟨.ref l, rfl, .int (j : Int), rfl, (j : Int), 1, rfl, rfl, (j : Int) + 1, rfl, l, ws, rfl, .inl (.inl (S3 _ _ hl3)), fun p4 np4 => ?_⟩
        rw [c2]
        have f4 : Same F3 (upd F3 p4 (.lst (ws.drop (j + 1)))) := same_upd np4
        have g4 : (upd F3 p4 (.lst (ws.drop (j + 1)))) p4 = some (.lst (ws.drop (j + 1))) := upd_same
        generalize upd F3 p4 (.lst (ws.drop (j + 1))) = F4 at f4 g4 ⊢
        refine ⟨p3, p4, _, _, rfl, rfl, f4 _ _ g3, g4, smallE (by rw [List.length_append, List.length_take, List.length_drop]; show _ + 1 + _ ≤ _; omega), fun L nL => ?_⟩
        have S5 := S3.trans (f4.trans (same_upd (o := .lst (ws.take j ++ [.ref t8] ++ ws.drop (j + 1))) nL))
        have SG := f1.trans (f2.trans (f3.trans (f4.trans (same_upd (o := .lst (ws.take j ++ [.ref t8] ++ ws.drop (j + 1))) nL))))
        have ne := fresh3 (S3.trans f4) nL
        have pw5 := itmsAt S5 pw3
        refine q _ L _ (its.take j ++ [⟨true, it.ds, .inl (KnB.nOf it.nm - 1)⟩] ++ its.drop (j + 1)) (b13.trans (Same.but S5)) (src3.mono S5) ne upd_same (paired_app (Paired.snoc (pairedTake pw5 j) (⟨t8, cg, gr, rfl, (tup (nm' := .inl (KnB.nOf it.nm - 1)) s48 e8).same SG⟩)) (pairedDrop pw5 (j + 1))) (by rw [List.length_append, List.length_append, List.length_take, List.length_drop]; show _ + 1 + _ ≤ _; omega) fun it' hit' => ?_
        rcases List.mem_append.mp hit' with z | z
        · rcases List.mem_append.mp z with z | z
          · exact (ok it' (List.mem_of_mem_take z)).2.up
          · rw [List.mem_singleton.mp z]
            exact ⟨by show it.ds.length ≤ k + 1; omega, by show -(((k + 1 : Nat)) : Int) ≤ KnB.nOf it.nm - 1; omega, by show KnB.nOf it.nm - 1 ≤ (((k + 1 : Nat)) : Int); omega⟩
        · exact (ok it' (List.mem_of_mem_drop z)).2.up
      · refine ⟨.int 4, rfl, rfl, _, rfl, ?_⟩
        rw [decide_eq_false (show ¬ V.int (4 : Int) = V.int 3 from fun z => by have := V.int.inj z; omega)]
        refine iteF ?_
        refine ⟨.int 4, rfl, rfl, _, rfl, iteT ?_⟩
        refine ⟨.ref cg, rfl, numV it.nm, rfl, it.nm, 1, vn, rfl, szl rfl, fun t8 n8 => ?_⟩
        have s8 : Same H7 (upd H7 t8 (.tup [.ref cg, .bl (KnB.nOf it.nm == 1)])) := same_upd n8
        have e8 : (upd H7 t8 (.tup [.ref cg, .bl (KnB.nOf it.nm == 1)])) t8 = some (.tup [.ref cg, .bl (KnB.nOf it.nm == 1)]) := upd_same
        show Ends.nx _ _ (upd H7 t8 (.tup [.ref cg, .bl (KnB.nOf it.nm == 1)]))
        generalize upd H7 t8 (.tup [.ref cg, .bl (KnB.nOf it.nm == 1)]) = H8 at s8 e8 ⊢
        have s48 := s4.trans s8
        refine ⟨.int 4, rfl, rfl, _, rfl, ?_⟩
        rw [decide_eq_false (show ¬ V.int (4 : Int) = V.int 5 from fun z => by have := V.int.inj z; omega)]
        refine iteF ?_
        refine ⟨.int 4, rfl, rfl, _, rfl, ?_⟩
        rw [decide_eq_false (show ¬ V.int (4 : Int) = V.int 6 from fun z => by have := V.int.inj z; omega)]
        refine iteF ?_
        refine ⟨.int 4, rfl, rfl, _, rfl, ?_⟩
        rw [decide_eq_false (show ¬ V.int (4 : Int) = V.int 7 from fun z => by have := V.int.inj z; omega)]
        refine iteF ?_
        refine ⟨.int 4, rfl, rfl, _, rfl, ?_⟩
        rw [decide_eq_false (show ¬ V.int (4 : Int) = V.int 8 from fun z => by have := V.int.inj z; omega)]
        refine iteF ?_
        refine ⟨.ref l, rfl, .int (j : Int), rfl, (j : Int), rfl, l, ws, rfl, .inl (.inl (s48 _ _ hl3)), fun p1 np1 => ?_⟩
        rw [c1]
        have f1 : Same H8 (upd H8 p1 (.lst (ws.take j))) := same_upd np1
        have g1 : (upd H8 p1 (.lst (ws.take j))) p1 = some (.lst (ws.take j)) := upd_same
        generalize upd H8 p1 (.lst (ws.take j)) = F1 at f1 g1 ⊢
        refine ⟨.ref t8, rfl, szl rfl, fun p2 np2 => ?_⟩
        have f2 : Same F1 (upd F1 p2 (.lst [.ref t8])) := same_upd np2
        have g2 : (upd F1 p2 (.lst [.ref t8])) p2 = some (.lst [.ref t8]) := upd_same
        show rCat _ _ (upd F1 p2 (.lst [.ref t8])) _
        generalize upd F1 p2 (.lst [.ref t8]) = F2 at f2 g2 ⊢
        refine ⟨p1, p2, _, _, rfl, rfl, f2 _ _ g1, g2, smallE (by rw [List.length_take]; show _ + 1 ≤ _; omega), fun p3 np3 => ?_⟩
        have f3 : Same F2 (upd F2 p3 (.lst (ws.take j ++ [.ref t8]))) := same_upd np3
        have g3 : (upd F2 p3 (.lst (ws.take j ++ [.ref t8]))) p3 = some (.lst (ws.take j ++ [.ref t8])) := upd_same
        generalize upd F2 p3 (.lst (ws.take j ++ [.ref t8])) = F3 at f3 g3 ⊢
        have S3 := s48.trans (f1.trans (f2.trans f3))
        refine ⟨.ref l, rfl, .int (j : Int), rfl, (j : Int), 1, rfl, rfl, (j : Int) + 1, rfl, l, ws, rfl, .inl (.inl (S3 _ _ hl3)), fun p4 np4 => ?_⟩
        rw [c2]
        have f4 : Same F3 (upd F3 p4 (.lst (ws.drop (j + 1)))) := same_upd np4
        have g4 : (upd F3 p4 (.lst (ws.drop (j + 1)))) p4 = some (.lst (ws.drop (j + 1))) := upd_same
        generalize upd F3 p4 (.lst (ws.drop (j + 1))) = F4 at f4 g4 ⊢
        refine ⟨p3, p4, _, _, rfl, rfl, f4 _ _ g3, g4, smallE (by rw [List.length_append, List.length_take, List.length_drop]; show _ + 1 + _ ≤ _; omega), fun L nL => ?_⟩
        have S5 := S3.trans (f4.trans (same_upd (o := .lst (ws.take j ++ [.ref t8] ++ ws.drop (j + 1))) nL))
        have SG := f1.trans (f2.trans (f3.trans (f4.trans (same_upd (o := .lst (ws.take j ++ [.ref t8] ++ ws.drop (j + 1))) nL))))
        have ne := fresh3 (S3.trans f4) nL
        have pw5 := itmsAt S5 pw3
        refine q _ L _ (its.take j ++ [⟨true, it.ds, .inr (KnB.nOf it.nm == 1)⟩] ++ its.drop (j + 1)) (b13.trans (Same.but S5)) (src3.mono S5) ne upd_same (paired_app (Paired.snoc (pairedTake pw5 j) (⟨t8, cg, gr, rfl, (tup (nm' := .inr (KnB.nOf it.nm == 1)) s48 e8).same SG⟩)) (pairedDrop pw5 (j + 1))) (by rw [List.length_append, List.length_append, List.length_take, List.length_drop]; show _ + 1 + _ ≤ _; omega) fun it' hit' => ?_
        rcases List.mem_append.mp hit' with z | z
        · rcases List.mem_append.mp z with z | z
          · exact (ok it' (List.mem_of_mem_take z)).2.up
          · rw [List.mem_singleton.mp z]
            exact ⟨by show it.ds.length ≤ k + 1; omega, by show -(((k + 1 : Nat)) : Int) ≤ if (KnB.nOf it.nm == 1) = true then 1 else 0; split <;> omega, by show (if (KnB.nOf it.nm == 1) = true then (1 : Int) else 0) ≤ (((k + 1 : Nat)) : Int); split <;> omega⟩
        · exact (ok it' (List.mem_of_mem_drop z)).2.up
      · refine ⟨.int 5, rfl, rfl, _, rfl, ?_⟩
        rw [decide_eq_false (show ¬ V.int (5 : Int) = V.int 3 from fun z => by have := V.int.inj z; omega)]
        refine iteF ?_
        refine ⟨.int 5, rfl, rfl, _, rfl, ?_⟩
        rw [decide_eq_false (show ¬ V.int (5 : Int) = V.int 4 from fun z => by have := V.int.inj z; omega)]
        refine iteF ?_
        refine ⟨.int 5, rfl, rfl, _, rfl, iteT ?_⟩
        obtain ⟨i, rfl⟩ : ∃ i : Nat, sp = (i : Int) := ⟨sp.toNat, by omega⟩
        have d2 : cutV gr (some ((i : Int) + 1)) none = gr.drop (i + 1) := by
          have := cut_from (xs := gr) (a := i + 1)
          rwa [show ((i + 1 : Nat) : Int) = (i : Int) + 1 from by omega] at this
        refine ⟨.ref cg, rfl, .int (i : Int), rfl, (i : Int), rfl, slA_use cg gr rfl (s4 _ _ ip3.gr) fun ta HA sA eA => ?_⟩
        rw [cut_toN] at eA
        refine ⟨.ref cg, rfl, .int (i : Int), rfl, (i : Int), 1, rfl, rfl, (i : Int) + 1, rfl, ?_⟩
        unfold tNoPart
        refine slA_use cg gr rfl (sA _ _ (s4 _ _ ip3.gr)) fun tb HB sB eB => ?_
        rw [d2] at eB
        have lgr := Paired.length ip3.rows
        have fewr := ip3.few
        refine catA_use ta tb (gr.take i) (gr.drop (i + 1)) rfl rfl (sB _ _ eA) eB (smallE (by rw [List.length_take, List.length_drop]; omega)) fun tr HR sC er => ?_
        have sr := sA.trans (sB.trans sC)
        refine ⟨numV it.nm, rfl, szl rfl, fun t8 n8 => ?_⟩
        have s8 : Same HR (upd HR t8 (.tup [.ref tr, numV it.nm])) := same_upd n8
        have e8 : (upd HR t8 (.tup [.ref tr, numV it.nm])) t8 = some (.tup [.ref tr, numV it.nm]) := upd_same
        show Ends.nx _ _ (upd HR t8 (.tup [.ref tr, numV it.nm]))
        generalize upd HR t8 (.tup [.ref tr, numV it.nm]) = H8 at s8 e8 ⊢
        have s48 := s4.trans (sr.trans s8)
        have i8 : ItmP H8 t8 tr (gr.take i ++ gr.drop (i + 1)) ⟨true, it.ds.take i ++ it.ds.drop (i + 1), it.nm⟩ := ⟨e8, s8 _ _ er, paired_app (pairedTake (ip3.rows.ext fun _ _ z => s48 _ _ z) i) (pairedDrop (ip3.rows.ext fun _ _ z => s48 _ _ z) (i + 1)), fun d hd => ip3.good d ((List.mem_append.mp hd).elim List.mem_of_mem_take List.mem_of_mem_drop), by show (it.ds.take i ++ it.ds.drop (i + 1)).length ≤ 14; rw [List.length_append, List.length_take, List.length_drop]; omega⟩
        refine ⟨.int 5, rfl, rfl, _, rfl, ?_⟩
        rw [decide_eq_false (show ¬ V.int (5 : Int) = V.int 6 from fun z => by have := V.int.inj z; omega)]
        refine iteF ?_
        refine ⟨.int 5, rfl, rfl, _, rfl, ?_⟩
        rw [decide_eq_false (show ¬ V.int (5 : Int) = V.int 7 from fun z => by have := V.int.inj z; omega)]
        refine iteF ?_
        refine ⟨.int 5, rfl, rfl, _, rfl, ?_⟩
        rw [decide_eq_false (show ¬ V.int (5 : Int) = V.int 8 from fun z => by have := V.int.inj z; omega)]
        refine iteF ?_
        refine ⟨.ref l, rfl, .int (j : Int), rfl, (j : Int), rfl, l, ws, rfl, .inl (.inl (s48 _ _ hl3)), fun p1 np1 => ?_⟩
        rw [c1]
        have f1 : Same H8 (upd H8 p1 (.lst (ws.take j))) := same_upd np1
        have g1 : (upd H8 p1 (.lst (ws.take j))) p1 = some (.lst (ws.take j)) := upd_same
        generalize upd H8 p1 (.lst (ws.take j)) = F1 at f1 g1 ⊢
        refine ⟨.ref t8, rfl, szl rfl, fun p2 np2 => ?_⟩
        have f2 : Same F1 (upd F1 p2 (.lst [.ref t8])) := same_upd np2
        have g2 : (upd F1 p2 (.lst [.ref t8])) p2 = some (.lst [.ref t8]) := upd_same
        show rCat _ _ (upd F1 p2 (.lst [.ref t8])) _
        generalize upd F1 p2 (.lst [.ref t8]) = F2 at f2 g2 ⊢
        refine ⟨p1, p2, _, _, rfl, rfl, f2 _ _ g1, g2, smallE (by rw [List.length_take]; show _ + 1 ≤ _; omega), fun p3 np3 => ?_⟩
        have f3 : Same F2 (upd F2 p3 (.lst (ws.take j ++ [.ref t8]))) := same_upd np3
        have g3 : (upd F2 p3 (.lst (ws.take j ++ [.ref t8]))) p3 = some (.lst (ws.take j ++ [.ref t8])) := upd_same
        generalize upd F2 p3 (.lst (ws.take j ++ [.ref t8])) = F3 at f3 g3 ⊢
        have S3 := s48.trans (f1.trans (f2.trans f3))
        refine ⟨.ref l, rfl, .int (j : Int), rfl, (j : Int), 1, rfl, rfl, (j : Int) + 1, rfl, l, ws, rfl, .inl (.inl (S3 _ _ hl3)), fun p4 np4 => ?_⟩
        rw [c2]
        have f4 : Same F3 (upd F3 p4 (.lst (ws.drop (j + 1)))) := same_upd np4
        have g4 : (upd F3 p4 (.lst (ws.drop (j + 1)))) p4 = some (.lst (ws.drop (j + 1))) := upd_same
        generalize upd F3 p4 (.lst (ws.drop (j + 1))) = F4 at f4 g4 ⊢
        refine ⟨p3, p4, _, _, rfl, rfl, f4 _ _ g3, g4, smallE (by rw [List.length_append, List.length_take, List.length_drop]; show _ + 1 + _ ≤ _; omega), fun L nL => ?_⟩
        have S5 := S3.trans (f4.trans (same_upd (o := .lst (ws.take j ++ [.ref t8] ++ ws.drop (j + 1))) nL))
        have SG := f1.trans (f2.trans (f3.trans (f4.trans (same_upd (o := .lst (ws.take j ++ [.ref t8] ++ ws.drop (j + 1))) nL))))
        have ne := fresh3 (S3.trans f4) nL
        have pw5 := itmsAt S5 pw3
        refine q _ L _ (its.take j ++ [⟨true, it.ds.take i ++ it.ds.drop (i + 1), it.nm⟩] ++ its.drop (j + 1)) (b13.trans (Same.but S5)) (src3.mono S5) ne upd_same (paired_app (Paired.snoc (pairedTake pw5 j) (⟨t8, tr, _, rfl, i8.same SG⟩)) (pairedDrop pw5 (j + 1))) (by rw [List.length_append, List.length_append, List.length_take, List.length_drop]; show _ + 1 + _ ≤ _; omega) fun it' hit' => ?_
        rcases List.mem_append.mp hit' with z | z
        · rcases List.mem_append.mp z with z | z
          · exact (ok it' (List.mem_of_mem_take z)).2.up
          · rw [List.mem_singleton.mp z]
            exact ⟨by show (it.ds.take i ++ it.ds.drop (i + 1)).length ≤ k + 1; rw [List.length_append, List.length_take, List.length_drop]; omega, by show -(((k + 1 : Nat)) : Int) ≤ KnB.nOf it.nm; omega, by show KnB.nOf it.nm ≤ (((k + 1 : Nat)) : Int); omega⟩
        · exact (ok it' (List.mem_of_mem_drop z)).2.up
      · refine ⟨.int 6, rfl, rfl, _, rfl, ?_⟩
        rw [decide_eq_false (show ¬ V.int (6 : Int) = V.int 3 from fun z => by have := V.int.inj z; omega)]
        refine iteF ?_
        refine ⟨.int 6, rfl, rfl, _, rfl, ?_⟩
        rw [decide_eq_false (show ¬ V.int (6 : Int) = V.int 4 from fun z => by have := V.int.inj z; omega)]
        refine iteF ?_
        refine ⟨.int 6, rfl, rfl, _, rfl, ?_⟩
        rw [decide_eq_false (show ¬ V.int (6 : Int) = V.int 5 from fun z => by have := V.int.inj z; omega)]
        refine iteF ?_
        refine ⟨.int 6, rfl, rfl, _, rfl, iteT ?_⟩
        refine ⟨.ref cg, rfl, 1, rfl, -1, rfl, cg, gr, rfl, rfl, .inl (.inl (s4 _ _ ip3.gr)), fun tr ntr => ?_⟩
        have sr : Same H7 (upd H7 tr (.tup gr.reverse)) := same_upd ntr
        have er : (upd H7 tr (.tup gr.reverse)) tr = some (.tup gr.reverse) := upd_same
        generalize upd H7 tr (.tup gr.reverse) = HR at sr er ⊢
        refine ⟨numV it.nm, rfl, szl rfl, fun t8 n8 => ?_⟩
        have s8 : Same HR (upd HR t8 (.tup [.ref tr, numV it.nm])) := same_upd n8
        have e8 : (upd HR t8 (.tup [.ref tr, numV it.nm])) t8 = some (.tup [.ref tr, numV it.nm]) := upd_same
        show Ends.nx _ _ (upd HR t8 (.tup [.ref tr, numV it.nm]))
        generalize upd HR t8 (.tup [.ref tr, numV it.nm]) = H8 at s8 e8 ⊢
        have s48 := s4.trans (sr.trans s8)
        have i8 : ItmP H8 t8 tr gr.reverse ⟨true, it.ds.reverse, it.nm⟩ := ⟨e8, s8 _ _ er, pairedRev (ip3.rows.ext fun _ _ z => s48 _ _ z), fun d hd => ip3.good d (List.mem_reverse.mp hd), by show it.ds.reverse.length ≤ 14; rw [List.length_reverse]; exact ip3.few⟩
        refine ⟨.int 6, rfl, rfl, _, rfl, ?_⟩
        rw [decide_eq_false (show ¬ V.int (6 : Int) = V.int 7 from fun z => by have := V.int.inj z; omega)]
        refine iteF ?_
        refine ⟨.int 6, rfl, rfl, _, rfl, ?_⟩
        rw [decide_eq_false (show ¬ V.int (6 : Int) = V.int 8 from fun z => by have := V.int.inj z; omega)]
        refine iteF ?_
        refine ⟨.ref l, rfl, .int (j : Int), rfl, (j : Int), rfl, l, ws, rfl, .inl (.inl (s48 _ _ hl3)), fun p1 np1 => ?_⟩
        rw [c1]
        have f1 : Same H8 (upd H8 p1 (.lst (ws.take j))) := same_upd np1
        have g1 : (upd H8 p1 (.lst (ws.take j))) p1 = some (.lst (ws.take j)) := upd_same
        generalize upd H8 p1 (.lst (ws.take j)) = F1 at f1 g1 ⊢
        refine ⟨.ref t8, rfl, szl rfl, fun p2 np2 => ?_⟩
        have f2 : Same F1 (upd F1 p2 (.lst [.ref t8])) := same_upd np2
        have g2 : (upd F1 p2 (.lst [.ref t8])) p2 = some (.lst [.ref t8]) := upd_same
        show rCat _ _ (upd F1 p2 (.lst [.ref t8])) _
        generalize upd F1 p2 (.lst [.ref t8]) = F2 at f2 g2 ⊢
        refine ⟨p1, p2, _, _, rfl, rfl, f2 _ _ g1, g2, smallE (by rw [List.length_take]; show _ + 1 ≤ _; omega), fun p3 np3 => ?_⟩
        have f3 : Same F2 (upd F2 p3 (.lst (ws.take j ++ [.ref t8]))) := same_upd np3
        have g3 : (upd F2 p3 (.lst (ws.take j ++ [.ref t8]))) p3 = some (.lst (ws.take j ++ [.ref t8])) := upd_same
        generalize upd F2 p3 (.lst (ws.take j ++ [.ref t8])) = F3 at f3 g3 ⊢
        have S3 := s48.trans (f1.trans (f2.trans f3))
        refine ⟨.ref l, rfl, .int (j : Int), rfl, (j : Int), 1, rfl, rfl, (j : Int) + 1, rfl, l, ws, rfl, .inl (.inl (S3 _ _ hl3)), fun p4 np4 => ?_⟩
        rw [c2]
        have f4 : Same F3 (upd F3 p4 (.lst (ws.drop (j + 1)))) := same_upd np4
        have g4 : (upd F3 p4 (.lst (ws.drop (j + 1)))) p4 = some (.lst (ws.drop (j + 1))) := upd_same
        generalize upd F3 p4 (.lst (ws.drop (j + 1))) = F4 at f4 g4 ⊢
        refine ⟨p3, p4, _, _, rfl, rfl, f4 _ _ g3, g4, smallE (by rw [List.length_append, List.length_take, List.length_drop]; show _ + 1 + _ ≤ _; omega), fun L nL => ?_⟩
        have S5 := S3.trans (f4.trans (same_upd (o := .lst (ws.take j ++ [.ref t8] ++ ws.drop (j + 1))) nL))
        have SG := f1.trans (f2.trans (f3.trans (f4.trans (same_upd (o := .lst (ws.take j ++ [.ref t8] ++ ws.drop (j + 1))) nL))))
        have ne := fresh3 (S3.trans f4) nL
        have pw5 := itmsAt S5 pw3
        refine q _ L _ (its.take j ++ [⟨true, it.ds.reverse, it.nm⟩] ++ its.drop (j + 1)) (b13.trans (Same.but S5)) (src3.mono S5) ne upd_same (paired_app (Paired.snoc (pairedTake pw5 j) (⟨t8, tr, gr.reverse, rfl, i8.same SG⟩)) (pairedDrop pw5 (j + 1))) (by rw [List.length_append, List.length_append, List.length_take, List.length_drop]; show _ + 1 + _ ≤ _; omega) fun it' hit' => ?_
        rcases List.mem_append.mp hit' with z | z
        · rcases List.mem_append.mp z with z | z
          · exact (ok it' (List.mem_of_mem_take z)).2.up
          · rw [List.mem_singleton.mp z]
            exact ⟨by show it.ds.reverse.length ≤ k + 1; rw [List.length_reverse]; omega, by show -(((k + 1 : Nat)) : Int) ≤ KnB.nOf it.nm; omega, by show KnB.nOf it.nm ≤ (((k + 1 : Nat)) : Int); omega⟩
        · exact (ok it' (List.mem_of_mem_drop z)).2.up
      · refine ⟨.int 7, rfl, rfl, _, rfl, ?_⟩
        rw [decide_eq_false (show ¬ V.int (7 : Int) = V.int 3 from fun z => by have := V.int.inj z; omega)]
        refine iteF ?_
        refine ⟨.int 7, rfl, rfl, _, rfl, ?_⟩
        rw [decide_eq_false (show ¬ V.int (7 : Int) = V.int 4 from fun z => by have := V.int.inj z; omega)]
        refine iteF ?_
        refine ⟨.int 7, rfl, rfl, _, rfl, ?_⟩
        rw [decide_eq_false (show ¬ V.int (7 : Int) = V.int 5 from fun z => by have := V.int.inj z; omega)]
        refine iteF ?_
        refine ⟨.int 7, rfl, rfl, _, rfl, ?_⟩
        rw [decide_eq_false (show ¬ V.int (7 : Int) = V.int 6 from fun z => by have := V.int.inj z; omega)]
        refine iteF ?_
        refine ⟨.int 7, rfl, rfl, _, rfl, iteT ?_⟩
        refine ⟨.ref cg, rfl, szl rfl, fun ta na => ⟨szl rfl, fun tb nb => ⟨szl rfl, fun tc nc => ?_⟩⟩⟩
        have sa : Same H7 (upd H7 ta (.tup [.str "zzz", .str "zzzz"])) := same_upd na
        have ea : (upd H7 ta (.tup [.str "zzz", .str "zzzz"])) ta = some (.tup [.str "zzz", .str "zzzz"]) := upd_same
        have sb : Same (upd H7 ta (.tup [.str "zzz", .str "zzzz"])) (upd (upd H7 ta (.tup [.str "zzz", .str "zzzz"])) tb (.tup [.int 99, .ref ta])) := same_upd nb
        have eb : (upd (upd H7 ta (.tup [.str "zzz", .str "zzzz"])) tb (.tup [.int 99, .ref ta])) tb = some (.tup [.int 99, .ref ta]) := upd_same
        have sc : Same (upd (upd H7 ta (.tup [.str "zzz", .str "zzzz"])) tb (.tup [.int 99, .ref ta])) (upd (upd (upd H7 ta (.tup [.str "zzz", .str "zzzz"])) tb (.tup [.int 99, .ref ta])) tc (.tup [.ref tb])) := same_upd nc
        have ec : (upd (upd (upd H7 ta (.tup [.str "zzz", .str "zzzz"])) tb (.tup [.int 99, .ref ta])) tc (.tup [.ref tb])) tc = some (.tup [.ref tb]) := upd_same
        have ea' := sc _ _ (sb _ _ ea)
        have eb' := sc _ _ eb
        have sabc := sa.trans (sb.trans sc)
        have lgr := Paired.length ip3.rows
        have fewr := ip3.few
        refine catA_use cg tc gr [.ref tb] rfl rfl (sabc _ _ (s4 _ _ ip3.gr)) ec (smallE (by show gr.length + 1 ≤ _; omega)) fun tr HR sC er => ?_
        have sr := sabc.trans sC
        refine ⟨numV it.nm, rfl, szl rfl, fun t8 n8 => ?_⟩
        have s8 : Same HR (upd HR t8 (.tup [.ref tr, numV it.nm])) := same_upd n8
        have e8 : (upd HR t8 (.tup [.ref tr, numV it.nm])) t8 = some (.tup [.ref tr, numV it.nm]) := upd_same
        show Ends.nx _ _ (upd HR t8 (.tup [.ref tr, numV it.nm]))
        generalize upd HR t8 (.tup [.ref tr, numV it.nm]) = H8 at s8 e8 ⊢
        have s48 := s4.trans (sr.trans s8)
        have i8 : ItmP H8 t8 tr (gr ++ [.ref tb]) ⟨true, it.ds ++ [strD], it.nm⟩ := ⟨e8, s8 _ _ er, Paired.snoc (ip3.rows.ext fun _ _ z => s48 _ _ z) ⟨tb, ta, rfl, s8 _ _ (sC _ _ eb'), s8 _ _ (sC _ _ ea')⟩, fun d hd => (List.mem_append.mp hd).elim (ip3.good d) fun z => by rw [List.mem_singleton.mp z]; exact stranger, by show (it.ds ++ [strD]).length ≤ 14; rw [List.length_append]; show it.ds.length + 1 ≤ 14; omega⟩
        refine ⟨.int 7, rfl, rfl, _, rfl, ?_⟩
        rw [decide_eq_false (show ¬ V.int (7 : Int) = V.int 8 from fun z => by have := V.int.inj z; omega)]
        refine iteF ?_
        refine ⟨.ref l, rfl, .int (j : Int), rfl, (j : Int), rfl, l, ws, rfl, .inl (.inl (s48 _ _ hl3)), fun p1 np1 => ?_⟩
        rw [c1]
        have f1 : Same H8 (upd H8 p1 (.lst (ws.take j))) := same_upd np1
        have g1 : (upd H8 p1 (.lst (ws.take j))) p1 = some (.lst (ws.take j)) := upd_same
        generalize upd H8 p1 (.lst (ws.take j)) = F1 at f1 g1 ⊢
        refine ⟨.ref t8, rfl, szl rfl, fun p2 np2 => ?_⟩
        have f2 : Same F1 (upd F1 p2 (.lst [.ref t8])) := same_upd np2
        have g2 : (upd F1 p2 (.lst [.ref t8])) p2 = some (.lst [.ref t8]) := upd_same
        show rCat _ _ (upd F1 p2 (.lst [.ref t8])) _
        generalize upd F1 p2 (.lst [.ref t8]) = F2 at f2 g2 ⊢
        refine ⟨p1, p2, _, _, rfl, rfl, f2 _ _ g1, g2, smallE (by rw [List.length_take]; show _ + 1 ≤ _; omega), fun p3 np3 => ?_⟩
        have f3 : Same F2 (upd F2 p3 (.lst (ws.take j ++ [.ref t8]))) := same_upd np3
        have g3 : (upd F2 p3 (.lst (ws.take j ++ [.ref t8]))) p3 = some (.lst (ws.take j ++ [.ref t8])) := upd_same
        generalize upd F2 p3 (.lst (ws.take j ++ [.ref t8])) = F3 at f3 g3 ⊢
        have S3 := s48.trans (f1.trans (f2.trans f3))
        refine ⟨.ref l, rfl, .int (j : Int), rfl, (j : Int), 1, rfl, rfl, (j : Int) + 1, rfl, l, ws, rfl, .inl (.inl (S3 _ _ hl3)), fun p4 np4 => ?_⟩
        rw [c2]
        have f4 : Same F3 (upd F3 p4 (.lst (ws.drop (j + 1)))) := same_upd np4
        have g4 : (upd F3 p4 (.lst (ws.drop (j + 1)))) p4 = some (.lst (ws.drop (j + 1))) := upd_same
        generalize upd F3 p4 (.lst (ws.drop (j + 1))) = F4 at f4 g4 ⊢
        refine ⟨p3, p4, _, _, rfl, rfl, f4 _ _ g3, g4, smallE (by rw [List.length_append, List.length_take, List.length_drop]; show _ + 1 + _ ≤ _; omega), fun L nL => ?_⟩
        have S5 := S3.trans (f4.trans (same_upd (o := .lst (ws.take j ++ [.ref t8] ++ ws.drop (j + 1))) nL))
        have SG := f1.trans (f2.trans (f3.trans (f4.trans (same_upd (o := .lst (ws.take j ++ [.ref t8] ++ ws.drop (j + 1))) nL))))
        have ne := fresh3 (S3.trans f4) nL
        have pw5 := itmsAt S5 pw3
        refine q _ L _ (its.take j ++ [⟨true, it.ds ++ [strD], it.nm⟩] ++ its.drop (j + 1)) (b13.trans (Same.but S5)) (src3.mono S5) ne upd_same (paired_app (Paired.snoc (pairedTake pw5 j) (⟨t8, tr, _, rfl, i8.same SG⟩)) (pairedDrop pw5 (j + 1))) (by rw [List.length_append, List.length_append, List.length_take, List.length_drop]; show _ + 1 + _ ≤ _; omega) fun it' hit' => ?_
        rcases List.mem_append.mp hit' with z | z
        · rcases List.mem_append.mp z with z | z
          · exact (ok it' (List.mem_of_mem_take z)).2.up
          · rw [List.mem_singleton.mp z]
            exact ⟨by show (it.ds ++ [strD]).length ≤ k + 1; rw [List.length_append]; show it.ds.length + 1 ≤ k + 1; omega, by show -(((k + 1 : Nat)) : Int) ≤ KnB.nOf it.nm; omega, by show KnB.nOf it.nm ≤ (((k + 1 : Nat)) : Int); omega⟩
        · exact (ok it' (List.mem_of_mem_drop z)).2.up
      · refine ⟨.int 8, rfl, rfl, _, rfl, ?_⟩
        rw [decide_eq_false (show ¬ V.int (8 : Int) = V.int 3 from fun z => by have := V.int.inj z; omega)]
        refine iteF ?_
        refine ⟨.int 8, rfl, rfl, _, rfl, ?_⟩
        rw [decide_eq_false (show ¬ V.int (8 : Int) = V.int 4 from fun z => by have := V.int.inj z; omega)]
        refine iteF ?_
        refine ⟨.int 8, rfl, rfl, _, rfl, ?_⟩
        rw [decide_eq_false (show ¬ V.int (8 : Int) = V.int 5 from fun z => by have := V.int.inj z; omega)]
        refine iteF ?_
        refine ⟨.int 8, rfl, rfl, _, rfl, ?_⟩
        rw [decide_eq_false (show ¬ V.int (8 : Int) = V.int 6 from fun z => by have := V.int.inj z; omega)]
        refine iteF ?_
        refine ⟨.int 8, rfl, rfl, _, rfl, ?_⟩
        rw [decide_eq_false (show ¬ V.int (8 : Int) = V.int 7 from fun z => by have := V.int.inj z; omega)]
        refine iteF ?_
        refine ⟨.int 8, rfl, rfl, _, rfl, iteT ?_⟩
        refine ⟨.ref cg, rfl, numV it.nm, rfl, szl rfl, fun t8 n8 => ?_⟩
        have s8 : Same H7 (upd H7 t8 (.lst [.ref cg, numV it.nm])) := same_upd n8
        have e8 : (upd H7 t8 (.lst [.ref cg, numV it.nm])) t8 = some (.lst [.ref cg, numV it.nm]) := upd_same
        show Ends.nx _ _ (upd H7 t8 (.lst [.ref cg, numV it.nm]))
        generalize upd H7 t8 (.lst [.ref cg, numV it.nm]) = H8 at s8 e8 ⊢
        have s48 := s4.trans s8
        have i8 : ItmP H8 t8 cg gr ⟨false, it.ds, it.nm⟩ := ⟨e8, s48 _ _ ip3.gr, ip3.rows.ext fun _ _ z => s48 _ _ z, ip3.good, ip3.few⟩
        refine ⟨.ref l, rfl, .int (j : Int), rfl, (j : Int), rfl, l, ws, rfl, .inl (.inl (s48 _ _ hl3)), fun p1 np1 => ?_⟩
        rw [c1]
        have f1 : Same H8 (upd H8 p1 (.lst (ws.take j))) := same_upd np1
        have g1 : (upd H8 p1 (.lst (ws.take j))) p1 = some (.lst (ws.take j)) := upd_same
        generalize upd H8 p1 (.lst (ws.take j)) = F1 at f1 g1 ⊢
        refine ⟨.ref t8, rfl, szl rfl, fun p2 np2 => ?_⟩
        have f2 : Same F1 (upd F1 p2 (.lst [.ref t8])) := same_upd np2
        have g2 : (upd F1 p2 (.lst [.ref t8])) p2 = some (.lst [.ref t8]) := upd_same
        show rCat _ _ (upd F1 p2 (.lst [.ref t8])) _
        generalize upd F1 p2 (.lst [.ref t8]) = F2 at f2 g2 ⊢
        refine ⟨p1, p2, _, _, rfl, rfl, f2 _ _ g1, g2, smallE (by rw [List.length_take]; show _ + 1 ≤ _; omega), fun p3 np3 => ?_⟩
        have f3 : Same F2 (upd F2 p3 (.lst (ws.take j ++ [.ref t8]))) := same_upd np3
        have g3 : (upd F2 p3 (.lst (ws.take j ++ [.ref t8]))) p3 = some (.lst (ws.take j ++ [.ref t8])) := upd_same
        generalize upd F2 p3 (.lst (ws.take j ++ [.ref t8])) = F3 at f3 g3 ⊢
        have S3 := s48.trans (f1.trans (f2.trans f3))
        refine ⟨.ref l, rfl, .int (j : Int), rfl, (j : Int), 1, rfl, rfl, (j : Int) + 1, rfl, l, ws, rfl, .inl (.inl (S3 _ _ hl3)), fun p4 np4 => ?_⟩
        rw [c2]
        have f4 : Same F3 (upd F3 p4 (.lst (ws.drop (j + 1)))) := same_upd np4
        have g4 : (upd F3 p4 (.lst (ws.drop (j + 1)))) p4 = some (.lst (ws.drop (j + 1))) := upd_same
        generalize upd F3 p4 (.lst (ws.drop (j + 1))) = F4 at f4 g4 ⊢
        refine ⟨p3, p4, _, _, rfl, rfl, f4 _ _ g3, g4, smallE (by rw [List.length_append, List.length_take, List.length_drop]; show _ + 1 + _ ≤ _; omega), fun L nL => ?_⟩
        have S5 := S3.trans (f4.trans (same_upd (o := .lst (ws.take j ++ [.ref t8] ++ ws.drop (j + 1))) nL))
        have SG := f1.trans (f2.trans (f3.trans (f4.trans (same_upd (o := .lst (ws.take j ++ [.ref t8] ++ ws.drop (j + 1))) nL))))
        have ne := fresh3 (S3.trans f4) nL
        have pw5 := itmsAt S5 pw3
        refine q _ L _ (its.take j ++ [⟨false, it.ds, it.nm⟩] ++ its.drop (j + 1)) (b13.trans (Same.but S5)) (src3.mono S5) ne upd_same (paired_app (Paired.snoc (pairedTake pw5 j) (⟨t8, cg, gr, rfl, i8.same SG⟩)) (pairedDrop pw5 (j + 1))) (by rw [List.length_append, List.length_append, List.length_take, List.length_drop]; show _ + 1 + _ ≤ _; omega) fun it' hit' => ?_
        rcases List.mem_append.mp hit' with z | z
        · rcases List.mem_append.mp z with z | z
          · exact (ok it' (List.mem_of_mem_take z)).2.up
          · rw [List.mem_singleton.mp z]
            exact ⟨by show it.ds.length ≤ k + 1; omega, by show -(((k + 1 : Nat)) : Int) ≤ KnB.nOf it.nm; omega, by show KnB.nOf it.nm ≤ (((k + 1 : Nat)) : Int); omega⟩
        · exact (ok it' (List.mem_of_mem_drop z)).2.up

end
end Kn

set_option Elab.async false
set_option linter.all false
set_option maxRecDepth 100000
set_option maxHeartbeats 4000000
namespace Kn
open PySem PySem.Spec PyProof.Rows L2
open C8 (Cal pe_c pe_gc Mak pe_mk)
section
variable {P : Program} {w : World} {K : PySem.W.Frag} {mg : Str → Option Value} {base : Heap}
/-! ### what is shown -/
structure OkD (W D : Nat) (d : PyData) : Prop where
  sh : d.showable = true
  nd : d.hasDict = false
  dp : d.depth ≤ D
  lv : d.leavesShort 13 = true
  bk : d.bulk ≤ W
theorem OkD.up {W W' D D' : Nat} {d : PyData} (h : OkD W D d) (a : W ≤ W') (b : D ≤ D') : OkD W' D' d := ⟨h.sh, h.nd, Nat.le_trans h.dp b, h.lv, Nat.le_trans h.bk a⟩
theorem okD_int {i : Int} (h : i.natAbs < 1000) : OkD 0 0 (.int i) := by
  refine ⟨?_, rfl, Nat.le_refl _, ?_, Nat.le_refl _⟩
  · show decide (i.natAbs.log2 < 1920) = true
    refine decide_eq_true ?_
    have : i.natAbs.log2 < 10 := by
      by_cases z : i.natAbs = 0
      · rw [z]; decide
      · exact (Nat.log2_lt z).mpr (by omega)
    omega
  · show decide ((PyData.shown (.int i)).length ≤ 13) = true
    exact decide_eq_true (PyData.shown_int_le (by omega))
theorem okD_bool (b : Bool) : OkD 0 0 (.bool b) := ⟨rfl, rfl, Nat.le_refl _, rfl, Nat.le_refl _⟩
theorem okD_name {z : Str} (h : nameB (.str z) = true) : OkD 12 0 (.str z) := by
  have h' : (decide (1 ≤ z.cps.size) && decide (z.cps.size ≤ 12) && z.cps.toList.all inL) = true := h
  rw [Bool.and_eq_true] at h'
  have hl : ∀ c ∈ letters.cps.toList, c < 16 ^ 8 := by decide +kernel
  refine ⟨rfl, rfl, Nat.le_refl _, ?_, (name_size h).2⟩
  show (z.cps.toList.all fun c => decide (c < 16 ^ 8)) = true
  exact List.all_eq_true.mpr fun c hc => decide_eq_true (hl _ (of_decide_eq_true (List.all_eq_true.mp h'.2 _ hc)))
structure OkDs (W D : Nat) (ds : List PyData) : Prop where
  sh : PyData.showableAll ds = true
  nd : PyData.hasDictAll ds = false
  dp : PyData.depthAll ds ≤ D
  lv : PyData.leavesShortAll 13 ds = true
  bk : PyData.bulkAll ds ≤ W
theorem OkDs.nil {D : Nat} : OkDs 0 D [] := ⟨rfl, rfl, Nat.zero_le _, rfl, Nat.le_refl _⟩
theorem OkDs.cons {W W' D : Nat} {d : PyData} {ds : List PyData} (h : OkD W D d) (r : OkDs W' D ds) : OkDs (W + 1 + W') D (d :: ds) := by
  refine ⟨?_, ?_, ?_, ?_, ?_⟩
  · show (d.showable && PyData.showableAll ds) = true
    rw [h.sh, r.sh]; rfl
  · show (d.hasDict || PyData.hasDictAll ds) = false
    rw [h.nd, r.nd]; rfl
  · show max d.depth (PyData.depthAll ds) ≤ D
    exact Nat.max_le.mpr ⟨h.dp, r.dp⟩
  · show (d.leavesShort 13 && PyData.leavesShortAll 13 ds) = true
    rw [h.lv, r.lv]; rfl
  · show d.bulk + 1 + PyData.bulkAll ds ≤ _
    have := h.bk
    have := r.bk
    omega
theorem OkDs.all {W D : Nat} : ∀ {ds : List PyData}, (∀ d ∈ ds, OkD W D d) → OkDs ((W + 1) * ds.length) D ds
  | [], _ => .nil
  | d :: r, h => by
    have z := OkDs.cons (h d List.mem_cons_self) (OkDs.all fun x hx => h x (List.mem_cons_of_mem _ hx))
    rw [List.length_cons, Nat.mul_succ, Nat.add_comm]
    exact z
theorem OkDs.le {W W' D : Nat} {ds : List PyData} (h : OkDs W D ds) (a : W ≤ W') : OkDs W' D ds := ⟨h.sh, h.nd, h.dp, h.lv, Nat.le_trans h.bk a⟩
theorem OkDs.deep {W D D' : Nat} {ds : List PyData} (h : OkDs W D ds) (a : D ≤ D') : OkDs W D' ds := ⟨h.sh, h.nd, Nat.le_trans h.dp a, h.lv, h.bk⟩
theorem OkDs.tup {W D : Nat} {ds : List PyData} (h : OkDs W D ds) : OkD W (D + 1) (.tuple ds) := ⟨h.sh, h.nd, Nat.succ_le_succ h.dp, h.lv, h.bk⟩
theorem OkDs.lst {W D : Nat} {ds : List PyData} (h : OkDs W D ds) : OkD W (D + 1) (.list ds) := ⟨h.sh, h.nd, Nat.succ_le_succ h.dp, h.lv, h.bk⟩
theorem okD_row {p : KnA.Dat} (g : GoodRow p.1 p.2) : OkD 41 2 (KnA.rowD p) := by
  have a : OkDs ((12 + 1) * (p.2.map PyData.str).length) 0 (p.2.map PyData.str) := .all fun d hd => by
    obtain ⟨z, hz, rfl⟩ := List.mem_map.mp hd
    exact okD_name (g.nm z hz)
  have l := g.few
  rw [List.length_map] at a
  have s := state_in' g.st
  exact ((OkDs.cons ((okD_int (by omega)).up (Nat.le_refl _) (Nat.zero_le _)) (.cons (a.le (W' := 39) (by omega)).tup .nil)).le (by omega)).tup
def nmD : Int ⊕ Bool → PyData
  | .inl n => .int n
  | .inr b => .bool b
def itD (it : It) : PyData := if it.tp = true then .tuple [.tuple (it.ds.map KnA.rowD), nmD it.nm] else .list [.tuple (it.ds.map KnA.rowD), nmD it.nm]
theorem okD_it {k : Nat} {it : It} (h : okI k it) (k14 : k ≤ 14) (g : ∀ d ∈ it.ds, GoodRow d.1 d.2) : OkD 590 4 (itD it) := by
  obtain ⟨h1, h2, h3⟩ := h
  have a : OkDs ((41 + 1) * (it.ds.map KnA.rowD).length) 2 (it.ds.map KnA.rowD) := .all fun d hd => by
    obtain ⟨p, hp, rfl⟩ := List.mem_map.mp hd
    exact okD_row (g p hp)
  rw [List.length_map] at a
  have b : OkD 0 3 (nmD it.nm) := by
    cases e : it.nm with
    | inl n =>
      rw [e] at h2 h3
      have h2' : -(k : Int) ≤ n := h2
      have h3' : n ≤ (k : Int) := h3
      exact (okD_int (by omega)).up (Nat.le_refl _) (Nat.zero_le _)
    | inr b => exact (okD_bool b).up (Nat.le_refl _) (Nat.zero_le _)
  have c := (OkDs.cons (a.le (W' := 588) (by omega)).tup (.cons b .nil)).le (W' := 590) (by omega)
  unfold itD
  split
  · exact c.tup
  · exact c.lst
theorem dp_it {K : PySem.W.Frag} {H : Hp} {v : V} {it : It} (h : ItmAt H v it) : Dp K H v (itD it) := by
  obtain ⟨t, c, g, rfl, p⟩ := h
  have r : ∀ {vs : List V} {ds : List KnA.Dat}, RowsP H vs ds → DpAll K H vs (ds.map KnA.rowD) := fun h => by
    induction h with
    | nil => exact .nil
    | cons a _ ih => exact .cons (dp_row a) ih
  have n : Dp K H (numV it.nm) (nmD it.nm) := by
    cases it.nm with
    | inl n => exact .int n
    | inr b => exact .bl b
  have at1 := p.at_
  unfold itO at at1
  unfold itD
  have d : DpAll K H [.ref c, numV it.nm] [.tuple (it.ds.map KnA.rowD), nmD it.nm] := .cons (.tup (.inl (.inl p.gr)) (r p.rows)) (.cons n .nil)
  cases e : it.tp with
  | true =>
    rw [e, if_pos rfl] at at1
    rw [if_pos rfl]
    exact .tup (.inl (.inl at1)) d
  | false =>
    rw [e, if_neg (by decide)] at at1
    rw [if_neg (by decide)]
    exact .lst (.inl (.inl at1)) d
theorem dp_its {K : PySem.W.Frag} {H : Hp} {vs : List V} {its : List It} (h : Paired (ItmAt H) vs its) : DpAll K H vs (its.map itD) := by
  induction h with
  | nil => exact .nil
  | cons a _ ih => exact .cons (dp_it a) ih
theorem its_good {H : Hp} {vs : List V} {its : List It} (h : Paired (ItmAt H) vs its) : ∀ it ∈ its, ∀ d ∈ it.ds, GoodRow d.1 d.2 := by
  induction h with
  | nil => exact fun _ hit => nomatch hit
  | cons a _ ih =>
    intro it hit
    rcases List.mem_cons.mp hit with rfl | hit
    · exact let ⟨_, _, _, _, p⟩ := a; p.good
    · exact ih it hit
/-- repr of the list of items -/
theorem repr_its {K : PySem.W.Frag} {H : Hp} {a : Addr} {vs : List V} {its : List It} {k : Nat} {Q : VK} (e : H a = some (.lst vs)) (h : Paired (ItmAt H) vs its) (ok : ∀ it ∈ its, okI k it) (k14 : k ≤ 14) (few : its.length ≤ 1100) (q : Q (.str (PyData.list (its.map itD)).shown) H) : KnQ.rReprD K [.ref a] H Q := by
  have o : OkDs ((590 + 1) * (its.map itD).length) 4 (its.map itD) := .all fun d hd => by
    obtain ⟨it, hit, rfl⟩ := List.mem_map.mp hd
    exact okD_it (ok it hit) k14 (its_good h it hit)
  rw [List.length_map] at o
  have o2 := (o.le (W' := 2 ^ 20) (by omega)).lst
  exact ⟨a, _, rfl, .lst (.inl (.inl e)) (dp_its h), o2.sh, o2.nd, Nat.le_trans o2.dp (by decide), PyData.shown_fits_bulk (by decide) (by decide) o2.lv o2.bk, q⟩
/-- a told table, as items -/
theorem itm_of {H : Hp} {st : V → Int} {fa : V → List Str} {ys : List V} (R : Rows H ys st fa) (few : ys.length ≤ 10) {vs : List V} {es : List (List V × Nat)} (h : Paired (ItemAt H) vs es) (sub : ∀ p ∈ es, p.1.Sublist ys) : Paired (ItmAt H) vs (es.map fun p => ⟨true, datsOf st fa p.1, .inl (p.2 : Int)⟩) := by
  induction h with
  | nil => exact .nil
  | cons a _ ih =>
    obtain ⟨t, g, e, ht, hg⟩ := a
    have s := sub _ List.mem_cons_self
    refine .cons ⟨t, g, _, e, .mk' ht hg (fun v hv => R v (s.subset hv)) ?_⟩ (ih fun p hp => sub p (List.mem_cons_of_mem _ hp))
    have := s.length_le
    omega
theorem jTable_perm {E : List KnA.Dat} {pl pl' : List (List Int)} (pm : pl'.Perm pl) (many : Nat) (its : List It) : jTable E pl' many its = jTable E pl many its := by
  unfold jTable
  have e : ((its.map entOf).all fun p => pl'.all fun ss => stepD (its.map entOf) p ss) = (its.map entOf).all fun p => pl.all fun ss => stepD (its.map entOf) p ss := by
    have z : ∀ p, (pl'.all fun ss => stepD (its.map entOf) p ss) = pl.all fun ss => stepD (its.map entOf) p ss := fun p => by
      rw [Bool.eq_iff_iff, List.all_eq_true, List.all_eq_true]
      exact ⟨fun h x hx => h x (pm.mem_iff.mpr hx), fun h x hx => h x (pm.mem_iff.mp hx)⟩
    exact congrArg _ (funext z)
  rw [e]

end
end Kn

set_option Elab.async false
set_option linter.all false
set_option maxRecDepth 100000
set_option maxHeartbeats 4000000
namespace Kn
open PySem PySem.Spec PyProof.Rows L2
open C8 (Cal pe_c pe_gc Mak pe_mk)
section
variable {P : Program} {w : World} {K : PySem.W.Frag} {mg : Str → Option Value} {base : Heap}
theorem ItmAt.but {H H' : Hp} {s c : Addr} (b : But s H H') (h0 : SrcAt H s c) {v : V} {it : It} (h : ItmAt H v it) : ItmAt H' v it := by
  obtain ⟨t, cg, g, e, p⟩ := h
  have kT := but_tup b h0
  refine ⟨t, cg, g, e, ?_, kT _ _ p.gr, p.rows.ext kT, p.good, p.few⟩
  have at1 := p.at_
  unfold itO at at1 ⊢
  cases z : it.tp with
  | true =>
    rw [z, if_pos rfl] at at1
    rw [if_pos rfl]
    exact kT _ _ at1
  | false =>
    rw [z, if_neg (by decide)] at at1
    rw [if_neg (by decide)]
    obtain ⟨ns, i, j, k, o⟩ := h0
    exact b _ _ at1 (ne_of at1 o.at_ fun y => by have := congrArg List.length (HO.lst.inj y); cases this)
theorem itmsBut {H H' : Hp} {s c : Addr} (b : But s H H') (h0 : SrcAt H s c) {vs : List V} {its : List It} (h : Paired (ItmAt H) vs its) : Paired (ItmAt H') vs its := by
  induction h with
  | nil => exact .nil
  | cons a _ ih => exact .cons (a.but b h0) ih
theorem asc_of (st : V → Int) (fa : V → List Str) (us : List V) : ∃ ys : List V, ys.Perm us ∧ Asc st fa ys := by
  refine ⟨us.mergeSort fun x y => KnA.rowLe (st x, fa x) (st y, fa y), List.mergeSort_perm _ _, List.pairwise_map.mpr ?_⟩
  exact List.pairwise_mergeSort (le := fun x y => KnA.rowLe (st x, fa x) (st y, fa y)) (fun a b c h1 h2 => KnA.rowLe_trans h1 h2) (fun a b => by rw [Bool.or_eq_true]; exact KnA.rowLe_total _ _) us
theorem tNil_use {σ : L2.St} {H : Hp} {k : List V → Hp → Prop} (h : k [] H) : tNil σ H k := h
theorem answers_use {K : PySem.W.Frag} {C : Addr} {H : Hp} {Q : VK} {E : XK} {vs : List V} (r d : Addr) (b : Bool) (xs : List V) (st : V → Int) (fa : V → List Str) (ps : List Prb) (many : Nat) (e : vs = [.ref r, .ref d, .int (many : Int)]) (m : many ≤ 10) (hr : H r = some (rowO b xs)) (R : Rows H xs st fa) (nk : (keysR st fa xs).Nodup) (lo : 1 ≤ xs.length) (few : xs.length ≤ 10) (P : Probes H d ps) (gp : GoodP ps)
    (q : ∀ v G, Same H G → (v = .non ∨ ∃ (l : Addr) (ws ys : List V) (es : List (List V × Nat)), v = .ref l ∧ H l = none ∧ G l = some (.lst ws) ∧ Paired (ItemAt G) ws es ∧ ys.Perm xs ∧ TabOk st fa ys ps many es) → Q v G) : sp_answers K C vs H Q E :=
  ⟨r, d, b, xs, st, fa, ps, many, e, m, hr, R, nk, lo, few, P, gp, fun _ G s => q _ G s (.inl rfl), fun _ G l ws ys es s nl el pw pm _ tab => q _ G s (.inr ⟨l, ws, ys, es, rfl, nl, el, pw, pm, tab⟩)⟩
theorem ok_law {f : Addr} {C : Addr} {fd : FuncData} (T : Txt K mg C) (F : Fun K "law" "law" s_law f fd) (c__law_source : Cal P w K mg base 1 "_law_source" (sp__law_source K) []) (c__law_candidates : Cal P w K mg base 4 "_law_candidates" (sp__law_candidates K) []) (c__law_draw : Cal P w K mg base 1 "_law_draw" (sp__law_draw K) []) (c__law_probes : Cal P w K mg base 4 "_law_probes" (sp__law_probes K) []) (c_answers : Cal P w K mg base 72 "answers" (sp_answers K C) []) (c__law_passed : Cal P w K mg base 2 "_law_passed" (sp__law_passed K) []) (c__law_plain : Cal P w K mg base 2 "_law_plain" (sp__law_plain K) []) (c__law_changed : Cal P w K mg base 2 "_law_changed" (sp__law_changed K) []) (c__law_is_table : Cal P w K mg base 3 "_law_is_table" (sp__law_is_table K) []) (c_is_answers : Cal P w K mg base 6 "is_answers" (sp_is_answers K C) []) : KnQ.At P w K mg base callerA f fd ["_law_script"] (sp_law K) := by
  have nd := sc_law.nd
  refine KnQ.at_of (k := 73) F sc_law (fun vs H Q E h => ?_) ⟨rfl, by decide, by decide⟩ (fun cdv outer s H vs Q E hr h => ?_)
  · obtain ⟨a, ns, rfl, _⟩ := h
    rfl
  · obtain ⟨a, ns, rfl, ha, ln, q⟩ := h
    refine ⟨_, (pss_cons (ps_set (i := 1) nd rfl (.inl rfl) (pe_c c__law_source hr (by omega) (by rfl) (pa_cons (pv 0) pa_nil)))
      (pss_cons (ps_set (i := 2) nd rfl (.inl rfl) (pe_c c__law_candidates hr (by omega) (by rfl) (pa_cons (pv 1) (pa_cons pe_int (pa_cons (pe_ix (r := rIxL K) ix_list (pe_lst (pa_cons pe_int (pa_cons pe_int pa_nil))) (pe_c c__law_draw hr (by omega) (by rfl) (pa_cons (pv 1) (pa_cons pe_int pa_nil))) (fun _ _ => rfl)) pa_nil)))))
      (pss_cons (ps_set (i := 3) nd rfl (.inl rfl) (pe_c c__law_probes hr (by omega) (by rfl) (pa_cons (pv 1) (pa_cons pe_int (pa_cons (pv 2) pa_nil)))))
      (pss_cons (ps_set (i := 4) nd rfl (.inl rfl) (pe_c c__law_draw hr (by omega) (by rfl) (pa_cons (pv 1) (pa_cons pe_int pa_nil))))
      (pss_cons (ps_set (i := 5) nd rfl (.inl rfl) (pe_c c_answers hr (by omega) (by rfl) (pa_cons (pv 2) (pa_cons (pe_c c__law_passed hr (by omega) (by rfl) (pa_cons (pv 1) (pa_cons (pv 3) pa_nil))) (pa_cons (pv 4) pa_nil)))))
      (pss_cons (ps_if (pt_cmpR op_isN (pv 5) pe_non (nomark _)) (pss_one (ps_set (i := 5) nd rfl (.inl rfl) (pe_c c__law_plain hr (by omega) (by rfl) (pa_cons (pv 2) (pa_cons (pv 3) (pa_cons (pv 4) pa_nil)))))) pss_nil)
      (pss_cons (ps_for PassesOwn.never rfl (pi_range1 (by rfl) T.m_range (pa_cons (pe_c c__law_draw hr (by omega) (by rfl) (pa_cons (pv 1) (pa_cons pe_int pa_nil))) pa_nil)) (pg_name (i := 6) nd rfl (.inl rfl)) (pss_cons (ps_setLc (i := 7) (own := [("_law_item", 12)]) (g := gName 12) rfl nd rfl rfl (sw_true rfl rfl rfl (by decide +kernel)) (pi_list (pv 5)) (blkOk_by (N := ["_law_script", "_law_source_here", "_law_rows", "_law_probes_here", "_law_many", "_law_items", "_law_turn", "_law_plain_here", "_law_due", "_law_thing", "_law_kept", "_law_actual", "_law_item"]) (sc := defScope s_law) (by decide +kernel)) (fun _ _ _ _ _ => (pg_name (i := 12) nd rfl (.inl rfl))) (fun _ _ _ _ _ => (pts_one (pt_val (pe_callB (show CallR _ (.builtin "isinstance") (rIsi K) from call_isi) (by rfl) T.m_isinstance (by decide +kernel) (pa_cons (pv 12) (pa_cons (pe_bltn (v := .ty "tuple") (u := .type "tuple") (by rfl) T.m_tuple (by decide +kernel) rfl) pa_nil)))))) (fun _ _ _ _ _ => (pv 12)))
      (pss_one (ps_if (PW.pt (pw_and (pt_cmpR op_eq (pe_callB call_len (by rfl) T.m_len (by decide +kernel) (pa_cons (pv 7) pa_nil)) (pe_callB call_len (by rfl) T.m_len (by decide +kernel) (pa_cons (pv 5) pa_nil)) (nomark _)) (pw_and1 (pt_cmpR op_gt (pe_callB call_len (by rfl) T.m_len (by decide +kernel) (pa_cons (pv 5) pa_nil)) pe_int (nomark _))))) (pss_one (ps_set (i := 5) nd rfl (.inl rfl) (pe_c c__law_changed hr (by omega) (by rfl) (pa_cons (pv 1) (pa_cons (pv 5) pa_nil))))) pss_nil))))
      (pss_cons (ps_set (i := 8) nd rfl (.inl rfl) (pe_c c__law_is_table hr (by omega) (by rfl) (pa_cons (pv 2) (pa_cons (pv 3) (pa_cons (pv 4) (pa_cons (pv 5) pa_nil))))))
      (pss_cons (ps_set (i := 9) nd rfl (.inl rfl) (pe_callTy call_list_of (by rfl) T.m_list (by decide +kernel) (pa_cons (pv 5) pa_nil)))
      (pss_cons (ps_set (i := 10) nd rfl (.inl rfl) (pe_callB (show CallR _ (.builtin "repr") (KnQ.rReprD K) from KnQ.cr_reprD (by rfl) (KnC.un65 hr)) (by rfl) T.m_repr (by decide +kernel) (pa_cons (pv 9) pa_nil)))
      (pss_cons (ps_set (i := 11) nd rfl (.inl rfl) (pe_c c_is_answers hr (by omega) (by rfl) (pa_cons (pv 2) (pa_cons (pe_c c__law_passed hr (by omega) (by rfl) (pa_cons (pv 1) (pa_cons (pv 3) pa_nil))) (pa_cons (pv 4) (pa_cons (pv 9) pa_nil))))))
      (pss_one (ps_ret (pe_and (pe_callB call_isi (by rfl) T.m_isinstance (by decide +kernel) (pa_cons (pv 11) (pa_cons (pe_bltn (v := .ty "bool") (u := .type "bool") (by rfl) T.m_bool (by decide +kernel) rfl) pa_nil))) (pe_and (pe_cmpR op_eq (pv 11) (pv 8) (nomark _)) (pe_one (pe_cmpR op_eq (pe_callB (show CallR _ (.builtin "repr") (KnQ.rReprD K) from KnQ.cr_reprD (by rfl) (KnC.un65 hr)) (by rfl) T.m_repr (by decide +kernel) (pa_cons (pv 9) pa_nil)) (pv 10) (nomark _)))))))))))))))))), ?_⟩
    refine ⟨.ref a, rfl, a, ns, rfl, ha, ln, fun H1 s c s1 ns_ src1 => ?_⟩
    refine ⟨.ref s, rfl, szl rfl, fun p np => ?_⟩
    have nps := src1.ne np
    have ep : (upd H1 p (.lst [V.int 4, .int 10])) p = some (.lst [.int 4, .int 10]) := upd_same
    have srcp := src1.mono (same_upd (o := .lst [V.int 4, .int 10]) np)
    generalize upd H1 p (.lst [V.int 4, .int 10]) = Hp1 at ep srcp ⊢
    refine ⟨.ref s, rfl, s, c, 2, rfl, by decide, by decide, srcp, fun H2 r b2 src2 r0 r1 => ?_⟩
    have ep2 := b2 _ _ ep nps
    obtain ⟨m, hm, m1, m2⟩ : ∃ m : Int, atI [V.int 4, .int 10] r = some (.int m) ∧ 1 ≤ m ∧ m ≤ 100 := by
      obtain ⟨j, rfl⟩ : ∃ j : Nat, r = (j : Int) := ⟨r.toNat, by omega⟩
      match j, r1 with
      | 0, _ => exact ⟨4, atI_nat (j := 0) rfl, by decide, by decide⟩
      | 1, _ => exact ⟨10, atI_nat (j := 1) rfl, by decide, by decide⟩
      | j + 2, h => omega
    refine ⟨p, _, r, .int m, rfl, rfl, .inl (.inl ep2), hm, s, c, 10, m, rfl, by decide, by decide, m1, m2, src2, fun H3 l us b3 src3 nl3 el ⟨st, fa, R, ndk⟩ lo few => ?_⟩
    have nls : l ≠ s := src2.ne nl3
    clear ep2 b2 b3 nl3 ep srcp src2 hm
    -- the probes
    refine ⟨.ref s, rfl, .ref l, rfl, s, c, l, 6, us, st, fa, rfl, by decide, src3, nls, el, R, few, fun H4 d ps b4 src4 nd4 P4 gp _ _ => ?_⟩
    have nds : d ≠ s := src3.ne nd4
    have el4 := b4 _ _ el nls
    have R4 := R.tup (but_tup b4 src3)
    have nla : ∀ p ∈ ps, p.2.1 ≠ s := fun p hp z => by
      obtain ⟨ns0, i0, j0, k0, o⟩ := src4
      have e := P4.ls p hp
      rw [z, o.at_] at e
      have e2 := HO.lst.inj (Option.some.inj e)
      cases hx : p.2.2 with
      | nil => rw [hx] at e2; cases e2
      | cons y ys => rw [hx] at e2; cases e2
    clear b4 el R src3
    -- the number
    refine ⟨.ref s, rfl, s, c, 5, rfl, by decide, by decide, src4, fun H5 mn b5 src5 mn0 mn1 => ?_⟩
    obtain ⟨j, rfl⟩ : ∃ j : Nat, mn = (j : Int) := ⟨mn.toNat, by omega⟩
    have hj : j ≤ 4 := by omega
    have el5 := b5 _ _ el4 nls
    have R5 := R4.tup (but_tup b5 src4)
    have P5 : Probes H5 d ps := ⟨b5 _ _ P4.at_ nds, fun p hp => b5 _ _ (P4.ls p hp) (nla p hp)⟩
    -- the table
    refine ⟨.ref l, rfl, .ref s, rfl, .ref d, rfl, s, c, d, ps, rfl, src5, nds, nla, P5, gp, fun H6 d6 ps6 b6 src6 nd6 Q6 gp6 pm6 nl6 me6 pn6 => ?_⟩
    have el6 := b6 _ _ el5 nls
    have R6 := R5.tup (but_tup b6 src5)
    have P6 : Probes H6 d ps := ⟨b6 _ _ P5.at_ nds, fun p hp => b6 _ _ (P5.ls p hp) (nla p hp)⟩
    obtain ⟨ys0, py0, asc0⟩ := asc_of st fa us
    refine ⟨.int (j : Int), rfl, ?_⟩
    refine tNil_use ?_
    refine answers_use l d6 true us st fa ps6 j rfl (by omega) el6 R6 ndk lo few Q6 gp6 fun v H7 s7 hv => ?_
    have el7 := s7 _ _ el6
    have R7 := R6.mono s7
    have P7 := P6.mono s7
    have src7 := src6.mono s7
    refine KnC.asg_if (fun σ G => ∃ (L : Addr) (ws : List V) (its : List It), σ = [some (.ref a), some (.ref s), some (.ref l), some (.ref d), some (.int (j : Int)), some (.ref L), none, none, none, none, none, none, none] ∧ SrcAt G s c ∧ L ≠ s ∧ G l = some (.lst us) ∧ Rows G us st fa ∧ Probes G d ps ∧ G L = some (.lst ws) ∧ Paired (ItmAt G) ws its ∧ its.length ≤ 1024 ∧ ∀ it ∈ its, okI 10 it) (fun k => ?_) (fun σ G hT => ?_)
    · rcases hv with rfl | ⟨L, ws, ys, es, rfl, nL, eL, pw, pys, tab⟩
      · refine ⟨V.non, rfl, rfl, _, rfl, iteT ?_⟩
        refine ⟨.ref l, rfl, .ref d, rfl, .int (j : Int), rfl, l, d, us, st, fa, ps, j, rfl, el7, R7, few, by omega, P7, gp, fun H8 L ws its s8 nL eL pw l20 l1 ok => ?_⟩
        exact k _ _ ⟨L, ws, its, rfl, src7.mono s8, src7.ne nL, s8 _ _ el7, R7.mono s8, P7.mono s8, eL, pw, by omega, fun it hit => (ok it hit).2⟩
      · refine ⟨.ref L, rfl, rfl, _, rfl, iteF ?_⟩
        have few' : ys.length ≤ 10 := by rw [pys.length_eq]; exact few
        refine k _ _ ⟨L, ws, _, rfl, src7, src6.ne nL, el7, R7, P7, eL, itm_of (fun v hv => R7 v (pys.subset hv)) few' pw fun p hp => (tab.ok p hp).1, by rw [List.length_map]; exact tab.len, fun it hit => ?_⟩
        obtain ⟨p, hp, rfl⟩ := List.mem_map.mp hit
        have t1 := tab.top p hp
        have t2 := (tab.ok p hp).1.length_le
        exact ⟨by show (List.map _ p.1).length ≤ 10; rw [List.length_map]; omega, by show -((10 : Nat) : Int) ≤ (p.2 : Int); omega, by show (p.2 : Int) ≤ ((10 : Nat) : Int); omega⟩
    · obtain ⟨L, ws, its, rfl, src, nLs, el, R, PP, eL, pw, len, ok⟩ := hT
      clear src7 P7 R7 el7 s7 hv src6 P6 R6 el6 b6 Q6 gp6 pm6 nl6 me6 pn6 nd6 P5 R5 el5 b5 src5
      refine ⟨.ref s, rfl, s, c, 5, rfl, by decide, by decide, src, fun H9 t b9 src9 t0 t1 => ?_⟩
      obtain ⟨n, rfl⟩ : ∃ n : Nat, t = (n : Int) := ⟨t.toNat, by omega⟩
      refine ⟨(n : Int), rfl, by omega, by omega, ?_⟩
      rw [Int.toNat_natCast]
      refine for_range (lo := 0) (n := n) (fun i σ G => ∃ (y6 y7 : Option V) (L : Addr) (ws : List V) (its : List It), σ = [some (.ref a), some (.ref s), some (.ref l), some (.ref d), some (.int (j : Int)), some (.ref L), y6, y7, none, none, none, none, none] ∧ SrcAt G s c ∧ L ≠ s ∧ G l = some (.lst us) ∧ Rows G us st fa ∧ Probes G d ps ∧ G L = some (.lst ws) ∧ Paired (ItmAt G) ws its ∧ its.length ≤ 1024 + i ∧ ∀ it ∈ its, okI (10 + i) it)
        ⟨none, none, L, ws, its, rfl, src9, nLs, b9 _ _ el nls, R.tup (but_tup b9 src), ⟨b9 _ _ PP.at_ nds, fun p hp => b9 _ _ (PP.ls p hp) (nla p hp)⟩, b9 _ _ eL nLs, itmsBut b9 src pw, len, ok⟩ (fun i σ G hi hP => ?_) (fun σ G hP => ?_)
      · obtain ⟨y6, y7, L, ws, its, rfl, src, nLs, el, R, PP, eL, pw, len, ok⟩ := hP
        refine ⟨.ref L, rfl, L, rfl, ⟨_, .inl (.inl eL)⟩, fun D nD => ?_⟩
        refine lc_list (K := K) (a := L) (xs := ws) (fun k G' => Same G G' ∧ ∃ zs, G' D = some (.lst zs) ∧ zs.length = ((its.take k).filter (·.tp)).length) ⟨same_upd nD, [], upd_same, rfl⟩ (fun k G' _ hP => .inl (.inl (hP.1 _ _ eL))) (fun k x G' hx hP => ?_) (fun G' hP => ?_)
        · obtain ⟨S, zs, eD, lz⟩ := hP
          obtain ⟨it, hit, t', cg, gr, rfl, ip⟩ := pairedGet (itmsAt S pw) hx
          have tk : ((its.take (k + 1)).filter (·.tp)).length = ((its.take k).filter (·.tp)).length + if it.tp = true then 1 else 0 := by
            rw [take_more hit, List.filter_append, List.length_append, List.filter_cons, List.filter_nil]
            cases it.tp <;> rfl
          have at1 := ip.at_
          unfold itO at at1
          refine ⟨rfl, ?_⟩
          cases z : it.tp with
          | true =>
            rw [z, if_pos rfl] at at1 tk
            refine ⟨.ref t', rfl, .ref t', .ty "tuple", .type "tuple", _, true, rfl, .ty _, .base (.tup at1), kit_ty (show kitB "tuple" "tuple" = some true by decide +kernel), _, rfl, ?_⟩
            have lt : ((its.take k).filter (·.tp)).length ≤ its.length := Nat.le_trans (List.length_filter_le _ _) (by rw [List.length_take]; omega)
            refine iteT ⟨.ref t', rfl, zs, eD, small (by omega), same_set nD S, zs ++ [.ref t'], upd_same, ?_⟩
            rw [List.length_append, tk, lz]; rfl
          | false =>
            rw [z, if_neg (by decide)] at at1 tk
            refine ⟨.ref t', rfl, .ref t', .ty "tuple", .type "list", _, false, rfl, .ty _, .base (.lst at1), kit_ty (show kitB "list" "tuple" = some false by decide +kernel), _, rfl, ?_⟩
            exact iteF ⟨S, zs, eD, by rw [tk]; exact lz⟩
        · obtain ⟨S, zs, eD, lz⟩ := hP
          have lw := Paired.length pw
          rw [List.take_of_length_le (by omega)] at lz
          have eL' := S _ _ eL
          have srcS := src.mono S
          have elS := S _ _ el
          have RS := R.mono S
          have PS := PP.mono S
          have pwS := itmsAt S pw
          have idle : ∃ (y6 y7 : Option V) (L' : Addr) (ws' : List V) (its' : List It), ((([some (.ref a), some (.ref s), some (.ref l), some (.ref d), some (.int (j : Int)), some (.ref L), y6, y7, none, none, none, none, none] : L2.St).set 6 (some (.int (0 + (i : Int))))).set 7 (some (.ref D))) = [some (.ref a), some (.ref s), some (.ref l), some (.ref d), some (.int (j : Int)), some (.ref L'), y6, y7, none, none, none, none, none] ∧ SrcAt G' s c ∧ L' ≠ s ∧ G' l = some (.lst us) ∧ Rows G' us st fa ∧ Probes G' d ps ∧ G' L' = some (.lst ws') ∧ Paired (ItmAt G') ws' its' ∧ its'.length ≤ 1024 + (i + 1) ∧ ∀ it ∈ its', okI (10 + (i + 1)) it :=
            ⟨_, _, L, ws, its, rfl, srcS, nLs, elS, RS, PS, eL', pwS, by omega, fun it hit => (ok it hit).up⟩
          refine ⟨.ref D, rfl, .ref D, zs.length, rfl, .inl ⟨_, .inl (.inl eD), rfl⟩, .ref L, rfl, .ref L, ws.length, rfl, .inl ⟨_, .inl (.inl eL'), rfl⟩, rfl, _, rfl, ?_⟩
          by_cases cz : zs.length = ws.length
          · rw [decide_eq_true (show V.int (zs.length : Int) = V.int (ws.length : Int) by rw [cz])]
            refine iteT ⟨.ref L, rfl, .ref L, ws.length, rfl, .inl ⟨_, .inl (.inl eL'), rfl⟩, (ws.length : Int), 0, rfl, rfl, _, rfl, ?_⟩
            by_cases c0 : 0 < ws.length
            · rw [decide_eq_true (show (ws.length : Int) > 0 by omega)]
              have tps : ∀ it ∈ its, it.tp = true := List.length_filter_eq_length_iff.mp (lz.symm.trans (by omega))
              refine iteT ⟨.ref s, rfl, .ref L, rfl, s, c, L, ws, its, 10 + i, rfl, srcS, nLs, eL', pwS, by have := Paired.length pwS; omega, by have := t1; omega, by have := t1; omega, fun it hit => ⟨tps it hit, ok it hit⟩, fun H' L' ws' its' bb src' nL' eL'' pw' l' ok' => ?_⟩
              exact ⟨_, _, L', ws', its', rfl, src', srcS.ne nL', bb _ _ elS nls, RS.tup (but_tup bb srcS), ⟨bb _ _ PS.at_ nds, fun p hp => bb _ _ (PS.ls p hp) (nla p hp)⟩, eL'', pw', by omega, ok'⟩
            · rw [decide_eq_false (show ¬ (ws.length : Int) > 0 by omega)]
              exact iteF idle
          · rw [decide_eq_false (show ¬ V.int (zs.length : Int) = V.int (ws.length : Int) from fun z => cz (by have := V.int.inj z; omega))]
            exact iteF idle
      · obtain ⟨y6, y7, L, ws, its, rfl, src, nLs, el, R, PP, eL, pw, len, ok⟩ := hP
        refine ⟨.ref l, rfl, .ref d, rfl, .int (j : Int), rfl, .ref L, rfl, l, d, L, us, ws, ys0, st, fa, ps, j, its, rfl, el, R, ndk, few, PP, gp, eL, pw, by omega, py0, asc0, fun G1 s1 => ?_⟩
        generalize hdue : jTable (datsOf st fa ys0) (ps.map (·.2.2)) j its = due
        refine ⟨.ref L, rfl, L, ws, rfl, .inl (.inl (.inl (s1 _ _ eL))), fun M nM => ?_⟩
        have s2 := s1.trans (same_upd (o := .lst ws) nM)
        have eM : (upd G1 M (.lst ws)) M = some (.lst ws) := upd_same
        have nMs : M ≠ s := (src.mono s1).ne nM
        generalize upd G1 M (.lst ws) = G2 at s2 eM ⊢
        have pw2 := itmsAt s2 pw
        refine ⟨.ref M, rfl, ?_⟩
        refine tNil_use ?_
        refine repr_its eM pw2 ok (by omega) (by omega) ?_
        refine ⟨.ref l, rfl, .ref s, rfl, .ref d, rfl, s, c, d, ps, rfl, src.mono s2, nds, nla, PP.mono s2, gp, fun G3 d3 ps3 b3 src3 nd3 Q3 gp3 pm3 nl3 me3 pn3 => ?_⟩
        have pw3 := itmsBut b3 (src.mono s2) pw2
        have eM3 := b3 _ _ eM nMs
        refine ⟨.int (j : Int), rfl, .ref M, rfl, l, d3, M, true, us, ws, ys0, st, fa, ps3, j, its, rfl, by omega, b3 _ _ (s2 _ _ el) nls, (R.mono s2).tup (but_tup b3 (src.mono s2)), ndk, lo, few, Q3, gp3, eM3, pw3, by omega, py0, asc0, fun G4 s4 => ?_⟩
        rw [jTable_perm pm3, hdue]
        refine ⟨.bl due, rfl, .bl due, .ty "bool", .type "bool", _, true, rfl, .ty _, .base (.bl due), kit_ty (show kitB "bool" "bool" = some true by decide +kernel), ?_⟩
        refine ⟨true, rfl, iteT ?_⟩
        refine ⟨.bl due, rfl, .bl due, rfl, by cases due <;> rfl, true, by rw [decide_eq_true rfl], iteT ?_⟩
        refine ⟨.ref M, rfl, ?_⟩
        refine tNil_use ?_
        refine repr_its (s4 _ _ eM3) (itmsAt s4 pw3) ok (by omega) (by omega) ?_
        refine ⟨_, rfl, rfl, ?_⟩
        rw [decide_eq_true rfl]
        exact q G4

end
end Kn

set_option Elab.async false
set_option linter.all false
set_option maxRecDepth 100000
set_option maxHeartbeats 4000000
namespace Kn
open PySem PySem.Spec PyProof.Rows L2
open C8 (Cal pe_c pe_gc Mak pe_mk)
theorem all_mk {l : PySem.W.OpenLaw} {w : World} {K : PySem.W.Frag} {h : Heap} {mg : Str → Option Value} {fa : Addr} (X : K.In h) (G : h.Ns mainGlobals mg) (hfa : mg "law" = some (.ref fa))
    {od0 an0 : Option Addr} {sl0 : Array (Option Value)} {oc0 kV0 dc0 pm0 cd0 ct0 : Value} {f0 : Addr}
    {od1 an1 : Option Addr} {sl1 : Array (Option Value)} {oc1 kV1 dc1 pm1 cd1 ct1 : Value} {f1 : Addr}
    {od2 an2 : Option Addr} {sl2 : Array (Option Value)} {oc2 kV2 dc2 pm2 cd2 ct2 : Value} {f2 : Addr}
    {od3 an3 : Option Addr} {sl3 : Array (Option Value)} {oc3 kV3 dc3 pm3 cd3 ct3 : Value} {f3 : Addr}
    {od4 an4 : Option Addr} {sl4 : Array (Option Value)} {oc4 kV4 dc4 pm4 cd4 ct4 : Value} {f4 : Addr}
    {od5 an5 : Option Addr} {sl5 : Array (Option Value)} {oc5 kV5 dc5 pm5 cd5 ct5 : Value} {f5 : Addr}
    {od6 an6 : Option Addr} {sl6 : Array (Option Value)} {oc6 kV6 dc6 pm6 cd6 ct6 : Value} {f6 : Addr}
    {od7 an7 : Option Addr} {sl7 : Array (Option Value)} {oc7 kV7 dc7 pm7 cd7 ct7 : Value} {f7 : Addr}
    {od8 an8 : Option Addr} {sl8 : Array (Option Value)} {oc8 kV8 dc8 pm8 cd8 ct8 : Value} {f8 : Addr}
    {od9 an9 : Option Addr} {sl9 : Array (Option Value)} {oc9 kV9 dc9 pm9 cd9 ct9 : Value} {f9 : Addr}
    {od10 an10 : Option Addr} {sl10 : Array (Option Value)} {oc10 kV10 dc10 pm10 cd10 ct10 : Value} {f10 : Addr}
    {od11 an11 : Option Addr} {sl11 : Array (Option Value)} {oc11 kV11 dc11 pm11 cd11 ct11 : Value} {f11 : Addr}
    {od12 an12 : Option Addr} {sl12 : Array (Option Value)} {oc12 kV12 dc12 pm12 cd12 ct12 : Value} {f12 : Addr}
    {od13 an13 : Option Addr} {sl13 : Array (Option Value)} {oc13 kV13 dc13 pm13 cd13 ct13 : Value} {f13 : Addr}
    {od14 an14 : Option Addr} {sl14 : Array (Option Value)} {oc14 kV14 dc14 pm14 cd14 ct14 : Value} {f14 : Addr}
    {od15 an15 : Option Addr} {sl15 : Array (Option Value)} {oc15 kV15 dc15 pm15 cd15 ct15 : Value} {f15 : Addr}
    {od16 an16 : Option Addr} {sl16 : Array (Option Value)} {oc16 kV16 dc16 pm16 cd16 ct16 : Value} {f16 : Addr}
    {od17 an17 : Option Addr} {sl17 : Array (Option Value)} {oc17 kV17 dc17 pm17 cd17 ct17 : Value} {f17 : Addr}
    {od18 an18 : Option Addr} {sl18 : Array (Option Value)} {oc18 kV18 dc18 pm18 cd18 ct18 : Value} {f18 : Addr}
    {od19 an19 : Option Addr} {sl19 : Array (Option Value)} {oc19 kV19 dc19 pm19 cd19 ct19 : Value} {f19 : Addr}
    {od20 an20 : Option Addr} {sl20 : Array (Option Value)} {oc20 kV20 dc20 pm20 cd20 ct20 : Value} {f20 : Addr}
    {od21 an21 : Option Addr} {sl21 : Array (Option Value)} {oc21 kV21 dc21 pm21 cd21 ct21 : Value} {f21 : Addr}
    {od22 an22 : Option Addr} {sl22 : Array (Option Value)} {oc22 kV22 dc22 pm22 cd22 ct22 : Value} {f22 : Addr}
    {od23 an23 : Option Addr} {sl23 : Array (Option Value)} {oc23 kV23 dc23 pm23 cd23 ct23 : Value} {f23 : Addr}
    {od24 an24 : Option Addr} {sl24 : Array (Option Value)} {oc24 kV24 dc24 pm24 cd24 ct24 : Value} {f24 : Addr}
    {od25 an25 : Option Addr} {sl25 : Array (Option Value)} {oc25 kV25 dc25 pm25 cd25 ct25 : Value} {f25 : Addr}
    {od26 an26 : Option Addr} {sl26 : Array (Option Value)} {oc26 kV26 dc26 pm26 cd26 ct26 : Value} {f26 : Addr}
    {od27 an27 : Option Addr} {sl27 : Array (Option Value)} {oc27 kV27 dc27 pm27 cd27 ct27 : Value} {f27 : Addr}
    {od28 an28 : Option Addr} {sl28 : Array (Option Value)} {oc28 kV28 dc28 pm28 cd28 ct28 : Value} {f28 : Addr}
    {od29 an29 : Option Addr} {sl29 : Array (Option Value)} {oc29 kV29 dc29 pm29 cd29 ct29 : Value} {f29 : Addr}
    {od30 an30 : Option Addr} {sl30 : Array (Option Value)} {oc30 kV30 dc30 pm30 cd30 ct30 : Value} {f30 : Addr}
    {od31 an31 : Option Addr} {sl31 : Array (Option Value)} {oc31 kV31 dc31 pm31 cd31 ct31 : Value} {f31 : Addr}
    {od32 an32 : Option Addr} {sl32 : Array (Option Value)} {oc32 kV32 dc32 pm32 cd32 ct32 : Value} {f32 : Addr}
    {od33 an33 : Option Addr} {sl33 : Array (Option Value)} {oc33 kV33 dc33 pm33 cd33 ct33 : Value} {f33 : Addr}
    {od34 an34 : Option Addr} {sl34 : Array (Option Value)} {oc34 kV34 dc34 pm34 cd34 ct34 : Value} {f34 : Addr}
    {od35 an35 : Option Addr} {sl35 : Array (Option Value)} {oc35 kV35 dc35 pm35 cd35 ct35 : Value} {f35 : Addr}
    {C : Addr} (aC : PySem.W.nsIn K mainGlobals "Asks" = some (some (.ref C)))
    (ihn : PySem.W.specialIn K (.builtin "object.__class__") "__get__" = some (some (.builtin "getset_descriptor.__get__"))) (ihtk : PySem.W.takesIn K (.builtin "object.__class__") = some true)
    (a0 : PySem.W.nsIn K mainGlobals "_law_source" = some (some (.ref f0)))
    (l0 : K.lookup f0 = some ⟨oc0, od0, .func (PySem.W.fnOf "_law_source" "_law_source" (defArgs s__law_source) (defBody s__law_source) (defScope s__law_source) .none kV0 dc0 pm0 an0 cd0 ct0), sl0⟩) (d0 : PySem.W.codeIn K cd0 "_law_source" = true) (k0 : PySem.W.keepIn K (.ref f0) = true)
    (a1 : PySem.W.nsIn K mainGlobals "_law_draw" = some (some (.ref f1)))
    (l1 : K.lookup f1 = some ⟨oc1, od1, .func (PySem.W.fnOf "_law_draw" "_law_draw" (defArgs s__law_draw) (defBody s__law_draw) (defScope s__law_draw) .none kV1 dc1 pm1 an1 cd1 ct1), sl1⟩) (d1 : PySem.W.codeIn K cd1 "_law_draw" = true) (k1 : PySem.W.keepIn K (.ref f1) = true)
    (a2 : PySem.W.nsIn K mainGlobals "_law_name" = some (some (.ref f2)))
    (l2 : K.lookup f2 = some ⟨oc2, od2, .func (PySem.W.fnOf "_law_name" "_law_name" (defArgs s__law_name) (defBody s__law_name) (defScope s__law_name) .none kV2 dc2 pm2 an2 cd2 ct2), sl2⟩) (d2 : PySem.W.codeIn K cd2 "_law_name" = true) (k2 : PySem.W.keepIn K (.ref f2) = true)
    (a3 : PySem.W.nsIn K mainGlobals "_law_names" = some (some (.ref f3)))
    (l3 : K.lookup f3 = some ⟨oc3, od3, .func (PySem.W.fnOf "_law_names" "_law_names" (defArgs s__law_names) (defBody s__law_names) (defScope s__law_names) .none kV3 dc3 pm3 an3 cd3 ct3), sl3⟩) (d3 : PySem.W.codeIn K cd3 "_law_names" = true) (k3 : PySem.W.keepIn K (.ref f3) = true)
    (a4 : PySem.W.nsIn K mainGlobals "_law_candidates" = some (some (.ref f4)))
    (l4 : K.lookup f4 = some ⟨oc4, od4, .func (PySem.W.fnOf "_law_candidates" "_law_candidates" (defArgs s__law_candidates) (defBody s__law_candidates) (defScope s__law_candidates) .none kV4 dc4 pm4 an4 cd4 ct4), sl4⟩) (d4 : PySem.W.codeIn K cd4 "_law_candidates" = true) (k4 : PySem.W.keepIn K (.ref f4) = true)
    (a5 : PySem.W.nsIn K mainGlobals "_law_probes" = some (some (.ref f5)))
    (l5 : K.lookup f5 = some ⟨oc5, od5, .func (PySem.W.fnOf "_law_probes" "_law_probes" (defArgs s__law_probes) (defBody s__law_probes) (defScope s__law_probes) .none kV5 dc5 pm5 an5 cd5 ct5), sl5⟩) (d5 : PySem.W.codeIn K cd5 "_law_probes" = true) (k5 : PySem.W.keepIn K (.ref f5) = true)
    (a6 : PySem.W.nsIn K mainGlobals "is_row" = some (some (.ref f6)))
    (l6 : K.lookup f6 = some ⟨oc6, od6, .func (PySem.W.fnOf "is_row" "is_row" (defArgs s_is_row) (defBody s_is_row) (defScope s_is_row) .none kV6 dc6 pm6 an6 cd6 ct6), sl6⟩) (d6 : PySem.W.codeIn K cd6 "is_row" = true) (k6 : PySem.W.keepIn K (.ref f6) = true)
    (a7 : PySem.W.nsIn K mainGlobals "is_whole" = some (some (.ref f7)))
    (l7 : K.lookup f7 = some ⟨oc7, od7, .func (PySem.W.fnOf "is_whole" "is_whole" (defArgs s_is_whole) (defBody s_is_whole) (defScope s_is_whole) .none kV7 dc7 pm7 an7 cd7 ct7), sl7⟩) (d7 : PySem.W.codeIn K cd7 "is_whole" = true) (k7 : PySem.W.keepIn K (.ref f7) = true)
    (a8 : PySem.W.nsIn K mainGlobals "is_state" = some (some (.ref f8)))
    (l8 : K.lookup f8 = some ⟨oc8, od8, .func (PySem.W.fnOf "is_state" "is_state" (defArgs s_is_state) (defBody s_is_state) (defScope s_is_state) .none kV8 dc8 pm8 an8 cd8 ct8), sl8⟩) (d8 : PySem.W.codeIn K cd8 "is_state" = true) (k8 : PySem.W.keepIn K (.ref f8) = true)
    (a9 : PySem.W.nsIn K mainGlobals "is_name" = some (some (.ref f9)))
    (l9 : K.lookup f9 = some ⟨oc9, od9, .func (PySem.W.fnOf "is_name" "is_name" (defArgs s_is_name) (defBody s_is_name) (defScope s_is_name) .none kV9 dc9 pm9 an9 cd9 ct9), sl9⟩) (d9 : PySem.W.codeIn K cd9 "is_name" = true) (k9 : PySem.W.keepIn K (.ref f9) = true)
    (a10 : PySem.W.nsIn K mainGlobals "is_ascending" = some (some (.ref f10)))
    (l10 : K.lookup f10 = some ⟨oc10, od10, .func (PySem.W.fnOf "is_ascending" "is_ascending" (defArgs s_is_ascending) (defBody s_is_ascending) (defScope s_is_ascending) .none kV10 dc10 pm10 an10 cd10 ct10), sl10⟩) (d10 : PySem.W.codeIn K cd10 "is_ascending" = true) (k10 : PySem.W.keepIn K (.ref f10) = true)
    (a11 : PySem.W.nsIn K mainGlobals "is_candidate" = some (some (.ref f11)))
    (l11 : K.lookup f11 = some ⟨oc11, od11, .func (PySem.W.fnOf "is_candidate" "is_candidate" (defArgs s_is_candidate) (defBody s_is_candidate) (defScope s_is_candidate) .none kV11 dc11 pm11 an11 cd11 ct11), sl11⟩) (d11 : PySem.W.codeIn K cd11 "is_candidate" = true) (k11 : PySem.W.keepIn K (.ref f11) = true)
    (a12 : PySem.W.nsIn K mainGlobals "check_rows" = some (some (.ref f12)))
    (l12 : K.lookup f12 = some ⟨oc12, od12, .func (PySem.W.fnOf "check_rows" "check_rows" (defArgs s_check_rows) (defBody s_check_rows) (defScope s_check_rows) .none kV12 dc12 pm12 an12 cd12 ct12), sl12⟩) (d12 : PySem.W.codeIn K cd12 "check_rows" = true) (k12 : PySem.W.keepIn K (.ref f12) = true)
    (a13 : PySem.W.nsIn K mainGlobals "check_probes" = some (some (.ref f13)))
    (l13 : K.lookup f13 = some ⟨oc13, od13, .func (PySem.W.fnOf "check_probes" "check_probes" (defArgs s_check_probes) (defBody s_check_probes) (defScope s_check_probes) .none kV13 dc13 pm13 an13 cd13 ct13), sl13⟩) (d13 : PySem.W.codeIn K cd13 "check_probes" = true) (k13 : PySem.W.keepIn K (.ref f13) = true)
    (a14 : PySem.W.nsIn K mainGlobals "check_count" = some (some (.ref f14)))
    (l14 : K.lookup f14 = some ⟨oc14, od14, .func (PySem.W.fnOf "check_count" "check_count" (defArgs s_check_count) (defBody s_check_count) (defScope s_check_count) .none kV14 dc14 pm14 an14 cd14 ct14), sl14⟩) (d14 : PySem.W.codeIn K cd14 "check_count" = true) (k14 : PySem.W.keepIn K (.ref f14) = true)
    (a15 : PySem.W.findIn K (.ref C) "set_of" = some (some (.ref f15))) (i15 : PySem.W.isFn K (.ref f15) = true)
    (l15 : K.lookup f15 = some ⟨oc15, od15, .func (PySem.W.fnOf "set_of" "Asks.set_of" (defArgs s_Asks_set_of) (defBody s_Asks_set_of) (defScope s_Asks_set_of) .none kV15 dc15 pm15 an15 cd15 ct15), sl15⟩) (d15 : PySem.W.codeIn K cd15 "Asks.set_of" = true) (k15 : PySem.W.keepIn K (.ref f15) = true)
    (a16 : PySem.W.findIn K (.ref C) "__init__" = some (some (.ref f16))) (i16 : PySem.W.isFn K (.ref f16) = true)
    (l16 : K.lookup f16 = some ⟨oc16, od16, .func (PySem.W.fnOf "__init__" "Asks.__init__" (defArgs s_Asks_init) (defBody s_Asks_init) (defScope s_Asks_init) .none kV16 dc16 pm16 an16 cd16 ct16), sl16⟩) (d16 : PySem.W.codeIn K cd16 "Asks.__init__" = true) (k16 : PySem.W.keepIn K (.ref f16) = true)
    (a17 : PySem.W.findIn K (.ref C) "parting" = some (some (.ref f17))) (i17 : PySem.W.isFn K (.ref f17) = true)
    (l17 : K.lookup f17 = some ⟨oc17, od17, .func (PySem.W.fnOf "parting" "Asks.parting" (defArgs s_Asks_parting) (defBody s_Asks_parting) (defScope s_Asks_parting) .none kV17 dc17 pm17 an17 cd17 ct17), sl17⟩) (d17 : PySem.W.codeIn K cd17 "Asks.parting" = true) (k17 : PySem.W.keepIn K (.ref f17) = true)
    (a18 : PySem.W.findIn K (.ref C) "parts_by" = some (some (.ref f18))) (i18 : PySem.W.isFn K (.ref f18) = true)
    (l18 : K.lookup f18 = some ⟨oc18, od18, .func (PySem.W.fnOf "parts_by" "Asks.parts_by" (defArgs s_Asks_parts_by) (defBody s_Asks_parts_by) (defScope s_Asks_parts_by) .none kV18 dc18 pm18 an18 cd18 ct18), sl18⟩) (d18 : PySem.W.codeIn K cd18 "Asks.parts_by" = true) (k18 : PySem.W.keepIn K (.ref f18) = true)
    (a19 : PySem.W.findIn K (.ref C) "candidates_in" = some (some (.ref f19))) (i19 : PySem.W.isFn K (.ref f19) = true)
    (l19 : K.lookup f19 = some ⟨oc19, od19, .func (PySem.W.fnOf "candidates_in" "Asks.candidates_in" (defArgs s_Asks_candidates_in) (defBody s_Asks_candidates_in) (defScope s_Asks_candidates_in) .none kV19 dc19 pm19 an19 cd19 ct19), sl19⟩) (d19 : PySem.W.codeIn K cd19 "Asks.candidates_in" = true) (k19 : PySem.W.keepIn K (.ref f19) = true)
    (a20 : PySem.W.findIn K (.ref C) "is_settled" = some (some (.ref f20))) (i20 : PySem.W.isFn K (.ref f20) = true)
    (l20 : K.lookup f20 = some ⟨oc20, od20, .func (PySem.W.fnOf "is_settled" "Asks.is_settled" (defArgs s_Asks_is_settled) (defBody s_Asks_is_settled) (defScope s_Asks_is_settled) .none kV20 dc20 pm20 an20 cd20 ct20), sl20⟩) (d20 : PySem.W.codeIn K cd20 "Asks.is_settled" = true) (k20 : PySem.W.keepIn K (.ref f20) = true)
    (a21 : PySem.W.findIn K (.ref C) "need_behind" = some (some (.ref f21))) (i21 : PySem.W.isFn K (.ref f21) = true)
    (l21 : K.lookup f21 = some ⟨oc21, od21, .func (PySem.W.fnOf "need_behind" "Asks.need_behind" (defArgs s_Asks_need_behind) (defBody s_Asks_need_behind) (defScope s_Asks_need_behind) .none kV21 dc21 pm21 an21 cd21 ct21), sl21⟩) (d21 : PySem.W.codeIn K cd21 "Asks.need_behind" = true) (k21 : PySem.W.keepIn K (.ref f21) = true)
    (a22 : PySem.W.findIn K (.ref C) "least_need" = some (some (.ref f22))) (i22 : PySem.W.isFn K (.ref f22) = true)
    (l22 : K.lookup f22 = some ⟨oc22, od22, .func (PySem.W.fnOf "least_need" "Asks.least_need" (defArgs s_Asks_least_need) (defBody s_Asks_least_need) (defScope s_Asks_least_need) .none kV22 dc22 pm22 an22 cd22 ct22), sl22⟩) (d22 : PySem.W.codeIn K cd22 "Asks.least_need" = true) (k22 : PySem.W.keepIn K (.ref f22) = true)
    (a23 : PySem.W.findIn K (.ref C) "need" = some (some (.ref f23))) (i23 : PySem.W.isFn K (.ref f23) = true)
    (l23 : K.lookup f23 = some ⟨oc23, od23, .func (PySem.W.fnOf "need" "Asks.need" (defArgs s_Asks_need) (defBody s_Asks_need) (defScope s_Asks_need) .none kV23 dc23 pm23 an23 cd23 ct23), sl23⟩) (d23 : PySem.W.codeIn K cd23 "Asks.need" = true) (k23 : PySem.W.keepIn K (.ref f23) = true)
    (a24 : PySem.W.nsIn K mainGlobals "harder_parts" = some (some (.ref f24)))
    (l24 : K.lookup f24 = some ⟨oc24, od24, .func (PySem.W.fnOf "harder_parts" "harder_parts" (defArgs s_harder_parts) (defBody s_harder_parts) (defScope s_harder_parts) .none kV24 dc24 pm24 an24 cd24 ct24), sl24⟩) (d24 : PySem.W.codeIn K cd24 "harder_parts" = true) (k24 : PySem.W.keepIn K (.ref f24) = true)
    (a25 : PySem.W.nsIn K mainGlobals "answers" = some (some (.ref f25)))
    (l25 : K.lookup f25 = some ⟨oc25, od25, .func (PySem.W.fnOf "answers" "answers" (defArgs s_answers) (defBody s_answers) (defScope s_answers) .none kV25 dc25 pm25 an25 cd25 ct25), sl25⟩) (d25 : PySem.W.codeIn K cd25 "answers" = true) (k25 : PySem.W.keepIn K (.ref f25) = true)
    (a26 : PySem.W.nsIn K mainGlobals "_law_passed" = some (some (.ref f26)))
    (l26 : K.lookup f26 = some ⟨oc26, od26, .func (PySem.W.fnOf "_law_passed" "_law_passed" (defArgs s__law_passed) (defBody s__law_passed) (defScope s__law_passed) .none kV26 dc26 pm26 an26 cd26 ct26), sl26⟩) (d26 : PySem.W.codeIn K cd26 "_law_passed" = true) (k26 : PySem.W.keepIn K (.ref f26) = true)
    (a27 : PySem.W.nsIn K mainGlobals "_law_part" = some (some (.ref f27)))
    (l27 : K.lookup f27 = some ⟨oc27, od27, .func (PySem.W.fnOf "_law_part" "_law_part" (defArgs s__law_part) (defBody s__law_part) (defScope s__law_part) .none kV27 dc27 pm27 an27 cd27 ct27), sl27⟩) (d27 : PySem.W.codeIn K cd27 "_law_part" = true) (k27 : PySem.W.keepIn K (.ref f27) = true)
    (a28 : PySem.W.nsIn K mainGlobals "_law_settled" = some (some (.ref f28)))
    (l28 : K.lookup f28 = some ⟨oc28, od28, .func (PySem.W.fnOf "_law_settled" "_law_settled" (defArgs s__law_settled) (defBody s__law_settled) (defScope s__law_settled) .none kV28 dc28 pm28 an28 cd28 ct28), sl28⟩) (d28 : PySem.W.codeIn K cd28 "_law_settled" = true) (k28 : PySem.W.keepIn K (.ref f28) = true)
    (a29 : PySem.W.nsIn K mainGlobals "_law_plain" = some (some (.ref f29)))
    (l29 : K.lookup f29 = some ⟨oc29, od29, .func (PySem.W.fnOf "_law_plain" "_law_plain" (defArgs s__law_plain) (defBody s__law_plain) (defScope s__law_plain) .none kV29 dc29 pm29 an29 cd29 ct29), sl29⟩) (d29 : PySem.W.codeIn K cd29 "_law_plain" = true) (k29 : PySem.W.keepIn K (.ref f29) = true)
    (a30 : PySem.W.nsIn K mainGlobals "_law_changed" = some (some (.ref f30)))
    (l30 : K.lookup f30 = some ⟨oc30, od30, .func (PySem.W.fnOf "_law_changed" "_law_changed" (defArgs s__law_changed) (defBody s__law_changed) (defScope s__law_changed) .none kV30 dc30 pm30 an30 cd30 ct30), sl30⟩) (d30 : PySem.W.codeIn K cd30 "_law_changed" = true) (k30 : PySem.W.keepIn K (.ref f30) = true)
    (a31 : PySem.W.nsIn K mainGlobals "_law_is_row" = some (some (.ref f31)))
    (l31 : K.lookup f31 = some ⟨oc31, od31, .func (PySem.W.fnOf "_law_is_row" "_law_is_row" (defArgs s__law_is_row) (defBody s__law_is_row) (defScope s__law_is_row) .none kV31 dc31 pm31 an31 cd31 ct31), sl31⟩) (d31 : PySem.W.codeIn K cd31 "_law_is_row" = true) (k31 : PySem.W.keepIn K (.ref f31) = true)
    (a32 : PySem.W.nsIn K mainGlobals "_law_is_table" = some (some (.ref f32)))
    (l32 : K.lookup f32 = some ⟨oc32, od32, .func (PySem.W.fnOf "_law_is_table" "_law_is_table" (defArgs s__law_is_table) (defBody s__law_is_table) (defScope s__law_is_table) .none kV32 dc32 pm32 an32 cd32 ct32), sl32⟩) (d32 : PySem.W.codeIn K cd32 "_law_is_table" = true) (k32 : PySem.W.keepIn K (.ref f32) = true)
    (a33 : PySem.W.nsIn K mainGlobals "is_item" = some (some (.ref f33)))
    (l33 : K.lookup f33 = some ⟨oc33, od33, .func (PySem.W.fnOf "is_item" "is_item" (defArgs s_is_item) (defBody s_is_item) (defScope s_is_item) .none kV33 dc33 pm33 an33 cd33 ct33), sl33⟩) (d33 : PySem.W.codeIn K cd33 "is_item" = true) (k33 : PySem.W.keepIn K (.ref f33) = true)
    (a34 : PySem.W.nsIn K mainGlobals "is_answers" = some (some (.ref f34)))
    (l34 : K.lookup f34 = some ⟨oc34, od34, .func (PySem.W.fnOf "is_answers" "is_answers" (defArgs s_is_answers) (defBody s_is_answers) (defScope s_is_answers) .none kV34 dc34 pm34 an34 cd34 ct34), sl34⟩) (d34 : PySem.W.codeIn K cd34 "is_answers" = true) (k34 : PySem.W.keepIn K (.ref f34) = true)
    (a35 : PySem.W.nsIn K mainGlobals "law" = some (some (.ref f35)))
    (l35 : K.lookup f35 = some ⟨oc35, od35, .func (PySem.W.fnOf "law" "law" (defArgs s_law) (defBody s_law) (defScope s_law) .none kV35 dc35 pm35 an35 cd35 ct35), sl35⟩) (d35 : PySem.W.codeIn K cd35 "law" = true) (k35 : PySem.W.keepIn K (.ref f35) = true)
    (pgC : PySem.W.plainGet K C Str.empty = true) (hdC : PySem.W.hasDictIn K C = true) (poC : PySem.W.plainOver K C = true) (saC : PySem.W.findIn K (.ref C) "__setattr__" = some (some (.builtin "object.__setattr__"))) (mkC : PySem.W.makesIn K C = true) (kcC : PySem.W.keepIn K (.ref C) = true)
    (ihaC : PySem.W.findIn K (.ref C) "__class__" = some (some (.builtin "object.__class__"))) (ihmC : PySem.W.mroIn K C (.type "object") = some true)
    (n_candidates : PySem.W.findIn K (.ref C) "candidates" = some none)
    (n_places : PySem.W.findIn K (.ref C) "places" = some none)
    (n_whole : PySem.W.findIn K (.ref C) "whole" = some none)
    (n_yes : PySem.W.findIn K (.ref C) "yes" = some none)
    (n_needs : PySem.W.findIn K (.ref C) "needs" = some none)
    (z_all : PySem.W.nsIn K mainGlobals "all" = some none)
    (z_bool : PySem.W.nsIn K mainGlobals "bool" = some none)
    (z_dict : PySem.W.nsIn K mainGlobals "dict" = some none)
    (z_enumerate : PySem.W.nsIn K mainGlobals "enumerate" = some none)
    (z_int : PySem.W.nsIn K mainGlobals "int" = some none)
    (z_isinstance : PySem.W.nsIn K mainGlobals "isinstance" = some none)
    (z_len : PySem.W.nsIn K mainGlobals "len" = some none)
    (z_list : PySem.W.nsIn K mainGlobals "list" = some none)
    (z_max : PySem.W.nsIn K mainGlobals "max" = some none)
    (z_min : PySem.W.nsIn K mainGlobals "min" = some none)
    (z_range : PySem.W.nsIn K mainGlobals "range" = some none)
    (z_repr : PySem.W.nsIn K mainGlobals "repr" = some none)
    (z_set : PySem.W.nsIn K mainGlobals "set" = some none)
    (z_sorted : PySem.W.nsIn K mainGlobals "sorted" = some none)
    (z_str : PySem.W.nsIn K mainGlobals "str" = some none)
    (z_tuple : PySem.W.nsIn K mainGlobals "tuple" = some none)
    (z_zip : PySem.W.nsIn K mainGlobals "zip" = some none)
    {u_GREATEST_STATE : Value} (g_GREATEST_STATE : PySem.W.nsIn K mainGlobals "GREATEST_STATE" = some (some u_GREATEST_STATE)) (r_GREATEST_STATE : RelV (.int 99) u_GREATEST_STATE)
    {u_LONGEST_NAME : Value} (g_LONGEST_NAME : PySem.W.nsIn K mainGlobals "LONGEST_NAME" = some (some u_LONGEST_NAME)) (r_LONGEST_NAME : RelV (.int 12) u_LONGEST_NAME)
    {u_LETTERS : Value} (g_LETTERS : PySem.W.nsIn K mainGlobals "LETTERS" = some (some u_LETTERS)) (r_LETTERS : RelV (.str "abcdefghijklmnopqrstuvwxyz") u_LETTERS)
    {u_MOST_FAULTS : Value} (g_MOST_FAULTS : PySem.W.nsIn K mainGlobals "MOST_FAULTS" = some (some u_MOST_FAULTS)) (r_MOST_FAULTS : RelV (.int 3) u_MOST_FAULTS)
    {u_MOST_CANDIDATES : Value} (g_MOST_CANDIDATES : PySem.W.nsIn K mainGlobals "MOST_CANDIDATES" = some (some u_MOST_CANDIDATES)) (r_MOST_CANDIDATES : RelV (.int 10) u_MOST_CANDIDATES)
    {u_MOST_PROBES : Value} (g_MOST_PROBES : PySem.W.nsIn K mainGlobals "MOST_PROBES" = some (some u_MOST_PROBES)) (r_MOST_PROBES : RelV (.int 6) u_MOST_PROBES)
    {u_MOST_PROBED : Value} (g_MOST_PROBED : PySem.W.nsIn K mainGlobals "MOST_PROBED" = some (some u_MOST_PROBED)) (r_MOST_PROBED : RelV (.int 100) u_MOST_PROBED)
    {u_NEVER : Value} (g_NEVER : PySem.W.nsIn K mainGlobals "NEVER" = some (some u_NEVER)) (r_NEVER : RelV (.int 1000) u_NEVER)
    {u_MOST_ASKS : Value} (g_MOST_ASKS : PySem.W.nsIn K mainGlobals "MOST_ASKS" = some (some u_MOST_ASKS)) (r_MOST_ASKS : RelV (.int 10) u_MOST_ASKS) :
    ∃ fd : FuncData, (∀ (s : Shared) (v : Value), BindsTo s fd ⟨[v], []⟩ [("_law_script", v)]) ∧ ∀ base : Heap, K.In base → base.Ns mainGlobals mg → KnQ.At l.prog w K mg base callerA fa fd ["_law_script"] (sp_law K) := by
  have e := hfa.symm.trans (PySem.W.mg_of X G a35)
  cases e
  have T : Txt K mg C := ⟨PySem.W.mg_none_of X G z_all, PySem.W.mg_none_of X G z_bool, PySem.W.mg_none_of X G z_dict, PySem.W.mg_none_of X G z_enumerate, PySem.W.mg_none_of X G z_int, PySem.W.mg_none_of X G z_isinstance, PySem.W.mg_none_of X G z_len, PySem.W.mg_none_of X G z_list, PySem.W.mg_none_of X G z_max, PySem.W.mg_none_of X G z_min, PySem.W.mg_none_of X G z_range, PySem.W.mg_none_of X G z_repr, PySem.W.mg_none_of X G z_set, PySem.W.mg_none_of X G z_sorted, PySem.W.mg_none_of X G z_str, PySem.W.mg_none_of X G z_tuple, PySem.W.mg_none_of X G z_zip, ⟨_, PySem.W.mg_of X G g_GREATEST_STATE, r_GREATEST_STATE⟩, ⟨_, PySem.W.mg_of X G g_LONGEST_NAME, r_LONGEST_NAME⟩, ⟨_, PySem.W.mg_of X G g_LETTERS, r_LETTERS⟩, ⟨_, PySem.W.mg_of X G g_MOST_FAULTS, r_MOST_FAULTS⟩, ⟨_, PySem.W.mg_of X G g_MOST_CANDIDATES, r_MOST_CANDIDATES⟩, ⟨_, PySem.W.mg_of X G g_MOST_PROBES, r_MOST_PROBES⟩, ⟨_, PySem.W.mg_of X G g_MOST_PROBED, r_MOST_PROBED⟩, ⟨_, PySem.W.mg_of X G g_NEVER, r_NEVER⟩, ⟨_, PySem.W.mg_of X G g_MOST_ASKS, r_MOST_ASKS⟩, ⟨pgC, hdC, poC, saC⟩, PySem.W.mg_of X G aC, ⟨⟨pgC, hdC, poC, saC⟩, ihaC, ihn, ihtk, ihmC, by unfold PySem.W.kitOne; rw [if_pos (by simp)]⟩, n_candidates, n_places, n_whole, n_yes, n_needs⟩
  have F0 := fun_mk (st := s__law_source) l0 d0 k0
  have b0 := L2.Fun.binds F0 (ps := ["_law_script"]) fun _ _ _ _ _ _ us hl => match us, hl with | [_], _ => rfl
  have F1 := fun_mk (st := s__law_draw) l1 d1 k1
  have b1 := L2.Fun.binds F1 (ps := ["_law_source_here", "_law_many"]) fun _ _ _ _ _ _ us hl => match us, hl with | [_, _], _ => rfl
  have F2 := fun_mk (st := s__law_name) l2 d2 k2
  have b2 := L2.Fun.binds F2 (ps := ["_law_source_here"]) fun _ _ _ _ _ _ us hl => match us, hl with | [_], _ => rfl
  have F3 := fun_mk (st := s__law_names) l3 d3 k3
  have b3 := L2.Fun.binds F3 (ps := ["_law_source_here", "_law_many"]) fun _ _ _ _ _ _ us hl => match us, hl with | [_, _], _ => rfl
  have F4 := fun_mk (st := s__law_candidates) l4 d4 k4
  have b4 := L2.Fun.binds F4 (ps := ["_law_source_here", "_law_most", "_law_spread"]) fun _ _ _ _ _ _ us hl => match us, hl with | [_, _, _], _ => rfl
  have F5 := fun_mk (st := s__law_probes) l5 d5 k5
  have b5 := L2.Fun.binds F5 (ps := ["_law_source_here", "_law_most", "_law_rows"]) fun _ _ _ _ _ _ us hl => match us, hl with | [_, _, _], _ => rfl
  have F6 := fun_mk (st := s_is_row) l6 d6 k6
  have b6 := L2.Fun.binds F6 (ps := ["value"]) fun _ _ _ _ _ _ us hl => match us, hl with | [_], _ => rfl
  have F7 := fun_mk (st := s_is_whole) l7 d7 k7
  have b7 := L2.Fun.binds F7 (ps := ["value"]) fun _ _ _ _ _ _ us hl => match us, hl with | [_], _ => rfl
  have F8 := fun_mk (st := s_is_state) l8 d8 k8
  have b8 := L2.Fun.binds F8 (ps := ["value"]) fun _ _ _ _ _ _ us hl => match us, hl with | [_], _ => rfl
  have F9 := fun_mk (st := s_is_name) l9 d9 k9
  have b9 := L2.Fun.binds F9 (ps := ["value"]) fun _ _ _ _ _ _ us hl => match us, hl with | [_], _ => rfl
  have F10 := fun_mk (st := s_is_ascending) l10 d10 k10
  have b10 := L2.Fun.binds F10 (ps := ["values"]) fun _ _ _ _ _ _ us hl => match us, hl with | [_], _ => rfl
  have F11 := fun_mk (st := s_is_candidate) l11 d11 k11
  have b11 := L2.Fun.binds F11 (ps := ["value"]) fun _ _ _ _ _ _ us hl => match us, hl with | [_], _ => rfl
  have F12 := fun_mk (st := s_check_rows) l12 d12 k12
  have b12 := L2.Fun.binds F12 (ps := ["rows"]) fun _ _ _ _ _ _ us hl => match us, hl with | [_], _ => rfl
  have F13 := fun_mk (st := s_check_probes) l13 d13 k13
  have b13 := L2.Fun.binds F13 (ps := ["probes"]) fun _ _ _ _ _ _ us hl => match us, hl with | [_], _ => rfl
  have F14 := fun_mk (st := s_check_count) l14 d14 k14
  have b14 := L2.Fun.binds F14 (ps := ["count", "most"]) fun _ _ _ _ _ _ us hl => match us, hl with | [_, _], _ => rfl
  have F15 := fun_mk (st := s_Asks_set_of) l15 d15 k15
  have b15 := L2.Fun.binds F15 (ps := ["self", "candidates"]) fun _ _ _ _ _ _ us hl => match us, hl with | [_, _], _ => rfl
  have F16 := fun_mk (st := s_Asks_init) l16 d16 k16
  have b16 := L2.Fun.binds F16 (ps := ["self", "rows", "probes"]) fun _ _ _ _ _ _ us hl => match us, hl with | [_, _, _], _ => rfl
  have F17 := fun_mk (st := s_Asks_parting) l17 d17 k17
  have b17 := L2.Fun.binds F17 (ps := ["self", "chosen"]) fun _ _ _ _ _ _ us hl => match us, hl with | [_, _], _ => rfl
  have F18 := fun_mk (st := s_Asks_parts_by) l18 d18 k18
  have b18 := L2.Fun.binds F18 (ps := ["self", "name", "chosen"]) fun _ _ _ _ _ _ us hl => match us, hl with | [_, _, _], _ => rfl
  have F19 := fun_mk (st := s_Asks_candidates_in) l19 d19 k19
  have b19 := L2.Fun.binds F19 (ps := ["self", "chosen"]) fun _ _ _ _ _ _ us hl => match us, hl with | [_, _], _ => rfl
  have F20 := fun_mk (st := s_Asks_is_settled) l20 d20 k20
  have b20 := L2.Fun.binds F20 (ps := ["self", "chosen"]) fun _ _ _ _ _ _ us hl => match us, hl with | [_, _], _ => rfl
  have F21 := fun_mk (st := s_Asks_need_behind) l21 d21 k21
  have b21 := L2.Fun.binds F21 (ps := ["self", "name", "chosen"]) fun _ _ _ _ _ _ us hl => match us, hl with | [_, _, _], _ => rfl
  have F22 := fun_mk (st := s_Asks_least_need) l22 d22 k22
  have b22 := L2.Fun.binds F22 (ps := ["self", "chosen"]) fun _ _ _ _ _ _ us hl => match us, hl with | [_, _], _ => rfl
  have F23 := fun_mk (st := s_Asks_need) l23 d23 k23
  have b23 := L2.Fun.binds F23 (ps := ["self", "chosen"]) fun _ _ _ _ _ _ us hl => match us, hl with | [_, _], _ => rfl
  have F24 := fun_mk (st := s_harder_parts) l24 d24 k24
  have b24 := L2.Fun.binds F24 (ps := ["asks", "chosen", "number"]) fun _ _ _ _ _ _ us hl => match us, hl with | [_, _, _], _ => rfl
  have F25 := fun_mk (st := s_answers) l25 d25 k25
  have b25 := L2.Fun.binds F25 (ps := ["rows", "probes", "many"]) fun _ _ _ _ _ _ us hl => match us, hl with | [_, _, _], _ => rfl
  have F26 := fun_mk (st := s__law_passed) l26 d26 k26
  have b26 := L2.Fun.binds F26 (ps := ["_law_source_here", "_law_probes_here"]) fun _ _ _ _ _ _ us hl => match us, hl with | [_, _], _ => rfl
  have F27 := fun_mk (st := s__law_part) l27 d27 k27
  have b27 := L2.Fun.binds F27 (ps := ["_law_group", "_law_states", "_law_side"]) fun _ _ _ _ _ _ us hl => match us, hl with | [_, _, _], _ => rfl
  have F28 := fun_mk (st := s__law_settled) l28 d28 k28
  have b28 := L2.Fun.binds F28 (ps := ["_law_group"]) fun _ _ _ _ _ _ us hl => match us, hl with | [_], _ => rfl
  have F29 := fun_mk (st := s__law_plain) l29 d29 k29
  have b29 := L2.Fun.binds F29 (ps := ["_law_rows", "_law_probes_here", "_law_many"]) fun _ _ _ _ _ _ us hl => match us, hl with | [_, _, _], _ => rfl
  have F30 := fun_mk (st := s__law_changed) l30 d30 k30
  have b30 := L2.Fun.binds F30 (ps := ["_law_source_here", "_law_items"]) fun _ _ _ _ _ _ us hl => match us, hl with | [_, _], _ => rfl
  have F31 := fun_mk (st := s__law_is_row) l31 d31 k31
  have b31 := L2.Fun.binds F31 (ps := ["_law_everything", "_law_item"]) fun _ _ _ _ _ _ us hl => match us, hl with | [_, _], _ => rfl
  have F32 := fun_mk (st := s__law_is_table) l32 d32 k32
  have b32 := L2.Fun.binds F32 (ps := ["_law_rows", "_law_probes_here", "_law_many", "_law_thing"]) fun _ _ _ _ _ _ us hl => match us, hl with | [_, _, _, _], _ => rfl
  have F33 := fun_mk (st := s_is_item) l33 d33 k33
  have b33 := L2.Fun.binds F33 (ps := ["asks", "value"]) fun _ _ _ _ _ _ us hl => match us, hl with | [_, _], _ => rfl
  have F34 := fun_mk (st := s_is_answers) l34 d34 k34
  have b34 := L2.Fun.binds F34 (ps := ["rows", "probes", "many", "thing"]) fun _ _ _ _ _ _ us hl => match us, hl with | [_, _, _, _], _ => rfl
  have F35 := fun_mk (st := s_law) l35 d35 k35
  refine ⟨PySem.W.fnOf "law" "law" (defArgs s_law) (defBody s_law) (defScope s_law) .none kV35 dc35 pm35 an35 cd35 ct35, fun s v => .of_eq rfl, fun base _ _ => ?_⟩
  have c__law_source : Cal l.prog w K mg base 1 "_law_source" (sp__law_source K) [] := ⟨_, _, _, _, ok__law_source T F0 , PySem.W.mg_of X G a0, F0.kp, b0, .nil⟩
  have c__law_draw : Cal l.prog w K mg base 1 "_law_draw" (sp__law_draw K) [] := ⟨_, _, _, _, ok__law_draw T F1 , PySem.W.mg_of X G a1, F1.kp, b1, .nil⟩
  have c__law_name : Cal l.prog w K mg base 2 "_law_name" (sp__law_name K) [] := ⟨_, _, _, _, ok__law_name T F2 c__law_draw, PySem.W.mg_of X G a2, F2.kp, b2, .nil⟩
  have c__law_names : Cal l.prog w K mg base 3 "_law_names" (sp__law_names K) [] := ⟨_, _, _, _, ok__law_names T F3 c__law_name, PySem.W.mg_of X G a3, F3.kp, b3, .nil⟩
  have c__law_candidates : Cal l.prog w K mg base 4 "_law_candidates" (sp__law_candidates K) [] := ⟨_, _, _, _, ok__law_candidates T F4 c__law_names c__law_draw, PySem.W.mg_of X G a4, F4.kp, b4, .nil⟩
  have c__law_probes : Cal l.prog w K mg base 4 "_law_probes" (sp__law_probes K) [] := ⟨_, _, _, _, ok__law_probes T F5 c__law_names c__law_draw, PySem.W.mg_of X G a5, F5.kp, b5, .nil⟩
  have c_is_row : Cal l.prog w K mg base 1 "is_row" (sp_is_row K) [] := ⟨_, _, _, _, ok_is_row T F6 , PySem.W.mg_of X G a6, F6.kp, b6, .nil⟩
  have c_is_whole : Cal l.prog w K mg base 1 "is_whole" (sp_is_whole K) [] := ⟨_, _, _, _, ok_is_whole T F7 , PySem.W.mg_of X G a7, F7.kp, b7, .nil⟩
  have c_is_state : Cal l.prog w K mg base 2 "is_state" (sp_is_state K) [] := ⟨_, _, _, _, ok_is_state T F8 c_is_whole, PySem.W.mg_of X G a8, F8.kp, b8, .nil⟩
  have c_is_name : Cal l.prog w K mg base 1 "is_name" (sp_is_name K) [] := ⟨_, _, _, _, ok_is_name T F9 , PySem.W.mg_of X G a9, F9.kp, b9, .nil⟩
  have c_is_ascending : Cal l.prog w K mg base 1 "is_ascending" (sp_is_ascending K) [] := ⟨_, _, _, _, ok_is_ascending T F10 , PySem.W.mg_of X G a10, F10.kp, b10, .nil⟩
  have c_is_candidate : Cal l.prog w K mg base 3 "is_candidate" (sp_is_candidate K) [] := ⟨_, _, _, _, ok_is_candidate T F11 c_is_state c_is_name c_is_ascending, PySem.W.mg_of X G a11, F11.kp, b11, .nil⟩
  have c_check_rows : Cal l.prog w K mg base 4 "check_rows" (sp_check_rows K) [] := ⟨_, _, _, _, ok_check_rows T F12 c_is_row c_is_candidate, PySem.W.mg_of X G a12, F12.kp, b12, .nil⟩
  have c_check_probes : Cal l.prog w K mg base 3 "check_probes" (sp_check_probes K) [] := ⟨_, _, _, _, ok_check_probes T F13 c_is_name c_is_row c_is_state, PySem.W.mg_of X G a13, F13.kp, b13, .nil⟩
  have c_check_count : Cal l.prog w K mg base 2 "check_count" (sp_check_count K) [] := ⟨_, _, _, _, ok_check_count T F14 c_is_whole, PySem.W.mg_of X G a14, F14.kp, b14, .nil⟩
  have c_Asks_set_of : C8.Met l.prog w K mg base 1 C "set_of" (sp_Asks_set_of (P := l.prog) (w := w) K C) [] := ⟨_, _, _, _, ⟨pgC, hdC, poC, saC⟩, ⟨a15, i15, k15⟩, ok_Asks_set_of T F15 , b15, .nil⟩
  have c_Asks_init : Mak l.prog w K mg base 3 "Asks" C (sp_Asks_init (P := l.prog) (w := w) K C) [] := ⟨_, _, _, _, ⟨mkC, a16, i16, kcC⟩, ok_Asks_init T F16 c_Asks_set_of, PySem.W.mg_of X G aC, b16, .nil⟩
  have c_Asks_parting : C8.Met l.prog w K mg base 1 C "parting" (sp_Asks_parting K C) [] := ⟨_, _, _, _, ⟨pgC, hdC, poC, saC⟩, ⟨a17, i17, k17⟩, ok_Asks_parting T F17 , b17, .nil⟩
  have c_Asks_parts_by : C8.Met l.prog w K mg base 1 C "parts_by" (sp_Asks_parts_by K C) [] := ⟨_, _, _, _, ⟨pgC, hdC, poC, saC⟩, ⟨a18, i18, k18⟩, ok_Asks_parts_by T F18 , b18, .nil⟩
  have c_Asks_candidates_in : C8.Met l.prog w K mg base 1 C "candidates_in" (sp_Asks_candidates_in K C) [] := ⟨_, _, _, _, ⟨pgC, hdC, poC, saC⟩, ⟨a19, i19, k19⟩, ok_Asks_candidates_in T F19 , b19, .nil⟩
  have c_Asks_is_settled : C8.Met l.prog w K mg base 3 C "is_settled" (sp_Asks_is_settled K C) [] := ⟨_, _, _, _, ⟨pgC, hdC, poC, saC⟩, ⟨a20, i20, k20⟩, ok_Asks_is_settled T F20 c_Asks_candidates_in, b20, .nil⟩
  have c_Asks_need : C8.Met l.prog w K mg base 69 C "need" (sp_Asks_need K C 10) [] := met_need T ⟨pgC, hdC, poC, saC⟩ F23 F22 F21 ⟨a23, i23, k23⟩ ⟨a22, i22, k22⟩ ⟨a21, i21, k21⟩ b23 b22 b21 c_Asks_is_settled c_Asks_parting c_Asks_parts_by 10
  have c_harder_parts : Cal l.prog w K mg base 71 "harder_parts" (sp_harder_parts K C) [] := ⟨_, _, _, _, ok_harder_parts T F24 c_Asks_parting c_Asks_parts_by c_Asks_need, PySem.W.mg_of X G a24, F24.kp, b24, .nil⟩
  have c_answers : Cal l.prog w K mg base 72 "answers" (sp_answers K C) [] := ⟨_, _, _, _, ok_answers T F25 c_check_rows c_check_probes c_check_count c_Asks_init c_harder_parts c_Asks_need c_Asks_candidates_in, PySem.W.mg_of X G a25, F25.kp, b25, .nil⟩
  have c__law_passed : Cal l.prog w K mg base 2 "_law_passed" (sp__law_passed K) [] := ⟨_, _, _, _, ok__law_passed T F26 c__law_draw, PySem.W.mg_of X G a26, F26.kp, b26, .nil⟩
  have c__law_part : Cal l.prog w K mg base 1 "_law_part" (sp__law_part K) [] := ⟨_, _, _, _, ok__law_part T F27 , PySem.W.mg_of X G a27, F27.kp, b27, .nil⟩
  have c__law_settled : Cal l.prog w K mg base 1 "_law_settled" (sp__law_settled K) [] := ⟨_, _, _, _, ok__law_settled T F28 , PySem.W.mg_of X G a28, F28.kp, b28, .nil⟩
  have c__law_plain : Cal l.prog w K mg base 2 "_law_plain" (sp__law_plain K) [] := ⟨_, _, _, _, ok__law_plain T F29 c__law_part c__law_settled, PySem.W.mg_of X G a29, F29.kp, b29, .nil⟩
  have c__law_changed : Cal l.prog w K mg base 2 "_law_changed" (sp__law_changed K) [] := ⟨_, _, _, _, ok__law_changed T F30 c__law_draw, PySem.W.mg_of X G a30, F30.kp, b30, .nil⟩
  have c__law_is_row : Cal l.prog w K mg base 2 "_law_is_row" (sp__law_is_row K) [] := ⟨_, _, _, _, ok__law_is_row T F31 c__law_settled, PySem.W.mg_of X G a31, F31.kp, b31, .nil⟩
  have c__law_is_table : Cal l.prog w K mg base 3 "_law_is_table" (sp__law_is_table K) [] := ⟨_, _, _, _, ok__law_is_table T F32 c__law_is_row c__law_part, PySem.W.mg_of X G a32, F32.kp, b32, .nil⟩
  have c_is_item : Cal l.prog w K mg base 5 "is_item" (sp_is_item (P := l.prog) (w := w) K C) [] := ⟨_, _, _, _, ok_is_item T F33 c_is_whole c_is_candidate c_is_ascending c_Asks_is_settled c_Asks_set_of, PySem.W.mg_of X G a33, F33.kp, b33, .nil⟩
  have c_is_answers : Cal l.prog w K mg base 6 "is_answers" (sp_is_answers K C) [] := ⟨_, _, _, _, ok_is_answers T F34 c_check_rows c_check_probes c_check_count c_Asks_init c_is_item c_Asks_set_of c_Asks_parts_by, PySem.W.mg_of X G a34, F34.kp, b34, .nil⟩
  exact ok_law T F35 c__law_source c__law_candidates c__law_draw c__law_probes c_answers c__law_passed c__law_plain c__law_changed c__law_is_table c_is_answers
end Kn
open PySem PySem.W PyProof.Rows
set_option maxHeartbeats 0 in
theorem PySem.Challenge.cw_knownlate_k66_is_answers_holds : PySem.Challenge.rw_knownlate_k66_is_answers.Holds := by
  w_on; o_law; k_head; (case hw => w_witness2)
  k_fill
  refine KnQ.walk_at (l := PySem.Challenge.rw_knownlate_k66_is_answers) (n := 63) (x := "_law_script") (sp := fun w => Kn.sp_law _) rfl (by decide) rfl (fun w h Y => PySem.W.kIn_of Y) ?F (fun _ _ a ns hl hS => ⟨a, ns, rfl, hS, hl, fun _ => rfl⟩)
  case F =>
    intro w mg fa h KX G hmg
    refine' Kn.all_mk KX G hmg ?aC ?ihn ?ihtk ?a0 ?l0 ?d0 ?k0 ?a1 ?l1 ?d1 ?k1 ?a2 ?l2 ?d2 ?k2 ?a3 ?l3 ?d3 ?k3 ?a4 ?l4 ?d4 ?k4 ?a5 ?l5 ?d5 ?k5 ?a6 ?l6 ?d6 ?k6 ?a7 ?l7 ?d7 ?k7 ?a8 ?l8 ?d8 ?k8 ?a9 ?l9 ?d9 ?k9 ?a10 ?l10 ?d10 ?k10 ?a11 ?l11 ?d11 ?k11 ?a12 ?l12 ?d12 ?k12 ?a13 ?l13 ?d13 ?k13 ?a14 ?l14 ?d14 ?k14 ?a15 ?i15 ?l15 ?d15 ?k15 ?a16 ?i16 ?l16 ?d16 ?k16 ?a17 ?i17 ?l17 ?d17 ?k17 ?a18 ?i18 ?l18 ?d18 ?k18 ?a19 ?i19 ?l19 ?d19 ?k19 ?a20 ?i20 ?l20 ?d20 ?k20 ?a21 ?i21 ?l21 ?d21 ?k21 ?a22 ?i22 ?l22 ?d22 ?k22 ?a23 ?i23 ?l23 ?d23 ?k23 ?a24 ?l24 ?d24 ?k24 ?a25 ?l25 ?d25 ?k25 ?a26 ?l26 ?d26 ?k26 ?a27 ?l27 ?d27 ?k27 ?a28 ?l28 ?d28 ?k28 ?a29 ?l29 ?d29 ?k29 ?a30 ?l30 ?d30 ?k30 ?a31 ?l31 ?d31 ?k31 ?a32 ?l32 ?d32 ?k32 ?a33 ?l33 ?d33 ?k33 ?a34 ?l34 ?d34 ?k34 ?a35 ?l35 ?d35 ?k35 ?pgC ?hdC ?poC ?saC ?mkC ?kcC ?ihaC ?ihmC ?n_candidates ?n_places ?n_whole ?n_yes ?n_needs ?z_all ?z_bool ?z_dict ?z_enumerate ?z_int ?z_isinstance ?z_len ?z_list ?z_max ?z_min ?z_range ?z_repr ?z_set ?z_sorted ?z_str ?z_tuple ?z_zip ?g_GREATEST_STATE ?r_GREATEST_STATE ?g_LONGEST_NAME ?r_LONGEST_NAME ?g_LETTERS ?r_LETTERS ?g_MOST_FAULTS ?r_MOST_FAULTS ?g_MOST_CANDIDATES ?r_MOST_CANDIDATES ?g_MOST_PROBES ?r_MOST_PROBES ?g_MOST_PROBED ?r_MOST_PROBED ?g_NEVER ?r_NEVER ?g_MOST_ASKS ?r_MOST_ASKS
    (case aC => k_is); (case ihn => k_is); (case ihtk => k_is); (case a0 => k_is); (case l0 => k_is); (case d0 => k_is); (case k0 => k_is); (case a1 => k_is); (case l1 => k_is); (case d1 => k_is); (case k1 => k_is); (case a2 => k_is); (case l2 => k_is); (case d2 => k_is); (case k2 => k_is); (case a3 => k_is); (case l3 => k_is); (case d3 => k_is); (case k3 => k_is); (case a4 => k_is); (case l4 => k_is); (case d4 => k_is); (case k4 => k_is); (case a5 => k_is); (case l5 => k_is); (case d5 => k_is); (case k5 => k_is); (case a6 => k_is); (case l6 => k_is); (case d6 => k_is); (case k6 => k_is); (case a7 => k_is); (case l7 => k_is); (case d7 => k_is); (case k7 => k_is); (case a8 => k_is); (case l8 => k_is); (case d8 => k_is); (case k8 => k_is); (case a9 => k_is); (case l9 => k_is); (case d9 => k_is); (case k9 => k_is); (case a10 => k_is); (case l10 => k_is); (case d10 => k_is); (case k10 => k_is); (case a11 => k_is); (case l11 => k_is); (case d11 => k_is); (case k11 => k_is); (case a12 => k_is); (case l12 => k_is); (case d12 => k_is); (case k12 => k_is); (case a13 => k_is); (case l13 => k_is); (case d13 => k_is); (case k13 => k_is); (case a14 => k_is); (case l14 => k_is); (case d14 => k_is); (case k14 => k_is); (case a15 => k_is); (case i15 => k_is); (case l15 => k_is); (case d15 => k_is); (case k15 => k_is); (case a16 => k_is); (case i16 => k_is); (case l16 => k_is); (case d16 => k_is); (case k16 => k_is); (case a17 => k_is); (case i17 => k_is); (case l17 => k_is); (case d17 => k_is); (case k17 => k_is); (case a18 => k_is); (case i18 => k_is); (case l18 => k_is); (case d18 => k_is); (case k18 => k_is); (case a19 => k_is); (case i19 => k_is); (case l19 => k_is); (case d19 => k_is); (case k19 => k_is); (case a20 => k_is); (case i20 => k_is); (case l20 => k_is); (case d20 => k_is); (case k20 => k_is); (case a21 => k_is); (case i21 => k_is); (case l21 => k_is); (case d21 => k_is); (case k21 => k_is); (case a22 => k_is); (case i22 => k_is); (case l22 => k_is); (case d22 => k_is); (case k22 => k_is); (case a23 => k_is); (case i23 => k_is); (case l23 => k_is); (case d23 => k_is); (case k23 => k_is); (case a24 => k_is); (case l24 => k_is); (case d24 => k_is); (case k24 => k_is); (case a25 => k_is); (case l25 => k_is); (case d25 => k_is); (case k25 => k_is); (case a26 => k_is); (case l26 => k_is); (case d26 => k_is); (case k26 => k_is); (case a27 => k_is); (case l27 => k_is); (case d27 => k_is); (case k27 => k_is); (case a28 => k_is); (case l28 => k_is); (case d28 => k_is); (case k28 => k_is); (case a29 => k_is); (case l29 => k_is); (case d29 => k_is); (case k29 => k_is); (case a30 => k_is); (case l30 => k_is); (case d30 => k_is); (case k30 => k_is); (case a31 => k_is); (case l31 => k_is); (case d31 => k_is); (case k31 => k_is); (case a32 => k_is); (case l32 => k_is); (case d32 => k_is); (case k32 => k_is); (case a33 => k_is); (case l33 => k_is); (case d33 => k_is); (case k33 => k_is); (case a34 => k_is); (case l34 => k_is); (case d34 => k_is); (case k34 => k_is); (case a35 => k_is); (case l35 => k_is); (case d35 => k_is); (case k35 => k_is); (case pgC => k_is); (case hdC => k_is); (case poC => k_is); (case saC => k_is); (case mkC => k_is); (case kcC => k_is); (case ihaC => k_is); (case ihmC => k_is); (case n_candidates => k_is); (case n_places => k_is); (case n_whole => k_is); (case n_yes => k_is); (case n_needs => k_is); (case z_all => k_is); (case z_bool => k_is); (case z_dict => k_is); (case z_enumerate => k_is); (case z_int => k_is); (case z_isinstance => k_is); (case z_len => k_is); (case z_list => k_is); (case z_max => k_is); (case z_min => k_is); (case z_range => k_is); (case z_repr => k_is); (case z_set => k_is); (case z_sorted => k_is); (case z_str => k_is); (case z_tuple => k_is); (case z_zip => k_is); (case g_GREATEST_STATE => k_is); (case r_GREATEST_STATE => exact ⟨_, rfl⟩); (case g_LONGEST_NAME => k_is); (case r_LONGEST_NAME => exact ⟨_, rfl⟩); (case g_LETTERS => k_is); (case r_LETTERS => exact ⟨_, rfl⟩); (case g_MOST_FAULTS => k_is); (case r_MOST_FAULTS => exact ⟨_, rfl⟩); (case g_MOST_CANDIDATES => k_is); (case r_MOST_CANDIDATES => exact ⟨_, rfl⟩); (case g_MOST_PROBES => k_is); (case r_MOST_PROBES => exact ⟨_, rfl⟩); (case g_MOST_PROBED => k_is); (case r_MOST_PROBED => exact ⟨_, rfl⟩); (case g_NEVER => k_is); (case r_NEVER => exact ⟨_, rfl⟩); (case g_MOST_ASKS => k_is); (case r_MOST_ASKS => exact ⟨_, rfl⟩)

