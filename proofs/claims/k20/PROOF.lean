import PyProof.Rows.All
import Wide.All
import OpenK.AllK
import Wide.FinOn
import HandS.ForMost
import HandS.IsInst
import HandS.Codes
import HandS.Set
import HandS.SetBool
import HandS.SetKeys
import PyProof.Rows.SortShellAny
import HandS.More
import HandS.Comp
import PyProof.Rows.SetFrom
import KE.GoesMore
import KE.GoesEnum
import HandS.DictComp
import KE.KDictList
import HandS.Property
import PyProof.DictUpdate
import PyProof.FactsDict
import HandS.Dict
import PyProof.EvalArms
import HandS.Defaults
import KE.KOpsOwn
import PyProof.InstEq
import KE.KEqDict
import HandS.List
import HandS.Words
import HandS.ForExc
import HandS.ExcInit
import HandS.ClsMeth
import HandS.Iter
import HandS.TryMany
import PyProof.EqAt
import PyProof.EqKinds
import PyProof.NeKinds
import PyProof.Rows.SeqMore
import PyProof.TupleOps
import HandS.SortInts
import HandS.Deep
import HandS.TryOnly
import HandS.Finally
import HandS.ExcField
import PySem.Challenge.RW_knownlate_k20_shortest_runs
set_option Elab.async false
set_option linter.all false
set_option maxRecDepth 100000
set_option maxHeartbeats 4000000
namespace Kn
open PySem PySem.Spec PyProof.Rows L2
/-! ### heaps -/
theorem same_upd {H : Hp} {p : Addr} {o : HO} (h : H p = none) : Same H (upd H p o) := fun b x e => by
  rw [upd_ne (ne_of_none e h)]
  exact e
theorem same_set {H0 H : Hp} {p : Addr} {o : HO} (h : H0 p = none) (s : Same H0 H) : Same H0 (upd H p o) := fun b x e => by
  rw [upd_ne (ne_of_none e h)]
  exact s b x e
theorem Same.none {H H' : Hp} {p : Addr} (s : Same H H') (h : H' p = none) : H p = none := s.free h
theorem seqLt {K : PySem.W.Frag} {H H' : Hp} {a : Addr} {xs : List V} (e : Same H H') (h : SqT K H a xs) : SqT K H' a xs := by
  rcases h with (h | ⟨o, h⟩) | h
  · exact .inl (.inl (e _ _ h))
  · exact .inl (.inr ⟨o, e _ _ h⟩)
  · exact .inr h
theorem take_more {α : Type} {l : List α} {i : Nat} {x : α} (h : l[i]? = some x) : l.take (i + 1) = l.take i ++ [x] := by
  rw [List.take_add_one, h]; rfl
theorem small {n : Nat} (h : n ≤ 100000) : n < sizeLine := Nat.lt_of_le_of_lt h (by decide)
theorem smallE {n : Nat} (h : n ≤ 100000) : n ≤ sizeLine := Nat.le_of_lt (small h)
/-- a comprehension over a text's signs -/
theorem lc_text {x : Str} {g : TG} {tt : TT} {te : TE} {vs : List Nat} {σ : L2.St} {H1 : Hp} {D : Addr} {Qd : Hp → Prop} (Pv : Nat → Hp → Prop) (h0 : Pv 0 (upd H1 D (.lst [])))
    (hs : ∀ i c H, x.cps.toList[i]? = some c → Pv i H → g (.str ⟨#[c]⟩) (wipe σ vs) H fun σ2 H2 => wipe σ2 vs = wipe σ vs ∧ tt σ2 H2 fun b H3 =>
      if b = true then te σ2 H3 fun y H4 => ∃ acc, H4 D = some (.lst acc) ∧ acc.length < sizeLine ∧ Pv (i + 1) (upd H4 D (.lst (acc ++ [y]))) else Pv (i + 1) H3) (hd : ∀ H, Pv x.cps.toList.length H → Qd H) :
    ∃ W : Nat → Nat → Hp → Prop, (∃ m, W 0 m (upd H1 D (.lst []))) ∧ ∀ i m H, W i m H →
      ((Its x).stop i H ∧ Qd H) ∨ ((Its x).go i H ∧ ∃ Nx : Hp → Prop, (∀ H', Nx H' → ∃ m', m' < m ∧ W (i + 1) m' H') ∧ ∀ v H', (Its x).yld i H v H' → g v (wipe σ vs) H' fun σ2 H2 => wipe σ2 vs = wipe σ vs ∧ tt σ2 H2 fun b H3 =>
        if b = true then te σ2 H3 fun y H4 => ∃ acc, H4 D = some (.lst acc) ∧ acc.length < sizeLine ∧ Nx (upd H4 D (.lst (acc ++ [y]))) else Nx H3) := by
  refine ⟨fun i m H => m = x.cps.size - i ∧ i ≤ x.cps.size ∧ Pv i H, ⟨x.cps.size, by simp, Nat.zero_le _, h0⟩, ?_⟩
  rintro i m H ⟨rfl, hi, p⟩
  by_cases hlt : i < x.cps.size
  · refine .inr ⟨hlt, Pv (i + 1), fun H' p' => ⟨x.cps.size - (i + 1), by omega, rfl, hlt, p'⟩, fun v H' y => ?_⟩
    obtain ⟨rfl, c, hc, rfl⟩ := y
    exact hs i c _ (by simpa using hc) p
  · have e : i = x.cps.size := by omega
    subst e
    exact .inl ⟨Nat.le_refl _, hd H (by simpa using p)⟩
end Kn

set_option Elab.async false
set_option linter.all false
set_option maxRecDepth 100000
set_option maxHeartbeats 4000000
/-! Sets whose members are told in a list: made, filled, told as a sorted list; set comprehensions of ints and texts. -/
namespace KnS
open PySem PySem.Spec PyProof.Rows L2
section
variable {κ : Type} [DecidableEq κ] {P : Program} {w : World} {knd : PySem.KeyKind P w κ}
/-- one entry of a table, of the key k -/
def Ent (knd : PySem.KeyKind P w κ) (k : κ) (e : Int × Value) : Prop := knd.is k e.2 = true ∧ e.1 = knd.hash k ∧ e.2.scannable = true
theorem paired_perm {α β : Type} {F : α → β → Prop} {l m : List β} (p : l.Perm m) : ∀ {ks : List α}, Paired F ks l → ∃ ks', ks'.Perm ks ∧ Paired F ks' m := by
  induction p with
  | nil => intro ks h; exact ⟨ks, .refl _, h⟩
  | cons x _ ih =>
    intro ks h
    cases h with
    | cons r t =>
      obtain ⟨ks', q, t'⟩ := ih t
      exact ⟨_, .cons _ q, .cons r t'⟩
  | swap x y l =>
    intro ks h
    cases h with
    | cons r t =>
      cases t with
      | cons r' t' => exact ⟨_, .swap _ _ _, .cons r' (.cons r t')⟩
  | trans _ _ ih1 ih2 =>
    intro ks h
    obtain ⟨k1, q1, h1⟩ := ih1 h
    obtain ⟨k2, q2, h2⟩ := ih2 h1
    exact ⟨k2, q2.trans q1, h2⟩
theorem ents_elems {ks : List κ} {l : List (Int × Value)} (h : Paired (Ent knd) ks l) : ElemsOf knd l := by
  induction h with
  | nil => exact fun e he => nomatch he
  | cons r _ ih =>
    intro e he
    rcases List.mem_cons.mp he with z | z
    · rw [z]; exact ⟨⟨_, r.1, r.2.1⟩, r.2.2⟩
    · exact ih e z
theorem ents_find {ks : List κ} {l : List (Int × Value)} (h : Paired (Ent knd) ks l) {k : κ} : (∃ e ∈ l, knd.is k e.2 = true) ↔ k ∈ ks := by
  induction h with
  | nil => exact ⟨fun ⟨e, he, _⟩ => (nomatch he), fun z => nomatch z⟩
  | @cons k' e ks l r _ ih =>
    constructor
    · rintro ⟨e', he, q⟩
      rcases List.mem_cons.mp he with z | z
      · rw [z] at q
        rw [knd.inj e.2 k k' q r.1]
        exact List.mem_cons_self
      · exact List.mem_cons_of_mem _ (ih.mp ⟨e', z, q⟩)
    · intro z
      rcases List.mem_cons.mp z with z | z
      · exact ⟨e, List.mem_cons_self, z ▸ r.1⟩
      · obtain ⟨e', he, q⟩ := ih.mpr z
        exact ⟨e', List.mem_cons_of_mem _ he, q⟩
end
/-- the set at a holds just the keys ks, each once; its table can be walked -/
def Holds (P : Program) (w : World) (h : Heap) (a : Addr) (ks : List Key) : Prop :=
  ∃ o es ep t ls, (h.get? a = some o ∧ o.ExactSet ∧ o.data = .set es ep t) ∧ (Paired (Ent (mixKind P w)) ls es.toList ∧ ls.Perm ks ∧ ks.Nodup) ∧
    (es.size < scanBound ∧ t.fits es.size = true) ∧ Ris t.place.toList ∧ (w.params.followText "set-order" = true ∨ t.led = true)
/-- .. as a tracked thing -/
def SetL (P : Program) (w : World) (a : Addr) (ks : List Key) : HO := .ext fun h => Holds P w h a ks
def hasL (ks : List Key) (k : Key) : Bool := ks.any fun j => decide (j = k)
theorem hasL_iff {ks : List Key} {k : Key} : hasL ks k = true ↔ k ∈ ks := by
  unfold hasL
  rw [List.any_eq_true]
  exact ⟨fun ⟨j, hj, e⟩ => of_decide_eq_true e ▸ hj, fun h => ⟨k, h, decide_eq_true rfl⟩⟩
def addL (ks : List Key) (k : Key) : List Key := if hasL ks k = true then ks else ks ++ [k]
section
variable {P : Program} {w : World} {A : Around} {E : Value → Shared → Prop} {s : Shared} {a : Addr} {ks : List Key}
theorem Holds.keep {h h' : Heap} (R : Holds P w h a ks) (k : ∀ o, h.get? a = some o → h'.get? a = some o) : Holds P w h' a ks :=
  let ⟨o, es, ep, t, ls, ⟨ho, r⟩, q⟩ := R; ⟨o, es, ep, t, ls, ⟨k o ho, r⟩, q⟩
theorem Holds.there {h : Heap} (R : Holds P w h a ks) : ∃ o, h.get? a = some o ∧ o.cls = .type "set" := let ⟨o, _, _, _, _, ⟨ho, hx, _⟩, _⟩ := R; ⟨o, ho, hx.1⟩
theorem Holds.new {H : Hp} {h : Heap} (R : Holds P w h a ks) : ObjOk P w H h a (SetL P w a ks) :=
  ⟨R, let ⟨o, ho, _⟩ := R.there; ⟨o, ho⟩, fun _ _ p k => p.keep k⟩
theorem mem_addL {k x : Key} : x ∈ addL ks k ↔ x ∈ ks ∨ x = k := by
  unfold addL
  by_cases z : k ∈ ks
  · rw [if_pos (hasL_iff.mpr z)]
    exact ⟨.inl, fun y => y.elim id fun e => e ▸ z⟩
  · rw [if_neg fun q => z (hasL_iff.mp q), List.mem_append, List.mem_singleton]
theorem stored {h : Heap} {o : Obj} {es es' : Array (Int × Value)} {ep : Nat} {t t' : SetTable} (ho : h.get? a = some o) (hd : o.data = .set es ep t) :
    (h.update a (Obj.putSet es' t')).get? a = some { o with data := .set es' (ep + 1) t' } :=
  (Heap.get?_update_self (Obj.putSet es' t') ho (by rw [putSet_of es' t' hd] <;> rfl)).trans (by rw [putSet_of es' t' hd])
/-- what an add does behind its search, where the key is new -/
theorem laid {k : Key} {x : Value} (hk : (mixKind P w).is k x = true) (hsc : x.scannable = true) {o : Obj} {es : Array (Int × Value)} {ep : Nat} {t : SetTable} {ls : List Key}
    (ho : s.heap.get? a = some o) (hx : o.ExactSet) (hd : o.data = .set es ep t) (pe : Paired (Ent (mixKind P w)) ls es.toList) (pm : ls.Perm ks) (nd : ks.Nodup) (room : es.size + 1 < scanBound)
    {es1 : Array (Int × Value)} {t1 : SetTable} (p1 : es1.toList.Perm (es.push ((mixKind P w).hash k, x)).toList) (f1 : t1.fits es1.size = true) (r1 : Ris t1.place.toList) (l1 : w.params.followText "set-order" = true ∨ t1.led = true) (hnk : k ∉ ks) :
    es1.size < scanBound ∧ Holds P w (s.heap.update a (Obj.putSet es1 t1)) a (ks ++ [k]) := by
  have z1 : es1.size = es.size + 1 := by
    have q := p1.length_eq
    rw [Array.length_toList, Array.length_toList, Array.size_push] at q
    exact q
  have pe' : Paired (Ent (mixKind P w)) (ls ++ [k]) (es.push ((mixKind P w).hash k, x)).toList := by
    rw [Array.toList_push]
    exact pe.snoc ⟨hk, rfl, hsc⟩
  obtain ⟨ls1, q1, pe1⟩ := paired_perm p1.symm pe'
  have nd1 : (ks ++ [k]).Nodup := List.nodup_append.mpr ⟨nd, List.nodup_cons.mpr ⟨(fun z => nomatch z), List.nodup_nil⟩, fun u hu v hv e => hnk (by rw [← List.mem_singleton.mp hv, ← e]; exact hu)⟩
  exact ⟨by omega, _, es1, _, t1, ls1, ⟨stored ho hd, hx, rfl⟩, ⟨pe1, q1.trans (pm.append_right [k]), nd1⟩, ⟨by omega, f1⟩, r1, l1⟩
/-- .. and a table that is laid anew -/
theorem relaid {o : Obj} {es1 es2 : Array (Int × Value)} {ep : Nat} {t1 t2 : SetTable} {h : Heap} (R : Holds P w h a ks) (ho : h.get? a = some o) (hd : o.data = .set es1 ep t1)
    (p2 : es2.toList.Perm es1.toList) (f2 : t2.fits es2.size = true) (r2 : Ris t2.place.toList) (l2 : t1.led = true → t2.led = true) : Holds P w (h.update a (Obj.putSet es2 t2)) a ks := by
  obtain ⟨o', es, ep', t, ls, ⟨ho', hx, hd'⟩, ⟨pe, pm, nd⟩, ⟨hb, _⟩, _, hl⟩ := R
  obtain rfl : o = o' := Option.some.inj (ho.symm.trans ho')
  rw [hd] at hd'
  cases hd'
  obtain ⟨ls2, q2, pe2⟩ := paired_perm p2.symm pe
  have z : es2.size = es1.size := by
    have q := p2.length_eq
    rw [Array.length_toList, Array.length_toList] at q
    exact q
  exact ⟨_, es2, _, t2, ls2, ⟨stored ho hd, hx, rfl⟩, ⟨pe2, q2.trans pm, nd⟩, ⟨z ▸ hb, f2⟩, r2, hl.imp id l2⟩
theorem Holds.size {h : Heap} (R : Holds P w h a ks) {o : Obj} {es : Array (Int × Value)} {ep : Nat} {t : SetTable} (ho : h.get? a = some o) (hd : o.data = .set es ep t) : es.size = ks.length := by
  obtain ⟨o', es', ep', t', ls, ⟨ho', _, hd'⟩, ⟨pe, pm, _⟩, _⟩ := R
  obtain rfl : o = o' := Option.some.inj (ho.symm.trans ho')
  rw [hd] at hd'
  cases hd'
  rw [← Array.length_toList, ← pe.length, pm.length_eq]
theorem add_scan {k : Key} {x : Value} (hk : (mixKind P w).is k x = true) (hsc : x.scannable = true) (R : Holds P w s.heap a ks) (room : ks.length + 1 < scanBound) {Q : Bool → Shared → Prop}
    (hQ : ∀ b h', Heap.SameBut a s.heap h' → Holds P w h' a (addL ks k) → Q b { s with heap := h' }) : wpAny (model P w) A (setAddHashed a x ((mixKind P w).hash k)) Q E s := by
  have R0 := R
  obtain ⟨o, es, ep, t, ls, ⟨ho, hx, hd⟩, ⟨pe, pm, nd⟩, ⟨hb, hf⟩, hr, hl⟩ := R
  have el := ents_elems pe
  have sz := R0.size ho hd
  have fd : (∃ e ∈ es.toList, (mixKind P w).is k e.2 = true) ↔ k ∈ ks := (ents_find pe).trans pm.mem_iff
  unfold setAddHashed setAddHashedIn
  refine wpAny_holding (wpAny_bind (wpAny_setState_of ho hd hf ?_))
  show wpAny _ _ (if byScan x es = true then _ else _) _ _ _
  rw [byScan_of hsc hb el]
  refine wpAny_bind (wpAny_bind (wpAny_rule (wpAny_bind (wpAny_setScan_of hk ho hd hf el ?_))))
  cases ix : es.toList.findIdx? (fun e => (mixKind P w).is k e.2) with
  | some j =>
    obtain ⟨hj, pj, _⟩ := List.findIdx?_eq_some_iff_getElem.mp ix
    have hin : k ∈ ks := fd.mp ⟨_, List.getElem_mem hj, pj⟩
    refine wpAny_pure (wpAny_pure (hQ _ s.heap (Heap.SameBut.refl a s.heap) ?_))
    rw [addL, if_pos (hasL_iff.mpr hin)]
    exact R0
  | none =>
    have hnk : k ∉ ks := fun z => by
      obtain ⟨e, he, q⟩ := fd.mpr z
      have := List.findIdx?_eq_none_iff.mp ix e he
      rw [q] at this
      cases this
    have p1 := layNew_perm t es ((mixKind P w).hash k) x
    have f1 := layNew_fits t es ((mixKind P w).hash k) x
    have r1 := layNew_ris t es ((mixKind P w).hash k) x hr
    have l1 := layNew_led t es ((mixKind P w).hash k) x
    dsimp only
    generalize layNew t es ((mixKind P w).hash k) x = Z at p1 f1 r1 l1 ⊢
    obtain ⟨es1, t1, was, gave⟩ := Z
    dsimp only at p1 f1 r1 l1 ⊢
    have gate : ∀ (b : Bool) {s' : Shared} {Q' : Unit → Shared → Prop}, Q' () s' → wpAny (model P w) A (match b with | true => rule "set.scan.the-table-gave-way" | false => pure ()) Q' E s' := fun b => by
      cases b
      · exact fun q => wpAny_pure q
      · exact fun q => wpAny_rule q
    have e1 : addL ks k = ks ++ [k] := if_neg fun q => hnk (hasL_iff.mp q)
    have more : ∀ {g : Bool → Sem Unit} (_ : ∀ (b : Bool) (s' : Shared) (Q' : Unit → Shared → Prop), Q' () s' → wpAny (model P w) A (g b) Q' E s') (t2 : SetTable), t2.fits es1.size = true → Ris t2.place.toList → t2.led = t1.led →
        wpAny (model P w) A (do
          storeSet a es1 t2
          if (!was && t2.tooFull) = true then do
            g (relayAll t2 es1 (SetTable.grown es1.size)).2.2
            storeSet a (relayAll t2 es1 (SetTable.grown es1.size)).1 (relayAll t2 es1 (SetTable.grown es1.size)).2.1
            pure (some true)
          else pure (some true)) (fun r s' => ∃ h', s' = { s with heap := h' } ∧ r = some true ∧ Heap.SameBut a s.heap h' ∧ Holds P w h' a (addL ks k)) E s := by
      intro g hg t2 f2 r2 l2
      obtain ⟨b1, H1⟩ := laid hk hsc ho hx hd pe pm nd (by omega) p1 f2 r2 (hl.imp id fun q => by rw [l2, l1]; exact q) hnk
      rw [e1]
      refine wpAny_bind (wpAny_storeSet_of ho hd ?_ (fits_of_scanBound b1))
      have sb := Heap.SameBut.update s.heap a (Obj.putSet es1 t2)
      by_cases full : (!was && t2.tooFull) = true
      · rw [if_pos full]
        refine wpAny_bind (hg _ _ _ (wpAny_bind (wpAny_storeSet_of (stored ho hd) rfl ?_ ?_)))
        · refine wpAny_pure ⟨_, rfl, rfl, sb.trans (Heap.SameBut.update _ a _), relaid H1 (stored ho hd) rfl (relayAll_perm _ _ _) (relayAll_fits _ _ _) (relayAll_ris _ _ _) fun q => ?_⟩
          rw [relayAll_led]
          exact q
        · have q := (relayAll_perm t2 es1 (SetTable.grown es1.size)).length_eq
          rw [Array.length_toList, Array.length_toList] at q
          rw [q]
          exact fits_of_scanBound b1
      · rw [if_neg full]
        exact wpAny_pure ⟨_, rfl, rfl, sb, H1⟩
    refine wpAny_bind (gate gave ?_)
    have go : ∀ v : Bool, wpAny (model P w) A (do
          storeSet a es1 (if v = true then t1 else { t1 with plain := false })
          if (!was && (if v = true then t1 else { t1 with plain := false }).tooFull) = true then do
            (match (relayAll (if v = true then t1 else { t1 with plain := false }) es1 (SetTable.grown es1.size)).2.2 with | true => rule "set.scan.the-table-gave-way" | false => pure ())
            storeSet a (relayAll (if v = true then t1 else { t1 with plain := false }) es1 (SetTable.grown es1.size)).1 (relayAll (if v = true then t1 else { t1 with plain := false }) es1 (SetTable.grown es1.size)).2.1
            pure (some true)
          else pure (some true)) (fun r s' => ∃ h', s' = { s with heap := h' } ∧ r = some true ∧ Heap.SameBut a s.heap h' ∧ Holds P w h' a (addL ks k)) E s := fun v => by
      cases v
      · exact more (g := fun b => match b with | true => rule "set.scan.the-table-gave-way" | false => pure ()) (fun b s' Q' q => gate b q) { t1 with plain := false } (SetTable.fits_plain_off f1) r1 rfl
      · exact more (g := fun b => match b with | true => rule "set.scan.the-table-gave-way" | false => pure ()) (fun b s' Q' q => gate b q) t1 f1 r1 rfl
    have fin : ∀ (r : Option Bool) (s' : Shared), (∃ h', s' = { s with heap := h' } ∧ r = some true ∧ Heap.SameBut a s.heap h' ∧ Holds P w h' a (addL ks k)) → ∃ h', r = some true ∧ s' = { s with heap := h' } ∧ Q true s' := by
      rintro r s' ⟨h', rfl, rfl, sb, H'⟩
      exact ⟨h', rfl, rfl, hQ true h' sb H'⟩
    by_cases pl : t1.plain = true
    · rw [if_pos pl]
      refine wpAny_bind ?_
      rw [hashByValue_scannable 8 hsc]
      refine wpAny_pure (wpAny_mono (go _) (fun r s' q => ?_) fun _ _ z => z)
      obtain ⟨h', rfl, rfl, q⟩ := fin r s' q
      exact wpAny_pure q
    · rw [if_neg pl]
      refine wpAny_bind (wpAny_pure (wpAny_mono (go true) (fun r s' q => ?_) fun _ _ z => z))
      obtain ⟨h', rfl, rfl, q⟩ := fin r s' q
      exact wpAny_pure q

/-- set.add, called -/
theorem add_call {k : Key} {x : Value} (hk : (mixKind P w).is k x = true) (hsc : x.scannable = true) (R : Holds P w s.heap a ks) (room : ks.length + 1 < scanBound) {Q : Value → Shared → Prop}
    (hQ : ∀ h', Heap.SameBut a s.heap h' → Holds P w h' a (addL ks k) → Q .none { s with heap := h', toks := s.toks + 1 }) : wpAny (model P w) A (call (.builtin "set.add") [.ref a, x]) Q E s := by
  refine wpAny_call_entry F.slot_set_add (show s.TypeIs (.ref a) "set" from R.there) F.entry_set_add ?_ (F.args_set_add_2 _ _)
  unfold Builtin.«set.add» Builtin.Frozenset.oneOther
  simp only [List.isEmpty_nil, bind_assoc]
  unfold Builtin.Frozenset.addrOf setAdd
  refine wpAny_bind (wpAny_pure (wpAny_bind (wpAny_pure (wpAny_bind (wpAny_holding (wpAny_bind ((mixKind P w).pyHash hk ?_)))))))
  refine add_scan (s := { s with toks := s.toks + 1 }) hk hsc R room fun b h' sb r => ?_
  exact (show wpAny _ _ (ret Value.none) _ _ _ from wpAny_pure ⟨_, rfl, hQ h' sb r⟩)
theorem fresh_set (h : Heap) : Holds P w (h.push { cls := .type "set", dict := none, data := .set #[] 0 (.fresh 0 0 (!w.params.followText "set-order")) }) h.objs.size [] := by
  refine ⟨_, #[], 0, _, [], ⟨Heap.get?_push_size _ rfl, ⟨rfl, rfl, rfl⟩, rfl⟩, ⟨.nil, .refl _, List.nodup_nil⟩, ⟨by decide, by rfl⟩, List.Pairwise.nil, ?_⟩
  cases q : w.params.followText "set-order" with
  | true => exact .inl rfl
  | false => exact .inr rfl
end
/-! ### sorted(a set of texts) -/
theorem strs_of_paired {P : Program} {w : World} : ∀ {ks : List Key} {vs : List Value}, Paired (fun k v => (mixKind P w).is k v = true) ks vs → ∀ {xs : List Str}, ks.Perm (xs.map Sum.inr) → ∃ zs, zs.Perm xs ∧ StrsAre vs zs := by
  intro ks vs h xs p
  have all : ∀ k ∈ ks, ∃ x, k = Sum.inr x := fun k hk => by
    obtain ⟨x, _, e⟩ := List.mem_map.mp (p.mem_iff.mp hk)
    exact ⟨x, e.symm⟩
  have q := p.filterMap (fun k : Key => match k with | .inr x => some x | .inl _ => none)
  have e : (xs.map Sum.inr : List Key).filterMap (fun k : Key => match k with | .inr x => some x | .inl _ => none) = xs := by
    rw [List.filterMap_map]
    exact List.filterMap_some
  rw [e] at q
  refine ⟨_, q, ?_⟩
  clear p q e
  induction h with
  | nil => exact .nil
  | @cons k v ks vs r _ ih =>
    obtain ⟨x, rfl⟩ := all k List.mem_cons_self
    rcases keyIs_shape (show keyIs (.inr x) v = true from r) with ⟨_, _, z, _⟩ | ⟨y, t, z, rfl⟩
    · cases z
    · cases z
      exact .cons _ _ (ih fun k hk => all k (List.mem_cons_of_mem _ hk))
theorem paired_snd {P : Program} {w : World} {ks : List Key} {es : List (Int × Value)} (h : Paired (Ent (mixKind P w)) ks es) : Paired (fun k v => (mixKind P w).is k v = true) ks (es.map (·.2)) := by
  induction h with
  | nil => exact .nil
  | cons r _ ih => exact .cons r.1 ih
section
variable {P : Program} {w : World} {A : Around} {E : Value → Shared → Prop} {s : Shared} {a : Addr}
theorem sorted_call {xs : List Str} {Q : Value → Shared → Prop} (R : Holds P w s.heap a (xs.map Sum.inr)) (hh : A.handled = none)
    (hQ : ∀ s' p (out : Array Value) (c : Nat) (ys : List Str), (∀ b o, s.heap.get? b = some o → s'.heap.get? b = some o) → s'.gens = s.gens ∧ s'.os = s.os → s.heap.objs.size ≤ p →
      s'.heap.get? p = some (seqObj "list" out c) → StrsAre out.toList ys → ys.Perm xs → sortedS ys = true → Q (.ref p) s') : wpAny (model P w) A (call (.builtin "sorted") [.ref a]) Q E s := by
  obtain ⟨o, es, ep, t, ls, ⟨ho, hx, hd⟩, ⟨pe, pm, nd⟩, ⟨hb, hf⟩, hr, hl⟩ := R
  refine Calls.call_function_entry kind_sorted plain_sorted entry_sorted (args_sorted1 _) ?_
  unfold Builtin.«sorted»
  refine wpAny_bind (m := checkCount "sorted" 1 1 _) (wpAny_pure (wpAny_bind (collect_set (A := A.in1) hh ⟨o, ho, hx.1, hd⟩ hf hb hr hl fun s1 vs k1 hz g1 o1 pv => ?_)))
  obtain ⟨ls', q', pe'⟩ := paired_perm pv.symm (paired_snd pe)
  obtain ⟨zs, pz, hS⟩ := strs_of_paired pe' (q'.trans pm)
  have hsz : vs.length ≤ sizeLine := by
    rw [pv.length_eq, List.length_map, Array.length_toList]
    exact fits_of_scanBound hb
  refine wpAny_bind (wpAny_newList ?_ hsz)
  have hoL : (s1.heap.push (seqObj "list" vs.toArray 0)).get? s1.heap.objs.size = some (seqObj "list" vs.toArray 0) := Heap.get?_push_size _ rfl
  refine wpAny_bind (wpAny_holding (wpAny_call_entry slot_list_sort ⟨_, hoL, rfl⟩ entry_list_sort (list_sort_treeKAny strKind_oneLt hoL hS.keysOf (fun v₁ v₂ rest e => keyKind_strs (by rw [← e]; exact hS)) hsz fun st' hp hs => ?_) (args_list_sort _)))
  obtain ⟨ys, y1, y2, y3⟩ := sorted_out_str hS hp hs
  obtain ⟨c, hc⟩ := sortedHeap_at (vs := vs) (out := (arrOf st').map (·.2)) hoL
  refine ⟨_, rfl, wpAny_pure ⟨_, rfl, hQ _ _ _ c ys (fun b u e => ?_) ⟨g1, o1⟩ hz hc y1 (y2.trans pz) y3⟩⟩
  have q := k1 b u e
  have hlt := Heap.lt_size q
  refine (sortedHeap_old (Nat.ne_of_lt hlt) ?_).trans (Heap.get?_push_of_some _ q)
  rw [size_push']
  exact Nat.lt_succ_of_lt hlt
end
section
variable {X : Cx} {pins : List (Addr × Obj)} {σ : L2.St} {H : Hp} {s : Shared}
theorem held {a : Addr} {ks : List Key} (I : Inv X pins σ H s) (h : H a = some (SetL X.prog X.w a ks)) : Holds X.prog X.w s.heap a ks := (I.hok a _ h).1
theorem key_rel {k : Key} {u : Value} (r : RelV (kV k) u) (P : Program) (w : World) : (mixKind P w).is k u = true ∧ u.scannable = true := by
  cases k with
  | inl i => obtain ⟨t, rfl⟩ := r; exact ⟨mixKind_int P w i t, rfl⟩
  | inr x => obtain ⟨t, rfl⟩ := r; exact ⟨mixKind_str P w x t, rfl⟩
theorem add_inv {a : Addr} {ks : List Key} {k : Key} {u : Value} {A : Around} {E : Value → Shared → Prop} {Q : Value → Shared → Prop} (I : Inv X pins σ H s) (h : H a = some (SetL X.prog X.w a ks)) (r : RelV (kV k) u) (room : ks.length + 1 < scanBound)
    (hQ : ∀ s', Inv X pins σ (upd H a (SetL X.prog X.w a (addL ks k))) s' → Q .none s') : wpAny (model X.prog X.w) A (call (.builtin "set.add") [.ref a, u]) Q E s := by
  obtain ⟨r1, r2⟩ := key_rel r X.prog X.w
  refine add_call r1 r2 (held I h) room fun h' sb R => hQ _ ?_
  exact I.write (e := a) (t' := s.toks + 1) (by rw [h]; trivial) (.inl rfl) (fun b o hb ho => (sb.2 b hb).trans ho) (let ⟨o, ho, _⟩ := R.there; ⟨o, ho⟩) R.new
/-- sorted(found), found a set of texts -/
def rSortedL (P : Program) (w : World) : List V → Hp → VK → Prop := fun vs H Q => ∃ (a : Addr) (xs : List Str), vs = [.ref a] ∧ H a = some (SetL P w a (xs.map Sum.inr)) ∧
  ∀ (ys : List Str) (p : Addr), ys.Perm xs → sortedS ys = true → H p = none → Q (.ref p) (upd H p (.lst (ys.map V.str)))
theorem cr_sortedL (hc : X.calm = true) : CallR X (.builtin "sorted") (rSortedL X.prog X.w) := by
  intro pins s σ H vs us Q I r h
  obtain ⟨a, xs, rfl, ha, q⟩ := h
  rw [Vals.ref1 r]
  have R := held I ha
  have bound : xs.length ≤ sizeLine := by
    obtain ⟨o, es, ep, t, ls, ⟨ho, hx, hd⟩, ⟨pe, pm, nd⟩, ⟨hb, hf⟩, _⟩ := R
    have := pm.length_eq
    rw [pe.length, Array.length_toList, List.length_map] at this
    rw [← this]
    exact fits_of_scanBound hb
  refine sorted_call R (I.ok.hd hc) fun s' p out c ys k go hp hg hi hperm hs => ?_
  have hn : H p = none := I.hok.fresh hp
  have hlen : (ys.map V.str).length ≤ sizeLine := by rw [List.length_map, hperm.length_eq]; exact bound
  have J : Inv X pins σ (upd H p (.lst (ys.map V.str))) s' := I.call' (ch := []) go.2 (Un.laid k hp hn) (I.hok.laid k hp ⟨hlen, out.toList, c, vals_of_strs hi, hg⟩) (by rw [go.1]; exact I.bare) (fun _ z => nomatch z)
  exact ⟨.ref p, _, J, rfl, q ys p hperm hs hn⟩
end
end KnS

set_option Elab.async false
set_option linter.all false
set_option maxRecDepth 100000
set_option maxHeartbeats 4000000
/-! {elt for target in iter if ..}, elt an int or a text. -/
namespace KnS
open PySem PySem.Spec PyProof.Rows L2
section
variable {X : Cx}
abbrev set0 (w : World) : Obj := { cls := .type "set", dict := none, data := .set #[] 0 (.fresh 0 0 (!w.params.followText "set-order")) }
/-- what a turn may reach, and how a comprehension into a set reads -/
def tScL (P : Program) (w : World) (wi : TI) (g : TG) (tt : TT) (te : TE) (vs : List Nat) : TE := fun σ H Q => wi σ H fun J H1 => ∀ D, H1 D = none →
  ∃ W : Nat → Nat → Hp → Prop, (∃ m, W 0 m (upd H1 D (SetL P w D []))) ∧ ∀ i m H, W i m H → (J.stop i H ∧ Q (.ref D) H) ∨
    (J.go i H ∧ ∃ Nx : Hp → Prop, (∀ H', Nx H' → ∃ m', m' < m ∧ W (i + 1) m' H') ∧
      ∀ x H', J.yld i H x H' → g x (wipe σ vs) H' fun σ2 H2 => wipe σ2 vs = wipe σ vs ∧ tt σ2 H2 fun b H3 =>
        if b = true then te σ2 H3 fun y H4 => ∃ (k : Key) (ks : List Key), y = kV k ∧ H4 D = some (SetL P w D ks) ∧ ks.length + 1 < scanBound ∧ Nx (upd H4 D (SetL P w D (addL ks k))) else Nx H3)
theorem scL {elt tg iter : Expr} {ifs : List Expr} {scope : Scope} {own : List (Str × Nat)} {pos : Pos} {wi : TI} {g : TG} {tt : TT} {te : TE}
    (hc : X.calm = true) (hN : X.N.Nodup) (hi : PI X tg iter wi) (ok : BlkOk X.N X.env.scope scope own)
    (hg : ∀ (s : Shared) (H : Hp) (C : Addr) (cl : List (Str × Addr)) (fp : List Addr), PG (X.blk s H scope (compEnvC scope cl C X.env) fp) tg g)
    (ht : ∀ (s : Shared) (H : Hp) (C : Addr) (cl : List (Str × Addr)) (fp : List Addr), PTs (X.blk s H scope (compEnvC scope cl C X.env) fp) ifs tt)
    (he : ∀ (s : Shared) (H : Hp) (C : Addr) (cl : List (Str × Addr)) (fp : List Addr), PE (X.blk s H scope (compEnvC scope cl C X.env) fp) elt te)
    (hs : ∀ x, foldedSetIterable iter X.env x = pure x := by intro _; rfl) :
    PE X (.SetComp elt [⟨tg, iter, ifs, 0⟩] scope pos) (tScL X.prog X.w wi g tt te (own.map (·.2))) := by
  refine ⟨fun pins s σ H Q I h => ?_⟩
  rw [PpSet.eval_SetComp]
  have captured : ∀ y ∈ scope.names, y.2 = .free → ∃ c, X.env.cells.lookup y.1 = some c := fun y hy e =>
    (ok.free y hy e).elim (fun k => I.ok.has _ (.inl k)) fun k => I.ok.has _ (.inr k)
  refine wpAny_comprehension_free (use := none) rfl hs (closure_ok captured) ok.kind (fun y hy e => by rw [ok.uniq y hy, e]) ?_
  refine thn (hi.run pins s σ H _ I h) fun xv s1 hx => thn hx fun itv s2 ⟨it, fp, tn, J, H2, eit, I2, T, st2, f2, q⟩ => ?_
  subst eit
  refine PpSet.newSet_ok (newEnv_comp ?_)
  generalize hD : s2.heap.objs.size = D
  have freeD : H2 D = none := I2.hok.fresh (Nat.le_of_eq hD)
  obtain ⟨W, ⟨m0, w0⟩, turn⟩ := q D freeD
  -- the new set stands
  generalize h3 : s2.heap.push (set0 X.w) = hp3
  have keep3 : ∀ b o, s2.heap.get? b = some o → hp3.get? b = some o := fun b o e => h3 ▸ Heap.get?_push_of_some _ e
  have size3 : hp3.objs.size = s2.heap.objs.size + 1 := by rw [← h3, Heap.size_push]
  have I3 : Inv X pins σ (upd H2 D (SetL X.prog X.w D [])) { s2 with heap := hp3 } := by
    refine I2.laid (t' := s2.toks) keep3 (Nat.le_of_eq hD) (Holds.new ?_)
    rw [← h3, ← hD]
    exact fresh_set _
  have inFp : ∀ b ∈ fp, b < s2.heap.objs.size := fun b hb => let ⟨_, e, _⟩ := T.obj _ _ st2 b hb; Heap.lt_size e
  have f3 : ∀ b ∈ fp, FpOk X pins (upd H2 D (SetL X.prog X.w D [])) b ∧ b < hp3.objs.size := fun b hb =>
    ⟨⟨(upd_ne (by rw [← hD]; exact Nat.ne_of_lt (inFp b hb))).trans (f2 b hb).1, (f2 b hb).2⟩, by rw [size3]; exact Nat.lt_succ_of_lt (inFp b hb)⟩
  have st3 : tn 0 hp3 := T.keep _ _ _ st2 fun b _ => keep3 b
  generalize hH3 : upd H2 D (SetL X.prog X.w D []) = H3 at I3 f3 w0
  generalize hs3 : ({ s2 with heap := hp3 } : Shared) = s3 at I3
  have e3 : s3.heap = hp3 := by rw [← hs3]
  have I4 := block_start I3 ok hN (fun b hb => ⟨(f3 b hb).1, by rw [e3]; exact (f3 b hb).2⟩)
  have clear0 : ∀ b ∈ fp, H3 b = none := fun b hb => (f3 b hb).1.1
  show codeAny _ _ (.compStart (.SetComp elt [⟨tg, iter, ifs, 0⟩] scope pos) 0 (.ref it) (.ref D) (compEnvC scope (cellsFrom (s3.heap.objs.size + 1) scope.names (cloFrom X.env.cells scope.names [])) s3.heap.objs.size X.env))
    (compPost (model X.prog X.w) X.A X.xe none (EP X pins σ Q) (.ref D) s3.heap.objs.size) { s3 with heap := pushCells (s3.heap.push { cls := .type "dict", data := .dict #[] }) scope.names }
  have pg := hg s3 H3 s3.heap.objs.size (cellsFrom (s3.heap.objs.size + 1) scope.names (cloFrom X.env.cells scope.names [])) fp
  have pt := ht s3 H3 s3.heap.objs.size (cellsFrom (s3.heap.objs.size + 1) scope.names (cloFrom X.env.cells scope.names [])) fp
  have pe := he s3 H3 s3.heap.objs.size (cellsFrom (s3.heap.objs.size + 1) scope.names (cloFrom X.env.cells scope.names [])) fp
  have home : (compEnvC scope (cellsFrom (s3.heap.objs.size + 1) scope.names (cloFrom X.env.cells scope.names [])) s3.heap.objs.size X.env).locals = s3.heap.objs.size := rfl
  generalize compEnvC scope (cellsFrom (s3.heap.objs.size + 1) scope.names (cloFrom X.env.cells scope.names [])) s3.heap.objs.size X.env = ce at I4 pg pt pe home ⊢
  have st4 : tn 0 ({ s3 with heap := pushCells (s3.heap.push { cls := .type "dict", data := .dict #[] }) scope.names } : Shared).heap := by
    refine T.keep _ _ _ st3 fun b _ o e => pushCells_keeps _ _ _ _ (Heap.get?_push_of_some _ ?_)
    rw [e3]
    exact e
  generalize ({ s3 with heap := pushCells (s3.heap.push { cls := .type "dict", data := .dict #[] }) scope.names } : Shared) = s4 at I4 ⊢ st4
  have own0 : ∀ {σ' : L2.St} {H' : Hp} {s' : Shared}, Inv (X.blk s3 H3 scope ce fp) [] σ' H' s' → (∀ b ∈ fp, H' b = none) → ∀ b ∈ fp, FpOk (X.blk s3 H3 scope ce fp) [] H' b := fun I' cl b hb =>
    ⟨cl b hb, (I'.ok.exf b hb).1, I'.ok.exfs b hb, .inl hb, (fun x c e => (I'.ok.exf b hb).2 x c e), fun p hp => by cases List.mem_append.mp hp <;> rename_i z <;> exact absurd z List.not_mem_nil⟩
  have loop : codeAny (model X.prog X.w) X.A (.compLoop (.SetComp elt [⟨tg, iter, ifs, 0⟩] scope pos) 0 (.ref it) (.ref D) ce) (compPost (model X.prog X.w) X.A X.xe none (EP X pins σ Q) (.ref D) s3.heap.objs.size) s4 := by
    refine PpSet.compLoopS_any (fun n s' => ∃ i H', (Inv (X.blk s3 H3 scope ce fp) [] (wipe σ (own.map (·.2))) H' s' ∧ tn i s'.heap) ∧ (∀ b ∈ fp, H' b = none) ∧ W i n H') ?_ m0 ⟨0, H3, ⟨I4, st4⟩, clear0, w0⟩
    rintro n s5 ⟨i, H5, ⟨I5, st5⟩, cl5, w5⟩
    rcases turn i n H5 w5 with ⟨stop, fine⟩ | ⟨go, Nx, hNx, step⟩
    · refine thnF (T.done (X.blk s3 H3 scope ce fp) rfl rfl rfl hc i [] s5 _ H5 (fun _ _ => False) I5 (own0 I5 cl5) st5 stop) fun r s6 ⟨er, I6⟩ => ?_
      subst er
      have I7 : Inv X pins σ H5 s6 := I3.call' (ch := fp) I6.os I6.base I6.hok I6.bare fun b hb =>
        let f := (f3 b hb).1.2; ⟨f.2.2.1, f.1, f.2.2.2.1, f.2.2.2.2⟩
      have free5 : H5 s3.heap.objs.size = none := home ▸ I6.free
      obtain ⟨m, hn, _⟩ := I6.loc
      obtain ⟨_, k1, k2, k3, k4, k5⟩ := I3.fpOk (Nat.le_refl _) free5
      exact ⟨m, home ▸ hn, fun h'' sb => ⟨.ref D, H5, I7.turned (t' := s6.toks) (fun b o hb e => (sb.2 b hb).trans e) free5 k1 k3 k4 k5, rfl, fine⟩⟩
    · refine thnF (T.item (X.blk s3 H3 scope ce fp) rfl rfl rfl hc i [] s5 _ H5 (fun _ _ => False) I5 (own0 I5 cl5) st5 go) fun r s6 ⟨u, er, h6⟩ => ?_
      subst er
      refine thnF h6 fun _ s7 ⟨x, H7, I7, r7, y7, st7, cl7⟩ => ?_
      refine thnF (pg.run _ s7 _ H7 x u _ (I7.pinned (own0 I7 cl7) (T.obj _ _ st7)) r7 (step x H7 y7)) fun _ s8 ⟨σ8, H8, I8, same8, q8⟩ => thnF (pt.run _ s8 σ8 H8 _ I8 q8) fun b s9 ⟨H9, I9, q9⟩ => ?_
      have closed : ∀ {s' : Shared} {H' : Hp}, Inv (X.blk s3 H3 scope ce fp) ([] ++ pinsAt fp s7.heap) σ8 H' s' → Nx H' → ∃ m, m < n ∧ ∃ i H', (Inv (X.blk s3 H3 scope ce fp) [] (wipe σ (own.map (·.2))) H' s' ∧ tn i s'.heap) ∧ (∀ b ∈ fp, H' b = none) ∧ W i m H' := fun {s' H'} I' nx => by
        obtain ⟨m', less, w'⟩ := hNx H' nx
        have pinned : ∀ b ∈ fp, ∀ o, s7.heap.get? b = some o → s'.heap.get? b = some o ∧ H' b = none := fun b hb o e =>
          have z := I'.pin (b, o) (List.mem_append_right _ (List.mem_append_right _ (mem_pinsAt hb e)))
          ⟨z.1, z.2.1⟩
        have len8 : (wipe σ (own.map (·.2))).length = σ8.length := (congrArg List.length same8).symm.trans (wipe_length _ _)
        refine ⟨m', less, i + 1, H', ⟨(I'.unpinned (pins := [])).weak len8 fun j v e => ?_, T.keep _ _ _ st7 fun b hb o e => (pinned b hb o e).1⟩, fun b hb => ?_, w'⟩
        · exact (wipe_some (same8 ▸ e)).1
        · obtain ⟨o, e, _⟩ := T.obj _ _ st7 b hb
          exact (pinned b hb o e).2
      cases b with
      | false => exact closed I9 q9
      | true =>
        refine thnF (pe.run _ s9 σ8 H9 _ I9 q9) fun z s10 ⟨yv, H10, I10, r10, k, ks, ey, eD, room, nx⟩ => ?_
        subst ey
        exact add_inv (X := X.blk s3 H3 scope ce fp) I10 eD r10 room fun s11 I11 => closed I11 nx
  exact PpSet.codeAny_compStart_set loop (T.self X.A 0 _ _ _ st4 loop)
end
end KnS

set_option Elab.async false
set_option linter.all false
set_option maxRecDepth 100000
set_option maxHeartbeats 4000000
/-! set(a list of ints and texts). -/
namespace KnS
open PySem PySem.Spec PyProof.Rows L2
def allL (ks : List Key) : List Key := ks.foldl addL []
theorem mem_foldL {x : Key} : ∀ {l acc : List Key}, x ∈ l.foldl addL acc ↔ x ∈ acc ∨ x ∈ l := by
  intro l
  induction l with
  | nil => intro acc; exact ⟨.inl, fun h => h.elim id (fun z => nomatch z)⟩
  | cons y l ih =>
    intro acc
    rw [List.foldl_cons, ih, mem_addL, List.mem_cons]
    constructor
    · rintro ((h | h) | h)
      · exact .inl h
      · exact .inr (.inl h)
      · exact .inr (.inr h)
    · rintro (h | h | h)
      · exact .inl (.inl h)
      · exact .inl (.inr h)
      · exact .inr h
theorem mem_allL {x : Key} {l : List Key} : x ∈ allL l ↔ x ∈ l := mem_foldL.trans ⟨fun h => h.elim (fun z => nomatch z) id, .inr⟩
theorem addL_nodup {ks : List Key} {k : Key} (h : ks.Nodup) : (addL ks k).Nodup := by
  unfold addL
  by_cases z : hasL ks k = true
  · rw [if_pos z]; exact h
  · rw [if_neg z]
    exact List.nodup_append.mpr ⟨h, List.nodup_cons.mpr ⟨(fun z => nomatch z), List.nodup_nil⟩, fun u hu v hv e => z (hasL_iff.mpr (by rw [← List.mem_singleton.mp hv, ← e]; exact hu))⟩
theorem foldL_nodup : ∀ {l acc : List Key}, acc.Nodup → (l.foldl addL acc).Nodup
  | [], _, h => h
  | k :: l, _, h => foldL_nodup (l := l) (addL_nodup h)
theorem addL_length (ks : List Key) (k : Key) : (addL ks k).length ≤ ks.length + 1 := by
  unfold addL
  by_cases z : hasL ks k = true
  · rw [if_pos z]; omega
  · rw [if_neg z, List.length_append]; exact Nat.le_refl _
theorem foldL_length : ∀ (l acc : List Key), (l.foldl addL acc).length ≤ acc.length + l.length
  | [], _ => Nat.le_refl _
  | k :: l, acc => by
    have h1 := foldL_length l (addL acc k)
    have h2 := addL_length acc k
    rw [List.foldl_cons, List.length_cons]
    omega
section
variable {P : Program} {w : World} {A : Around} {E : Value → Shared → Prop} {s : Shared}
/-- set.__new__(set, a): a new empty set, led where the order is not by the text -/
theorem new_set (a : Value) {Q₁ : Value → Shared → Prop} (h : Q₁ (.ref s.heap.objs.size) { s with heap := s.heap.push { cls := .type "set", dict := none, data := .set #[] 0 (.fresh 0 0 (!w.params.followText "set-order")) } }) :
    codeAny (model P w) A (.call (.builtin "set.__new__") ⟨[.type "set", a], []⟩) (wants Q₁ E) s := by
  refine codeAny_of_tree (show wpAny _ A.in1 (do checkBuiltinCall "set.__new__" ⟨[.type "set", a], []⟩; again (.builtin "set.__new__" ⟨[.type "set", a], []⟩)) _ _ s from ?_)
  refine wpAny_bind (wpAny_of_eq (F.newCall_set_1 a) (wpAny_pure ⟨plainId_quiet F.plain_set_new _, codeAny_builtin F.entry_set_new ?_⟩))
  rw [Around.under_plainId F.plain_set_new _]
  unfold Builtin.«set.__new__» Builtin.Frozenset.newClass
  have hsub := sub_set_self
  obtain ⟨hp, g, d, tk, os⟩ := s
  dsimp only
  wp_walk
  refine wpAny_askSetting (wpAny_pure ?_)
  dsimp only
  simp only [newObj]
  exact wpAny_bind (wpAny_alloc (wpAny_pure (wpAny_pure h)))
/-- the loop of set(v) -/
theorem update_loop {I S : Addr} {fp wr : List Addr} {G : Array GenState → Array GenState → Prop} {ks : List Key} {Pv : Nat → Value → Prop} {St : Nat → Shared → Prop} {R : Result → Shared → Prop}
    (W : WalksS P w A.in1 I fp wr G ks.length Pv St) (hSf : S ∉ fp) (hval : ∀ i v k, Pv i v → ks[i]? = some k → (mixKind P w).is k v = true ∧ v.scannable = true) (room : ks.length + 1 < scanBound) :
    ∀ (k i : Nat) (s : Shared), ks.length - i = k → i ≤ ks.length → St i s → Holds P w s.heap S (allL (ks.take i)) →
      (∀ s', Moved (S :: wr) G s s' → Holds P w s'.heap S (allL ks) → R (.ok (.ret .none)) s') → codeAny (model P w) A (.builtin "set.update.loop" ⟨[.ref S, .ref I], []⟩) R s := by
  have hSw : S ∉ wr := fun h => hSf (W.sub _ h)
  have more : ∀ b ∈ wr, b ∈ S :: wr := fun b hb => List.mem_cons_of_mem _ hb
  intro k
  induction k with
  | zero =>
    intro i s hk hi hst hS hR
    obtain rfl : i = ks.length := by omega
    refine codeAny_builtin PyProof.Rows.F.entry_set_update_loop ?_
    rw [Around.under_plainId PyProof.Rows.F.plain_set_update_loop _]
    show wpAny _ A.in1 (pyNext (.ref I) >>= _) _ _ s
    refine wpAny_bind (W.done s _ _ hst fun s' hm => (show wpAny _ A.in1 (ret Value.none) _ _ s' from wpAny_pure (hR s' (hm.mono more) ?_)))
    rw [List.take_length] at hS
    exact hS.keep fun o ho => hm.heap S o hSw ho
  | succ k ih =>
    intro i s hk hi hst hS hR
    have lt : i < ks.length := by omega
    have at_ : ks[i]? = some ks[i] := List.getElem?_eq_getElem lt
    refine codeAny_builtin PyProof.Rows.F.entry_set_update_loop ?_
    rw [Around.under_plainId PyProof.Rows.F.plain_set_update_loop _]
    show wpAny _ A.in1 (pyNext (.ref I) >>= _) _ _ s
    refine wpAny_bind (W.item i s _ _ lt hst fun v s' hP hst' hm => ?_)
    obtain ⟨v1, v2⟩ := hval i v _ hP at_
    have hS' : Holds P w s'.heap S (allL (ks.take i)) := hS.keep fun o ho => hm.heap S o hSw ho
    have len : (allL (ks.take i)).length + 1 < scanBound := by
      have h1 := foldL_length (ks.take i) []
      rw [List.length_take] at h1
      have h2 : ([] : List Key).length = 0 := rfl
      unfold allL
      omega
    show wpAny _ A.in1 (holding [v] (setAdd S v) >>= _) _ _ s'
    refine wpAny_bind (wpAny_holding ?_)
    unfold setAdd
    refine wpAny_holding (wpAny_bind ((mixKind P w).pyHash v1 ?_))
    refine add_scan (s := { s' with toks := s'.toks + 1 }) v1 v2 hS' len fun b h' hsb hS2 => ?_
    have e2 : allL (ks.take (i + 1)) = addL (allL (ks.take i)) ks[i] := by
      unfold allL
      rw [List.take_add_one, at_, List.foldl_append]
      rfl
    refine wpAny_pure ⟨plainId_quiet PyProof.Rows.F.plain_set_update_loop _, ih (i + 1) _ (by omega) lt (W.frame _ s' _ _ hst' (Nat.le_succ _) fun b hb o e => ?_) (by rw [e2]; exact hS2) fun s'' hm'' hS'' => ?_⟩
    · exact (hsb.2 b fun h => hSf (h ▸ hb)).trans e
    · refine hR s'' (Moved.trans W.gtrans ((hm.mono more).then_heap (Nat.le_succ _) fun b o hb e => ?_) hm'') hS''
      exact (hsb.2 b fun h => hb (h ▸ List.mem_cons_self)).trans e

set_option maxHeartbeats 3200000 in
theorem set_call {l : Addr} {items : List Value} {ks : List Key} {Q : Value → Shared → Prop} (hh : A.handled = none) (hl : s.heap.IsList l items.toArray) (hk : Paired (fun k v => (mixKind P w).is k v = true ∧ v.scannable = true) ks items) (room : ks.length + 1 < scanBound)
    (h : ∀ (h' : Heap) (tk : Nat), Holds P w h' s.heap.objs.size (allL ks) → (∀ b o, b < s.heap.objs.size → s.heap.get? b = some o → h'.get? b = some o) → Q (.ref s.heap.objs.size) { s with heap := h', toks := tk }) :
    wpAny (model P w) A (call (.type "set") [.ref l]) Q E s := by
  have ⟨c, tl, hmro⟩ := PySem.F.called_set.mro
  have made := PySem.F.called_set.made
  have sub := PySem.F.called_set.sub
  refine wpAny_call (codeAny_of_tree (show wpAny _ _ (callAny (.type "set") _) _ _ _ from wpAny_pure ⟨Code.quiet_builtin _ (by decide +kernel), codeAny_builtin PySem.F.entry_type_call ?_⟩))
  rw [Around.under_plain (weight_type_call_type "set" [.ref l] []) rfl]
  have u1 := PySem.F.called_set.notType
  have u2 := PySem.F.called_set.canCreate
  have u3 := PySem.F.typeCall_set_1 (.ref l)
  repeat (any_goals (first | assumption | wp_step))
  have R0 := fresh_set (P := P) (w := w) s.heap
  have made0 := new_set (P := P) (w := w) (A := A.in1) (s := s) (.ref l) (E := E) (Q₁ := fun obj s₁ => obj = .ref s.heap.objs.size ∧ s₁ = { s with heap := s.heap.push { cls := .type "set", dict := none, data := .set #[] 0 (.fresh 0 0 (!w.params.followText "set-order")) } }) ⟨rfl, rfl⟩
  generalize (!w.params.followText "set-order") = led at made0 R0
  refine codeAny_mono made0 fun r s₁ hr => ?_
  match r, hr with
  | .error e, hr => exact hr
  | .ok .next, hr => exact hr.elim
  | .ok .brk, hr => exact hr.elim
  | .ok .cont, hr => exact hr.elim
  | .ok (.ret obj), hr =>
    obtain ⟨rfl, rfl⟩ := hr
    have hS : (s.heap.push { cls := .type "set", dict := none, data := .set #[] 0 (.fresh 0 0 led) }).get? s.heap.objs.size = some { cls := .type "set", dict := none, data := .set #[] 0 (.fresh 0 0 led) } := Heap.get?_push_size _ rfl
    have hT : Shared.TypeIs { s with heap := s.heap.push { cls := .type "set", dict := none, data := .set #[] 0 (.fresh 0 0 led) } } (.ref s.heap.objs.size) "set" := ⟨_, hS, rfl⟩
    have i1 := PySem.F.called_set.init.lookup
    have i2 := PySem.F.called_set.init.bind (.ref s.heap.objs.size)
    repeat (any_goals (first | assumption | wp_step))
    refine codeAny_mono (codeAny_call_builtin (R := wants (fun r s₂ => r = .none ∧ ∃ h' tk, s₂ = { s with heap := h', toks := tk } ∧ Holds P w h' s.heap.objs.size (allL ks) ∧ ∀ b o, b < s.heap.objs.size → s.heap.get? b = some o → h'.get? b = some o) E)
      PySem.F.called_set.init.plain PySem.F.entry_set_init (check_set_init_1 hT ?_)) fun r₂ s₂ hr₂ => ?_
    · have hlS : l < s.heap.objs.size := let ⟨o, e, _⟩ := hl; Heap.lt_size e
      have hl1 : (s.heap.push { cls := .type "set", dict := none, data := .set #[] 0 (.fresh 0 0 led) }).IsList l items.toArray := hl.at fun o e => Heap.get?_push_of_some _ e
      obtain ⟨⟨ocls, odict, odata, oslots⟩, hol, hcl, nl, hdl⟩ := hl1
      simp only at hcl hdl
      subst hcl hdl
      have n1 := PySem.F.sub_list_set
      have n2 := PySem.F.sub_list_frozenset
      have n3 : (Value.type "list" == Value.type "dict") = false := by decide
      unfold Builtin.«set.__init__» noKeywords Builtin.Frozenset.updateFrom
      generalize hPI : pyIter = PI
      wp_walk
      subst hPI
      have hl2 : (s.heap.push { cls := .type "set", dict := none, data := .set #[] 0 (.fresh 0 0 led) }).IsList l items.toArray := ⟨_, hol, rfl, nl, rfl⟩
      refine wpAny_pyIter_list hl2 ?_
      refine wpAny_bind (wpAny_runValue ?_)
      have zz : (s.heap.push { cls := .type "set", dict := none, data := .set #[] 0 (.fresh 0 0 led) }).objs.size = s.heap.objs.size + 1 := Heap.size_push ..
      have hneI : l ≠ (s.heap.push { cls := .type "set", dict := none, data := .set #[] 0 (.fresh 0 0 led) }).objs.size := by rw [zz]; exact Nat.ne_of_lt (Nat.lt_succ_of_lt hlS)
      have len : ks.length = items.toArray.size := hk.length.trans List.size_toArray.symm
      have W := (Walks.list (prog := P) (w := w) (A := A.in1.in1.in1) (by simpa using hh) (s.heap.push { cls := .type "set", dict := none, data := .set #[] 0 (.fresh 0 0 led) }).objs.size l hneI items.toArray).toS
      rw [← len] at W
      refine update_loop W (fun z => ?_) (fun i v k hv hki => ?_) room (ks.length - 0) 0 _ rfl (Nat.zero_le _) ⟨⟨_, Heap.get?_push_size _ rfl, rfl, rfl⟩, hl2.at fun o e => Heap.get?_push_of_some _ e⟩ ?_ fun s' hm hS' => ?_
      · rcases List.mem_cons.mp z with z | z
        · rw [zz] at z
          exact Nat.ne_of_lt (Nat.lt_succ_self _) z
        · exact Nat.ne_of_lt hlS (List.mem_singleton.mp z).symm
      · rw [List.getElem?_toArray] at hv
        have : ∀ {ks : List Key} {its : List Value} {i : Nat}, Paired (fun k v => (mixKind P w).is k v = true ∧ v.scannable = true) ks its → ks[i]? = some k → its[i]? = some v → (mixKind P w).is k v = true ∧ v.scannable = true := by
          intro ks its i hp
          induction hp generalizing i with
          | nil => intro z; cases z
          | cons r _ ih =>
            cases i with
            | zero => intro a b; cases a; cases b; exact r
            | succ i => exact fun a b => ih (i := i) a b
        exact this hk hki hv
      · exact R0.keep fun o e => Heap.get?_push_of_some _ e
      · obtain ⟨h', g', d', tk', os'⟩ := s'
        obtain rfl : g' = s.gens := hm.gens
        obtain rfl : d' = s.drawn := hm.drawn
        obtain rfl : os' = s.os := hm.os
        refine wpAny_pure (show wpAny _ _ (ret Value.none) _ _ _ from wpAny_pure ⟨rfl, h', tk', rfl, hS', fun b o hb e => ?_⟩)
        refine hm.heap b o (fun z => ?_) (Heap.get?_push_of_some _ (Heap.get?_push_of_some _ e))
        rcases List.mem_cons.mp z with z | z
        · exact Nat.ne_of_lt hb z
        · have e1 := List.mem_singleton.mp z
          rw [zz] at e1
          exact Nat.ne_of_lt (Nat.lt_succ_of_lt hb) e1
    · match r₂, hr₂ with
      | .error e, hr₂ => exact hr₂
      | .ok .next, hr₂ => exact hr₂.elim
      | .ok .brk, hr₂ => exact hr₂.elim
      | .ok .cont, hr₂ => exact hr₂.elim
      | .ok (.ret r), hr₂ =>
        obtain ⟨rfl, h', tk, rfl, hS', hk'⟩ := hr₂
        repeat (any_goals (first | assumption | wp_step))
        exact h _ _ hS' hk'
end
section
variable {X : Cx}
/-- set(xs), xs a list of ints and texts -/
def rSetOf (K : PySem.W.Frag) (P : Program) (w : World) : List V → Hp → VK → Prop := fun vs H Q => ∃ (a : Addr) (ks : List Key), vs = [.ref a] ∧ SqL K H a (ks.map kV) ∧ ks.length + 1 < scanBound ∧ ∀ p, H p = none → Q (.ref p) (upd H p (SetL P w p (allL ks)))
theorem cr_setOf (hc : X.calm = true) : CallR X (.type "set") (rSetOf X.K X.prog X.w) := by
  intro pins s σ H vs us Q I r h
  obtain ⟨a, ks, rfl, hs, room, q⟩ := h
  rw [Vals.ref1 r]
  obtain ⟨its, rv, pl, hz⟩ := I.list hs
  have hk : ∀ {ks : List Key} {its : List Value}, Vals (ks.map kV) its → Paired (fun k v => (mixKind X.prog X.w).is k v = true ∧ v.scannable = true) ks its := by
    intro ks
    induction ks with
    | nil => intro its hp; cases hp; exact .nil
    | cons k ks ih =>
      intro its hp
      cases hp with
      | cons r t => exact .cons (key_rel r X.prog X.w) (ih t)
  refine set_call (I.ok.hd hc) pl.isList (hk rv) room fun h' tk R k => ?_
  have J : Inv X pins σ (upd H s.heap.objs.size (SetL X.prog X.w s.heap.objs.size (allL ks))) { s with heap := h', toks := tk } :=
    I.laid (t' := tk) (fun b o e => k b o (Heap.lt_size e) e) (Nat.le_refl _) R.new
  exact ⟨.ref _, _, J, rfl, q _ (I.hok.fresh (Nat.le_refl _))⟩
end
end KnS

set_option Elab.async false
set_option linter.all false
set_option maxRecDepth 100000
set_option maxHeartbeats 4000000
/-! What is walked may be a list or a tuple: the for loop over it, and over enumerate of it. -/
namespace KnE
open PySem PySem.Spec PyProof.Rows L2
/-- a list (true) or a tuple (false) -/
def Sq (K : PySem.W.Frag) (b : Bool) (H : Hp) (a : Addr) (xs : List V) : Prop := match b with | true => SqL K H a xs | false => SqT K H a xs
def ItS (K : PySem.W.Frag) (b : Bool) (a : Addr) : It := match b with | true => Itl K a | false => Itt K a
def iSeq (K : PySem.W.Frag) (te : TE) : TI := fun σ H R => te σ H fun x H1 => ∃ a b, x = .ref a ∧ (∃ xs, Sq K b H1 a xs) ∧ R (ItS K b a) H1
section
variable {X : Cx} {tg : Expr}
theorem pi_seq {e : Expr} {te : TE} (he : PE X e te) : PI X tg e (iSeq X.K te) := by
  refine ⟨fun pins s σ H R I h => thn (he.run pins s σ H _ I h) fun v s1 ⟨x, H1, I1, r1, a, b, ex, ⟨xs, hq⟩, q⟩ => ?_⟩
  subst ex
  cases r1
  cases b with
  | true =>
    obtain ⟨its, rv, p, hz⟩ := I1.list hq
    exact wpAny_pyIter_list p.isList (pi_one (tk := s1.toks) I1 _ (turn_list a _) ⟨_, Heap.get?_push_size _ rfl, rfl, rfl⟩ q)
  | false =>
    obtain ⟨its, rv, p, hz⟩ := I1.tuple hq
    exact wpAny_pyIter_tuple (show s1.heap.IsTuple a its.toArray from p) (pi_one (tk := s1.toks) I1 _ (turn_tuple a _) ⟨_, Heap.get?_push_size _ rfl, rfl, rfl⟩ q)
end
theorem Sq.inj {X : Cx} {pins : List (Addr × Obj)} {σ : L2.St} {H : Hp} {s : Shared} {b : Bool} {a : Addr} {xs ys : List V} (I : Inv X pins σ H s) (h : Sq X.K b H a xs) (h' : Sq X.K b H a ys) : xs = ys := by
  cases b with
  | true => exact I.list_inj h h'
  | false => exact I.tuple_inj h h'
/-- the for loop over a list or tuple that the body leaves as it is -/
theorem for_seq {K : PySem.W.Frag} {b : Bool} {a : Addr} {xs : List V} {g : TG} {tb : TS} {D : Ends} {σ : L2.St} {H : Hp} (Pv : Nat → L2.St → Hp → Prop) (h0 : Pv 0 σ H) (hl : ∀ i σ H, i ≤ xs.length → Pv i σ H → Sq K b H a xs)
    (hs : ∀ i x σ H, xs[i]? = some x → Pv i σ H → g x σ H fun σ2 H2 => tb { D with nx := Pv (i + 1), ct := Pv (i + 1), bk := D.nx } σ2 H2) (hd : ∀ σ H, Pv xs.length σ H → D.nx σ H) :
    ∃ W : Nat → Nat → L2.St → Hp → Prop, (∃ m, W 0 m σ H) ∧ ∀ i m σ H, W i m σ H →
      ((ItS K b a).stop i H ∧ D.nx σ H) ∨ ((ItS K b a).go i H ∧ ∃ N : L2.St → Hp → Prop, (∀ σ' H', N σ' H' → ∃ m', m' < m ∧ W (i + 1) m' σ' H') ∧
        ∀ x H', (ItS K b a).yld i H x H' → g x σ H' fun σ2 H2 => tb { D with nx := N, ct := N, bk := D.nx } σ2 H2) := by
  cases b with
  | true => exact for_list (K := K) (a := a) (xs := xs) Pv h0 hl hs hd
  | false => exact for_tup (K := K) (a := a) (xs := xs) Pv h0 hl hs hd
/-! ### enumerate -/
def Liv (b : Bool) (h : Heap) (a : Addr) (its : List Value) : Prop := match b with | true => h.IsList a its.toArray | false => h.IsTuple a its.toArray
def iterAt (b : Bool) (h : Heap) (it a : Addr) (i : Nat) : Prop := match b with | true => h.IsListIter it a i | false => h.IsTupleIter it a i
/-- (0, x0), (1, x1), .., each a new tuple -/
def ItN (K : PySem.W.Frag) (b : Bool) (a : Addr) : It where
  go := fun i H => ∃ (xs : List V) (x : V), Sq K b H a xs ∧ xs[i]? = some x
  yld := fun i H v H' => ∃ T x, v = .ref T ∧ H T = none ∧ H' = upd H T (.tup [.int (i : Nat), x]) ∧ ∀ xs, Sq K b H a xs → xs[i]? = some x
  stop := fun i H => ∃ xs : List V, Sq K b H a xs ∧ xs.length = i
theorem iterAt.mono {b : Bool} {h h' : Heap} {it a : Addr} {i : Nat} (x : iterAt b h it a i) (k : ∀ o, h.get? it = some o → h'.get? it = some o) : iterAt b h' it a i := by
  cases b with
  | true => exact Heap.IsListIter.at x k
  | false => exact Heap.IsTupleIter.at x k
theorem iterAt.plain {b : Bool} {h : Heap} {it a : Addr} {i : Nat} (x : iterAt b h it a i) : ∃ o, h.get? it = some o ∧ ∀ v, o.data ≠ .cell v := by
  cases b with
  | true => obtain ⟨o, e, _, d⟩ := x; exact ⟨o, e, fun v z => by rw [d] at z; cases z⟩
  | false => obtain ⟨o, e, _, d⟩ := x; exact ⟨o, e, fun v z => by rw [d] at z; cases z⟩
section
variable {P : Program} {w : World} {A : Around} {E : Value → Shared → Prop} {s : Shared}
/-- one more of an enumeration, of either kind -/
theorem enum_item {b : Bool} {e it a : Addr} {i : Nat} {its : List Value} {u old : Value} {Q : Option Value → Shared → Prop} (hh : A.handled = none) (he : IsEnum s.heap e it i old) (hit : iterAt b s.heap it a i)
    (hp : Liv b s.heap a its) (hu : its[i]? = some u) (hne : e ≠ it) (hae : a ≠ e) (hai : a ≠ it)
    (hQ : ∀ h' tk, IsEnumOut h' e it ((i : Int) + 1) u s.heap.objs.size → iterAt b h' it a (i + 1) → h'.get? s.heap.objs.size = some { cls := .type "tuple", data := .seq #[.int i tk, u] } →
      (∀ b o, b ≠ e → b ≠ it → s.heap.get? b = some o → h'.get? b = some o) → Q (some (.ref s.heap.objs.size)) { s with heap := h', toks := tk + 1 }) : wpAny (model P w) A (pyNext (.ref e)) Q E s := by
  have hlt : i < its.toArray.size := by
    rw [List.size_toArray]
    exact (List.getElem?_eq_some_iff.mp hu).1
  have hef : e ∉ [it, a] := fun z => by
    rcases List.mem_cons.mp z with z | z
    · exact hne z
    · exact hae (List.mem_singleton.mp z).symm
  have same : ∀ {x : Value}, its.toArray[i]? = some x → x = u := fun {x} z => by
    rw [List.getElem?_toArray, hu] at z
    exact (Option.some.inj z).symm
  cases b with
  | true =>
    refine wpAny_pyNext_enum_itemD (Draws.list (A := A.in1) hh it a hai its.toArray) he ⟨hit, hp⟩ hlt hne hef fun x h' tk hP ho hs' hT hsz hk => ?_
    rw [same hP] at ho hT
    exact hQ h' tk ho hs'.1 hT hk
  | false =>
    refine wpAny_pyNext_enum_itemD (Draws.tuple (A := A.in1) hh it a hai its.toArray) he ⟨hit, hp⟩ hlt hne hef fun x h' tk hP ho hs' hT hsz hk => ?_
    rw [same hP] at ho hT
    exact hQ h' tk ho hs'.1 hT hk
theorem enum_end {b : Bool} {e it a : Addr} {i : Nat} {its : List Value} {old : Value} {Q : Option Value → Shared → Prop} (hh : A.handled = none) (he : IsEnum s.heap e it i old) (hit : iterAt b s.heap it a i)
    (hp : Liv b s.heap a its) (hi : i = its.length) (hai : a ≠ it)
    (hQ : ∀ h', Heap.ExtBut it s.heap h' → Q none { s with heap := h' }) : wpAny (model P w) A (pyNext (.ref e)) Q E s := by
  subst hi
  have z : its.toArray.size = its.length := List.size_toArray
  cases b with
  | true => exact wpAny_pyNext_enum_endD (Draws.list (A := A.in1) hh it a hai its.toArray) he ⟨z ▸ hit, hp⟩ hQ
  | false => exact wpAny_pyNext_enum_endD (Draws.tuple (A := A.in1) hh it a hai its.toArray) he ⟨z ▸ hit, hp⟩ hQ
end
theorem sq_lives {X : Cx} {pins : List (Addr × Obj)} {σ : L2.St} {H : Hp} {s : Shared} {b : Bool} {a : Addr} {xs : List V} (I : Inv X pins σ H s) (h : Sq X.K b H a xs) :
    ∃ its : List Value, Vals xs its ∧ Liv b s.heap a its := by
  cases b with
  | true => obtain ⟨its, rv, p, _⟩ := I.list h; exact ⟨its, rv, p.isList⟩
  | false => obtain ⟨its, rv, p, _⟩ := I.tuple h; exact ⟨its, rv, p⟩
theorem lives_ne {b : Bool} {h : Heap} {a : Addr} {its : List Value} {e : Addr} {o : Obj} {n : String} (p : Liv b h a its) (he : h.get? e = some o) (hc : o.cls = .type n) (n1 : n ≠ "list") (n2 : n ≠ "tuple") : a ≠ e := by
  rintro rfl
  cases b with
  | true => obtain ⟨o', e', c', _⟩ := p; rw [he] at e'; cases e'; rw [hc] at c'; cases c'; exact n1 rfl
  | false => obtain ⟨o', e', c', _⟩ := p; rw [he] at e'; cases e'; rw [hc] at c'; cases c'; exact n2 rfl
theorem iterAt.cls {b : Bool} {h : Heap} {it a : Addr} {i : Nat} (x : iterAt b h it a i) : ∃ o n, h.get? it = some o ∧ o.cls = .type n ∧ n ≠ "list" ∧ n ≠ "tuple" := by
  cases b with
  | true => obtain ⟨o, e, c, _⟩ := x; exact ⟨o, _, e, c, by decide, by decide⟩
  | false => obtain ⟨o, e, c, _⟩ := x; exact ⟨o, _, e, c, by decide, by decide⟩
theorem turn_en {P : Program} {w : World} {K : PySem.W.Frag} {elts : List Expr} {kk : Nat} {tpos : Pos} (b : Bool) (a e it : Addr) :
    Turn P w K (.Tuple elts kk tpos) (ItN K b a) [e, it] e (fun i h => (∃ old, IsEnum h e it ((i : Nat) : Int) old) ∧ iterAt b h it a i ∧ e ≠ it) where
  mem := List.mem_cons_self
  obj := fun i h ⟨⟨old, he⟩, hi, _⟩ c hc => by
    rcases List.mem_cons.mp hc with z | z
    · rw [z]; exact ⟨_, he, fun v q => nomatch q⟩
    · rw [List.mem_singleton.mp z]; exact hi.plain
  keep := fun i h h' ⟨⟨old, he⟩, hi, hne⟩ k => ⟨⟨old, k e List.mem_cons_self _ he⟩, hi.mono fun o q => k it (List.mem_cons_of_mem _ List.mem_cons_self) o q, hne⟩
  self := fun A i s Q E ⟨⟨_, he⟩, _⟩ h => wpAny_pyIter_enum he h
  done := by
    intro X hP hw hK hc i pins s σ H E I hf ⟨⟨old, he⟩, hit, hne⟩ ⟨xs, hq, hx⟩
    subst hP hw hK
    obtain ⟨its, rv, p⟩ := sq_lives I hq
    obtain ⟨oi, ni, hoi, ci, ni1, ni2⟩ := hit.cls
    obtain ⟨f0, f1, f2, f3, f4, f5⟩ := hf it (List.mem_cons_of_mem _ List.mem_cons_self)
    refine enum_end (I.ok.hd hc) he hit p (hx.symm.trans rv.length) (lives_ne p hoi ci ni1 ni2) fun h' eb => ?_
    exact ⟨rfl, I.turned (t' := s.toks) (fun c o hb q => eb c o hb q) f0 f1 f3 f4 f5⟩
  item := by
    intro X hP hw hK hc i pins s σ H E I hf ⟨⟨old, he⟩, hit, hne⟩ ⟨xs, x, hq, hx⟩
    subst hP hw hK
    obtain ⟨its, rv, p⟩ := sq_lives I hq
    obtain ⟨u, hu, ru⟩ := rv.get hx
    have he0 := he
    have hel : e < s.heap.objs.size := Heap.lt_size he
    obtain ⟨oi, ni, hoi, ci, ni1, ni2⟩ := hit.cls
    have hil : it < s.heap.objs.size := Heap.lt_size hoi
    refine enum_item (I.ok.hd hc) he hit p hu hne (lives_ne p he0 rfl (by decide) (by decide)) (lives_ne p hoi ci ni1 ni2) fun h' tk ho hit' hT hk => ?_
    refine ⟨_, rfl, wpAny_letOwnedTupleGo_enum (s := { s with heap := h', toks := tk + 1 }) ho fun h'' he' sb => ?_⟩
    have hT2 := (sb.2 s.heap.objs.size (Nat.ne_of_gt hel)).trans hT
    have I1 : Inv X pins σ (upd H s.heap.objs.size (.tup [.int (i : Nat), x])) { s with heap := h'', toks := tk + 1 } :=
      I.turnedNew (ch := [e, it]) (fun c ob hb q => (sb.2 c fun z => hb (z ▸ List.mem_cons_self)).trans (hk c ob (fun z => hb (z ▸ List.mem_cons_self)) (fun z => hb (z ▸ List.mem_cons_of_mem _ List.mem_cons_self)) q)) hf (Nat.le_refl _)
        (show ObjOk X.prog X.w _ h'' _ (.tup [.int (i : Nat), x]) from ⟨by show 2 ≤ sizeLine; decide, [.int i tk, u], .cons ⟨_, rfl⟩ (.cons ru .nil), _, hT2, rfl, _, rfl⟩)
    refine ⟨.ref s.heap.objs.size, _, I1, rfl, ⟨_, x, rfl, I.hok.fresh (Nat.le_refl _), rfl, fun ys hy => by rw [hy.inj I hq]; exact hx⟩, ⟨⟨u, ?_⟩, hit'.mono fun o q => (sb.2 it hne.symm).trans q, hne⟩, fun c hcm => ?_⟩
    · have e1 : ((i + 1 : Nat) : Int) = (i : Int) + 1 := by omega
      rw [e1]
      exact he'
    · rcases List.mem_cons.mp hcm with z | z
      · rw [z, upd_ne (Nat.ne_of_lt hel)]
        exact (hf e List.mem_cons_self).1
      · rw [List.mem_singleton.mp z, upd_ne (Nat.ne_of_lt hil)]
        exact (hf it (List.mem_cons_of_mem _ List.mem_cons_self)).1

/-! ### enumerate(v), its making -/
set_option maxHeartbeats 1000000 in
theorem new_enum {v : Value} {o : Obj} {Hv : Heap → Prop} (B : Begins v o Hv) : Meets (Builtin.«enumerate.__new__» ⟨[.type "enumerate", v], []⟩) (fun _ R s => Hv s.heap ∧
      R (.ok (.ret (.ref (s.heap.push o).objs.size))) { s with heap := (s.heap.push o).push { cls := .type "enumerate", data := .fields #[.none, .bool false, .ref s.heap.objs.size, rawInt 0, .none, .none] } }) :=
  .of_wp fun prog w A R s ⟨h1, h⟩ => by
    obtain ⟨hp, g, d, tk, os⟩ := s
    have hsub := sub_enumerate
    have q1 : ∀ {A' : Around} {E : Value → Shared → Prop} {Q : Value → Shared → Prop}, Q (.ref hp.objs.size) ⟨hp.push o, g, d, tk, os⟩ → wpAny (model prog w) A' (pyIter v) Q E ⟨hp, g, d, tk, os⟩ := B.iter prog w _ _ ⟨hp, g, d, tk, os⟩ _ h1
    wp_walk using q1
    refine wpAny_stack_any fun st => wpAny_pure ?_
    split
    · rename_i c _ _ _ _ _
      cases (c == Value.type "enumerate") <;> (wp_walk using q1; exact ⟨_, rfl, h⟩)
    · wp_walk using q1
      exact ⟨_, rfl, h⟩
section
variable {P : Program} {w : World} {A : Around} {E : Value → Shared → Prop} {s : Shared}
theorem enum_made {v : Value} {o : Obj} {Hv : Heap → Prop} {Q : Value → Shared → Prop} (B : Begins v o Hv) (h1 : Hv s.heap)
    (h : ∀ h', IsEnum h' (s.heap.objs.size + 1) s.heap.objs.size 0 .none → h'.get? s.heap.objs.size = some o → (∀ b o, s.heap.get? b = some o → h'.get? b = some o) → Q (.ref (s.heap.objs.size + 1)) { s with heap := h' }) :
    wpAny (model P w) A (call (.type "enumerate") [v]) Q E s := by
  refine callType_new F.called_enumerate (by decide) (F.typeCall_enumerate_1 _) (F.newCall_enumerate_1 _) (fun obj => F.args_object_init_2 obj _) F.entry_enumerate_new (new_enum B) ⟨h1, ?_⟩
  have hz : (s.heap.push o).objs.size = s.heap.objs.size + 1 := Heap.size_push ..
  have he := Heap.get?_push_size (s.heap.push o) (o := { cls := .type "enumerate", data := .fields #[.none, .bool false, .ref s.heap.objs.size, rawInt 0, .none, .none] }) rfl
  show _ ∧ _
  rw [hz] at he ⊢
  exact ⟨⟨_, he, rfl⟩, h _ he (Heap.get?_push_of_some _ (Heap.get?_push_size _ B.free)) fun b o x => Heap.get?_push_of_some _ (Heap.get?_push_of_some _ x)⟩
end
def iEnS (K : PySem.W.Frag) (ta : TA) : TI := fun σ H R => ta σ H fun vs H1 => ∃ a b xs, vs = [.ref a] ∧ Sq K b H1 a xs ∧ R (ItN K b a) H1
theorem pi_en {X : Cx} {e : Expr} {ta : TA} {p pos tpos : Pos} {elts : List Expr} {kk : Nat} (hg : Gl X "enumerate") (hm : X.mg "enumerate" = none) (ha : PA X [e] ta) (hs : starEach [e] X.env = [(false, eval e X.env)] := by rfl) :
    PI X (.Tuple elts kk tpos) (.Call (.Name "enumerate" p) [e] [] pos) (iEnS X.K ta) := by
  refine ⟨fun pins s σ H R I h => Call_ (ld_blt I hg hm boot_enumerate (PyProof.Rows.callWith_type1 (thn (ha.run pos pins s σ H _ I h) fun us s1 ⟨vs, H1, I1, r1, a, b, xs, ex, hq, q⟩ => ?_) hs rfl))⟩
  subst ex
  cases r1 with
  | cons r rr =>
    cases rr
    cases r
    obtain ⟨its, rv, p'⟩ := sq_lives I1 hq
    have fin : ∀ (h' : Heap), IsEnum h' (s1.heap.objs.size + 1) s1.heap.objs.size 0 .none → iterAt b h' s1.heap.objs.size a 0 → (∀ c o, s1.heap.get? c = some o → h'.get? c = some o) →
        wpAny (model X.prog X.w) X.A (pyIter (.ref (s1.heap.objs.size + 1))) (PIE X pins σ (.Tuple elts kk tpos) R) X.xe { s1 with heap := h' } := fun h' he hit hk => by
      refine wpAny_pyIter_enum (s := { s1 with heap := h' }) he ⟨s1.heap.objs.size + 1, [s1.heap.objs.size + 1, s1.heap.objs.size], _, _, H1, rfl, I1.kept (t' := s1.toks) hk, turn_en b a (s1.heap.objs.size + 1) s1.heap.objs.size, ⟨⟨.none, he⟩, hit, Nat.succ_ne_self _⟩, fun c hc => ?_, q⟩
      have hle : s1.heap.objs.size ≤ c := by
        rcases List.mem_cons.mp hc with z | z
        · rw [z]; exact Nat.le_add_right _ _
        · rw [List.mem_singleton.mp z]; exact Nat.le_refl _
      exact I1.fpOk hle (I1.hok.fresh hle)
    cases b with
    | true => exact enum_made (begins_list a its.toArray) p' fun h' he ho hk => fin h' he ⟨_, ho, rfl, rfl⟩ hk
    | false => exact enum_made (begins_tuple a its.toArray) p' fun h' he ho hk => fin h' he ⟨_, ho, rfl, rfl⟩ hk
theorem for_en {K : PySem.W.Frag} {b : Bool} {a : Addr} {xs : List V} {g : TG} {tb : TS} {D : Ends} {σ : L2.St} {H : Hp} (Pv : Nat → L2.St → Hp → Prop) (h0 : Pv 0 σ H) (hl : ∀ i σ H, i ≤ xs.length → Pv i σ H → Sq K b H a xs)
    (hs : ∀ (i : Nat) (x : V) (T : Addr) (σ : L2.St) (H : Hp), xs[i]? = some x → H T = none → Pv i σ H → g (.ref T) σ (upd H T (.tup [.int (i : Nat), x])) fun σ2 H2 => tb { D with nx := Pv (i + 1), ct := Pv (i + 1), bk := D.nx } σ2 H2) (hd : ∀ σ H, Pv xs.length σ H → D.nx σ H) :
    ∃ W : Nat → Nat → L2.St → Hp → Prop, (∃ m, W 0 m σ H) ∧ ∀ i m σ H, W i m σ H →
      ((ItN K b a).stop i H ∧ D.nx σ H) ∨ ((ItN K b a).go i H ∧ ∃ N : L2.St → Hp → Prop, (∀ σ' H', N σ' H' → ∃ m', m' < m ∧ W (i + 1) m' σ' H') ∧
        ∀ x H', (ItN K b a).yld i H x H' → g x σ H' fun σ2 H2 => tb { D with nx := N, ct := N, bk := D.nx } σ2 H2) := by
  refine ⟨fun i m σ H => m = xs.length - i ∧ i ≤ xs.length ∧ Pv i σ H, ⟨xs.length, rfl, Nat.zero_le _, h0⟩, fun i m σ H ⟨em, hi, p⟩ => ?_⟩
  have q := hl i σ H hi p
  rcases Nat.lt_or_eq_of_le hi with lt | e
  · refine .inr ⟨⟨xs, xs[i], q, List.getElem?_eq_getElem lt⟩, Pv (i + 1), fun σ' H' p' => ⟨xs.length - (i + 1), by omega, rfl, lt, p'⟩, fun v H' ⟨T, x, ev, nT, eH, at_⟩ => ?_⟩
    subst ev eH
    exact hs i x T σ H (at_ xs q) nT p
  · subst e
    exact .inl ⟨⟨xs, q, rfl⟩, hd σ H p⟩
end KnE

set_option Elab.async false
set_option linter.all false
set_option maxRecDepth 100000
set_option maxHeartbeats 4000000
/-! What a walk of a comprehension asks: into a set over a list or a tuple, into a dict over a list. -/
namespace KnC
open PySem PySem.Spec PyProof.Rows L2
theorem sc_seq {P : Program} {w : World} {K : PySem.W.Frag} {b : Bool} {a : Addr} {xs : List V} {g : TG} {tt : TT} {te : TE} {vs : List Nat} {σ : L2.St} {H1 : Hp} {D : Addr} {Qd : Hp → Prop} (Pv : Nat → Hp → Prop) (h0 : Pv 0 (upd H1 D (KnS.SetL P w D []))) (hl : ∀ i H, i ≤ xs.length → Pv i H → KnE.Sq K b H a xs)
    (hs : ∀ i x H, xs[i]? = some x → Pv i H → g x (wipe σ vs) H fun σ2 H2 => wipe σ2 vs = wipe σ vs ∧ tt σ2 H2 fun c H3 =>
      if c = true then te σ2 H3 fun y H4 => ∃ (k : Key) (ks : List Key), y = kV k ∧ H4 D = some (KnS.SetL P w D ks) ∧ ks.length + 1 < scanBound ∧ Pv (i + 1) (upd H4 D (KnS.SetL P w D (KnS.addL ks k))) else Pv (i + 1) H3) (hd : ∀ H, Pv xs.length H → Qd H) :
    ∃ W : Nat → Nat → Hp → Prop, (∃ m, W 0 m (upd H1 D (KnS.SetL P w D []))) ∧ ∀ i m H, W i m H → ((KnE.ItS K b a).stop i H ∧ Qd H) ∨
      ((KnE.ItS K b a).go i H ∧ ∃ Nx : Hp → Prop, (∀ H', Nx H' → ∃ m', m' < m ∧ W (i + 1) m' H') ∧ ∀ x H', (KnE.ItS K b a).yld i H x H' → g x (wipe σ vs) H' fun σ2 H2 => wipe σ2 vs = wipe σ vs ∧ tt σ2 H2 fun c H3 =>
        if c = true then te σ2 H3 fun y H4 => ∃ (k : Key) (ks : List Key), y = kV k ∧ H4 D = some (KnS.SetL P w D ks) ∧ ks.length + 1 < scanBound ∧ Nx (upd H4 D (KnS.SetL P w D (KnS.addL ks k))) else Nx H3) := by
  refine ⟨fun i m H => m = xs.length - i ∧ i ≤ xs.length ∧ Pv i H, ⟨xs.length, by simp, Nat.zero_le _, h0⟩, ?_⟩
  rintro i m H ⟨rfl, hi, p⟩
  have q := hl i H hi p
  cases b with
  | true =>
    by_cases hlt : i < xs.length
    · refine .inr ⟨⟨xs, xs[i], q, by simp [hlt]⟩, Pv (i + 1), fun H' p' => ⟨xs.length - (i + 1), by omega, rfl, hlt, p'⟩, fun x H' y => ?_⟩
      obtain ⟨e, y⟩ := y
      subst e
      exact hs i x _ (y xs q) p
    · have e : i = xs.length := by omega
      subst e
      exact .inl ⟨⟨xs, q, Nat.le_refl _⟩, hd H p⟩
  | false =>
    by_cases hlt : i < xs.length
    · refine .inr ⟨⟨xs, xs[i], q, by simp [hlt]⟩, Pv (i + 1), fun H' p' => ⟨xs.length - (i + 1), by omega, rfl, hlt, p'⟩, fun x H' y => ?_⟩
      obtain ⟨e, y⟩ := y
      subst e
      exact hs i x _ (y xs q) p
    · have e : i = xs.length := by omega
      subst e
      exact .inl ⟨⟨xs, q, Nat.le_refl _⟩, hd H p⟩
theorem dc_list {K : PySem.W.Frag} {a : Addr} {xs : List V} {g : TG} {tt : TT} {tk tv : TE} {vs : List Nat} {σ : L2.St} {H1 : Hp} {D : Addr} {Qd : Hp → Prop} (Pv : Nat → Hp → Prop) (h0 : Pv 0 (upd H1 D (.dK []))) (hl : ∀ i H, i ≤ xs.length → Pv i H → SqL K H a xs)
    (hs : ∀ i x H, xs[i]? = some x → Pv i H → g x (wipe σ vs) H fun σ2 H2 => wipe σ2 vs = wipe σ vs ∧ tt σ2 H2 fun b H3 =>
      if b = true then tk σ2 H3 fun y H4 => tv σ2 H4 fun z H5 => ∃ kvs k, y = kV k ∧ H5 D = some (.dK kvs) ∧ kvs.length < sizeLine ∧ Pv (i + 1) (upd H5 D (.dK (putK kvs k z))) else Pv (i + 1) H3) (hd : ∀ H, Pv xs.length H → Qd H) :
    ∃ W : Nat → Nat → Hp → Prop, (∃ m, W 0 m (upd H1 D (.dK []))) ∧ ∀ i m H, W i m H →
      ((Itl K a).stop i H ∧ Qd H) ∨ ((Itl K a).go i H ∧ ∃ Nx : Hp → Prop, (∀ H', Nx H' → ∃ m', m' < m ∧ W (i + 1) m' H') ∧ ∀ x H', (Itl K a).yld i H x H' → g x (wipe σ vs) H' fun σ2 H2 => wipe σ2 vs = wipe σ vs ∧ tt σ2 H2 fun b H3 =>
        if b = true then tk σ2 H3 fun y H4 => tv σ2 H4 fun z H5 => ∃ kvs k, y = kV k ∧ H5 D = some (.dK kvs) ∧ kvs.length < sizeLine ∧ Nx (upd H5 D (.dK (putK kvs k z))) else Nx H3) := by
  refine ⟨fun i m H => m = xs.length - i ∧ i ≤ xs.length ∧ Pv i H, ⟨xs.length, by simp, Nat.zero_le _, h0⟩, ?_⟩
  rintro i m H ⟨rfl, hi, p⟩
  have q := hl i H hi p
  by_cases hlt : i < xs.length
  · refine .inr ⟨⟨xs, xs[i], q, by simp [hlt]⟩, Pv (i + 1), fun H' p' => ⟨xs.length - (i + 1), by omega, rfl, hlt, p'⟩, fun x H' y => ?_⟩
    obtain ⟨e, y⟩ := y
    subst e
    exact hs i x _ (y xs q) p
  · have e : i = xs.length := by omega
    subst e
    exact .inl ⟨⟨xs, q, Nat.le_refl _⟩, hd H p⟩
/-- a list comprehension over a dict's keys -/
theorem lc_keys {d : Addr} {o : Obj} {kvs : List (Key × V)} {g : TG} {tt : TT} {te : TE} {vs : List Nat} {σ : L2.St} {H1 : Hp} {D : Addr} {Qd : Hp → Prop} (Pv : Nat → Hp → Prop) (h0 : Pv 0 (upd H1 D (.lst []))) (hl : ∀ i H, i ≤ kvs.length → Pv i H → H d = some (.frz o (.dK kvs)))
    (hs : ∀ i k v H, kvs[i]? = some (k, v) → Pv i H → g (kV k) (wipe σ vs) H fun σ2 H2 => wipe σ2 vs = wipe σ vs ∧ tt σ2 H2 fun b H3 =>
      if b = true then te σ2 H3 fun y H4 => ∃ acc, H4 D = some (.lst acc) ∧ acc.length < sizeLine ∧ Pv (i + 1) (upd H4 D (.lst (acc ++ [y]))) else Pv (i + 1) H3) (hd : ∀ H, Pv kvs.length H → Qd H) :
    ∃ W : Nat → Nat → Hp → Prop, (∃ m, W 0 m (upd H1 D (.lst []))) ∧ ∀ i m H, W i m H →
      ((Itk d o kvs).stop i H ∧ Qd H) ∨ ((Itk d o kvs).go i H ∧ ∃ Nx : Hp → Prop, (∀ H', Nx H' → ∃ m', m' < m ∧ W (i + 1) m' H') ∧ ∀ x H', (Itk d o kvs).yld i H x H' → g x (wipe σ vs) H' fun σ2 H2 => wipe σ2 vs = wipe σ vs ∧ tt σ2 H2 fun b H3 =>
        if b = true then te σ2 H3 fun y H4 => ∃ acc, H4 D = some (.lst acc) ∧ acc.length < sizeLine ∧ Nx (upd H4 D (.lst (acc ++ [y]))) else Nx H3) := by
  refine ⟨fun i m H => m = kvs.length - i ∧ i ≤ kvs.length ∧ Pv i H, ⟨kvs.length, by simp, Nat.zero_le _, h0⟩, ?_⟩
  rintro i m H ⟨rfl, hi, p⟩
  have q := hl i H hi p
  by_cases hlt : i < kvs.length
  · refine .inr ⟨⟨q, hlt⟩, Pv (i + 1), fun H' p' => ⟨kvs.length - (i + 1), by omega, rfl, hlt, p'⟩, fun x H' y => ?_⟩
    obtain ⟨e, k, v, ek, ex⟩ := y
    subst e ex
    exact hs i k v _ ek p
  · have e : i = kvs.length := by omega
    subst e
    exact .inl ⟨⟨q, Nat.le_refl _⟩, hd H p⟩
/-- texts as keys -/
theorem addL_strs {xs : List Str} {x : Str} : KnS.addL (xs.map Sum.inr) (Sum.inr x) = ((if x ∈ xs then xs else xs ++ [x]).map Sum.inr : List Key) := by
  unfold KnS.addL
  by_cases z : x ∈ xs
  · rw [if_pos z, if_pos (KnS.hasL_iff.mpr (List.mem_map.mpr ⟨x, z, rfl⟩))]
  · rw [if_neg z, if_neg (fun q => z (by obtain ⟨y, hy, e⟩ := List.mem_map.mp (KnS.hasL_iff.mp q); cases e; exact hy)), List.map_append]; rfl
/-- a list or a tuple by a place -/
def rIx (K : PySem.W.Frag) : R2 := fun x y H Q => rIxL K x y H Q ∨ rIxT K x y H Q
theorem ix_seq {X : Cx} {K : PySem.W.Frag} (h1 : IxR X (rIxL K)) (h2 : IxR X (rIxT K)) : IxR X (rIx K) := by
  intro value slice pins s σ H x y v u Q I rx ry h hs
  rcases h with h | h
  · exact h1 value slice pins s σ H x y v u Q I rx ry h hs
  · exact h2 value slice pins s σ H x y v u Q I rx ry h hs
/-- a branch, and what comes behind both its ways -/
theorem if_then {c : TT} {t u b : TS} {D : Ends} {σ : L2.St} {H : Hp} (T : L2.St → Hp → Prop) (h : (∀ σ2 H2, T σ2 H2 → b D σ2 H2) → tSeq (tIfS c t u) b D σ H) (k : ∀ σ2 H2, T σ2 H2 → b D σ2 H2) : tSeq (tIfS c t u) b D σ H := h k
theorem asg_if {i : Nat} {x : V} {c : TT} {t u b : TS} {D : Ends} {ra : VK} {rb rc : L2.St → Hp → Prop} {σ : L2.St} {H : Hp} (T : L2.St → Hp → Prop) (h : (∀ σ2 H2, T σ2 H2 → b D σ2 H2) → tSeq (tIfS c t u) b D (σ.set i (some x)) H) (k : ∀ σ2 H2, T σ2 H2 → b D σ2 H2) : gName i x σ H (Ends.nx { nx := tSeq (tIfS c t u) b D, rt := ra, ct := rb, bk := rc }) := h k
theorem nx_if {c : TT} {t u b : TS} {D : Ends} {ra : VK} {rb rc : L2.St → Hp → Prop} {σ : L2.St} {H : Hp} (T : L2.St → Hp → Prop) (h : (∀ σ2 H2, T σ2 H2 → b D σ2 H2) → tSeq (tIfS c t u) b D σ H) (k : ∀ σ2 H2, T σ2 H2 → b D σ2 H2) : Ends.nx { nx := tSeq (tIfS c t u) b D, rt := ra, ct := rb, bk := rc } σ H := h k
theorem un65 {k : Nat} {A : Around} (r : Room k A) : A.units + 65 < cLine := by have := r.un; omega
end KnC

set_option Elab.async false
set_option linter.all false
set_option maxRecDepth 100000
set_option maxHeartbeats 4000000
/-! list(d.values()). -/
namespace KnM
open PySem PySem.Spec PyProof.Rows L2
def tListVals (td : TE) : TE := fun σ H Q => td σ H fun x H1 => ∃ d kvs, x = .ref d ∧ Rd H1 d (.dK kvs) ∧ ∀ p, H1 p = none → Q (.ref p) (upd H1 p (.lst (kvs.map (·.2))))
theorem vals_kv {kvs : List (Key × V)} {vs : List (Key × Value)} (r : KV kvs vs) : Vals (kvs.map (·.2)) (vs.map (·.2)) := by
  unfold KV at r
  induction r with
  | nil => exact .nil
  | cons h _ ih => exact .cons h.2 ih
section
variable {X : Cx} {e : Expr} {td : TE} {p pos apos cpos : Pos}
theorem pe_listVals (hc : X.calm = true) (hg : Gl X "list") (hm : X.mg "list" = none) (he : PE X e td) (hbase : attributeBase e "values" X.env (eval e X.env) = eval e X.env := by rfl) (hline : (apos.endLine == cpos.line) = true := by rfl)
    (hs : starEach [.Call (.Attribute e "values" apos) [] [] cpos] X.env = (false, eval (.Call (.Attribute e "values" apos) [] [] cpos) X.env) :: starEach [] X.env := by rfl) :
    PE X (.Call (.Name "list" p) [.Call (.Attribute e "values" apos) [] [] cpos] [] pos) (tListVals td) := by
  refine ⟨fun pins s σ H Q I h => Call_ (ld_blt I hg hm boot_list ?_)⟩
  refine PyProof.Rows.callWith_type1 (PyProof.Rows.args_cons ?_ hs) hs rfl
  refine wpAny_Call_method (T := "dict") (id := "dict.values") hbase rfl hline F.plainAttrs_dict F.slot_dict_values F.type_dict_values (thn (he.run pins s σ H _ I h) fun u s1 ⟨x, H1, I1, rx, d, kvs, ex, hd, q⟩ => ?_)
  subst ex
  obtain rfl : u = Value.ref d := rx
  obtain ⟨z, lo, vs, rel, dd⟩ := dk_rd I1.hok hd
  obtain ⟨ep, hat⟩ := dd.dictAt
  refine ⟨dd.typeIs, dd.mapOf.noDict, ?_⟩
  show wpAny _ _ (callWith cpos (.builtin "dict.values") [.ref d] [] []) _ X.xe s1
  refine method_meetsIn F.slot_dict_values F.entry_dict_values rfl (PySem.evalArgs_none ⟨rfl, dd.typeIs, F.args_dict_values_1 _, _, meets_dict_values (mixKind X.prog X.w) d lo, ⟨vs, dd⟩, ?_⟩)
  refine PyProof.Rows.args_nil ?_
  generalize hh : s1.heap.push { cls := .type "dict_values", data := .fields #[.ref d] } = h2
  have k2 : ∀ b o, s1.heap.get? b = some o → h2.get? b = some o := fun b o e => hh ▸ Heap.get?_push_of_some _ e
  have view : h2.IsValuesView s1.heap.objs.size d := by
    rw [← hh]
    exact ⟨_, Heap.get?_push_size _ rfl, rfl, rfl⟩
  have hat2 : h2.DictAt (mixKind X.prog X.w) d vs ep := hh ▸ hat.push _
  have I2 : Inv X pins σ H1 { s1 with heap := h2 } := I1.kept (t' := s1.toks) k2
  refine PySem.W.kdl_call (s := { s1 with heap := h2 }) (PySem.W.kdl_values (knd := mixKind X.prog X.w) (kvs := vs) (ep := ep) (r := s1.heap.objs.size)) (I1.ok.hd hc) ⟨view, hat2⟩ (by rw [← rel.length]; exact z) fun h' tk acc c' hk hD hacc => ?_
  have e1 : acc.toList = vs.map (·.2) := PySem.W.kdl_vals_eq _ (by rw [Array.length_toList]; exact hacc.1) fun j v e => hacc.2 j v (by rw [← Array.getElem?_toList]; exact e)
  refine ⟨.ref h2.objs.size, upd H1 h2.objs.size (.lst (kvs.map (·.2))), I2.laid (t' := tk) hk (Nat.le_refl _) (show ObjOk X.prog X.w _ _ _ (.lst (kvs.map (·.2))) from ⟨by rw [List.length_map]; exact z, acc.toList, c', by rw [e1]; exact vals_kv rel, by rw [Array.toArray_toList]; exact hD⟩), rfl, q _ (I2.hok.fresh (Nat.le_refl _))⟩
end
end KnM

set_option Elab.async false
set_option linter.all false
set_option maxRecDepth 100000
set_option maxHeartbeats 4000000
/-! A property by its promise. -/
namespace KnP
open PySem PySem.Spec PyProof.Rows L2
structure Prp (P : Program) (w : World) (K : PySem.W.Frag) (mg : Str → Option Value) (base : Heap) (k : Nat) (C : Addr) (f : Str) (sp : Sp) : Prop where
  ex : ∃ (p g : Addr) (fd : FuncData) (ps : List Str), PropOf K C f p g ∧ FnOk P w K mg base CX0 k g fd ps sp ∧ Binds K fd ps []
theorem pe_prp {X : Cx} {k j : Nat} {C : Addr} {f : Str} {sp : Sp} {e : Expr} {ta : TE} {pos : Pos} (cl : Cls X.K C) (c : Prp X.prog X.w X.K X.mg X.base k C f sp) (hr : Room j X.A) (hk : k + 1 ≤ j) (he : PE X e ta)
    (hab : attributeBase e f X.env (eval e X.env) = eval e X.env := by rfl) : PE X (.Attribute e f pos) (tProp C sp [] E0 ta) := by
  obtain ⟨p, g, fd, ps, hp, F, b⟩ := c.ex
  exact pe_prop he cl hp F (hr.mono hk) b .nil pass0 hab
end KnP

set_option Elab.async false
set_option linter.all false
set_option maxRecDepth 100000
set_option maxHeartbeats 4000000
/-! Own special methods by their promises. -/
namespace KnW
open PySem PySem.Spec PyProof.Rows L2
structure Own (P : Program) (w : World) (K : PySem.W.Frag) (mg : Str → Option Value) (base : Heap) (k : Nat) (C : Addr) (m : Str) (sp : Sp) : Prop where
  ex : ∃ (f : Addr) (fd : FuncData) (ps : List Str), PySem.W.findIn K (.ref C) m = some (some (.ref f)) ∧ PySem.W.isFn K (.ref f) = true ∧ PySem.W.fnIn K f = true ∧ FnOk P w K mg base CX0 k f fd ps sp ∧ Binds K fd ps []
section
variable {X : Cx} {k j : Nat} {C : Addr} {sp : Sp} {a b : Expr} {ta tb : TE} {pos : Pos}
/-- a def run one frame below -/
theorem run_in1 {CX : CXT} {f : Addr} {fd : FuncData} {ps : List Str} {E : XK} {pins : List (Addr × Obj)} {σ : L2.St} {H : Hp} {s : Shared} {Q : VK} {us : List Value} {vs : List V} (F : FnOk X.prog X.w X.K X.mg X.base CX k f fd ps sp) (hr : Room (k + 1) X.A) (hb : Binds X.K fd ps []) (hx : Passes CX X E)
    (I : Inv X pins σ H s) (r : Vals vs us) (h : sp vs H Q E) : wpAny (model X.prog X.w) X.A.in1 (call (.ref f) us) (EP X pins σ Q) X.xe s := by
  have hl : us.length = ps.length := by rw [← r.length]; exact F.len _ _ _ _ h
  have hb' := hb s us I.kIn (by simpa using hl)
  rw [List.append_nil] at hb'
  refine wpAny_call (codeAny_mono (F.run X.A.in1 X.stack s H ⟨us, []⟩ us vs Q E hr.in1 I.env0.in1 hb' r h) fun r s' hq => ?_)
  cases r with
  | error e => exact hx pins σ H s e s' I hq
  | ok fl =>
    cases fl with
    | ret u => exact I.after hq
    | next => exact False.elim hq
    | brk => exact False.elim hq
    | cont => exact False.elim hq
/-- o[i] by an own __getitem__ -/
def rOwn (C : Addr) (sp : Sp) : R2 := fun x y H Q => ∃ a dx fs, x = .ref a ∧ H a = some (.ins C dx fs) ∧ sp [.ref a, y] H Q E0
theorem pe_get (c : Own X.prog X.w X.K X.mg X.base k C "__getitem__" sp) (hr : Room j X.A) (hk : k + 1 ≤ j) (ha : PE X a ta) (hb : PE X b tb)
    (hs : ∀ v u, subscripted b true v u = runValue (.builtin "lifetime.subscript" ⟨[v, u], []⟩) := by exact fun _ _ => rfl) : PE X (.Subscript a b pos) (tOp (rOwn C sp) ta tb) := by
  obtain ⟨f, fd, ps, h1, h2, h3, F, bb⟩ := c.ex
  refine ⟨fun pins s σ H Q I h => ?_⟩
  refine Subscript_ (binT ha hb I h fun v u s2 x y H2 I2 rx ry q => ?_)
  obtain ⟨o, dx, fs, rfl, eo, q⟩ := q
  cases rx
  obtain ⟨mA, O, _⟩ := ins_get I2.hok eo
  obtain ⟨od, J, _⟩ := O.look
  obtain ⟨m, hF⟩ := I2.fr
  exact PySem.W.sub_K hF I2.ok.mod.kin J h1 h3 h2 (run_in1 (vs := [.ref o, y]) F (hr.mono hk) bb pass0 I2 (.cons rfl (.cons ry .nil)) q) (hs _ _)
/-- two instances of the class compared by its own __eq__, which answers a bool -/
def rOwnEq (C : Addr) (sp : Sp) : R2 := fun x y H Q => ∃ a b dx dy fs gs, x = .ref a ∧ y = .ref b ∧ H a = some (.ins C dx fs) ∧ H b = some (.ins C dy gs) ∧ sp [.ref a, .ref b] H (fun v H' => ∃ c, v = .bl c ∧ Q (.bl c) H') E0
theorem op_ownEq (c : Own X.prog X.w X.K X.mg X.base k C "__eq__" sp) (hr : Room j X.A) (hk : k ≤ j) : OpR X (compareOp .Eq) (rOwnEq C sp) := by
  obtain ⟨f, fd, ps, h1, h2, h3, F, bb⟩ := c.ex
  intro pins s σ H x y v u Q I rx ry hq
  obtain ⟨a, b, dx, dy, fs, gs, rfl, rfl, ha, hb, q⟩ := hq
  cases rx
  cases ry
  obtain ⟨mA, J, _⟩ := ins_get I.hok ha
  obtain ⟨mB, J', _⟩ := ins_get I.hok hb
  obtain ⟨od, J, _⟩ := J.look
  obtain ⟨od', J', _⟩ := J'.look
  obtain ⟨m, hF⟩ := I.fr
  show wpAny (model X.prog X.w) X.A (richCompare .Eq (.ref a) (.ref b)) (EP X pins σ Q) X.xe s
  refine PySem.W.cmp_K (op := .Eq) (tb := .ref C) hr.units0 hF I.ok.mod.kin J J'.type (by simp [PySem.W.notFirst]) h1 h2 ?_
  have r2 : Vals [V.ref a, V.ref b] [Value.ref a, Value.ref b] := .cons rfl (.cons rfl .nil)
  refine wpAny_mono (run_fn (vs := [.ref a, .ref b]) (us := [.ref a, .ref b]) (dvs := []) (ds := []) F (hr.mono hk) bb .nil pass0 I r2 q) (fun r s' hv => ?_) fun _ _ e => e
  obtain ⟨z, H', I', rz, c, ez, q2⟩ := hv
  subst ez
  cases rz
  exact ⟨.bl c, H', I', rfl, q2⟩
end
end KnW

set_option Elab.async false
set_option linter.all false
set_option maxRecDepth 100000
set_option maxHeartbeats 4000000
/-! A dict put into another one, as a display with ** does it: from what the library says of one store. -/
namespace KnG
open PySem PySem.Spec PyProof.Rows L2
section parts
variable {M : Model} {Γ : PySem.Ctx} {p : Pos} {u : Shared} {a : Addr}
/-- which part of a dict is looked at makes no difference to a promise -/
theorem part_upd (f : Array DictEntry → Array DictEntry) (c : Option Value) (R : Unit → Pos → Shared → Prop) (B : Value → Pos → Shared → Prop) : Sem.wp M Γ (updateDict a f c) R B p u = Sem.wp M Γ (updateDict a f) R B p u := by
  simp only [updateDict, loadPart, updatePart, Sem.wp_bind', Sem.wp_load, Sem.wp_pure]
  refine propext (exists_congr fun o => and_congr_right fun _ => ?_)
  cases o.data <;> simp only [Sem.wp_bind', Sem.wp_load, Sem.wp_update, Sem.wp_pure]
theorem part_keys (f : Array DictEntry → Array DictEntry) (c : Option Value) (R : Unit → Pos → Shared → Prop) (B : Value → Pos → Shared → Prop) : Sem.wp M Γ (updateDictKeys a f c) R B p u = Sem.wp M Γ (updateDictKeys a f) R B p u := by
  simp only [updateDictKeys, lookBehind, loadPart, updatePart, Sem.wp_bind', Sem.wp_load, Sem.wp_pure]
  refine propext (exists_congr fun o => and_congr_right fun _ => ?_)
  cases o.data <;> simp only [Sem.wp_bind', Sem.wp_load, Sem.wp_update, Sem.wp_pure]
end parts
section
variable {M : Model} {A : Around} {B : Value → Shared → Prop} {u : Shared}
/-- what holds of a store by d[k] = v holds of one by a display -/
theorem put_of_set {d : Addr} {hh : Int} {key v : Value} {R : Unit → Shared → Prop} (h : wpAny M A (dictSetHashed d key hh v) R B u) : wpAny M A (dictPut d hh key v) R B u := fun Γ p hΓ => by
  have g := h Γ p hΓ
  unfold dictSetHashed at g
  unfold dictPut
  rw [Sem.wp_holding, Sem.wp_bind'] at g
  rw [Sem.wp_bind']
  refine Sem.wp_mono M Γ _ (fun r p' s' e => ?_) (fun _ _ _ e => e) p u g
  cases r with
  | none =>
    have e2 : Sem.wp M Γ (updateDictKeys d (·.push ⟨hh, key, v⟩) (keyPart key)) (fun x _ s => R x s) (fun x _ s => B x s) p' s' := by simpa [rule] using e
    rwa [part_keys] at e2
  | some i =>
    have e2 : Sem.wp M Γ (updateDict d (·.modify i fun e => { e with val := v }) (keyPart key)) (fun x _ s => R () s) (fun x _ s => B x s) p' s' := by simpa [rule, point] using e
    rwa [part_upd] at e2
end
section
variable {prog : Program} {w : World} {K : Type} [DecidableEq K] {knd : KeyKind prog w K} {A : Around} {B : Value → Shared → Prop}
/-- one dict's entries, put into another one from place i on -/
theorem put_rest {d o : Addr} {ob : Obj} {ents : Array DictEntry} {epc : Nat} {base more : List (K × Value)} (apart : d ≠ o) (dat : ob.data = .dict ents epc) (hk : KeysOf knd ents) (hp : Pairs knd ents.toList more)
    (fit : base.length + more.length ≤ sizeLine) : ∀ (n i : Nat) (u : Shared) (R : PUnit → Shared → Prop), i + n = ents.size → u.heap.get? o = some ob → u.heap.DictOf knd d (merged base (more.take i)) →
      (∀ g, g.get? o = some ob → g.DictOf knd d (merged base more) → Heap.SameBut d u.heap g → R PUnit.unit { u with heap := g }) →
      wpAny (model prog w) A (forIn (List.range' i n) PUnit.unit fun i (_ : PUnit) => (do
          let l' ← dictEntries o
          match l'[i]? with
            | some e => do
              holding [e.key, e.val] (dictPut d e.hash e.key e.val)
              let t ← dictEpoch o
              if (t != epc) = true then do
                  (unsupported "dict.changed-during-merge" : Sem PUnit)
                  pure (ForInStep.yield PUnit.unit)
                else pure (ForInStep.yield PUnit.unit)
            | _ => do
              (unsupported "dict.changed-during-merge" : Sem PUnit)
              pure (ForInStep.yield PUnit.unit) : Sem (ForInStep PUnit))) R B u := by
  have size_eq : ents.size = more.length := by
    have := hp.length
    rw [Array.length_toList] at this
    exact this.symm ▸ rfl
  intro n
  induction n with
  | zero =>
    intro i u R e1 e2 e3 e4
    have : more.take i = more := List.take_of_length_le (by omega)
    rw [this] at e3
    exact wpAny_pure (e4 _ e2 e3 (Heap.SameBut.refl _ _))
  | succ n ih =>
    intro i u R e1 e2 e3 e4
    have lt : i < ents.size := by omega
    have lm : i < more.length := by omega
    have gm : more[i]? = some (more[i].1, more[i].2) := List.getElem?_eq_getElem lm
    have ge : ents.toList[i]? = some ents[i] := by rw [Array.getElem?_toList]; exact Array.getElem?_eq_getElem lt
    have two := hp.get? ge gm
    obtain ⟨kk, kis, kh⟩ := hk _ (Array.getElem_mem lt)
    have same : kk = more[i].1 := knd.inj _ _ _ kis two.1
    have room := merged_length_le base (more.take i)
    have cut := List.length_take_le i more
    rw [List.range'_succ, List.forIn_cons]
    refine wpAny_bind (wpAny_bind (wpAny_dictEntries e2 dat ?_))
    rw [Array.getElem?_eq_getElem lt]
    dsimp only
    rw [kh, same, two.2]
    refine wpAny_bind (wpAny_holding (put_of_set (wpAny_dictSetHashed_pairs (k := more[i].1) two.1 e3 (fun g f1 f2 => ?_) (by omega))))
    have still : g.get? o = some ob := (f2.2 o apart.symm).trans e2
    refine wpAny_bind (wpAny_dictEpoch still dat ?_)
    simp only [bne_self_eq_false, Bool.false_eq_true, if_false]
    refine wpAny_pure (ih (i + 1) _ R (by omega) still ?_ fun g2 f3 f4 f5 => e4 g2 f3 f4 (f2.trans f5))
    rw [merged_take_succ base more i _ gm]
    exact f1
/-- one plain dict merged into another one, whose keys are no objects -/
theorem mergeMapping_dict {d o : Addr} {base more : List (K × Value)} {u : Shared} {R : Unit → Shared → Prop} (flat : ∀ k v, knd.is k v = true → ∀ a, v ≠ .ref a) (apart : d ≠ o) (own : (o == sysModules) = false)
    (at1 : u.heap.DictOf knd d base) (at2 : u.heap.DictOf knd o more) (go : ∀ g, g.DictOf knd d (merged base more) → g.DictOf knd o more → Heap.SameBut d u.heap g → R () { u with heap := g })
    (fit : base.length + more.length ≤ sizeLine) : wpAny (model prog w) A (mergeMapping d (.ref o) false) R B u := by
  have tail : ∀ (ob : Obj) (ents : Array DictEntry) (epc : Nat), u.heap.get? o = some ob → ob.ExactDict → ob.data = .dict ents epc → KeysOf knd ents → Pairs knd ents.toList more → (more.map (·.1)).Nodup → _ := fun ob ents epc c1 c2 c3 c4 c5 c6 =>
    put_rest (B := B) (A := A) (base := base) apart c3 c4 c5 fit ents.size 0 u R (Nat.zero_add _) c1 (by simpa [merged] using at1) fun g f1 f2 f3 => go g f2 ⟨ob, ents, epc, f1, c2, c3, c4, c5, c6⟩ f3
  have kind := at2.typeIs
  obtain ⟨ob, ents, epc, c1, c2, c3, c4, c5, c6⟩ := at2
  obtain ⟨ob1, ents1, epc1, b1, _, b3, _⟩ := at1
  have t := tail ob ents epc c1 c2 c3 c4 c5 c6
  unfold mergeMapping
  refine wpAny_bind ?_
  refine wpAny_isInstance (T := "dict") kind PySem.F.sub_dict_dict ?_
  rw [if_pos rfl]
  refine wpAny_bind (wpAny_specialOf kind F.slot_dict_iter.lookup (wpAny_bind (wpAny_pure ?_)))
  have yes : (some (Value.builtin "dict.__iter__") == some (Value.builtin "dict.__iter__")) = true := by decide +kernel
  rw [yes]
  simp only [own, Bool.false_eq_true, if_false]
  have scan : ∀ (l : List DictEntry), (∀ e ∈ l, ∀ a, e.key ≠ .ref a) → ∀ (R2 : PUnit → Shared → Prop) (f : DictEntry → PUnit → Sem (ForInStep PUnit)), (∀ e, (∀ a, e.key ≠ .ref a) → f e PUnit.unit = pure (ForInStep.yield PUnit.unit)) → R2 PUnit.unit u →
      wpAny (model prog w) A (forIn l PUnit.unit f) R2 B u := by
    intro l
    induction l with
    | nil => intro _ R2 f _ hR; exact wpAny_pure hR
    | cons e r ih =>
      intro hl R2 f hf hR
      rw [List.forIn_cons, hf e (hl e List.mem_cons_self)]
      exact wpAny_bind (wpAny_pure (ih (fun x hx => hl x (List.mem_cons_of_mem _ hx)) R2 f hf hR))
  have noref : ∀ e ∈ ents.toList, ∀ a, e.key ≠ .ref a := fun e he => by
    obtain ⟨k, kis, _⟩ := c4 e (Array.mem_toList_iff.mp he)
    exact flat k e.key kis
  refine wpAny_bind (wpAny_dictEntries b1 b3 ?_)
  split
  · refine wpAny_bind (wpAny_dictEntries c1 c3 (wpAny_bind ?_))
    rw [← Array.forIn_toList]
    refine scan _ noref _ _ (fun e he => ?_) ?_
    · cases q : e.key with
      | ref a => exact (he a q).elim
      | _ => rfl
    · refine wpAny_bind (wpAny_dictEntries c1 c3 (wpAny_bind (wpAny_dictEpoch c1 c3 (wpAny_bind ?_))))
      rw [List.range_eq_range']
      exact wpAny_mono t (fun _ _ h => wpAny_pure h) fun _ _ e => e
  · refine wpAny_bind (wpAny_dictEntries c1 c3 (wpAny_bind (wpAny_dictEpoch c1 c3 (wpAny_bind ?_))))
    rw [List.range_eq_range']
    exact wpAny_mono t (fun _ _ h => wpAny_pure h) fun _ _ e => e
end
end KnG

set_option Elab.async false
set_option linter.all false
set_option maxRecDepth 100000
set_option maxHeartbeats 4000000
/-! `{**a, **b}` of two dicts; an own operator of two instances of a class; o[i] = v by an own __setitem__. -/
namespace KnG
open PySem PySem.Spec PyProof.Rows L2
def mergeFold (a b : List (Key × V)) : List (Key × V) := b.foldl (fun acc kv => putK acc kv.1 kv.2) a
def tStar (d : Addr) (kvs : List (Key × V)) (t : TE) (σ : L2.St) (H : Hp) (Q : List (Key × V) → Hp → Prop) : Prop :=
  t σ H fun x H1 => ∃ a k1, x = .ref a ∧ a ≠ d ∧ H1 a = some (.dK k1) ∧ H1 d = some (.dK kvs) ∧ kvs.length + k1.length ≤ sizeLine ∧ Q (mergeFold kvs k1) (upd H1 d (.dK (mergeFold kvs k1)))
def tStars2 (t1 t2 : TE) : TE := fun σ H Q => ∀ d, H d = none → tStar d [] t1 σ (upd H d (.dK [])) fun k1 H1 => tStar d k1 t2 σ H1 fun _ H2 => Q (.ref d) H2
theorem mix_noref {P : Program} {w : World} (k : Key) (v : Value) (h : (mixKind P w).is k v = true) (a : Addr) : v ≠ .ref a := by
  intro e
  subst e
  cases k <;> exact nomatch h
section
variable {X : Cx} {e1 e2 : Expr} {t1 t2 : TE} {pos : Pos}
theorem star_step {α : Type} {z : α} {e : Expr} {t : TE} (he : PE X e t) {pins : List (Addr × Obj)} {σ : L2.St} {H : Hp} {s : Shared} {d : Addr} {kvs : List (Key × V)} {Q : List (Key × V) → Hp → Prop} {G : α → Shared → Prop} {E2 : Value → Value → Sem Unit} {E3 : Value → Sem Unit} {E1 : Value → Value → Sem Unit}
    (I : Inv X pins σ H s) (h : tStar d kvs t σ H Q) (hG : ∀ k1 H' s', Inv X pins σ H' s' → Q k1 H' → G z s') :
    wpAny (model X.prog X.w) X.A (do
      let m ← holding [.ref d] (do let x ← eval e X.env; standAt pos; pure x)
      (((holding [.ref d, m] (mergeMapping d m false)).onRaise fun x => E1 m x).tryCatch fun y => E2 m y).onRaise fun x => E3 x
      pure z) G X.xe s := by
  refine wpAny_bind (wpAny_holding (wpAny_bind (thn (he.run pins s σ H _ I h) fun u s1 ⟨x, H1, I1, rx, a, k1, ex, ne, ha, hd, sz, q⟩ => ?_)))
  refine wpAny_bind (wpAny_standAt (wpAny_pure ?_))
  subst ex
  cases rx
  obtain ⟨za, hsa, va, rela, da⟩ := dk_of I1.hok ha
  obtain ⟨zd, hsd, vd, reld, dd⟩ := dk_of I1.hok hd
  refine wpAny_bind (wpAny_onRaise (wpAny_tryCatch (wpAny_onRaise (wpAny_holding (mergeMapping_dict mix_noref ne.symm hsa dd da (fun h' hd' _ hs' => ?_) (by rw [← reld.length, ← rela.length]; exact sz))))))
  refine wpAny_pure (hG _ _ _ ?_ q)
  have hl : (mergeK kvs k1).length ≤ sizeLine := by
    have e := (KV.merge rela reld).length
    have e2 := merged_length_le vd va
    have e3 := reld.length
    have e4 := rela.length
    omega
  exact d_write I1 (by rw [hd]; exact True.intro) hs' (let ⟨q, _, _, hq, _⟩ := hd'; ⟨q, hq⟩) (dk_new hl hsd (KV.merge rela reld) hd')
theorem pe_stars2 (h1 : PE X e1 t1) (h2 : PE X e2 t2) : PE X (.Dict [none, none] [e1, e2] pos) (tStars2 t1 t2) := by
  refine ⟨fun pins s σ H Q I h => ?_⟩
  rw [arm_eval_Dict]
  refine wpAny_bind (wpAny_standAt ?_)
  show wpAny _ _ (dictDisplay [(none, do let x ← eval e1 X.env; standAt pos; pure x), (none, do let x ← eval e2 X.env; standAt pos; pure x)]) _ _ _
  unfold dictDisplay
  refine wpAny_bind ?_
  rw [List.forIn_cons]
  refine wpAny_bind ?_
  dsimp only
  refine wpAny_bind ?_
  rw [if_pos List.isEmpty_nil]
  refine wpAny_pure ?_
  dsimp only
  refine wpAny_bind (wpAny_alloc ?_)
  have I0 : Inv X pins σ (upd H s.heap.objs.size (.dK [])) { s with heap := s.heap.push { cls := .type "dict", data := .dict #[] } } := I.laid (a := s.heap.objs.size) (o := .dK []) (t' := s.toks) (fun _ _ q => Heap.get?_push_of_some _ q) (Nat.le_refl _) (dk_empty s.heap I.big)
  refine star_step h1 I0 (h _ (I.hok.fresh (Nat.le_refl _))) fun k1 H1 s1 I1 q1 => ?_
  dsimp only
  rw [List.forIn_cons]
  refine wpAny_bind ?_
  dsimp only
  refine wpAny_bind ?_
  rw [if_pos List.isEmpty_nil]
  refine wpAny_pure ?_
  dsimp only
  refine wpAny_bind (wpAny_pure ?_)
  refine star_step h2 I1 q1 fun k2 H2 s2 I2 q2 => ?_
  dsimp only
  rw [List.forIn_nil]
  refine wpAny_pure ?_
  dsimp only
  refine wpAny_bind ?_
  rw [if_pos List.isEmpty_nil]
  refine wpAny_pure ?_
  exact wpAny_pure ⟨.ref _, _, I2, rfl, q2⟩
end
end KnG

set_option Elab.async false
set_option linter.all false
set_option maxRecDepth 100000
set_option maxHeartbeats 4000000
/-! An own operator of two instances of a class; o[i] = v by an own __setitem__; a class made without arguments, by a default. -/
namespace KnW
open PySem PySem.Spec PyProof.Rows L2
section
variable {X : Cx} {k j : Nat} {C : Addr} {sp : Sp} {a b : Expr} {ta tb : TE} {pos : Pos}
/-- a + b by the class's own method, which answers a reference -/
def rOwnBin (C : Addr) (sp : Sp) : R2 := fun x y H Q => ∃ a b dx dy fs gs, x = .ref a ∧ y = .ref b ∧ H a = some (.ins C dx fs) ∧ H b = some (.ins C dy gs) ∧ sp [.ref a, .ref b] H (fun v H' => ∃ c, v = .ref c ∧ Q (.ref c) H') E0
theorem op_ownBin {op : Operator} {m : Str} (c : Own X.prog X.w X.K X.mg X.base k C m sp) (hm : m = PySem.dunder op.info.2) (sf : PySem.W.selfFirst X.K C = true) (hr : Room j X.A) (hk : k ≤ j) : OpR X (binaryOp op) (rOwnBin C sp) := by
  subst hm
  obtain ⟨f, fd, ps, h1, h2, h3, F, bb⟩ := c.ex
  intro pins s σ H x y v u Q I rx ry hq
  obtain ⟨a, b, dx, dy, fs, gs, rfl, rfl, ha, hb, q⟩ := hq
  cases rx
  cases ry
  obtain ⟨mA, J, _⟩ := ins_get I.hok ha
  obtain ⟨mB, J', _⟩ := ins_get I.hok hb
  obtain ⟨od, J, _⟩ := J.look
  obtain ⟨od', J', _⟩ := J'.look
  obtain ⟨m, hF⟩ := I.fr
  show wpAny (model X.prog X.w) X.A (binaryOp op (.ref a) (.ref b)) (EP X pins σ Q) X.xe s
  refine PySem.W.binop_K (op := op) hF I.ok.mod.kin J J'.type sf h1 h2 ?_
  have r2 : Vals [V.ref a, V.ref b] [Value.ref a, Value.ref b] := .cons rfl (.cons rfl .nil)
  refine wpAny_mono (run_fn (vs := [.ref a, .ref b]) (us := [.ref a, .ref b]) (dvs := []) (ds := []) F (hr.mono hk) bb .nil pass0 I r2 q) (fun r s' hv => ?_) fun _ _ e => e
  obtain ⟨z, H', I', rz, c, ez, q2⟩ := hv
  subst ez
  cases rz
  exact ⟨.ref c, H', I', rfl, q2⟩
/-- a |= b by the class's own in-place method, which answers a reference -/
def rOwnIn (C : Addr) (sp : Sp) : R2 := fun x y H Q => ∃ a dx fs, x = .ref a ∧ H a = some (.ins C dx fs) ∧ sp [.ref a, y] H (fun v H' => ∃ c, v = .ref c ∧ Q (.ref c) H') E0
theorem op_ownIn {op : Operator} {m : Str} (c : Own X.prog X.w X.K X.mg X.base k C m sp) (hm : m = PySem.dunderI op.info.2) (sf : PySem.W.selfFirst X.K C = true) (hr : Room j X.A) (hk : k ≤ j) : OpR X (inplaceOp op) (rOwnIn C sp) := by
  subst hm
  obtain ⟨f, fd, ps, h1, h2, h3, F, bb⟩ := c.ex
  intro pins s σ H x y v u Q I rx ry hq
  obtain ⟨a, dx, fs, rfl, ha, q⟩ := hq
  cases rx
  obtain ⟨mA, J, _⟩ := ins_get I.hok ha
  obtain ⟨od, J, _⟩ := J.look
  obtain ⟨m, hF⟩ := I.fr
  refine PySem.W.ksp_inplace (op := op) hF I.ok.mod.kin J sf h1 h2 ?_
  have r2 : Vals [V.ref a, y] [Value.ref a, u] := .cons rfl (.cons ry .nil)
  refine wpAny_mono (run_fn (vs := [.ref a, y]) (us := [.ref a, u]) (dvs := []) (ds := []) F (hr.mono hk) bb .nil pass0 I r2 q) (fun r s' hv => ?_) fun _ _ e => e
  obtain ⟨z, H', I', rz, w', ez, q2⟩ := hv
  subst ez
  cases rz
  exact ⟨.ref w', H', I', rfl, q2⟩
/-- o[i] = v by an own __setitem__ -/
def rSetOwn (C : Addr) (sp : Sp) : V → V → V → Hp → (Hp → Prop) → Prop := fun o i v H Q => ∃ a dx fs, o = .ref a ∧ H a = some (.ins C dx fs) ∧ sp [.ref a, i, v] H (fun _ H' => Q H') E0
theorem set_own (c : Own X.prog X.w X.K X.mg X.base k C "__setitem__" sp) (nq : PySem.W.noSeq X.K C = true) (hr : Room j X.A) (hk : k ≤ j) : PSet X (rSetOwn C sp) := by
  obtain ⟨f, fd, ps, h1, h2, h3, F, bb⟩ := c.ex
  intro pins s σ H o i v ov iv u Q I ro ri rv hq
  obtain ⟨a, dx, fs, rfl, ha, q⟩ := hq
  cases ro
  obtain ⟨mA, J, _⟩ := ins_get I.hok ha
  obtain ⟨od, J, _⟩ := J.look
  obtain ⟨m, hF⟩ := I.fr
  refine PySem.W.ksp_setItem hF I.ok.mod.kin J nq h1 h2 ?_
  have r3 : Vals [V.ref a, i, v] [Value.ref a, iv, u] := .cons rfl (.cons ri (.cons rv .nil))
  refine wpAny_mono (run_fn (vs := [.ref a, i, v]) (us := [.ref a, iv, u]) (dvs := []) (ds := []) F (hr.mono hk) bb .nil pass0 I r3 q) (fun r s' hv => ?_) fun _ _ e => e
  obtain ⟨z, H', I', rz, q2⟩ := hv
  exact ⟨H', I', q2⟩
theorem pe_mk0 {x : Str} {dvs : List V} {p : Pos} (c : C8.Mak X.prog X.w X.K X.mg X.base k x C sp dvs) (hr : Room j X.A) (hk : k + 1 ≤ j) (hg : Gl X x) (hdb : (x == ("__debug__" : Str)) = false := by decide) :
    PE X (.Call (.Name x p) [] [] pos) (tMake C sp dvs E0 tNil) := by
  obtain ⟨f, fd, ps, ds, M, F, hm, b, d⟩ := c.ex
  exact pe_make0 M F (hr.mono hk) hg hm b d pass0 hdb
end
theorem binds_less {K : PySem.W.Frag} {x qual : Str} {st : Stmt} {f T : Addr} {oc : Value} {od an : Option Addr} {osl : Array (Option Value)} {kV doc pm cdv ct : Value} {to : Obj} {tn : Nat} {its : List Value} {dvs : List V} {ps : List Str} (n : Nat)
    (l : K.lookup f = some ⟨oc, od, .func (PySem.W.fnOf x qual (defArgs st) (defBody st) (defScope st) (.ref T) kV doc pm an cdv ct), osl⟩) (c : PySem.W.codeIn K cdv qual = true) (k : PySem.W.keepIn K (.ref f) = true)
    (lT : K.lookup T = some to) (oT : to.data = .seq its.toArray tn) (rT : Vals dvs its) (hd : dvs ≠ []) (hn : n + dvs.length = ps.length)
    (h : ∀ (T : Addr) (kV doc pm : Value) (an : Option Addr) (cdv ct : Value) (us its : List Value), us.length = n → its.length = dvs.length →
      ∃ k, bindArgs (PySem.W.fnOf x qual (defArgs st) (defBody st) (defScope st) (.ref T) kV doc pm an cdv ct) ⟨us, []⟩ = seqItems? (.ref T) >>= k ∧ k (some its.toArray) = pure (ps.zip (us ++ its))) : ∃ ds, Vals dvs ds ∧ Binds K (PySem.W.fnOf x qual (defArgs st) (defBody st) (defScope st) (.ref T) kV doc pm an cdv ct) ps ds := by
  have F : FunD K x qual (defArgs st) (defBody st) (defScope st) dvs [] f (PySem.W.fnOf x qual (defArgs st) (defBody st) (defScope st) (.ref T) kV doc pm an cdv ct) :=
    ⟨⟨oc, od, .ref T, kV, doc, pm, an, cdv, ct, osl, rfl, l, c, .inr ⟨hd, T, to, its, tn, rfl, lT, oT, rT⟩, .inl rfl⟩, k⟩
  exact FunD.binds1 F (ps := ps) n 0 hd hn h
end KnW

set_option Elab.async false
set_option linter.all false
set_option maxRecDepth 100000
set_option maxHeartbeats 4000000
/-! An instance with an own __contains__, __len__: k in o, k not in o, len(o). -/
namespace KnW
open PySem PySem.Spec PyProof.Rows L2
section
variable {X : Cx} {k j : Nat} {C : Addr} {sp : Sp}
def rOwnHas (C : Addr) (sp : Sp) (neg : Bool) : R2 := fun x y H Q => ∃ a dx fs, y = .ref a ∧ H a = some (.ins C dx fs) ∧ sp [.ref a, x] H (fun v H' => ∃ c, v = .bl c ∧ Q (.bl (if neg then !c else c)) H') E0
theorem op_ownHas (c : Own X.prog X.w X.K X.mg X.base k C "__contains__" sp) (hr : Room j X.A) (hk : k ≤ j) : OpR X (compareOp .In) (rOwnHas C sp false) := by
  obtain ⟨f, fd, ps, h1, h2, h3, F, bb⟩ := c.ex
  intro pins s σ H x y v u Q I rx ry hq
  obtain ⟨a, dx, fs, rfl, ha, q⟩ := hq
  cases ry
  obtain ⟨mA, J, _⟩ := ins_get I.hok ha
  obtain ⟨od, J, _⟩ := J.look
  obtain ⟨m, hF⟩ := I.fr
  refine PySem.W.in_K hF I.ok.mod.kin J h1 h2 ?_
  refine wpAny_mono (run_fn (vs := [.ref a, x]) (us := [.ref a, v]) (dvs := []) (ds := []) F (hr.mono hk) bb .nil pass0 I (.cons rfl (.cons rx .nil)) q) (fun r s' hv => ?_) fun _ _ e => e
  obtain ⟨z, H', I', rz, b, ez, q2⟩ := hv
  subst ez
  cases rz
  exact wpAny_pure ⟨.bl b, H', I', rfl, q2⟩
theorem op_ownHasNot (c : Own X.prog X.w X.K X.mg X.base k C "__contains__" sp) (hr : Room j X.A) (hk : k ≤ j) : OpR X (compareOp .NotIn) (rOwnHas C sp true) := by
  obtain ⟨f, fd, ps, h1, h2, h3, F, bb⟩ := c.ex
  intro pins s σ H x y v u Q I rx ry hq
  obtain ⟨a, dx, fs, rfl, ha, q⟩ := hq
  cases ry
  obtain ⟨mA, J, _⟩ := ins_get I.hok ha
  obtain ⟨od, J, _⟩ := J.look
  obtain ⟨m, hF⟩ := I.fr
  refine PySem.W.notIn_K hF I.ok.mod.kin J h1 h2 ?_
  refine wpAny_mono (run_fn (vs := [.ref a, x]) (us := [.ref a, v]) (dvs := []) (ds := []) F (hr.mono hk) bb .nil pass0 I (.cons rfl (.cons rx .nil)) q) (fun r s' hv => ?_) fun _ _ e => e
  obtain ⟨z, H', I', rz, b, ez, q2⟩ := hv
  subst ez
  cases rz
  exact wpAny_pure ⟨.bl (!b), H', I', rfl, q2⟩
def rOwnLen (C : Addr) (sp : Sp) : List V → Hp → VK → Prop := fun xs H Q => ∃ a dx fs, xs = [.ref a] ∧ H a = some (.ins C dx fs) ∧ sp [.ref a] H (fun v H' => ∃ n : Nat, v = .int (n : Int) ∧ n ≤ 1000000 ∧ Q (.int (n : Int)) H') E0
theorem cr_ownLen (c : Own X.prog X.w X.K X.mg X.base k C "__len__" sp) (hr : Room j X.A) (hk : k + 1 ≤ j) : CallR X (.builtin "len") (rOwnLen C sp) := by
  obtain ⟨f, fd, ps, h1, h2, h3, F, bb⟩ := c.ex
  intro pins s σ H xs us Q I r hq
  obtain ⟨a, dx, fs, rfl, ha, q⟩ := hq
  obtain ⟨u, rfl, rx⟩ := vals1 r
  cases rx
  obtain ⟨mA, J, _⟩ := ins_get I.hok ha
  obtain ⟨od, J, _⟩ := J.look
  obtain ⟨m, hF⟩ := I.fr
  refine PySem.W.len_K hF I.ok.mod.kin J h1 h2 ?_
  refine wpAny_mono (run_in1 (vs := [.ref a]) F (hr.mono hk) bb pass0 I (.cons rfl .nil) q) (fun r s' hv => ?_) fun _ _ e => e
  obtain ⟨z, H', I', rz, n, ez, l, q2⟩ := hv
  subst ez
  obtain ⟨t, rfl⟩ := rz
  have small_ : ((n : Int)) < 2 ^ 63 := by
    have : (1000000 : Int) < 2 ^ 63 := by decide
    omega
  exact ⟨⟨Int.natCast_nonneg n, small_⟩, .int n, H', I'.tok _, ⟨_, rfl⟩, q2⟩
end
end KnW

set_option Elab.async false
set_option linter.all false
set_option maxRecDepth 100000
set_option maxHeartbeats 4000000
/-! An own operator whose other side is a built-in dict, list or tuple. -/
namespace KnW
open PySem PySem.Spec PyProof.Rows L2
section
variable {P : Program} {w : World} {A : Around} {E : Value → Shared → Prop} {s : Shared} {K : PySem.W.Frag} {x b C L f : Addr} {h₀ : Heap} {m : Str → Option Value} {ox : Obj} {od : Option Obj} {T : String}
theorem looks_typ {v : Value} {ob : Obj} (e : s.heap.get? b = some ob) (c : ob.cls = .type T) (hv : v = .ref b) : PySem.W.Looks (model P w) s.heap (typeOf v) (.type T) := fun A Q E s' k q => by
  subst hv
  exact wpAny_typeOf_ref (k _ _ e) (by rw [c]; exact q)
/-- what is known of the two names of an operator at a built-in type -/
structure Side (K : PySem.W.Frag) (C : Addr) (nm : String) (T : String) : Prop where
  f : ∃ fo, PySem.W.findIn K (.type T) (PySem.dunder nm) = some fo
  r : ∃ ro, PySem.W.findIn K (.type T) (dunderR nm) = some ro
  no : PySem.W.subIn K (.type T) (.ref C) = some false
open PySem.W in
theorem bin_left {op : Operator} {y : Value} {rc : Option Value} {Q : Value → Shared → Prop} (F : Fr h₀ L s.heap m) (X₀ : K.In h₀) (I : InstAt s.heap x ox C od) (hb : Looks (model P w) s.heap (typeOf y) (.type T)) (hc : selfFirst K C = true)
    (hs : findIn K (.ref C) (PySem.dunder op.info.2) = some (some (.ref f))) (hf : isFn K (.ref f) = true) (hr : findIn K (.ref C) (dunderR op.info.2) = some rc) (hp : rc = none ∨ ∃ g : Addr, rc = some (.ref g)) (sd : Side K C op.info.2 T)
    (h : wpAny (model P w) A (call (.ref f) [.ref x, y]) (PySem.W.CmpBack Q) E s) : wpAny (model P w) A (binaryOp op (.ref x) y) Q E s := by
  obtain ⟨⟨fo, e1⟩, ⟨ro, e2⟩, e3⟩ := sd
  have KI := X₀.keeps F.keep
  obtain ⟨cd, more, hcd, hmro⟩ := ksp_first hc
  rcases info : op.info with ⟨sy, nam⟩
  rw [info] at hs hr e1 e2
  dsimp only at hs hr e1 e2
  have go := ksp_try KI I hs hf h
  obtain ⟨hh, gg, dd, tt, oo⟩ := s
  have l1 : Looks (model P w) hh (typeOf (.ref x)) (.ref C) := I.type
  have l3 := fills_K (M := model P w) KI hcd hmro hs
  have l4 := ksp_fillsT (M := model P w) KI e1 e2
  have l5 := looks_subIn (M := model P w) KI e3
  have l6 := ksp_inPy (M := model P w) KI hs hr hp
  have l7 : Looks (model P w) hh (numberSlotInPython (.type T) nam) false := .of_pure rfl
  have l8 := looks_findIn (M := model P w) KI e2
  generalize ((fo.isSome && !isSeqSlot fo) || (ro.isSome && !isSeqSlot ro)) = rt at l4
  have ne : (Value.ref C == Value.type T) = false := Bool.eq_false_iff.mpr fun q => by cases beq_iff_eq.mp q
  simp only [binaryOp, info]
  refine wpAny_holding (wpAny_bind (?_ : wpAny _ _ (binaryOp1 nam _ _) _ _ _))
  unfold binaryOp1
  refine wpAny_bind (l1.at (wpAny_bind (hb.at (wpAny_bind (l3.at ?_)))))
  simp only [ne, Bool.false_eq_true, if_false]
  cases rt with
  | false =>
    ksp_lk
    exact wpAny_mono go (fun r s' ⟨v, ev, q⟩ => by subst ev; ksp_lk; exact q) fun _ _ z => z
  | true =>
    ksp_lk
    exact wpAny_mono go (fun r s' ⟨v, ev, q⟩ => by subst ev; ksp_lk; exact q) fun _ _ z => z
open PySem.W in
theorem dict_or_not {Q : Value → Shared → Prop} (hd : s.TypeIs (.ref b) "dict") (hx : Looks (model P w) s.heap (typeOf (.ref x)) (.ref C)) (hsub : Looks (model P w) s.heap (isSubtype (.ref C) (.type "dict")) false) (h : Q .notImplemented s) :
    wpAny (model P w) A (call (.builtin "dict.__or__") [.ref b, .ref x]) Q E s := by
  refine wpAny_call_entry PySem.F.slot_dict_or hd PySem.F.entry_dict_or ?_ (PySem.F.args_dict_or_2 _ _)
  unfold Builtin.«dict.__or__» Builtin.Dict.dictSlotArgs
  refine wpAny_bind (wpAny_bind (wpAny_notOrdered_dict hd ?_))
  refine wpAny_bind (?_ : wpAny _ _ (slotArgs _ _ _) _ _ _)
  unfold slotArgs
  show wpAny _ _ (pure (Value.ref b, [Value.ref x])) _ _ _
  refine wpAny_pure (wpAny_pure ?_)
  show wpAny _ _ ((isInstance (.ref b) (.type "dict") <&&> isInstance (.ref x) (.type "dict")) >>= fun c => if (!c) = true then _ else _) _ _ _
  refine wpAny_bind (wpAny_bind (wpAny_isInstance hd PySem.F.sub_dict_dict ?_))
  refine (?_ : wpAny _ _ (isInstance (.ref x) (.type "dict")) _ _ _)
  unfold isInstance
  refine wpAny_bind (hx.here (hsub.here ?_))
  rw [if_pos (show (!false) = true from rfl)]
  refine wpAny_bind (wpAny_rule ?_)
  exact wpAny_pure ⟨_, rfl, h⟩
open PySem.W in
/-- a dict on the left, whose own operator says that it does not know the other side, or that has none -/
theorem bin_right {op : Operator} {g : Addr} {Q : Value → Shared → Prop} (F : Fr h₀ L s.heap m) (X₀ : K.In h₀) (I : InstAt s.heap x ox C od) (hd : s.TypeIs (.ref b) "dict") (hc : selfFirst K C = true) (hop : op = .BitOr ∨ op = .BitAnd)
    (hl : findIn K (.ref C) (PySem.dunder op.info.2) = some (some (.ref g))) (hs : findIn K (.ref C) (dunderR op.info.2) = some (some (.ref f))) (hf : isFn K (.ref f) = true) (hsub : subIn K (.ref C) (.type "dict") = some false)
    (h : wpAny (model P w) A (call (.ref f) [.ref x, .ref b]) (PySem.W.CmpBack Q) E s) : wpAny (model P w) A (binaryOp op (.ref b) (.ref x)) Q E s := by
  have KI := X₀.keeps F.keep
  obtain ⟨cd, more, hcd, hmro⟩ := ksp_first hc
  have go := ksp_try KI I hs hf h
  obtain ⟨od', hod, hcl⟩ := id hd
  have hb : Looks (model P w) s.heap (typeOf (.ref b)) (.type "dict") := looks_typ hod hcl rfl
  have l1 : Looks (model P w) s.heap (typeOf (.ref x)) (.ref C) := I.type
  have l5 := looks_subIn (M := model P w) KI hsub
  have l3 := fills_K (M := model P w) (nm := op.info.2) KI hcd hmro hl
  have ne : (Value.type "dict" == Value.ref C) = false := Bool.eq_false_iff.mpr fun q => by cases beq_iff_eq.mp q
  have last : ∀ (R : Option Value → Shared → Prop), (∀ v s', Q v s' → R (some v) s') → wpAny (model P w) A (tryMethod (.ref x) (dunderR op.info.2) (.ref b)) R E s := fun R hR => wpAny_mono go (fun r s' ⟨v, ev, q⟩ => ev ▸ hR v s' q) fun _ _ z => z
  rcases hop with rfl | rfl
  · have l4 : Looks (model P w) s.heap (fillsNumberSlot (.type "dict") "or") true := .of_pure PySem.F.fills_dict_or
    have nots : ∀ (R : Option Value → Shared → Prop), R none s → wpAny (model P w) A (tryMethod (.ref b) (PySem.dunder "or") (.ref x)) R E s := fun R hR => by
      unfold tryMethod
      refine wpAny_bind (wpAny_callSpecial?_slot hd PySem.F.slot_dict_or (dict_or_not hd l1 l5 ?_))
      exact wpAny_pure hR
    have l7 : Looks (model P w) s.heap (numberSlotInPython (.type "dict") "or") false := .of_pure rfl
    simp only [binaryOp, show Operator.BitOr.info = ("|", "or") from rfl] at *
    refine wpAny_holding (wpAny_bind (?_ : wpAny _ _ (binaryOp1 "or" _ _) _ _ _))
    unfold binaryOp1
    refine wpAny_bind (hb.here (wpAny_bind (l1.here (wpAny_bind (l4.here ?_)))))
    simp only [ne, Bool.false_eq_true, if_false]
    refine wpAny_bind (l3.here ?_)
    rw [if_pos (show (true && true) = true from rfl)]
    refine wpAny_bind (l5.here ?_)
    simp only [Bool.false_eq_true, if_false, Bool.not_false, Bool.and_self, if_true, Bool.and_true]
    refine wpAny_bind (l7.here ?_)
    simp only [Bool.false_eq_true, if_false]
    refine wpAny_bind (nots _ ?_)
    dsimp only
    refine wpAny_bind (last _ fun v s' q => ?_)
    dsimp only
    exact wpAny_bind (wpAny_rule (wpAny_pure (wpAny_pure q)))
  · have l4 : Looks (model P w) s.heap (fillsNumberSlot (.type "dict") "and") false := .of_pure (by kernel_rfl)
    simp only [binaryOp, show Operator.BitAnd.info = ("&", "and") from rfl] at *
    refine wpAny_holding (wpAny_bind (?_ : wpAny _ _ (binaryOp1 "and" _ _) _ _ _))
    unfold binaryOp1
    refine wpAny_bind (hb.here (wpAny_bind (l1.here (wpAny_bind (l4.here ?_)))))
    simp only [ne, Bool.false_eq_true, if_false]
    refine wpAny_bind (l3.here ?_)
    simp only [Bool.false_eq_true, if_false, Bool.not_false, Bool.and_self, if_true, Bool.and_true, Bool.false_and]
    refine wpAny_bind (wpAny_pure ?_)
    simp only [Bool.false_eq_true, if_false]
    refine wpAny_bind (last _ fun v s' q => ?_)
    dsimp only
    exact wpAny_bind (wpAny_rule (wpAny_pure (wpAny_pure q)))
end
end KnW

set_option Elab.async false
set_option linter.all false
set_option maxRecDepth 100000
set_option maxHeartbeats 4000000
/-! a + b by an own method where b is a dict, a list or a tuple; a + b by an own reflected method where a is a dict. -/
namespace KnW
open PySem PySem.Spec PyProof.Rows L2
/-- a value of one of these built-in types -/
def TyB (K : PySem.W.Frag) (T : String) (y : V) (H : Hp) : Prop := tyV K T y H ∨ (T = "tuple" ∧ ∃ p xs, y = .ref p ∧ H p = some (.tup xs))
theorem TyB.is {X : Cx} {pins : List (Addr × Obj)} {σ : L2.St} {H : Hp} {s : Shared} {T : String} {y : V} {v : Value} (I : Inv X pins σ H s) (r : RelV y v) (t : TyB X.K T y H) (nt : ∀ z, T ≠ "str" ∧ T ≠ "int" ∧ T ≠ z ++ "?") : ∃ b ob, v = .ref b ∧ s.heap.get? b = some ob ∧ ob.cls = .type T := by
  rcases t with t | ⟨rfl, p, xs, rfl, hp⟩
  · obtain ⟨h1, _⟩ := tyV_is I r t
    cases y with
    | ref p =>
      cases r
      obtain ⟨o, e, c⟩ := h1
      exact ⟨p, o, rfl, e, c⟩
    | str z => exact ((nt "").1 t).elim
    | int z => exact ((nt "").2.1 t).elim
    | _ => exact False.elim t
  · cases r
    obtain ⟨_, its, _, pl⟩ := I.hok p _ hp
    obtain ⟨ob, e, c, _⟩ := pl
    exact ⟨p, ob, rfl, e, c⟩
theorem side_of {K : PySem.W.Frag} {C : Addr} {nm : String} {T : String} (hn : nm = "or" ∨ nm = "and" ∨ nm = "sub") (hT : T = "dict" ∨ T = "list" ∨ T = "tuple") : Side K C nm T := by
  have m1 : PySem.fastBuiltinMro "dict" = some [.type "dict", .type "object"] := by decide +kernel
  have m2 : PySem.fastBuiltinMro "list" = some [.type "list", .type "object"] := by decide +kernel
  have m3 : PySem.fastBuiltinMro "tuple" = some [.type "tuple", .type "object"] := by decide +kernel
  refine ⟨?_, ?_, ?_⟩
  · refine Option.isSome_iff_exists.mp ?_
    show (fastLookup T (PySem.dunder nm)).isSome = true
    rcases hn with rfl | rfl | rfl <;> rcases hT with rfl | rfl | rfl <;> decide +kernel
  · refine Option.isSome_iff_exists.mp ?_
    show (fastLookup T (dunderR nm)).isSome = true
    rcases hn with rfl | rfl | rfl <;> rcases hT with rfl | rfl | rfl <;> decide +kernel
  · show (PySem.fastBuiltinMro T).map (·.contains (.ref C)) = some false
    rcases hT with rfl | rfl | rfl
    · rw [m1]; rfl
    · rw [m2]; rfl
    · rw [m3]; rfl
section
variable {X : Cx} {k j : Nat} {C : Addr} {sp : Sp}
def rOwnBinA (K : PySem.W.Frag) (C : Addr) (sp : Sp) : R2 := fun x y H Q => ∃ a dx fs, x = .ref a ∧ H a = some (.ins C dx fs) ∧ ((∃ b dy gs, y = .ref b ∧ H b = some (.ins C dy gs)) ∨ ∃ T, (T = "dict" ∨ T = "list" ∨ T = "tuple") ∧ TyB K T y H) ∧
  sp [.ref a, y] H (fun v H' => ∃ c, v = .ref c ∧ Q (.ref c) H') E0
theorem op_ownBinA {op : Operator} {m : Str} (c : Own X.prog X.w X.K X.mg X.base k C m sp) (hm : m = PySem.dunder op.info.2) (sf : PySem.W.selfFirst X.K C = true) (hn : op.info.2 = "or" ∨ op.info.2 = "and" ∨ op.info.2 = "sub")
    (hrr : ∃ rc, PySem.W.findIn X.K (.ref C) (dunderR op.info.2) = some rc ∧ (rc = none ∨ ∃ g : Addr, rc = some (.ref g))) (hr : Room j X.A) (hk : k ≤ j) : OpR X (binaryOp op) (rOwnBinA X.K C sp) := by
  subst hm
  obtain ⟨f, fd, ps, h1, h2, h3, F, bb⟩ := c.ex
  intro pins s σ H x y v u Q I rx ry hq
  obtain ⟨a, dx, fs, rfl, ha, alt, q⟩ := hq
  cases rx
  obtain ⟨mA, J, _⟩ := ins_get I.hok ha
  obtain ⟨od, J, _⟩ := J.look
  obtain ⟨m, hF⟩ := I.fr
  have last : wpAny (model X.prog X.w) X.A (call (.ref f) [.ref a, u]) (PySem.W.CmpBack (EP X pins σ Q)) X.xe s := by
    refine wpAny_mono (run_fn (vs := [.ref a, y]) (us := [.ref a, u]) (dvs := []) (ds := []) F (hr.mono hk) bb .nil pass0 I (.cons rfl (.cons ry .nil)) q) (fun r s' hv => ?_) fun _ _ e => e
    obtain ⟨z, H', I', rz, c, ez, q2⟩ := hv
    subst ez
    cases rz
    exact ⟨.ref c, H', I', rfl, q2⟩
  rcases alt with ⟨b, dy, gs, rfl, hb⟩ | ⟨T, hT, ty⟩
  · cases ry
    obtain ⟨mB, J', _⟩ := ins_get I.hok hb
    obtain ⟨od', J', _⟩ := J'.look
    exact PySem.W.binop_K (op := op) hF I.ok.mod.kin J J'.type sf h1 h2 last
  · obtain ⟨b, ob, rfl, e, cl⟩ := ty.is I ry (fun z => by
      rcases hT with rfl | rfl | rfl <;> refine ⟨by decide, by decide, fun q => ?_⟩ <;> exact absurd (congrArg (fun t : String => t.toList.getLast?) q) (by simp [String.toList_append]))
    obtain ⟨rc, er, hp⟩ := hrr
    exact bin_left (op := op) hF I.ok.mod.kin J (looks_typ e cl rfl) sf h1 h2 er hp (side_of hn hT) last
/-- a | b, a & b where a is a dict -/
def rOwnRBin (K : PySem.W.Frag) (C : Addr) (sp : Sp) : R2 := fun x y H Q => ∃ a b dx fs, x = .ref b ∧ tyV K "dict" x H ∧ y = .ref a ∧ H a = some (.ins C dx fs) ∧ sp [.ref a, .ref b] H (fun v H' => ∃ c, v = .ref c ∧ Q (.ref c) H') E0
theorem op_ownRBin {op : Operator} {m ml : Str} {sp2 : Sp} {k2 : Nat} (c : Own X.prog X.w X.K X.mg X.base k C m sp) (cl : Own X.prog X.w X.K X.mg X.base k2 C ml sp2) (hm : m = dunderR op.info.2) (hml : ml = PySem.dunder op.info.2) (sf : PySem.W.selfFirst X.K C = true) (hop : op = .BitOr ∨ op = .BitAnd)
    (nd : PySem.W.subIn X.K (.ref C) (.type "dict") = some false) (hr : Room j X.A) (hk : k ≤ j) : OpR X (binaryOp op) (rOwnRBin X.K C sp) := by
  subst hm hml
  obtain ⟨f, fd, ps, h1, h2, h3, F, bb⟩ := c.ex
  obtain ⟨g, _, _, g1, _⟩ := cl.ex
  intro pins s σ H x y v u Q I rx ry hq
  obtain ⟨a, b, dx, fs, rfl, ty, rfl, ha, q⟩ := hq
  obtain ⟨tis, _⟩ := tyV_is I rx ty
  cases rx
  cases ry
  obtain ⟨mA, J, _⟩ := ins_get I.hok ha
  obtain ⟨od, J, _⟩ := J.look
  obtain ⟨m, hF⟩ := I.fr
  refine bin_right (op := op) hF I.ok.mod.kin J tis sf hop g1 h1 h2 nd ?_
  refine wpAny_mono (run_fn (vs := [.ref a, .ref b]) (us := [.ref a, .ref b]) (dvs := []) (ds := []) F (hr.mono hk) bb .nil pass0 I (.cons rfl (.cons rfl .nil)) q) (fun r s' hv => ?_) fun _ _ e => e
  obtain ⟨z, H', I', rz, c, ez, q2⟩ := hv
  subst ez
  cases rz
  exact ⟨.ref c, H', I', rfl, q2⟩
end
end KnW

set_option Elab.async false
set_option linter.all false
set_option maxRecDepth 100000
set_option maxHeartbeats 4000000
/-! isinstance of an instance or a dict; d.update(e); the reflected name of an own operator. -/
namespace KnW
open PySem PySem.Spec PyProof.Rows L2
section
variable {X : Cx} {k : Nat} {C : Addr} {sp : Sp}
theorem rr_of {m nm : Str} {P : Program} {w : World} {K : PySem.W.Frag} {mg : Str → Option Value} {base : Heap} (c : Own P w K mg base k C m sp) (e : nm = m) : ∃ rc, PySem.W.findIn K (.ref C) nm = some rc ∧ (rc = none ∨ ∃ g : Addr, rc = some (.ref g)) := by
  subst e
  obtain ⟨f, _, _, h1, _⟩ := c.ex
  exact ⟨_, h1, .inr ⟨f, rfl⟩⟩
theorem kit_dict {K : PySem.W.Frag} {C : Addr} (c : PySem.W.isClsIn K C = true) (t : PySem.W.typeIn K (.ref C) = some (.type "type")) : PySem.W.kitOne K (.type "dict") (.ref C) = some false := by
  have ne : (Value.type "dict" == Value.ref C) = false := Bool.eq_false_iff.mpr fun q => by cases beq_iff_eq.mp q
  have sub : PySem.W.subIn K (.type "dict") (.ref C) = some false := (side_of (nm := "or") (.inl rfl) (.inl rfl)).no
  have both : ((PySem.W.clsIn K C).isSome && PySem.W.typeIn K (.ref C) == some (.type "type")) = true := by
    rw [t, show (PySem.W.clsIn K C).isSome = true from c]
    simp
  unfold PySem.W.kitOne
  rw [ne]
  refine (if_neg Bool.false_ne_true).trans ?_
  show (if ((PySem.W.clsIn K C).isSome && PySem.W.typeIn K (.ref C) == some (.type "type")) = true then PySem.W.subIn K (.type "dict") (.ref C) else none) = some false
  rw [if_pos both, sub]
def rIsCA (C : Addr) : List V → Hp → VK → Prop := fun xs H Q => (∃ a dx fs, xs = [.ref a, .ref C] ∧ H a = some (.ins C dx fs) ∧ Q (.bl true) H) ∨ ∃ a kvs, xs = [.ref a, .ref C] ∧ H a = some (.dK kvs) ∧ Q (.bl false) H
theorem call_isCA (c : C8.InsC X.K C) (nd : PySem.W.kitOne X.K (.type "dict") (.ref C) = some false) : CallR X (.builtin "isinstance") (rIsCA C) := by
  intro pins s σ H xs us Q I r h
  rcases h with ⟨a, dx, fs, rfl, ha, q⟩ | ⟨a, kvs, rfl, ha, q⟩
  · exact C8.call_isC c pins s σ H _ us Q I r ⟨a, dx, fs, rfl, ha, q⟩
  · obtain ⟨u, w', rfl, ru, rw'⟩ := vals2 r
    cases rw'
    exact isinst_ok I ru (TyOf.dK ha) nd fun tk => ⟨.bl false, H, I.tok _, rfl, q⟩
def rUpdate : V → List V → Hp → VK → Prop := fun x xs H Q => ∃ d e base more, x = .ref d ∧ xs = [.ref e] ∧ d ≠ e ∧ H d = some (.dK base) ∧ H e = some (.dK more) ∧ base.length + more.length ≤ sizeLine ∧ Q .non (upd H d (.dK (KnG.mergeFold base more)))
theorem mt_update : MtR X "dict.update" rUpdate := by
  intro pins s σ H x xs v us Q I r rs h
  obtain ⟨d, e, base, more, rfl, rfl, ne, hd, he, sz, q⟩ := h
  cases r
  obtain ⟨u, rfl, ru⟩ := vals1 rs
  cases ru
  obtain ⟨ze, hse, ve, rele, de⟩ := dk_of I.hok he
  obtain ⟨zd, hsd, vd, reld, dd⟩ := dk_of I.hok hd
  refine call_meetsIn PySem.F.slot_dict_update dd.typeIs PySem.F.entry_dict_update (PySem.F.args_dict_update_2 _ _) (meets_dict_update (mixKind X.prog X.w) d e ne hse) ⟨vd, ve, dd, de, by rw [← reld.length, ← rele.length]; exact sz, fun h' hm _ hs => ?_⟩
  have hl : (mergeK base more).length ≤ sizeLine := by
    have e1 := (KV.merge rele reld).length
    have e2 := merged_length_le vd ve
    have e3 := reld.length
    have e4 := rele.length
    omega
  exact ⟨.non, _, d_write I (by rw [hd]; exact True.intro) hs (let ⟨q, _, _, hq, _⟩ := hm; ⟨q, hq⟩) (dk_new hl hsd (KV.merge rele reld) hm), rfl, q⟩
end
end KnW

set_option Elab.async false
set_option linter.all false
set_option maxRecDepth 100000
set_option maxHeartbeats 4000000
/-! An instance compared by == and != with a value of any kind: its own __eq__, and object's __ne__ over it. -/
namespace KnW
open PySem PySem.Spec PyProof.Rows L2
theorem looks_ty {X : Cx} {pins : List (Addr × Obj)} {σ : L2.St} {H : Hp} {s : Shared} {x : V} {u t : Value} (I : Inv X pins σ H s) (rx : RelV x u) (ty : TyOf X.K H x t) : PySem.W.Looks (model X.prog X.w) s.heap (typeOf u) t := by
  cases ty with
  | non => cases (show u = Value.none from rx); exact .of_pure rfl
  | bl y => cases (show u = Value.bool y from rx); exact .of_pure rfl
  | int i => obtain ⟨t, q⟩ := (show ∃ t, u = Value.int i t from rx); cases q; exact .of_pure rfl
  | str y => obtain ⟨t, q⟩ := (show ∃ t, u = Value.str y t from rx); cases q; exact .of_pure rfl
  | flt y => obtain ⟨t, q⟩ := (show ∃ t, u = Value.float y t from rx); cases q; exact .of_pure rfl
  | @lst a xs ea =>
    cases (show u = Value.ref a from rx)
    obtain ⟨_, _, n, _, e⟩ := (show ObjOk X.prog X.w H s.heap a (.lst xs) from I.hok a _ ea)
    exact looks_typ e rfl rfl
  | @frz a ob xs ea =>
    cases (show u = Value.ref a from rx)
    obtain ⟨_, _, _, n, _, e⟩ := (show ObjOk X.prog X.w H s.heap a (.frz ob (.lst xs)) from I.hok a _ ea)
    exact looks_typ e rfl rfl
  | @tup a xs ea =>
    cases (show u = Value.ref a from rx)
    obtain ⟨_, _, _, ob, e, c, _⟩ := (show ObjOk X.prog X.w H s.heap a (.tup xs) from I.hok a _ ea)
    exact looks_typ e c rfl
  | @dK a kvs ea =>
    cases (show u = Value.ref a from rx)
    obtain ⟨_, _, vs, _, ob, _, _, e, c, _⟩ := (show ObjOk X.prog X.w H s.heap a (.dK kvs) from I.hok a _ ea)
    exact looks_typ e c.1 rfl
  | @dT a kvs ea =>
    cases (show u = Value.ref a from rx)
    obtain ⟨_, _, _, _, ob, _, _, e, c, _⟩ := (show ObjOk X.prog X.w H s.heap a (.dT kvs) from I.hok a _ ea)
    exact looks_typ e c.1 rfl
  | @ins a C dx fs ea cl ha hn htk hm =>
    cases (show u = Value.ref a from rx)
    obtain ⟨mA, O, _⟩ := ins_get I.hok ea
    obtain ⟨od, J, _⟩ := O.look
    exact J.type
/-- the built-in types whose values are compared here -/
def plainTys : List String := ["NoneType", "bool", "int", "str", "list", "tuple", "dict"]
theorem sub_none {C : Addr} {l : List String} {T : String} (h : PySem.fastBuiltinMro T = some (l.map Value.type)) (K : PySem.W.Frag) : PySem.W.subIn K (.type T) (.ref C) = some false := by
  show (PySem.fastBuiltinMro T).map (·.contains (.ref C)) = some false
  rw [h, Option.map_some]
  congr 1
  rw [List.contains_eq_any_beq, List.any_eq_false]
  intro v hv
  obtain ⟨n, _, rfl⟩ := List.mem_map.mp hv
  intro q
  cases beq_iff_eq.mp q
theorem not_first {K : PySem.W.Frag} {C : Addr} {T : String} (h : T ∈ plainTys) : PySem.W.notFirst K C (.type T) = true := by
  have : PySem.W.subIn K (.type T) (.ref C) = some false := by
    unfold plainTys at h
    simp only [List.mem_cons, List.not_mem_nil, or_false] at h
    rcases h with rfl | rfl | rfl | rfl | rfl | rfl | rfl
    · exact sub_none (l := ["NoneType", "object"]) (by decide +kernel) K
    · exact sub_none (l := ["bool", "int", "object"]) (by decide +kernel) K
    · exact sub_none (l := ["int", "object"]) (by decide +kernel) K
    · exact sub_none (l := ["str", "object"]) (by decide +kernel) K
    · exact sub_none (l := ["list", "object"]) (by decide +kernel) K
    · exact sub_none (l := ["tuple", "object"]) (by decide +kernel) K
    · exact sub_none (l := ["dict", "object"]) (by decide +kernel) K
  unfold PySem.W.notFirst
  rw [this]
  simp
theorem not_first_self {K : PySem.W.Frag} {C : Addr} : PySem.W.notFirst K C (.ref C) = true := by simp [PySem.W.notFirst]
theorem not_first_of {K : PySem.W.Frag} {C D : Addr} (h : PySem.W.subIn K (.ref D) (.ref C) = some false) : PySem.W.notFirst K C (.ref D) = true := by
  unfold PySem.W.notFirst
  rw [h]
  simp
theorem kit_own {K : PySem.W.Frag} {C : Addr} {t : Value} (c : PySem.W.isClsIn K C = true) (ty : PySem.W.typeIn K (.ref C) = some (.type "type")) (n : t ≠ .ref C) (sub : PySem.W.subIn K t (.ref C) = some false) : PySem.W.kitOne K t (.ref C) = some false := by
  have ne : (t == Value.ref C) = false := beq_eq_false_iff_ne.mpr n
  have both : ((PySem.W.clsIn K C).isSome && PySem.W.typeIn K (.ref C) == some (.type "type")) = true := by
    rw [ty, show (PySem.W.clsIn K C).isSome = true from c]
    simp
  unfold PySem.W.kitOne
  rw [ne]
  refine (if_neg Bool.false_ne_true).trans ?_
  show (if ((PySem.W.clsIn K C).isSome && PySem.W.typeIn K (.ref C) == some (.type "type")) = true then PySem.W.subIn K t (.ref C) else none) = some false
  rw [if_pos both, sub]
theorem plain_sub {K : PySem.W.Frag} {C : Addr} {T : String} (h : T ∈ plainTys) : PySem.W.subIn K (.type T) (.ref C) = some false := by
  unfold plainTys at h
  simp only [List.mem_cons, List.not_mem_nil, or_false] at h
  rcases h with rfl | rfl | rfl | rfl | rfl | rfl | rfl
  · exact sub_none (l := ["NoneType", "object"]) (by decide +kernel) K
  · exact sub_none (l := ["bool", "int", "object"]) (by decide +kernel) K
  · exact sub_none (l := ["int", "object"]) (by decide +kernel) K
  · exact sub_none (l := ["str", "object"]) (by decide +kernel) K
  · exact sub_none (l := ["list", "object"]) (by decide +kernel) K
  · exact sub_none (l := ["tuple", "object"]) (by decide +kernel) K
  · exact sub_none (l := ["dict", "object"]) (by decide +kernel) K
section
variable {P : Program} {w : World} {A : Around} {E : Value → Shared → Prop} {s : Shared} {K : PySem.W.Frag} {x C L f : Addr} {h₀ : Heap} {m : Str → Option Value} {ox : Obj} {od : Option Obj} {b tb : Value}
open PySem.W in
theorem ne_own {Q : Value → Shared → Prop} (hu : A.units + 1 < cLine) (F : Fr h₀ L s.heap m) (X₀ : K.In h₀) (I : InstAt s.heap x ox C od) (hb : Looks (model P w) s.heap (typeOf b) tb) (hn : notFirst K C tb = true)
    (hne : findIn K (.ref C) "__ne__" = some (some (.builtin "object.__ne__"))) (hob : subIn K (.ref C) (.type "object") = some true) (hs : findIn K (.ref C) "__eq__" = some (some (.ref f))) (hf : isFn K (.ref f) = true)
    (h : wpAny (model P w) A.in1 (call (.ref f) [.ref x, b]) (fun v s' => ∃ c, v = .bool c ∧ Q (.bool (!c)) s') E s) : wpAny (model P w) A (richCompare .NotEq (.ref x) b) Q E s := by
  have KI := X₀.keeps F.keep
  have body : wpAny (model P w) A.in1 (Builtin.«object.__ne__» ⟨[.ref x, b], []⟩) (fun fin s' => ∃ v, fin = .done (.ret v) ∧ ∃ c, v = .bool c ∧ Q v s') E s := by
    unfold Builtin.«object.__ne__»
    refine wpAny_bind (?_ : wpAny _ _ (slotArgs _ _ _) _ _ _)
    unfold slotArgs
    show wpAny _ _ (pure (Value.ref x, [b])) _ _ _
    refine wpAny_pure ?_
    dsimp only
    refine wpAny_bind (wpAny_cRoomFor (show A.units + 1 < cLine from hu) ?_)
    refine wpAny_bind (ifBound_K KI I hs hf (wpAny_mono h (fun v s' hv => ?_) fun _ _ e => e))
    obtain ⟨c, rfl, q⟩ := hv
    dsimp only
    refine wpAny_bind (wpAny_truthy_bool ?_)
    exact wpAny_pure ⟨_, rfl, _, rfl, q⟩
  have sig : ∀ {A' : Around} {Q' : Unit → Shared → Prop}, Q' () s → wpAny (model P w) A' (checkBuiltinCall "object.__ne__" ⟨[.ref x, b], []⟩) Q' E s := fun {A' Q'} q => by
    have ha := PySem.F.cmpArgs_ne (.ref x) b
    simp only [checkBuiltinCall, PySem.F.cmpKind_ne, PySem.F.cmpSplit_ne]
    unfold isInstance
    refine wpAny_bind (wpAny_bind (I.type.here ((looks_subIn KI hob).here ?_)))
    simp only [Bool.not_true, Bool.false_eq_true, if_false]
    cases hsig : Manifest.signature? "object.__ne__" with
    | none => exact wpAny_pure q
    | some sg =>
      simp only [argsOk, hsig] at ha
      have h2 : Bind.checkArgs "object.__ne__" sg ⟨[.ref x, b], []⟩ = pure () := ha
      show wpAny _ _ (Bind.checkArgs "object.__ne__" sg ⟨[.ref x, b], []⟩) _ _ _
      rw [h2]; exact wpAny_pure q
  have called : wpAny (model P w) A (call (.builtin "object.__ne__") [.ref x, b]) (fun v s' => ∃ c, v = .bool c ∧ Q v s') E s := by
    refine wpAny_call (codeAny_call_builtin (by decide +kernel) PySem.F.cmpEntry_ne (sig ?_))
    refine wpAny_mono body (fun fin s' hv => ?_) fun _ _ e => e
    obtain ⟨v, rfl, q⟩ := hv
    exact q
  have bnd : bindSpecial (.builtin "object.__ne__") (.ref x) = pure (.builtin "object.__ne__", [.ref x]) := PySem.F.cmp_object.ne.bind _
  have one : wpAny (model P w) A (tryCompare (.ref x) "__ne__" b) (fun r s' => ∃ v, r = some v ∧ Q v s') E s := by
    unfold tryCompare
    refine wpAny_bind (?_ : wpAny _ _ (callSpecialIfBound? _ _ _) _ _ _)
    simp only [callSpecialIfBound?, bindSpecialIfBound?]
    refine wpAny_holding (wpAny_bind (wpAny_bind (?_ : wpAny _ _ (specialOf (.ref x) "__ne__") _ _ _)))
    unfold specialOf
    refine wpAny_bind (I.type.here ((looks_findIn KI hne).here ?_))
    dsimp only
    rw [bnd]
    have fin : ∀ {R : Option Value → Shared → Prop}, (∀ v s', (∃ c, v = .bool c ∧ Q v s') → R (some v) s') → wpAny (model P w) A (call (.builtin "object.__ne__") ([.ref x] ++ [b]) >>= fun v => pure (some v)) R E s := fun {R} k => wpAny_bind (wpAny_mono called (fun v s' hv => wpAny_pure (k v s' hv)) fun _ _ e => e)
    have last : ∀ v s', (∃ c, v = Value.bool c ∧ Q v s') → wpAny (model P w) A (match some v with | some .notImplemented | none => pure none | some v => pure (some v)) (fun r s' => ∃ v, r = some v ∧ Q v s') E s' := fun v s' ⟨c, e, q⟩ => by
      subst e
      exact wpAny_pure ⟨_, rfl, q⟩
    refine wpAny_bind (wpAny_askSetting (wpAny_ite ?_))
    split
    · exact wpAny_bind (wpAny_pure (wpAny_pure (fin last)))
    · exact wpAny_tryCatch (wpAny_bind (wpAny_pure (wpAny_pure (fin last))))
  unfold richCompare
  simp only [oneThing_ref]
  refine wpAny_holding (wpAny_bind (wpAny_cRoomFor (show A.units < cLine by omega) ?_))
  refine wpAny_bind (I.type.here (wpAny_bind (hb.here ?_)))
  split
  · rename_i q
    have e : subIn K tb (.ref C) = some false := by
      rcases Bool.or_eq_true_iff.mp hn with e | e
      · rw [beq_iff_eq.mp e] at q; simp at q
      · exact beq_iff_eq.mp e
    refine wpAny_bind ((looks_subIn KI e).here ?_)
    simp only [Bool.false_eq_true, if_false]
    exact wpAny_bind (wpAny_mono one (fun r s' ⟨v, ev, q⟩ => by subst ev; exact wpAny_pure q) fun _ _ e => e)
  · refine wpAny_bind (wpAny_pure ?_)
    simp only [Bool.false_eq_true, if_false]
    exact wpAny_bind (wpAny_mono one (fun r s' ⟨v, ev, q⟩ => by subst ev; exact wpAny_pure q) fun _ _ e => e)
end
section
variable {X : Cx} {k j : Nat} {C : Addr} {sp : Sp}
def rOwnCmp (K : PySem.W.Frag) (C : Addr) (sp : Sp) (neg : Bool) : R2 := fun x y H Q => ∃ a dx fs t, x = .ref a ∧ H a = some (.ins C dx fs) ∧ TyOf K H y t ∧ PySem.W.notFirst K C t = true ∧ sp [.ref a, y] H (fun v H' => ∃ c, v = .bl c ∧ Q (.bl (if neg then !c else c)) H') E0
theorem op_ownEqA (c : Own X.prog X.w X.K X.mg X.base k C "__eq__" sp) (hr : Room j X.A) (hk : k ≤ j) : OpR X (compareOp .Eq) (rOwnCmp X.K C sp false) := by
  obtain ⟨f, fd, ps, h1, h2, h3, F, bb⟩ := c.ex
  intro pins s σ H x y v u Q I rx ry hq
  obtain ⟨a, dx, fs, t, rfl, ha, ty, nf, q⟩ := hq
  have lt := looks_ty I ry ty
  cases rx
  obtain ⟨mA, J, _⟩ := ins_get I.hok ha
  obtain ⟨od, J, _⟩ := J.look
  obtain ⟨m, hF⟩ := I.fr
  show wpAny (model X.prog X.w) X.A (richCompare .Eq (.ref a) u) (EP X pins σ Q) X.xe s
  refine PySem.W.cmp_K (op := .Eq) (tb := t) hr.units0 hF I.ok.mod.kin J lt nf h1 h2 ?_
  refine wpAny_mono (run_fn (vs := [.ref a, y]) (us := [.ref a, u]) (dvs := []) (ds := []) F (hr.mono hk) bb .nil pass0 I (.cons rfl (.cons ry .nil)) q) (fun r s' hv => ?_) fun _ _ e => e
  obtain ⟨z, H', I', rz, c, ez, q2⟩ := hv
  subst ez
  cases rz
  exact ⟨.bl c, H', I', rfl, q2⟩
theorem op_ownNe (c : Own X.prog X.w X.K X.mg X.base k C "__eq__" sp) (hne : PySem.W.findIn X.K (.ref C) "__ne__" = some (some (.builtin "object.__ne__"))) (hob : PySem.W.subIn X.K (.ref C) (.type "object") = some true) (hr : Room j X.A) (hk : k + 1 ≤ j) : OpR X (compareOp .NotEq) (rOwnCmp X.K C sp true) := by
  obtain ⟨f, fd, ps, h1, h2, h3, F, bb⟩ := c.ex
  intro pins s σ H x y v u Q I rx ry hq
  obtain ⟨a, dx, fs, t, rfl, ha, ty, nf, q⟩ := hq
  have lt := looks_ty I ry ty
  cases rx
  obtain ⟨mA, J, _⟩ := ins_get I.hok ha
  obtain ⟨od, J, _⟩ := J.look
  obtain ⟨m, hF⟩ := I.fr
  show wpAny (model X.prog X.w) X.A (richCompare .NotEq (.ref a) u) (EP X pins σ Q) X.xe s
  refine ne_own (tb := t) (by have := hr.un; omega) hF I.ok.mod.kin J lt nf hne hob h1 h2 ?_
  refine wpAny_mono (run_in1 (vs := [.ref a, y]) (us := [.ref a, u]) F (hr.mono hk) bb pass0 I (.cons rfl (.cons ry .nil)) q) (fun r s' hv => ?_) fun _ _ e => e
  obtain ⟨z, H', I', rz, c, ez, q2⟩ := hv
  subst ez
  cases rz
  exact ⟨c, rfl, .bl (!c), H', I', rfl, q2⟩
end
end KnW

set_option Elab.async false
set_option linter.all false
set_option maxRecDepth 100000
set_option maxHeartbeats 4000000
/-! Two dicts of texts compared, with either answer. -/
namespace KnV
open PySem PySem.Spec PyProof.Rows L2
def strV : V → Bool
  | .str _ => true
  | _ => false
def dictEq (ks ls : List (Key × V)) : Bool := ks.length == ls.length && ks.all fun p => decide (valV ls p.1 = some p.2)
theorem hits_any {A : Around} {s : Shared} {kvs : List (Key × V)} {vb : List (Key × Value)} (rb : KV kvs vb) (sb : ∀ k v, valV kvs k = some v → strV v = true) {ks : List (Key × V)} {va : List (Key × Value)} (ra : KV ks va) :
    (∀ p ∈ ks, strV p.2 = true) → PySem.W.KeqHits A s vb va (ks.all fun p => decide (valV kvs p.1 = some p.2)) := by
  unfold KV at ra
  induction ra with
  | nil => intro _; exact .nil
  | @cons p q ps qs h t ih =>
    intro hp
    obtain ⟨h1, h2⟩ := h
    obtain ⟨k, v⟩ := q
    have h1' : p.1 = k := h1
    subst h1'
    have sp := hp p List.mem_cons_self
    have rest := ih fun p' hm => hp p' (List.mem_cons_of_mem _ hm)
    have rv := rb.val p.1
    rw [List.all_cons]
    cases e : valV kvs p.1 with
    | none =>
      rw [e] at rv
      cases e2 : valueAt vb p.1 with
      | none =>
        rw [decide_eq_false (fun t => by cases t), Bool.false_and]
        exact .miss e2
      | some z => rw [e2] at rv; exact rv.elim
    | some y =>
      rw [e] at rv
      obtain ⟨u, hu, ru⟩ := rv.some_of
      have sy := sb _ _ e
      obtain ⟨pk, pv⟩ := p
      cases pv with
      | str a =>
        cases y with
        | str b =>
          obtain ⟨t1, rfl⟩ := (show ∃ t, v = Value.str a t from h2)
          obtain ⟨t2, rfl⟩ := (show ∃ t, u = Value.str b t from ru)
          have g := PySem.SeqAt.EqAt.str_str (A := A) (s := s) a t1 b t2
          have eq : decide (some (V.str b) = some (V.str a)) = (a == b) := by
            by_cases z : a = b
            · rw [z, decide_eq_true rfl]; simp
            · rw [decide_eq_false (fun t => z (V.str.inj (Option.some.inj t)).symm)]
              exact (beq_eq_false_iff_ne.mpr z).symm
          show PySem.W.KeqHits A s vb ((pk, Value.str a t1) :: qs) (decide (some (V.str b) = some (V.str a)) && _)
          rw [eq]
          exact .hit hu g rest
        | _ => cases sy
      | _ => cases sp
section
variable {X : Cx}
def rDictB (neg : Bool) : R2 := fun x y H Q => ∃ a b ks ls, x = .ref a ∧ y = .ref b ∧ H a = some (.dK ks) ∧ H b = some (.dK ls) ∧ (∀ p ∈ ks, strV p.2 = true) ∧ (∀ k v, valV ls k = some v → strV v = true) ∧ Q (.bl (if neg then !dictEq ks ls else dictEq ks ls)) H
theorem op_eqDictB (hu : X.A.units < cLine) : OpR X (compareOp .Eq) (rDictB false) := by
  intro pins s σ H x y v u Q I rx ry h
  obtain ⟨a, b, ks, ls, rfl, rfl, ea, eb, p1, p2, q⟩ := h
  cases rx
  cases ry
  obtain ⟨_, ya, va, ra, da⟩ := (show ObjOk X.prog X.w H s.heap a (.dK ks) from I.hok a _ ea)
  obtain ⟨_, yb, vb, rb, db⟩ := (show ObjOk X.prog X.w H s.heap b (.dK ls) from I.hok b _ eb)
  exact PySem.W.keq_eq (knd := mixKind X.prog X.w) ya yb da db hu (fun _ => hits_any rb p2 ra p1) (fin_bl I q (by unfold dictEq; rw [ra.length, rb.length]; rfl))
theorem op_neDictB (hu : X.A.units < cLine) : OpR X (compareOp .NotEq) (rDictB true) := by
  intro pins s σ H x y v u Q I rx ry h
  obtain ⟨a, b, ks, ls, rfl, rfl, ea, eb, p1, p2, q⟩ := h
  cases rx
  cases ry
  obtain ⟨_, ya, va, ra, da⟩ := (show ObjOk X.prog X.w H s.heap a (.dK ks) from I.hok a _ ea)
  obtain ⟨_, yb, vb, rb, db⟩ := (show ObjOk X.prog X.w H s.heap b (.dK ls) from I.hok b _ eb)
  exact PySem.W.keq_ne (knd := mixKind X.prog X.w) ya yb da db hu (fun _ => hits_any rb p2 ra p1) (fin_bl I q (by unfold dictEq; rw [ra.length, rb.length]; rfl))
end
end KnV

set_option Elab.async false
set_option linter.all false
set_option maxRecDepth 100000
/-! Order of texts, of ints; the states that steps reach. -/
namespace KnA
open PySem PySem.Spec PyProof.Rows
theorem lt_irr : ∀ a : List Nat, ltCps a a = false
  | [] => rfl
  | x :: r => by
    show (decide (x < x) || (x == x && ltCps r r)) = false
    rw [lt_irr r, decide_eq_false (Nat.lt_irrefl x)]; simp
theorem le_trans_ : ∀ {a b c : List Nat}, ltCps b a = false → ltCps c b = false → ltCps c a = false
  | [], [], [], _, _ => rfl
  | [], [], _ :: _, _, _ => rfl
  | [], _ :: _, [], _, h => by cases h
  | [], _ :: _, _ :: _, _, _ => rfl
  | _ :: _, [], _, h, _ => by cases h
  | _ :: _, _ :: _, [], _, h => by cases h
  | x :: r, y :: t, z :: u, h1, h2 => by
    have h1' : (decide (y < x) || (y == x && ltCps t r)) = false := h1
    have h2' : (decide (z < y) || (z == y && ltCps u t)) = false := h2
    show (decide (z < x) || (z == x && ltCps u r)) = false
    rw [Bool.or_eq_false_iff, decide_eq_false_iff_not, Bool.and_eq_false_iff, beq_eq_false_iff_ne] at h1' h2' ⊢
    refine ⟨by omega, ?_⟩
    by_cases e : z = x
    · right
      have e1 : y = x := by omega
      have e2 : z = y := by omega
      exact le_trans_ (h1'.2.resolve_left fun q => q e1) (h2'.2.resolve_left fun q => q e2)
    · exact .inl e
theorem le_anti : ∀ {a b : List Nat}, ltCps b a = false → ltCps a b = false → a = b
  | [], [], _, _ => rfl
  | [], _ :: _, _, h2 => by cases h2
  | _ :: _, [], h1, _ => by cases h1
  | x :: r, y :: t, h1, h2 => by
    have h1' : (decide (y < x) || (y == x && ltCps t r)) = false := h1
    have h2' : (decide (x < y) || (x == y && ltCps r t)) = false := h2
    rw [Bool.or_eq_false_iff, decide_eq_false_iff_not, Bool.and_eq_false_iff, beq_eq_false_iff_ne] at h1' h2'
    have e : x = y := by omega
    subst e
    rw [le_anti (h1'.2.resolve_left fun q => q rfl) (h2'.2.resolve_left fun q => q rfl)]
def leS (a b : Str) : Prop := ltCps b.cps.toList a.cps.toList = false
theorem leS_trans {a b c : Str} (h1 : leS a b) (h2 : leS b c) : leS a c := le_trans_ h1 h2
theorem str_ext {a b : Str} (h : a.cps.toList = b.cps.toList) : a = b := by
  cases a; cases b
  exact congrArg Str.mk (Array.toList_inj.mp h)
theorem leS_anti {a b : Str} (h1 : leS a b) (h2 : leS b a) : a = b := str_ext (le_anti h1 h2)
theorem rising_pair : ∀ {p : Str} {l : List Str}, risingS p l = true → (p :: l).Pairwise leS
  | p, [], _ => List.pairwise_singleton _ _
  | p, x :: r, h => by
    have h' : (!ltCps x.cps.toList p.cps.toList && risingS x r) = true := h
    rw [Bool.and_eq_true, Bool.not_eq_true'] at h'
    have ih := rising_pair h'.2
    refine List.pairwise_cons.mpr ⟨fun y hy => ?_, ih⟩
    rcases List.mem_cons.mp hy with z | z
    · rw [z]; exact h'.1
    · exact leS_trans h'.1 ((List.pairwise_cons.mp ih).1 y z)
theorem sorted_pair {l : List Str} (h : sortedS l = true) : l.Pairwise leS := by
  cases l with
  | nil => exact List.Pairwise.nil
  | cons x r => exact rising_pair h
theorem perm_sorted {α : Type} {R : α → α → Prop} (anti : ∀ {a b}, R a b → R b a → a = b) : ∀ {l m : List α}, l.Perm m → l.Pairwise R → m.Pairwise R → l = m
  | [], m, p, _, _ => (List.Perm.nil_eq p)
  | x :: l, [], p, _, _ => absurd p.length_eq (by simp)
  | x :: l, y :: m, p, h1, h2 => by
    have e : x = y := by
      have hx : x ∈ y :: m := p.mem_iff.mp List.mem_cons_self
      have hy : y ∈ x :: l := p.mem_iff.mpr List.mem_cons_self
      rcases List.mem_cons.mp hx with z | z
      · exact z
      · rcases List.mem_cons.mp hy with z' | z'
        · exact z'.symm
        · exact anti ((List.pairwise_cons.mp h1).1 y z') ((List.pairwise_cons.mp h2).1 x z)
    subst e
    rw [perm_sorted anti (List.perm_cons x |>.mp p) (List.pairwise_cons.mp h1).2 (List.pairwise_cons.mp h2).2]
theorem nodup_perm {α : Type} [DecidableEq α] {l m : List α} (h1 : l.Nodup) (h2 : m.Nodup) (h : ∀ x, x ∈ l ↔ x ∈ m) : l.Perm m := (List.perm_ext_iff_of_nodup h1 h2).mpr h
/-- the sorted list of these texts, each once -/
structure Words (ys : List Str) (xs : List Str) : Prop where
  up : ys.Pairwise leS
  nd : ys.Nodup
  mem : ∀ x, x ∈ ys ↔ x ∈ xs
theorem Words.uniq {ys zs xs : List Str} (a : Words ys xs) (b : Words zs xs) : ys = zs :=
  perm_sorted leS_anti (nodup_perm a.nd b.nd fun x => (a.mem x).trans (b.mem x).symm) a.up b.up
/-! ### states -/
abbrev Stp := Int × Str × Int
inductive Reach (ss : List Stp) (s0 : Int) : Int → Prop where
  | start : Reach ss s0 s0
  | step {x : Int} {w : Str} {y : Int} (h : Reach ss s0 x) (m : (x, w, y) ∈ ss) : Reach ss s0 y
structure States (ns : List Int) (ss : List Stp) (s0 : Int) : Prop where
  up : ns.Pairwise (· < ·)
  mem : ∀ x, x ∈ ns ↔ Reach ss s0 x
theorem States.uniq {a b : List Int} {ss : List Stp} {s0 : Int} (h : States a ss s0) (k : States b ss s0) : a = b := by
  have nd : ∀ {l : List Int}, l.Pairwise (· < ·) → l.Nodup := fun p => p.imp fun h e => by omega
  exact perm_sorted (R := fun x y : Int => x < y) (fun h1 h2 => by omega) (nodup_perm (nd h.up) (nd k.up) fun x => (h.mem x).trans (k.mem x).symm) h.up k.up
theorem lt_of_le {l : List Int} (h : l.Pairwise (· ≤ ·)) (d : l.Nodup) : l.Pairwise (· < ·) := by
  induction l with
  | nil => exact List.Pairwise.nil
  | cons x r ih =>
    obtain ⟨h1, h2⟩ := List.pairwise_cons.mp h
    obtain ⟨d1, d2⟩ := List.nodup_cons.mp d
    refine List.pairwise_cons.mpr ⟨fun y hy => ?_, ih h2 d2⟩
    have := h1 y hy
    have ne : x ≠ y := fun e => d1 (e ▸ hy)
    omega
/-- closed under the steps, from the start, and nothing else -/
theorem reach_of {ss : List Stp} {s0 : Int} {l : List Int} (h0 : s0 ∈ l) (hc : ∀ x w y, x ∈ l → (x, w, y) ∈ ss → y ∈ l) (hr : ∀ x ∈ l, Reach ss s0 x) (x : Int) : x ∈ l ↔ Reach ss s0 x := by
  refine ⟨hr x, fun h => ?_⟩
  induction h with
  | start => exact h0
  | step _ m ih => exact hc _ _ _ ih m
end KnA

set_option Elab.async false
set_option linter.all false
set_option maxRecDepth 100000
set_option maxHeartbeats 4000000
/-! xs[::-1] of a list. -/
namespace KnR
open PySem PySem.Spec PyProof.Rows L2
theorem pick_rev (its : List Value) : slicePick its.toArray none none (some (-1)) = its.reverse.toArray := by
  unfold slicePick
  have b : sliceBounds none none (some (-1)) its.toArray.size = ((its.length : Int) - 1, -1, -1) := by
    unfold sliceBounds
    simp
  rw [b]
  refine congrArg List.toArray ?_
  show (sliceRange ((its.length : Int) - 1) (-1) (-1)).filterMap (its.toArray[·]?) = its.reverse
  have r : sliceRange ((its.length : Int) - 1) (-1) (-1) = (List.range its.length).map fun k => its.length - 1 - k := by
    unfold sliceRange
    have c : (if (-1 : Int) > 0 then (if (its.length : Int) - 1 < -1 then (-1 - ((its.length : Int) - 1) + -1 - 1) / -1 else 0) else (if (its.length : Int) - 1 > -1 then ((its.length : Int) - 1 - -1 - -1 - 1) / (- -1) else 0)) = (its.length : Int) := by
      rw [if_neg (by decide)]
      by_cases h : (its.length : Int) - 1 > -1
      · rw [if_pos h]
        have : (- -1 : Int) = 1 := rfl
        rw [this, Int.ediv_one]
        omega
      · rw [if_neg h]; omega
    show (List.range (Int.toNat _)).map _ = _
    rw [c, Int.toNat_natCast]
    refine List.map_congr_left fun k hk => ?_
    have := List.mem_range.mp hk
    omega
  rw [r, List.filterMap_map]
  refine List.ext_getElem? fun i => ?_
  have all : ∀ n, n ≤ its.length → ((List.range n).filterMap ((fun x : Nat => its.toArray[x]?) ∘ fun k => its.length - 1 - k)) = its.reverse.take n := by
    intro n
    induction n with
    | zero => intro _; rfl
    | succ n ih =>
      intro h
      have hk : its.length - 1 - n < its.length := by omega
      have e : its.toArray[its.length - 1 - n]? = some its[its.length - 1 - n] := by
        rw [List.getElem?_toArray, List.getElem?_eq_getElem hk]
      rw [List.range_succ, List.filterMap_append, ih (by omega), List.take_add_one]
      refine congrArg (its.reverse.take n ++ ·) ?_
      have g : its.reverse[n]? = some its[its.length - 1 - n] := by
        rw [List.getElem?_reverse (by omega), List.getElem?_eq_getElem hk]
      rw [g, List.filterMap_cons, List.filterMap_nil]
      have e2 : ((fun x : Nat => its.toArray[x]?) ∘ fun k => its.length - 1 - k) n = some its[its.length - 1 - n] := e
      rw [e2]; rfl
  rw [all its.length (Nat.le_refl _), List.take_of_length_le (by rw [List.length_reverse]; exact Nat.le_refl _)]
def tRev (K : PySem.W.Frag) (te : TE) (ts : TO) : TE := fun σ H Q => te σ H fun x H1 => ts σ H1 fun o H2 => ∃ a xs, x = .ref a ∧ o = some (-1) ∧ SqL K H2 a xs ∧ ∀ p, H2 p = none → Q (.ref p) (upd H2 p (.lst xs.reverse))
section
variable {X : Cx} {e st : Expr} {te ts : TE} {p2 pos : Pos}
theorem pe_rev (he : PE X e te) (hs : PE X st ts) : PE X (.Subscript e (.Slice none none (some st) p2) pos) (tRev X.K te (tPart ts)) := by
  refine ⟨fun pins s σ H Q I h => ?_⟩
  refine Subscript_ (thn (he.run pins s σ H _ I h) fun v s1 ⟨x, H1, I1, r1, q1⟩ => ?_)
  have po : PO X (some st) (tPart ts) := po_some hs
  refine wpAny_Slice ?_
  rw [evalPart_none]
  refine wpAny_pure (wpAny_pure ?_)
  refine thn (po.run pins s1 σ H1 _ I1 q1) fun vk s3 ⟨o, H3, I3, pk, a, xs, ex, eo, hx, q3⟩ => ?_
  subst ex eo
  cases r1
  have I4 : Inv X pins σ H3 { s3 with heap := s3.heap.push { cls := .type "slice", data := .fields #[.none, .none, vk] } } := I3.kept (t' := s3.toks) fun b ob q => Heap.get?_push_of_some _ q
  obtain ⟨its, r, ht, hz⟩ := I4.list hx
  have hlen := r.length
  have hg : wpAny (model X.prog X.w) X.A (getItem (.ref a) (.ref s3.heap.objs.size)) (EP X pins σ Q) X.xe { s3 with heap := s3.heap.push { cls := .type "slice", data := .fields #[.none, .none, vk] } } := by
    refine wpAny_getItem_list_slice ht.isList (Heap.IsSliceOf.new ..) .none .none pk (by simp) ?_ (by rw [List.size_toArray]; omega)
    rw [pick_rev]
    refine ⟨.ref _, _, I4.laid (t' := s3.toks) (o := .lst xs.reverse) (fun b ob q => Heap.get?_push_of_some _ q) (Nat.le_refl _) ?_, rfl, q3 _ (I4.hok.fresh (Nat.le_refl _))⟩
    exact ⟨by rw [List.length_reverse]; exact hz, _, 0, r.reverse, Heap.get?_push_size _ rfl⟩
  show wpAny (model X.prog X.w) X.A (subscriptTail e (.Slice none none (some st) p2) (.ref a) (.ref s3.heap.objs.size)) (EP X pins σ Q) X.xe { s3 with heap := s3.heap.push { cls := .type "slice", data := .fields #[.none, .none, vk] } }
  exact tail_any (ops := [.ref a, .ref s3.heap.objs.size]) ht.isList.typeIs slot_list_getitem.lookup hg (by with_unfolding_all rfl)
end
end KnR

set_option Elab.async false
set_option linter.all false
set_option maxRecDepth 100000
set_option maxHeartbeats 4000000
/-! A def that has defaults, all of its arguments given. -/
namespace KnD
open PySem PySem.Spec PyProof.Rows L2
structure FunX (K : PySem.W.Frag) (x qual : Str) (st : Stmt) (f : Addr) (fd : FuncData) : Prop where
  ex : ∃ (oc : Value) (od : Option Addr) (dV kV doc pm : Value) (an : Option Addr) (cdv ct : Value) (osl : Array (Option Value)),
    fd = PySem.W.fnOf x qual (defArgs st) (defBody st) (defScope st) dV kV doc pm an cdv ct ∧ K.lookup f = some ⟨oc, od, .func fd, osl⟩ ∧ PySem.W.codeIn K cdv qual = true
section
variable {P : Program} {w : World} {K : PySem.W.Frag} {mg : Str → Option Value} {base : Heap}
theorem FunX.ok {x qual : Str} {st : Stmt} {f : Addr} {fd : FuncData} {N ps : List Str} {k : Nat} {sp : Sp} (F : FunX K x qual st f fd) (S : FnScope N ps (defScope st)) (len : ∀ vs H Q E, sp vs H Q E → vs.length = ps.length)
    (hbody : ∀ (cdv : Value) (A : Around) (outer : List Env) (s : Shared) (H : Hp) (vs : List V) (Q : VK) (E : XK), Room k (A.deeper (envOfC qual (defScope st) s.heap.objs.size f cdv)) → sp vs H Q E →
      ∃ t, PSs (cxOf CX0 P w K mg base N qual (defScope st) f cdv A outer s H E).nox (defBody st) t ∧ t { nx := fun _ H' => Q .non H', rt := Q } (start N vs) H) : FnOk P w K mg base CX0 (k + 1) f fd ps sp := by
  obtain ⟨oc, od, dV, kV, doc, pm, an, cdv, ct, osl, rfl, lk, hcd⟩ := F.ex
  refine fn_of lk hcd S len fun A outer s H vs Q E hr hsp => ?_
  obtain ⟨t, h, q⟩ := hbody cdv A outer s H vs Q E hr hsp
  exact ⟨t, h.nox, q⟩
/-- .. that may raise -/
theorem FunX.okX {x qual : Str} {st : Stmt} {f : Addr} {fd : FuncData} {N ps : List Str} {k : Nat} {sp : Sp} (F : FunX K x qual st f fd) (S : FnScope N ps (defScope st)) (len : ∀ vs H Q E, sp vs H Q E → vs.length = ps.length)
    (hbody : ∀ (cdv : Value) (A : Around) (outer : List Env) (s : Shared) (H : Hp) (vs : List V) (Q : VK) (E : XK), Room k (A.deeper (envOfC qual (defScope st) s.heap.objs.size f cdv)) → sp vs H Q E →
      ∃ t, PSs (cxOf (L2.CX P w) P w K mg base N qual (defScope st) f cdv A outer s H E) (defBody st) t ∧ t { nx := fun _ H' => Q .non H', rt := Q } (start N vs) H) : FnOk P w K mg base (L2.CX P w) (k + 1) f fd ps sp := by
  obtain ⟨oc, od, dV, kV, doc, pm, an, cdv, ct, osl, rfl, lk, hcd⟩ := F.ex
  exact fn_of lk hcd S len fun A outer s H vs Q E hr hsp => hbody cdv A outer s H vs Q E hr hsp
theorem binds_full {x qual : Str} {st : Stmt} {f T : Addr} {oc : Value} {od an : Option Addr} {osl : Array (Option Value)} {kV doc pm cdv ct : Value} {to : Obj} {tn : Nat} {its : List Value} {dvs : List V} {ps : List Str}
    (l : K.lookup f = some ⟨oc, od, .func (PySem.W.fnOf x qual (defArgs st) (defBody st) (defScope st) (.ref T) kV doc pm an cdv ct), osl⟩) (c : PySem.W.codeIn K cdv qual = true) (k : PySem.W.keepIn K (.ref f) = true)
    (lT : K.lookup T = some to) (oT : to.data = .seq its.toArray tn) (rT : Vals dvs its) (hd : dvs ≠ [])
    (h : ∀ (T : Addr) (kV doc pm : Value) (an : Option Addr) (cdv ct : Value) (us its : List Value), us.length = ps.length → its.length = dvs.length →
      ∃ k, bindArgs (PySem.W.fnOf x qual (defArgs st) (defBody st) (defScope st) (.ref T) kV doc pm an cdv ct) ⟨us, []⟩ = seqItems? (.ref T) >>= k ∧ k (some its.toArray) = pure (ps.zip (us ++ its.drop dvs.length))) : Binds K (PySem.W.fnOf x qual (defArgs st) (defBody st) (defScope st) (.ref T) kV doc pm an cdv ct) ps [] := by
  have F : FunD K x qual (defArgs st) (defBody st) (defScope st) dvs [] f (PySem.W.fnOf x qual (defArgs st) (defBody st) (defScope st) (.ref T) kV doc pm an cdv ct) :=
    ⟨⟨oc, od, .ref T, kV, doc, pm, an, cdv, ct, osl, rfl, l, c, .inr ⟨hd, T, to, its, tn, rfl, lT, oT, rT⟩, .inl rfl⟩, k⟩
  obtain ⟨ds, v, b⟩ := FunD.binds1 F (ps := ps) ps.length dvs.length hd (by omega) h
  rw [List.drop_length] at v
  cases v
  exact b
end
end KnD

set_option Elab.async false
set_option linter.all false
set_option maxRecDepth 100000
set_option maxHeartbeats 4000000
/-! Own errors whose base is an own error: Base.__init__(self, ..). -/
namespace KnX
open PySem PySem.Spec PyProof.Rows L2 ClX
variable {X : Cx} {o e : Expr} {es : List Expr} {to te : TE} {ta : TA} {f x : Str} {p p' p1 p2 pos : Pos} {C0 : Addr} {mc : Value}
/-- what the written part says of the base, as it is read by its name -/
structure BaseC (K : PySem.W.Frag) (C0 : Addr) (mc : Value) : Prop where
  r : CRead K C0 mc
  at_ : PySem.W.findCls K (.ref C0) mc "__init__" = some (.val (.builtin "ValueError.__init__"))
theorem pe_baseinit {pl : Sem Bool} (hg : Gl X x) (hm : X.mg x = some (.ref C0)) (B : BaseC X.K C0 mc) (ha : PA X (e :: es) ta)
    (hdb : (x == ("__debug__" : Str)) = false := by decide)
    (hc : eval (.Call (.Attribute (.Name x p1) "__init__" p2) (e :: es) [] pos) X.env = (do
      let ov ← eval (.Name x p1) X.env
      standAt p2.atName
      let (f, first) ← holding [ov] (getMethod ov "__init__" pl)
      callWith pos f first (backTo pos (starEach (e :: es) X.env)) (backToKw pos (keywordEach [] X.env))) := by rfl)
    (he : starEach (e :: es) X.env = (false, eval e X.env) :: starEach es X.env := by rfl) (hpl : (backTo pos (starEach es X.env)).any (·.1) = false := by rfl) :
    PE X (.Call (.Attribute (.Name x p1) "__init__" p2) (e :: es) [] pos) (tVeI X.K ta) := by
  refine ⟨fun pins s σ H Q I h => ?_⟩
  refine PySem.W.methodCall_KW (ld_glob I hg hm ?_ hdb) hc
  refine PySem.W.method_cls I.kIn B.r.ga (PySem.W.cls_value I.kIn B.r.rd B.at_ (by decide +kernel) ?_)
  show wpAny _ _ (callWith pos (Value.builtin "ValueError.__init__") [] (backTo pos (starEach (e :: es) X.env)) []) _ _ _
  refine PyProof.Rows.callWith_method1 (thn (ha.run pos pins _ σ H _ (I.tok _) h) fun us s1 ⟨vs, H1, I1, r1, a, C, ws, ev, hl, T, ea, q⟩ => ?_) he hpl
  subst ev
  cases r1 with
  | @cons _ u0 _ ur ra rw' =>
    obtain rfl : u0 = Value.ref a := ra
    exact oinit_ok T I1 ea (by rw [← Paired.length rw', sizeLine_eq]; omega) fun s' J => ⟨.non, H1, J, rfl, q⟩
/-- an own error's __init__: the field is stored in a new dict -/
def spErr (C : Addr) (g : Str) (_ : PySem.W.Frag) : Sp := fun vs H Q _ => ∃ (a : Addr) (y : V), vs = [.ref a, y] ∧ H a = some (exo a C none) ∧ ∀ dx, H dx = none → dx ≠ a → Q .non (upd (upd H dx (exd dx [(g, y)])) a (exo a C (some dx)))
/-- what the walk asks of an own error class -/
structure ErrC (K : PySem.W.Frag) (mg : Str → Option Value) (x : Str) (C fI : Addr) (g : Str) : Prop where
  gC : mg x = some (.ref C)
  ox : OexC K C
  iC : PySem.W.findIn K (.ref C) "__init__" = some (some (.ref fI))
  tI : PySem.W.typeIn K (.ref fI) = some (.type "function")
  no : PySem.W.findIn K (.ref C) g = some none
/-- C(v) behind its arguments: the error's dict d is new -/
theorem mk_err {C : Addr} {g : Str} {K : PySem.W.Frag} {v : V} {H1 : Hp} {Q : XK} (h : ∀ d, H1 d = none → Q (.ref C) (some d) (upd H1 d (.xd [(g, v)]))) : ([v] : List V).length ≤ 1000 ∧ ∀ a, H1 a = none → spErr C g K (.ref a :: ([v] ++ [])) (upd H1 a (exo a C none))
    (fun u H2 => u = .non ∧ ∃ (d : Addr) (fs : List (Str × V)), H2 a = some (exo a C (some d)) ∧ H2 d = some (exd d fs) ∧ H1 d = none ∧ Q (.ref C) (some d) (upd (del H2 a) d (.xd fs))) (fun _ _ _ => False) := by
  refine ⟨Nat.le_of_ble_eq_true rfl, fun a na => ⟨a, v, rfl, upd_same, fun dx nd ne => ⟨rfl, dx, [(g, v)], upd_same, (upd_ne ne).trans upd_same, ?_, ?_⟩⟩⟩
  · rwa [upd_ne ne] at nd
  · have nd' : H1 dx = none := by rwa [upd_ne ne] at nd
    have e : upd (del (upd (upd (upd H1 a (exo a C none)) dx (exd dx [(g, v)])) a (exo a C (some dx))) a) dx (.xd [(g, v)]) = upd H1 dx (.xd [(g, v)]) := by
      funext b
      by_cases hb : b = dx
      · rw [hb, upd_same, upd_same]
      · rw [upd_ne hb, upd_ne hb]
        by_cases ha : b = a
        · rw [ha, del_same, na]
        · rw [del_ne ha, upd_ne ha, upd_ne hb, upd_ne ha]
    rw [e]
    exact h dx nd'
theorem pmk_err {C fI : Addr} {k j : Nat} {fd : FuncData} {ps : List Str} {g : Str} (T : ErrC X.K X.mg x C fI g) (F1 : FnOk X.prog X.w X.K X.mg X.base CX0 k fI fd ps (spErr C g X.K)) (hr : Room j X.A) (hk : k + 1 ≤ j) (hb : Binds X.K fd ps []) (hg : Gl X x) (ha : PA X (e :: es) ta)
    (hdb : (x == ("__debug__" : Str)) = false := by decide) (he : starEach (e :: es) X.env = (false, eval e X.env) :: starEach es X.env := by rfl) (hpl : (backTo pos (starEach es X.env)).any (·.1) = false := by rfl) :
    PMk X (.Call (.Name x p) (e :: es) [] pos) (tMkO C (spErr C g X.K) [] ta) :=
  pmk_oex (dvs := []) T.ox T.iC T.tI F1 (hr.mono hk) hb .nil (fun _ _ _ _ _ _ _ h => h.elim) hg T.gC ha hdb he hpl
/-- an own error class by its promise -/
structure Err (P : Program) (w : World) (K : PySem.W.Frag) (mg : Str → Option Value) (base : Heap) (k : Nat) (x : Str) (C : Addr) (g : Str) : Prop where
  ex : ∃ (fI : Addr) (fd : FuncData) (ps : List Str), ErrC K mg x C fI g ∧ FnOk P w K mg base CX0 k fI fd ps (spErr C g K) ∧ Binds K fd ps []
/-- raise C(e) -/
theorem ps_err {C : Addr} {k j : Nat} {g : Str} {W : WX} {pos2 : Pos} (hc : X.calm = true) (tk : Takes X W) (c : Err X.prog X.w X.K X.mg X.base k x C g) (hr : Room j X.A) (hk : k + 1 ≤ j) (hg : Gl X x) (ha : PA X (e :: es) ta)
    (hdb : (x == ("__debug__" : Str)) = false := by decide) (he : starEach (e :: es) X.env = (false, eval e X.env) :: starEach es X.env := by rfl) (hpl : (backTo pos (starEach es X.env)).any (·.1) = false := by rfl) :
    PS X (.Raise (some (.Call (.Name x p) (e :: es) [] pos)) none pos2) (fun _ σ H => tMkO C (spErr C g X.K) [] ta σ H fun cls d H' => W cls d σ H') := by
  obtain ⟨fI, fd, ps, T, F, b⟩ := c.ex
  exact ps_raise hc tk (pmk_err T F hr hk b hg ha hdb he hpl)
/-! ### calls that may raise -/
/-- a def that may raise, by its promise -/
structure CalX (P : Program) (w : World) (K : PySem.W.Frag) (mg : Str → Option Value) (base : Heap) (k : Nat) (x : Str) (sp : Sp) : Prop where
  ex : ∃ (f : Addr) (fd : FuncData) (ps : List Str), FnOk P w K mg base (L2.CX P w) k f fd ps sp ∧ mg x = some (.ref f) ∧ PySem.W.keepIn K (.ref f) = true ∧ Binds K fd ps []
theorem pe_cx {k j : Nat} {sp : Sp} {W : WX} {t : TA} (c : CalX X.prog X.w X.K X.mg X.base k x sp) (hr : Room j X.A) (hk : k ≤ j) (hg : Gl X x) (tk : Takes X W) (ha : PA X (e :: es) t)
    (hdb : (x == ("__debug__" : Str)) = false := by decide) (he : starEach (e :: es) X.env = (false, eval e X.env) :: starEach es X.env := by rfl) (hpl : (backTo pos (starEach es X.env)).any (·.1) = false := by rfl) :
    PE X (.Call (.Name x p) (e :: es) [] pos) (tCallS sp (WE W) t) := by
  obtain ⟨f, fd, ps, F, hm, kp, b⟩ := c.ex
  exact pe_callS F (hr.mono hk) hg hm kp b (fun σ => passAt tk σ) ha hdb he hpl
/-- C(e, ..), C's own __init__ may raise -/
def tMakeS (C : Addr) (sp : Sp) (E : L2.St → XK) (t : TA) : TE := fun σ H Q => t σ H fun vs H1 => ∀ x dx, H1 x = none → H1 dx = none → dx ≠ x → sp (.ref x :: vs) (upd (upd H1 dx (.own x)) x (.ins C dx [])) (fun v H2 => v = .non ∧ Q (.ref x) H2) (E σ)
structure MakX (P : Program) (w : World) (K : PySem.W.Frag) (mg : Str → Option Value) (base : Heap) (k : Nat) (x : Str) (C : Addr) (sp : Sp) : Prop where
  ex : ∃ (f : Addr) (fd : FuncData) (ps : List Str), Mk K C f ∧ FnOk P w K mg base (L2.CX P w) k f fd ps sp ∧ mg x = some (.ref C) ∧ Binds K fd ps []
theorem pe_mkx {k j : Nat} {C : Addr} {sp : Sp} {W : WX} {t : TA} (c : MakX X.prog X.w X.K X.mg X.base k x C sp) (hr : Room j X.A) (hk : k + 1 ≤ j) (hg : Gl X x) (tk : Takes X W) (ha : PA X (e :: es) t)
    (hdb : (x == ("__debug__" : Str)) = false := by decide) (he : starEach (e :: es) X.env = (false, eval e X.env) :: starEach es X.env := by rfl) (hpl : (backTo pos (starEach es X.env)).any (·.1) = false := by rfl) :
    PE X (.Call (.Name x p) (e :: es) [] pos) (tMakeS C sp (WE W) t) := by
  obtain ⟨f, fd, ps, M, F, hm, b⟩ := c.ex
  refine ⟨fun pins s σ H Q I h => wpAny_Call_Name_kw (ld_glob I hg hm (PySem.W.callWith_K (h₀ := X.base) I.ok.mod.kin M.kp (thn (ha.run pos pins s σ H _ I h) fun us s1 ⟨vs, H1, I1, r, q⟩ => ⟨I1.kIn, ?_⟩) he hpl) hdb)⟩
  have new : ∀ a, s1.heap.objs.size ≤ a → H1 a = none := fun a => I1.hok.fresh
  have q1 := q (s1.heap.objs.size + 1) s1.heap.objs.size (new _ (Nat.le_succ _)) (new _ (Nat.le_refl _)) (Nat.ne_of_lt (Nat.lt_succ_self _))
  have J := Inv.made (C := C) I1
  have rr : Vals (V.ref (s1.heap.objs.size + 1) :: vs) (Value.ref (s1.heap.objs.size + 1) :: us) := .cons rfl r
  have len : (Value.ref (s1.heap.objs.size + 1) :: us).length = ps.length := by rw [← rr.length]; exact F.len _ _ _ _ q1
  have bb := b _ (Value.ref (s1.heap.objs.size + 1) :: us) J.kIn (by rw [List.append_nil]; exact len)
  rw [List.append_nil] at bb
  refine wpAny_call (make_map (f := f) I1.kIn M.makes M.init (beq_iff_eq.mp M.fn) (codeAny_mono (F.run _ X.stack _ _ ⟨_, []⟩ _ _ _ (WE W σ) ((hr.mono hk).make C us []) (J.env0.make C us []) bb rr q1) fun res s2 hres => ?_))
  cases res with
  | error ex => exact passAt tk σ pins _ _ ex s2 J hres
  | ok fl =>
    cases fl with
    | ret u =>
      obtain ⟨v, H', J2, rv, ev, q3⟩ := J.after hres
      subst ev
      exact ⟨rv, ⟨.ref _, H', J2, rfl, q3⟩⟩
    | next => exact hres.elim
    | brk => exact hres.elim
    | cont => exact hres.elim
/-! ### out of a statement that runs while a thing is locked -/
/-- the thing is as it was -/
def wUn (G0 : Hp) (W : WX) : WX := fun cls dd τ G => ∃ (d : Addr) (u : HO) (od : Obj), (∀ o' u', G0 d ≠ some (.frz o' u')) ∧ G d = some (.frz od u) ∧ W cls dd τ (upd G d u)
theorem takes_un {W : WX} (tk : Takes X W) : Takes X (wUn X.H_0 W) := fun v s' h => by
  obtain ⟨a, B, sI, pins, τ, G, cls, dd, ev, I, nb, up, sky, na, eos, bare, d, u, od, h0, hd, hw⟩ := h
  have ne : a ≠ d := fun z => by rw [z, hd] at na; cases na
  exact tk v s' ⟨a, B, sI, pins, τ, upd G d u, cls, dd, ev, I.unlock hd h0, nb, up, sky, (upd_ne ne).trans na, eos, bare, hw⟩
theorem upd_swap {G : Hp} {a b : Addr} {x y : HO} (h : a ≠ b) : upd (upd G a x) b y = upd (upd G b y) a x := by
  funext c
  by_cases ca : c = a
  · subst ca; rw [upd_ne h, upd_same, upd_same]
  · by_cases cb : c = b
    · subst cb; rw [upd_same, upd_ne (Ne.symm h), upd_same]
    · rw [upd_ne cb, upd_ne ca, upd_ne ca, upd_ne cb]
end KnX

set_option Elab.async false
set_option linter.all false
set_option maxRecDepth 100000
set_option maxHeartbeats 4000000
/-! try: .. except A as e: .. except B as e: .. -/
namespace KnX
open PySem PySem.Spec PyProof.Rows L2
/-- behind a suite the name is gone -/
def endsAs (i : Nat) (D : Ends) : Ends := { nx := fun τ G => D.nx (τ.set i none) G, rt := D.rt, bk := fun τ G => D.bk (τ.set i none) G, ct := fun τ G => D.ct (τ.set i none) G }
abbrev Clause := Value × Nat × (Addr → Value → Option Addr → TS)
def wAll (K : PySem.W.Frag) (Wout : WX) (D : Ends) : List Clause → WX
  | [] => Wout
  | q :: r => fun cls d τ G => ∃ yes, PySem.W.exmOne K cls q.1 = some yes ∧ (yes = true → ∀ a, G a = none → q.2.2 a cls d (endsAs q.2.1 D) (τ.set q.2.1 (some (.ref a))) G) ∧ (yes = false → wAll K Wout D r cls d τ G)
inductive HdsAs (X : Cx) : List ExceptHandler → List Clause → Prop
  | nil : HdsAs X [] []
  | cons {x n : Str} {c : Value} {i : Nat} {ts : Addr → Value → Option Addr → TS} {b₀ : Stmt} {suite : List Stmt} {np pe : Pos} {hds : List ExceptHandler} {l : List Clause} (hc : Names X x c) (hi : X.N[i]? = some n) (hln : X.env.kindOf n = some .local)
      (hsu : ∀ (a : Addr) (oe : Obj) (cls : Value) (d : Option Addr) (pn : List (Addr × Obj)), Zc cls d oe → (∃ vs, oe.data = .fields vs) → PSs (X.suite a ((a, oe) :: pn)) (b₀ :: suite) (ts a cls d)) (r : HdsAs X hds l) :
      HdsAs X (.ExceptHandler (some (.Name x np)) (some n) (b₀ :: suite) pe :: hds) ((c, i, ts) :: l)
section
variable {X : Cx} {body : List Stmt} {h₀ : ExceptHandler} {hds : List ExceptHandler} {l : List Clause} {pos : Pos} {tb : WX → TS} {Wout : WX}
theorem ps_try_all (hs : X.stack = X.env :: X.outer) (hf : X.env.frame = some X.env.locals) (hN : X.N.Nodup) (tk : Takes X Wout)
    (hb : ∀ (W : WX) (pn : List (Addr × Obj)) (xe : Value → Shared → Prop), Takes (X.tr pn xe) W → PassesOwn (model X.prog X.w) X.A X.env xe → PSs (X.tr pn xe) body (tb W))
    (hh : HdsAs X (h₀ :: hds) l) : PS X (.Try body (h₀ :: hds) [] [] pos) (fun D σ H => tb (wAll X.K Wout D l) D σ H) := by
  refine ⟨fun pins s0 σ0 H0 D I0 h => ?_⟩
  have okX := I0.ok
  have frX : X.A.frames = some (X.env :: X.outer) := by rw [okX.frames, hs]
  refine wpAny_Try_except (wpAny_mono ((hb (wAll X.K Wout D l) (X.pn ++ pins) (fun ex s₁ => wpAny (model X.prog X.w) X.A (noteFrame ex X.env) (fun _ s₂ => wpAny (model X.prog X.w) X.A (setFlight ex none) (fun _ s₃ =>
    wpAny (model X.prog X.w) X.A (handleBy ex X.env (h₀ :: hds)) (SP X pins D) X.xe s₃) X.xe s₂) X.xe s₁) (fun u st air => ?_) PassesOwn.looking).run [] s0 σ0 H0 D (I0.toTry _) h) (fun fl s1 fin => ?_) (fun ex s1 hx => hx))
  · obtain ⟨a, B, sB, pins2, τ, G, cls, d, rfl, JT, keepB, upB, sky, na, eos, bare, wq⟩ := air
    have J : Inv X pins τ G sB := JT.ofTry okX
    have skyX : Sky B (X.env :: X.outer) a (Zc cls d) X.env.locals st.heap := by rw [← hs]; exact sky
    show wpAny (model X.prog X.w) X.A (noteFrame (.ref a) X.env) _ _ _
    refine Sky.land Zc.steady frX hf skyX fun g1 land1 up1 => ?_
    have J1 : Inv X pins τ G { st with heap := g1 } := J.landed keepB land1.1 (upB.trans up1) eos bare
    obtain ⟨oe1, vs1, ge1, hz1, hd1⟩ := land1.there
    have notIn : a ∉ frs (X.env :: X.outer) := fun hm => by
      obtain ⟨_, o', e', bad⟩ := land1.2.2.1.mem hm
      rw [ge1] at e'
      cases e'
      exact bad _ hd1
    have n1 : a ≠ X.env.locals := fun z => notIn (List.mem_filterMap.mpr ⟨X.env, List.mem_cons_self, by rw [hf, z]⟩)
    have n2 : a ∉ X.fs := fun hm => by
      obtain ⟨fr, hfr, q⟩ := List.mem_filterMap.mp hm
      exact notIn (List.mem_filterMap.mpr ⟨fr, List.mem_cons_of_mem _ hfr, q⟩)
    have S1 := J1.suite ge1 hd1 na n1 n2
    have each : ∀ {hs' : List ExceptHandler} {l' : List Clause}, HdsAs X hs' l' → wAll X.K Wout D l' cls d τ G → wpAny (model X.prog X.w) X.A (handleBy (.ref a) X.env hs') (SP X pins D) X.xe { st with heap := g1 } := by
      intro hs' l' hk
      induction hk with
      | nil =>
        intro wq
        refine wpAny_handleBy_nil ?_
        obtain ⟨_, _, _, oe, vs, T, oT, ts', ge, _, hd, hT, _⟩ := id land1
        unfold PySem.passOn
        refine wpAny_bind (wpAny_field ge hd hT ?_)
        rw [if_neg (show ¬ ((Value.ref T == Value.none) = true) by simp)]
        have out : wpAny (model X.prog X.w) X.A (setFlight (.ref a) X.env.frame) (fun _ s4 => wpAny (model X.prog X.w) X.A (throw (.ref a) : Sem Flow) (SP X pins D) X.xe s4) X.xe { st with heap := g1 } := by
          rw [hf]
          exact HandSPX.setFlight_upZ land1 fun g2 held2 up2 => wpAny_throw (tk _ _ ⟨a, B, sB, pins, τ, G, cls, d, rfl, J, keepB, (upB.trans up1).trans up2, .inr (.inr (by rw [hs]; exact held2)), na, eos, bare, wq⟩)
        first
          | exact wpAny_bind (wpAny_pure (wpAny_bind out))
          | exact wpAny_bind out
      | @cons x n c i ts b₀ suite np pe hds2 l2 hc hi hln hsu r ih =>
        intro wq
        obtain ⟨yes, hyes, wy, wn⟩ := wq
        refine wpAny_handleBy_cons (codeAny_handlers_test ?_) (by intro q; cases q)
        have kind : PySem.W.Looks (model X.prog X.w) g1 (typeOf (.ref a)) cls := fun A Q E s k q => wpAny_typeOf_ref (k _ _ ge1) (by rw [hz1.1]; exact q)
        have asked : ∀ {Q : Value → Shared → Prop} {E : Value → Shared → Prop}, Q c { st with heap := g1 } → wpAny (model X.prog X.w) (X.A.mark (some (.ref a))) (eval (.Name x np) X.env) Q E { st with heap := g1 } := fun {Q E} q => by
          obtain ⟨hg, hdbg, hm | ⟨hm, hv, hnn⟩⟩ := hc
          · exact ld_glob (X := X.suite a ((a, oe1) :: (X.pn ++ pins))) S1 hg hm q hdbg
          · exact ld_blt (X := X.suite a ((a, oe1) :: (X.pn ++ pins))) S1 hg hm hv q hnn hdbg
        refine asked ((PySem.W.exm_one (M := model X.prog X.w) J1.kIn kind hyes).here ?_)
        cases yes with
        | false => exact ih (wn rfl)
        | true =>
          refine codeAny_handlers_suite_as (HandSPX.lands_againZ land1 fun g2 land2 up2 => ?_)
          have J2 : Inv X pins τ G { st with heap := g2 } := J.landed keepB land2.1 ((upB.trans up1).trans up2) eos bare
          obtain ⟨oe2, vs2, ge2, hz2, hd2⟩ := land2.there
          refine store_ok (X := X.suite a ((a, oe2) :: (X.pn ++ pins))) (v := .ref a) (J2.suite ge2 hd2 na n1 n2) hN hi (.inl hln) rfl (fun s5 S5 => ?_) (.inr hln)
          refine wpAny_mono ((hsu a oe2 cls d (X.pn ++ pins) hz2 ⟨_, hd2⟩).run [] s5 _ G _ S5 (wy rfl a na)) (fun fl s6 fin => ?_) (fun _ _ z => False.elim z)
          have gone : ∀ {τ6 : L2.St} {G6 : Hp} {Q : Shared → Prop}, Inv (X.suite a ((a, oe2) :: (X.pn ++ pins))) [] τ6 G6 s6 → (∀ s7, Inv X pins (τ6.set i none) G6 s7 → Q s7) →
              wpAny (model X.prog X.w) X.A (do bindName X.env n .none; unbindBehindTheSuite X.env n pe) (fun _ s7 => Q s7) X.xe s6 := fun {τ6 G6 Q} S6 k => gone_ok (S6.unsuite okX) hN hi hln k
          cases fl with
          | next => obtain ⟨τ6, G6, S6, q6⟩ := fin; exact gone S6 fun s7 J7 => ⟨_, _, J7, q6⟩
          | brk => obtain ⟨τ6, G6, S6, q6⟩ := fin; exact gone S6 fun s7 J7 => ⟨_, _, J7, q6⟩
          | cont => obtain ⟨τ6, G6, S6, q6⟩ := fin; exact gone S6 fun s7 J7 => ⟨_, _, J7, q6⟩
          | ret u => obtain ⟨v6, τ6, G6, S6, r6, q6⟩ := fin; exact gone S6 fun s7 J7 => ⟨_, _, _, J7, r6, q6⟩
    exact each hh wq
  · cases fl with
    | next => obtain ⟨τ, G, J, q⟩ := fin; exact wpAny_execs_nil ⟨τ, G, J.ofTry okX, q⟩
    | brk => obtain ⟨τ, G, J, q⟩ := fin; exact ⟨τ, G, J.ofTry okX, q⟩
    | cont => obtain ⟨τ, G, J, q⟩ := fin; exact ⟨τ, G, J.ofTry okX, q⟩
    | ret u => obtain ⟨v, τ, G, J, r, q⟩ := fin; exact ⟨v, τ, G, J.ofTry okX, r, q⟩
end
end KnX

set_option Elab.async false
set_option linter.all false
set_option maxRecDepth 100000
set_option maxHeartbeats 4000000
/-! Two lists of the very same items, of any depth. -/
namespace KnQ
open PySem PySem.Spec PyProof.Rows L2
/-- an item that equals itself at once -/
def Own : V → Prop
  | .non => True
  | .bl _ => True
  | .int _ => True
  | .str _ => True
  | .ref _ => True
  | _ => False
open PySem.SeqAt in
theorem eq_own {A : Around} {s : Shared} {v : V} {u1 u2 : Value} (o : Own v) (r1 : RelV v u1) (r2 : RelV v u2) : EqAt A s u1 u2 true := by
  cases v with
  | non => cases r1; cases r2; exact EqAt.same _
  | bl b => cases r1; cases r2; exact EqAt.same _
  | ref a => cases r1; cases r2; exact EqAt.same _
  | int i =>
    obtain ⟨t1, rfl⟩ := r1
    obtain ⟨t2, rfl⟩ := r2
    have h := EqAt.int_int (A := A) (s := s) i t1 i t2
    rwa [beq_self_eq_true] at h
  | str z =>
    obtain ⟨t1, rfl⟩ := r1
    obtain ⟨t2, rfl⟩ := r2
    have h := EqAt.str_str (A := A) (s := s) z t1 z t2
    rwa [beq_self_eq_true] at h
  | _ => exact o.elim
section
variable {X : Cx}
theorem op_neOwn (hu : X.A.units < cLine) : OpR X (compareOp .NotEq) (fun x y H Q => ∃ a b xs, x = .ref a ∧ y = .ref b ∧ H a = some (.lst xs) ∧ H b = some (.lst xs) ∧ (∀ v ∈ xs, Own v) ∧ Q (.bl false) H) := by
  intro pins s σ H x y v u Q I rx ry h
  obtain ⟨a, b, xs, rfl, rfl, ea, eb, ho, q⟩ := h
  cases rx
  cases ry
  obtain ⟨i1, r1, p1, _⟩ := I.list (.inl (.inl ea) : SqL X.K H a xs)
  obtain ⟨i2, r2, p2, _⟩ := I.list (.inl (.inl eb) : SqL X.K H b xs)
  have l1 := r1.length
  have l2 := r2.length
  have each : ∀ j (h1 : j < i1.toArray.size) (h2 : j < i2.toArray.size), PySem.SeqAt.EqAt X.A.in1 s i1.toArray[j] i2.toArray[j] ((fun _ => true) j) := fun j h1 h2 => by
    rw [List.size_toArray] at h1 h2
    have hj : j < xs.length := by omega
    have gx : xs[j]? = some xs[j] := List.getElem?_eq_getElem hj
    obtain ⟨u1, g1, k1⟩ := r1.get gx
    obtain ⟨u2, g2, k2⟩ := r2.get gx
    have e1 : i1.toArray[j] = u1 := (List.getElem?_eq_some_iff.mp g1).2
    have e2 : i2.toArray[j] = u2 := (List.getElem?_eq_some_iff.mp g2).2
    rw [e1, e2]
    exact eq_own (ho _ (List.getElem_mem hj)) k1 k2
  have rc := PySem.SeqAt.RcNeAt.lists p1.isList p2.isList (by rw [List.size_toArray, List.size_toArray]; omega) hu each
  have all : (List.range i1.toArray.size).all (fun _ => true) = true := List.all_eq_true.mpr fun _ _ => rfl
  refine rc X.prog X.w X.xe (EP X pins σ Q) ?_
  rw [all]
  exact ⟨.bl false, H, I, rfl, q⟩
end
end KnQ

set_option Elab.async false
set_option linter.all false
set_option maxRecDepth 100000
set_option maxHeartbeats 4000000
/-! t + u, t of any length: an empty t gives u itself. -/
namespace KnX
open PySem PySem.Spec PyProof.Rows L2
section
variable {X : Cx}
def rCatT0 (K : PySem.W.Frag) : R2 := fun x y H Q => ∃ a b xs ys, x = .ref a ∧ y = .ref b ∧ SqT K H a xs ∧ SqT K H b ys ∧ (xs = [] → Q (.ref b) H) ∧ (xs ≠ [] → xs.length + ys.length ≤ sizeLine ∧ (ys = [] → Q (.ref a) H) ∧ (ys ≠ [] → ∀ p, H p = none → Q (.ref p) (upd H p (.tup (xs ++ ys)))))
theorem op_catT0 : OpR X (binaryOp .Add) (rCatT0 X.K) := by
  intro pins s σ H x y v u Q I rx ry h
  obtain ⟨a, b, xs, ys, rfl, rfl, ha, hb, q0, q1⟩ := h
  by_cases z : xs = []
  · subst z
    cases rx
    cases ry
    obtain ⟨its, r1, p1, _⟩ := I.tuple ha
    obtain ⟨its2, r2, p2, _⟩ := I.tuple hb
    have e : its = [] := r1.nil_iff.mpr rfl
    subst e
    obtain ⟨⟨cls, dd, data, sl⟩, ho, hc, n, hd⟩ := p1
    obtain ⟨⟨cls2, dd2, data2, sl2⟩, ho2, hc2, n2, hd2⟩ := p2
    simp only at hc hd hc2 hd2
    subst hc hd hc2 hd2
    exact concat_meets ⟨_, ho, rfl⟩ ⟨_, ho2, rfl⟩ noFill_tuple_add seq_tuple_add PySem.F.slot_tuple_add PySem.F.entry_tuple_add (PySem.F.args_tuple_add_2 _ _)
      (tuple_addW0 a b [].toArray its2.toArray n n2 dd dd2 sl sl2 (by simp)) ⟨ho, ho2, ⟨.ref b, H, I, rfl, q0 rfl⟩⟩
  · obtain ⟨l, h1, h2⟩ := q1 z
    exact op_catT pins s σ H _ _ v u Q I rx ry ⟨a, b, xs, ys, rfl, rfl, ha, hb, z, l, h1, h2⟩
end
end KnX

set_option Elab.async false
set_option linter.all false
set_option maxRecDepth 100000
set_option maxHeartbeats 4000000
/-! Own methods that may raise; a value compared with itself. -/
namespace KnX
open PySem PySem.Spec PyProof.Rows L2
section
variable {X : Cx} {o e : Expr} {es : List Expr} {ta : TE} {t : TA} {C : Addr} {m : Str} {apos pos : Pos}
/-- an own method that may raise, by its promise -/
structure MetX (P : Program) (w : World) (K : PySem.W.Frag) (mg : Str → Option Value) (base : Heap) (k : Nat) (C : Addr) (m : Str) (sp : Sp) : Prop where
  ex : ∃ (f : Addr) (fd : FuncData) (ps : List Str), Cls K C ∧ Meth K C m f ∧ FnOk P w K mg base (L2.CX P w) k f fd ps sp ∧ Binds K fd ps []
def tMethX (C : Addr) (m : Str) (sp : Sp) (E : L2.St → XK) (ta : TE) (t : TA) : TE := fun σ H Q => ta σ H fun x H1 => ∃ a dx fs, x = .ref a ∧ H1 a = some (.ins C dx fs) ∧ fs.lookup m = none ∧ t σ H1 fun vs H2 => sp (x :: vs) H2 Q (E σ)
theorem pe_mtx {pl : Sem Bool} {k j : Nat} {sp : Sp} {W : WX} (c : MetX X.prog X.w X.K X.mg X.base k C m sp) (hr : Room j X.A) (hk : k ≤ j) (tk : Takes X W) (he : PE X o ta) (ha : PA X (e :: es) t)
    (hst : starEach (e :: es) X.env = (false, eval e X.env) :: starEach es X.env := by rfl) (hpl : (backTo pos (starEach es X.env)).any (·.1) = false := by rfl)
    (ht : eval (.Call (.Attribute o m apos) (e :: es) [] pos) X.env = (do
      let ov ← eval o X.env
      standAt apos.atName
      let (f, first) ← holding [ov] (getMethod ov m pl)
      callWith pos f first (backTo pos (starEach (e :: es) X.env)) (backToKw pos (keywordEach [] X.env))) := by rfl) :
    PE X (.Call (.Attribute o m apos) (e :: es) [] pos) (tMethX C m sp (WE W) ta t) := by
  obtain ⟨f, fd, ps, hc, hm, F, b⟩ := c.ex
  refine ⟨fun pins s σ H Q I h => ?_⟩
  refine PySem.W.methodCall_KW (pl := pl) (thn (he.run pins s σ H _ I h) fun u s1 ⟨x, H1, I1, rx, a, dx, fs, ex, ea, l, q⟩ => ?_) ht
  subst ex
  obtain rfl : u = Value.ref a := rx
  refine getmeth_ok I1 ea hc hm l ?_
  refine PySem.W.callWith_K (first := [.ref a]) (h₀ := X.base) I.ok.mod.kin hm.kp (thn (ha.run pos pins s1 σ H1 _ I1 q) fun us s2 ⟨vs, H2, I2, r, q2⟩ => ⟨I2.kIn, ?_⟩) hst hpl
  exact run_fnS (us := .ref a :: us) (vs := .ref a :: vs) F (hr.mono hk) b (passAt tk σ) I2 (.cons rfl r) q2
end
end KnX
namespace KnQ
open PySem PySem.Spec PyProof.Rows L2
/-- what equals itself here -/
def SelfV (H : Hp) : V → Prop
  | .non => True
  | .bl _ => True
  | .int _ => True
  | .str _ => True
  | .ref a => (∃ xs, H a = some (.lst xs) ∧ ∀ v ∈ xs, Own v) ∨ (∃ xs, H a = some (.tup xs) ∧ ∀ v ∈ xs, Own v) ∨ ∃ ks, H a = some (.dK ks) ∧ ∀ p ∈ ks, valV ks p.1 = some p.2 ∧ flatB p.2 = true
  | _ => False
section
variable {X : Cx}
def rSelf : R2 := fun x y H Q => x = y ∧ SelfV H x ∧ Q (.bl true) H
theorem op_eqSelf (hu : X.A.units < cLine) : OpR X (compareOp .Eq) rSelf := by
  intro pins s σ H x y v u Q I rx ry h
  obtain ⟨rfl, hs, q⟩ := h
  have each : ∀ {xs : List V} {i1 : List Value} (r1 : Vals xs i1) (ho : ∀ v ∈ xs, Own v), ∀ j (h1 : j < i1.toArray.size) (h2 : j < i1.toArray.size), PySem.SeqAt.EqAt X.A.in1 s i1.toArray[j] i1.toArray[j] ((fun _ => true) j) := fun {xs i1} r1 ho j h1 h2 => by
    rw [List.size_toArray] at h1
    have l1 := r1.length
    have hj : j < xs.length := by omega
    obtain ⟨u1, g1, k1⟩ := r1.get (List.getElem?_eq_getElem hj)
    have e1 : i1.toArray[j] = u1 := (List.getElem?_eq_some_iff.mp g1).2
    rw [e1]
    exact eq_own (ho _ (List.getElem_mem hj)) k1 k1
  have all : ∀ n, (List.range n).all (fun _ => true) = true := fun n => List.all_eq_true.mpr fun _ _ => rfl
  cases x with
  | non => exact op_eq pins s σ H _ _ v u Q I rx ry ⟨rfl, by rw [decide_eq_true rfl]; exact q⟩
  | bl b => exact op_eq pins s σ H _ _ v u Q I rx ry ⟨rfl, by rw [decide_eq_true rfl]; exact q⟩
  | int i => exact op_eq pins s σ H _ _ v u Q I rx ry ⟨rfl, by rw [decide_eq_true rfl]; exact q⟩
  | str z => exact op_eq pins s σ H _ _ v u Q I rx ry ⟨rfl, by rw [decide_eq_true rfl]; exact q⟩
  | ref a =>
    rcases hs with ⟨xs, ea, ho⟩ | ⟨xs, ea, ho⟩ | ⟨ks, ea, hp⟩
    · cases rx
      cases ry
      obtain ⟨i1, r1, p1, _⟩ := I.list (.inl (.inl ea) : SqL X.K H a xs)
      refine PySem.SeqAt.eq_listAt p1.isList p1.isList rfl hu (each r1 ho) ?_
      rw [all]
      exact ⟨.bl true, H, I, rfl, q⟩
    · cases rx
      cases ry
      obtain ⟨i1, r1, p1⟩ := I.tuple (.inl (.inl ea) : SqT X.K H a xs)
      refine PySem.SeqAt.eq_tupleAt p1.1 p1.1 hu (each r1 ho) ?_
      rw [all]
      simp only [beq_self_eq_true, Bool.and_self]
      exact ⟨.bl true, H, I, rfl, q⟩
    · exact op_eq_dictA hu pins s σ H _ _ v u Q I rx ry ⟨a, a, ks, ks, rfl, rfl, ea, ea, rfl, hp, q⟩
  | _ => exact hs.elim
end
end KnQ

set_option Elab.async false
set_option linter.all false
set_option maxRecDepth 100000
set_option maxHeartbeats 4000000
namespace Kn
open PySem PySem.Spec PyProof.Rows L2
open C8 (Cal pe_c pe_gc Mak pe_mk)
def topS (i : Nat) : Stmt := PySem.Challenge.pw_knownlate_k20_shortest_runs.main.body.getD i (.Pass ⟨0, 0, 0, 0⟩)
abbrev s__law_mix : Stmt := topS 30
theorem sc__law_mix : FnScope ["_law_cell_here", "_law_k", "_law_number"] ["_law_cell_here", "_law_k"] (defScope s__law_mix) := ⟨rfl, rfl, rfl, by decide +kernel, rfl, by decide +kernel, by decide +kernel⟩
abbrev s__law_row : Stmt := topS 32
theorem sc__law_row : FnScope ["_law_cell_here", "_law_sizes", "_law_row_here", "_law_rest", "_law_k"] ["_law_cell_here", "_law_sizes"] (defScope s__law_row) := ⟨rfl, rfl, rfl, by decide +kernel, rfl, by decide +kernel, by decide +kernel⟩
abbrev s__law_names : Stmt := topS 33
theorem sc__law_names : FnScope ["_law_cell_here", "_law_many", "_law_row_here", "_law_names_here", "_law_k", "_law_own", "_law_text", "_law_at", "_law_letter", "_law_digit"] ["_law_cell_here", "_law_many"] (defScope s__law_names) := ⟨rfl, rfl, rfl, by decide +kernel, rfl, by decide +kernel, by decide +kernel⟩
abbrev s__law_cell : Stmt := topS 31
theorem sc__law_cell : FnScope ["_law_script", "_law_k"] ["_law_script", "_law_k"] (defScope s__law_cell) := ⟨rfl, rfl, rfl, by decide +kernel, rfl, by decide +kernel, by decide +kernel⟩
abbrev s__law_machine : Stmt := topS 34
theorem sc__law_machine : FnScope ["_law_cell_here", "_law_names_here", "_law_most", "_law_extra", "_law_sizes", "_law_row_here", "_law_many", "_law_stride", "_law_labels", "_law_steps", "_law_k", "_law_word", "_law_at", "_law_step", "_law_target", "_law_turn"] ["_law_cell_here", "_law_names_here", "_law_most", "_law_extra"] (defScope s__law_machine) := ⟨rfl, rfl, rfl, by decide +kernel, rfl, by decide +kernel, by decide +kernel⟩
abbrev s__law_faults : Stmt := topS 35
theorem sc__law_faults : FnScope ["_law_digit", "_law_steps", "_law_names_here", "_law_marks", "_law_faults_here", "_law_step"] ["_law_digit", "_law_steps", "_law_names_here", "_law_marks"] (defScope s__law_faults) := ⟨rfl, rfl, rfl, by decide +kernel, rfl, by decide +kernel, by decide +kernel⟩
abbrev s__law_system : Stmt := topS 41
theorem sc__law_system : FnScope ["_law_script", "_law_most", "_law_extra", "_law_many", "_law_names_here", "_law_labels", "_law_steps", "_law_digit", "_law_table"] ["_law_script", "_law_most", "_law_extra", "_law_many"] (defScope s__law_system) := ⟨rfl, rfl, rfl, by decide +kernel, rfl, by decide +kernel, by decide +kernel⟩
abbrev s_is_whole : Stmt := topS 18
theorem sc_is_whole : FnScope ["value"] ["value"] (defScope s_is_whole) := ⟨rfl, rfl, rfl, by decide +kernel, rfl, by decide +kernel, by decide +kernel⟩
abbrev s_is_state : Stmt := topS 17
theorem sc_is_state : FnScope ["value"] ["value"] (defScope s_is_state) := ⟨rfl, rfl, rfl, by decide +kernel, rfl, by decide +kernel, by decide +kernel⟩
abbrev s_is_row : Stmt := topS 19
theorem sc_is_row : FnScope ["value"] ["value"] (defScope s_is_row) := ⟨rfl, rfl, rfl, by decide +kernel, rfl, by decide +kernel, by decide +kernel⟩
abbrev s_is_name : Stmt := topS 16
theorem sc_is_name : FnScope ["value", "letter"] ["value"] (defScope s_is_name) := ⟨rfl, rfl, rfl, by decide +kernel, rfl, by decide +kernel, by decide +kernel⟩
abbrev s_is_step : Stmt := topS 24
theorem sc_is_step : FnScope ["value"] ["value"] (defScope s_is_step) := ⟨rfl, rfl, rfl, by decide +kernel, rfl, by decide +kernel, by decide +kernel⟩
abbrev s_check_steps : Stmt := topS 25
theorem sc_check_steps : FnScope ["steps", "seen", "counts", "at", "step"] ["steps"] (defScope s_check_steps) := ⟨rfl, rfl, rfl, by decide +kernel, rfl, by decide +kernel, by decide +kernel⟩
abbrev s_check_faults : Stmt := topS 26
theorem sc_check_faults : FnScope ["faults", "words", "names", "word", "name"] ["faults", "words"] (defScope s_check_faults) := ⟨rfl, rfl, rfl, by decide +kernel, rfl, by decide +kernel, by decide +kernel⟩
abbrev s_moves_by_state : Stmt := topS 27
theorem sc_moves_by_state : FnScope ["steps", "moves", "source", "word", "target"] ["steps"] (defScope s_moves_by_state) := ⟨rfl, rfl, rfl, by decide +kernel, rfl, by decide +kernel, by decide +kernel⟩
abbrev s_reached_states : Stmt := topS 28
theorem sc_reached_states : FnScope ["start", "leaving", "reached", "waiting", "moves", "word", "target"] ["start", "leaving"] (defScope s_reached_states) := ⟨rfl, rfl, rfl, by decide +kernel, rfl, by decide +kernel, by decide +kernel⟩
abbrev s_Machine_init : Stmt := inClass (topS 23) 0
theorem sc_Machine_init : FnScope ["self", "start", "steps", "faults", "words", "leaving", "states", "state", "step", "word"] ["self", "start", "steps", "faults"] (defScope s_Machine_init) := ⟨rfl, rfl, rfl, by decide +kernel, rfl, by decide +kernel, by decide +kernel⟩
abbrev s__law_reached : Stmt := topS 40
theorem sc__law_reached : FnScope ["_law_start", "_law_steps", "_law_found", "_law_state", "_law_step"] ["_law_start", "_law_steps"] (defScope s__law_reached) := ⟨rfl, rfl, rfl, by decide +kernel, rfl, by decide +kernel, by decide +kernel⟩
abbrev s__law_far : Stmt := topS 42
theorem sc__law_far : FnScope ["_law_steps", "_law_goal", "_law_states", "_law_far_here", "_law_state", "_law_turn", "_law_step"] ["_law_steps", "_law_goal", "_law_states"] (defScope s__law_far) := ⟨rfl, rfl, rfl, by decide +kernel, rfl, by decide +kernel, by decide +kernel⟩
abbrev s__law_least : Stmt := topS 43
theorem sc__law_least : FnScope ["_law_steps", "_law_start", "_law_goal", "_law_states", "_law_far_here", "_law_path", "_law_state", "_law_turn", "_law_ways", "_law_number", "_law_k"] ["_law_steps", "_law_start", "_law_goal", "_law_states"] (defScope s__law_least) := ⟨rfl, rfl, rfl, by decide +kernel, rfl, by decide +kernel, by decide +kernel⟩
abbrev s__law_is_integer : Stmt := topS 36
theorem sc__law_is_integer : FnScope ["_law_thing_here"] ["_law_thing_here"] (defScope s__law_is_integer) := ⟨rfl, rfl, rfl, by decide +kernel, rfl, by decide +kernel, by decide +kernel⟩
abbrev s__law_exact : Stmt := topS 37
theorem sc__law_exact : FnScope ["_law_told", "_law_due", "_law_k"] ["_law_told", "_law_due"] (defScope s__law_exact) := ⟨rfl, rfl, rfl, by decide +kernel, rfl, by decide +kernel, by decide +kernel⟩
abbrev s_Machine_states : Stmt := inClass (topS 23) 7
theorem sc_Machine_states : FnScope ["self"] ["self"] (defScope s_Machine_states) := ⟨rfl, rfl, rfl, by decide +kernel, rfl, by decide +kernel, by decide +kernel⟩
abbrev s_Machine_steps : Stmt := inClass (topS 23) 3
theorem sc_Machine_steps : FnScope ["self"] ["self"] (defScope s_Machine_steps) := ⟨rfl, rfl, rfl, by decide +kernel, rfl, by decide +kernel, by decide +kernel⟩
abbrev s_Machine_start : Stmt := inClass (topS 23) 2
theorem sc_Machine_start : FnScope ["self"] ["self"] (defScope s_Machine_start) := ⟨rfl, rfl, rfl, by decide +kernel, rfl, by decide +kernel, by decide +kernel⟩
abbrev s_shortest_to : Stmt := topS 21
theorem sc_shortest_to : FnScope ["machine", "state", "steps", "runs", "waiting", "source", "number", "step"] ["machine", "state"] (defScope s_shortest_to) := ⟨rfl, rfl, rfl, by decide +kernel, rfl, by decide +kernel, by decide +kernel⟩
abbrev s__law_deep : Stmt := topS 38
theorem sc__law_deep : FnScope ["_law_many", "_law_thing_here", "_law_k"] ["_law_many"] (defScope s__law_deep) := ⟨rfl, rfl, rfl, by decide +kernel, rfl, by decide +kernel, by decide +kernel⟩
abbrev s__law_thing : Stmt := topS 39
theorem sc__law_thing : FnScope ["_law_digit", "_law_things"] ["_law_digit"] (defScope s__law_thing) := ⟨rfl, rfl, rfl, by decide +kernel, rfl, by decide +kernel, by decide +kernel⟩
abbrev s__law_refused : Stmt := topS 44
theorem sc__law_refused : FnScope ["_law_machine_here", "_law_state", "e"] ["_law_machine_here", "_law_state"] (defScope s__law_refused) := ⟨rfl, rfl, rfl, by decide +kernel, rfl, by decide +kernel, by decide +kernel⟩
abbrev s_law : Stmt := topS 45
theorem sc_law : FnScope ["_law_script", "_law_start", "_law_steps", "_law_table", "_law_names_here", "_law_marks", "_law_machine_here", "_law_states", "_law_state", "_law_due", "_law_row_here", "_law_wrongs", "_law_wrong"] ["_law_script"] (defScope s_law) := ⟨rfl, rfl, rfl, by decide +kernel, rfl, by decide +kernel, by decide +kernel⟩
structure Txt (K : PySem.W.Frag) (mg : Str → Option Value) (C : Addr) : Prop where
  m_all : mg "all" = none
  m_bool : mg "bool" = none
  m_dict : mg "dict" = none
  m_enumerate : mg "enumerate" = none
  m_int : mg "int" = none
  m_isinstance : mg "isinstance" = none
  m_len : mg "len" = none
  m_list : mg "list" = none
  m_range : mg "range" = none
  m_sorted : mg "sorted" = none
  m_str : mg "str" = none
  m_tuple : mg "tuple" = none
  c_GREATEST_STATE : ∃ u, mg "GREATEST_STATE" = some u ∧ RelV (.int 99) u
  c_LONGEST_NAME : ∃ u, mg "LONGEST_NAME" = some u ∧ RelV (.int 12) u
  c_LETTERS : ∃ u, mg "LETTERS" = some u ∧ RelV (.str "abcdefghijklmnopqrstuvwxyz") u
  c_MOST_STEPS : ∃ u, mg "MOST_STEPS" = some u ∧ RelV (.int 80) u
  c_MOST_LEAVING : ∃ u, mg "MOST_LEAVING" = some u ∧ RelV (.int 8) u
  c_MOST_FAULTS : ∃ u, mg "MOST_FAULTS" = some u ∧ RelV (.int 3) u
  c_MOST_WORDS : ∃ u, mg "MOST_WORDS" = some u ∧ RelV (.int 14) u
  cl : Cls K C
  g_Machine : mg "Machine" = some (.ref C)
  ins_Machine : C8.InsC K C
  n__start : NoAttr K C "_start"
  n__steps : NoAttr K C "_steps"
  n__words : NoAttr K C "_words"
  n__faults : NoAttr K C "_faults"
  n__states : NoAttr K C "_states"
structure Es where
  BadState : Addr
structure TxE (K : PySem.W.Frag) (mg : Str → Option Value) (ce : Es) : Prop where
  g_BadState : mg "BadState" = some (.ref ce.BadState)
  f_BadState : XfC K ce.BadState
  o_BadState : PySem.W.findIn K (.ref ce.BadState) "value" = some none
  x_BadState_BadState : PySem.W.exmOne K (.ref ce.BadState) (.ref ce.BadState) = some true
theorem szl {α : Type} {l : List α} (h : Nat.ble l.length 100000 = true) : l.length ≤ sizeLine := smallE (Nat.le_of_ble_eq_true h)
/-! ### values -/
inductive Val (K : PySem.W.Frag) (H : Hp) : V → Prop where
  | non : Val K H .non
  | bl (b : Bool) : Val K H (.bl b)
  | int (i : Int) : Val K H (.int i)
  | str (z : Str) (h : z.cps.size ≤ 100) : Val K H (.str z)
  | lst {a : Addr} {xs : List V} (e : H a = some (.lst xs)) : Val K H (.ref a)
  | tup {a : Addr} {xs : List V} (e : H a = some (.tup xs)) : Val K H (.ref a)
  | dK {a : Addr} {kvs : List (Key × V)} (e : H a = some (.dK kvs)) : Val K H (.ref a)
theorem Val.mono {K : PySem.W.Frag} {H H' : Hp} {v : V} (h : Val K H v) (s : Same H H') : Val K H' v := by
  cases h with
  | non => exact .non
  | bl b => exact .bl b
  | int i => exact .int i
  | str z h => exact .str z h
  | lst e => exact .lst (s _ _ e)
  | tup e => exact .tup (s _ _ e)
  | dK e => exact .dK (s _ _ e)
def isS : V → Bool
  | .str _ => true
  | _ => false
def isI : V → Bool
  | .int _ => true
  | .bl _ => true
  | _ => false
def isB : V → Bool
  | .bl _ => true
  | _ => false
theorem Val.ty {K : PySem.W.Frag} {H : Hp} {v : V} (h : Val K H v) : ∃ t, TyX K H v t ∧ PySem.W.kitOne K t (.type "str") = some (isS v) ∧ PySem.W.kitOne K t (.type "int") = some (isI v) ∧ PySem.W.kitOne K t (.type "bool") = some (isB v) := by
  cases h with
  | non => exact ⟨_, .base .non, kit_ty (show kitB "NoneType" "str" = some false by decide +kernel), kit_ty (show kitB "NoneType" "int" = some false by decide +kernel), kit_ty (show kitB "NoneType" "bool" = some false by decide +kernel)⟩
  | bl b => exact ⟨_, .base (.bl b), kit_ty (show kitB "bool" "str" = some false by decide +kernel), kit_ty (show kitB "bool" "int" = some true by decide +kernel), kit_ty (show kitB "bool" "bool" = some true by decide +kernel)⟩
  | int i => exact ⟨_, .base (.int i), kit_ty (show kitB "int" "str" = some false by decide +kernel), kit_ty (show kitB "int" "int" = some true by decide +kernel), kit_ty (show kitB "int" "bool" = some false by decide +kernel)⟩
  | str z h => exact ⟨_, .base (.str z), kit_ty (show kitB "str" "str" = some true by decide +kernel), kit_ty (show kitB "str" "int" = some false by decide +kernel), kit_ty (show kitB "str" "bool" = some false by decide +kernel)⟩
  | lst e => exact ⟨_, .base (.lst e), kit_ty (show kitB "list" "str" = some false by decide +kernel), kit_ty (show kitB "list" "int" = some false by decide +kernel), kit_ty (show kitB "list" "bool" = some false by decide +kernel)⟩
  | tup e => exact ⟨_, .base (.tup e), kit_ty (show kitB "tuple" "str" = some false by decide +kernel), kit_ty (show kitB "tuple" "int" = some false by decide +kernel), kit_ty (show kitB "tuple" "bool" = some false by decide +kernel)⟩
  | dK e => exact ⟨_, .base (.dK e), kit_ty (show kitB "dict" "str" = some false by decide +kernel), kit_ty (show kitB "dict" "int" = some false by decide +kernel), kit_ty (show kitB "dict" "bool" = some false by decide +kernel)⟩
/-! ### what is computed -/
def letters : Str := "abcdefghijklmnopqrstuvwxyz"
def inL (c : Nat) : Bool := decide (c ∈ letters.cps.toList)
def nameB : V → Bool
  | .str z => decide (1 ≤ z.cps.size) && decide (z.cps.size ≤ 12) && z.cps.toList.all inL
  | _ => false
def wholeB (v : V) : Bool := isI v && !isB v
def stateB : V → Bool
  | .int i => decide (0 ≤ i) && decide (i ≤ 99)
  | _ => false
/-! ### promises -/
def spPure (g : V → Bool) (K : PySem.W.Frag) : Sp := fun vs H Q _ => ∃ v, vs = [v] ∧ Val K H v ∧ ∀ H', Same H H' → Q (.bl (g v)) H'
def sp_is_name := spPure nameB
def sp__law_is_name := spPure nameB
def sp_is_whole := spPure wholeB
def sp__law_is_integer := spPure wholeB
def sp_is_state := spPure stateB
def sp__law_is_state := spPure stateB
def sp__law_flag (_ : PySem.W.Frag) : Sp := fun vs H Q _ => ∃ a b, vs = [.bl a, .bl b] ∧ Q (.bl (decide (a = b))) H
def sp__law_mix (_ : PySem.W.Frag) : Sp := fun vs H Q _ => ∃ c k : Int, vs = [.int c, .int k] ∧ ∀ r : Int, 0 ≤ r → r < 2147483399 → Q (.int r) H
def sp__law_cell (K : PySem.W.Frag) : Sp := fun vs H Q _ => ∃ (a : Addr) (ns : List Int) (k : Nat), vs = [.ref a, .int (k : Int)] ∧ SqL K H a (ns.map V.int) ∧ ∀ r : Int, Q (.int r) H
def sp__law_row (K : PySem.W.Frag) : Sp := fun vs H Q _ => ∃ (c : Int) (b : Addr) (ss : List Int), vs = [.int c, .ref b] ∧ SqL K H b (ss.map V.int) ∧ ss.length ≤ 1000 ∧ (∀ s ∈ ss, 0 < s ∧ s < 1073741824) ∧
  ∀ H' p (rs : List Int), Same H H' → H p = none → H' p = some (.lst (rs.map V.int)) → rs.length = ss.length → (∀ (i : Nat) (r s : Int), rs[i]? = some r → ss[i]? = some s → 0 ≤ r ∧ r < s) → Q (.ref p) H'
def sp__law_text (_ : PySem.W.Frag) : Sp := fun vs H Q _ => ∃ c : Int, vs = [.int c] ∧ ∀ (z : Str) H', Same H H' → z.cps.size ≤ 100 → Q (.str z) H'
def sp_law (K : PySem.W.Frag) : Sp := fun vs H Q _ => ∃ (a : Addr) (ns : List Int), vs = [.ref a] ∧ SqL K H a (ns.map V.int) ∧ ns.length ≤ 63 ∧ ∀ H', Q (.bl true) H'
section
variable {P : Program} {w : World} {K : PySem.W.Frag} {mg : Str → Option Value} {base : Heap}

theorem ok_is_whole {f : Addr} {C : Addr} {fd : FuncData} (T : Txt K mg C) (F : Fun K "is_whole" "is_whole" s_is_whole f fd)  : FnOk P w K mg base CX0 1 f fd ["value"] (sp_is_whole K) := by
  have nd := sc_is_whole.nd
  refine F.ok sc_is_whole (fun vs H Q E h => ?_) (fun cdv A outer s H vs Q E hr h => ?_)
  · obtain ⟨v, rfl, _⟩ := h
    rfl
  · obtain ⟨v, rfl, hv, q⟩ := h
    refine ⟨_, (pss_one (ps_ret (pe_and (pe_callB call_isi (by rfl) T.m_isinstance (by decide +kernel) (pa_cons (pv 0) (pa_cons (pe_bltn (v := .ty "int") (u := .type "int") (by rfl) T.m_int (by decide +kernel) rfl) pa_nil))) (pe_one (pe_not (pe_callB call_isi (by rfl) T.m_isinstance (by decide +kernel) (pa_cons (pv 0) (pa_cons (pe_bltn (v := .ty "bool") (u := .type "bool") (by rfl) T.m_bool (by decide +kernel) rfl) pa_nil)))))))), ?_⟩
    obtain ⟨t, ht, hs, hi, hb⟩ := hv.ty
    refine ⟨v, rfl, v, .ty "int", t, _, isI v, rfl, .ty _, ht, hi, _, rfl, ?_⟩
    have q' := q H (Same.refl H)
    unfold wholeB at q'
    by_cases e : isI v = true
    · rw [if_pos e]
      refine ⟨v, rfl, v, .ty "bool", t, _, isB v, rfl, .ty _, ht, hb, _, rfl, ?_⟩
      rw [e] at q'
      exact q'
    · rw [if_neg e]
      rw [Bool.eq_false_iff.mpr e] at q'
      exact q'

theorem ok_is_state {f : Addr} {C : Addr} {fd : FuncData} (T : Txt K mg C) (F : Fun K "is_state" "is_state" s_is_state f fd) (c_is_whole : Cal P w K mg base 1 "is_whole" (sp_is_whole K) []) : FnOk P w K mg base CX0 2 f fd ["value"] (sp_is_state K) := by
  have nd := sc_is_state.nd
  refine F.ok sc_is_state (fun vs H Q E h => ?_) (fun cdv A outer s H vs Q E hr h => ?_)
  · obtain ⟨v, rfl, _⟩ := h
    rfl
  · obtain ⟨v, rfl, hv, q⟩ := h
    refine ⟨_, (pss_one (ps_ret (pe_and (pe_c c_is_whole hr (by omega) (by rfl) (pa_cons (pv 0) pa_nil)) (pe_one (pe_chain op_le op_le pe_int (pv 0) (pe_gc (by rfl) T.c_GREATEST_STATE)))))), ?_⟩
    refine ⟨v, rfl, v, rfl, hv, fun H1 s1 => ⟨_, rfl, ?_⟩⟩
    have q' := q H1 s1
    cases hv with
    | int i =>
      refine iteT ⟨.int i, rfl, 0, i, rfl, rfl, _, rfl, ?_⟩
      by_cases e : 0 ≤ i
      · rw [decide_eq_true e]
        refine iteT ⟨i, 99, rfl, rfl, ?_⟩
        have e2 : stateB (.int i) = decide (i ≤ 99) := by
          show (decide (0 ≤ i) && decide (i ≤ 99)) = _
          rw [decide_eq_true e]; rfl
        rw [e2] at q'
        exact q'
      · rw [decide_eq_false e]
        refine iteF ?_
        have e2 : stateB (.int i) = false := by
          show (decide (0 ≤ i) && decide (i ≤ 99)) = _
          rw [decide_eq_false e]; rfl
        rw [e2] at q'
        exact q'
    | _ => exact iteF q'

theorem nameB_out {z : Str} (h : ¬ (1 ≤ z.cps.size ∧ z.cps.size ≤ 12)) : nameB (.str z) = false := by
  show (decide (1 ≤ z.cps.size) && decide (z.cps.size ≤ 12) && z.cps.toList.all inL) = false
  by_cases a : 1 ≤ z.cps.size
  · rw [decide_eq_false (p := z.cps.size ≤ 12) (fun b => h ⟨a, b⟩), Bool.and_false]; rfl
  · rw [decide_eq_false a]; rfl
theorem nameB_in {z : Str} (h1 : 1 ≤ z.cps.size) (h2 : z.cps.size ≤ 12) : nameB (.str z) = z.cps.toList.all inL := by
  show (decide (1 ≤ z.cps.size) && decide (z.cps.size ≤ 12) && z.cps.toList.all inL) = _
  rw [decide_eq_true h1, decide_eq_true h2]; rfl
theorem nameB_not {v : V} (h : isS v = false) : nameB v = false := by
  cases v <;> first | rfl | cases h
theorem isS_str {v : V} (h : isS v = true) : ∃ z, v = .str z := by
  cases v <;> first | exact ⟨_, rfl⟩ | cases h
theorem Val.size {K : PySem.W.Frag} {H : Hp} {z : Str} (h : Val K H (.str z)) : z.cps.size ≤ 100 := by
  cases h with
  | str _ h => exact h

theorem ok_is_name {f : Addr} {C : Addr} {fd : FuncData} (T : Txt K mg C) (F : Fun K "is_name" "is_name" s_is_name f fd)  : FnOk P w K mg base CX0 1 f fd ["value"] (sp_is_name K) := by
  have nd := sc_is_name.nd
  refine F.ok sc_is_name (fun vs H Q E h => ?_) (fun cdv A outer s H vs Q E hr h => ?_)
  · obtain ⟨v, rfl, _⟩ := h
    rfl
  · obtain ⟨v, rfl, hv, q⟩ := h
    refine ⟨_, (pss_cons (ps_if (PW.pt (pw_or (pt_not (pt_val (pe_callB call_isi (by rfl) T.m_isinstance (by decide +kernel) (pa_cons (pv 0) (pa_cons (pe_bltn (v := .ty "str") (u := .type "str") (by rfl) T.m_str (by decide +kernel) rfl) pa_nil))))) (pw_or1 (pt_not (pt_chain op_le op_le pe_int (pe_callB call_len (by rfl) T.m_len (by decide +kernel) (pa_cons (pv 0) pa_nil)) (pe_gc (by rfl) T.c_LONGEST_NAME)))))) (pss_one (ps_ret pe_bl)) pss_nil)
      (pss_one (ps_ret (pe_callB (cr_all rfl) (by rfl) T.m_all (by decide +kernel) (pa_cons (pe_lc (own := [("letter", 1)]) (g := gName 1) (tt := tYes) rfl nd (pi_str (pv 0)) (blkOk_by (N := ["value", "letter"]) (sc := defScope s_is_name) (by decide +kernel)) (fun _ _ _ _ _ => (pg_name (i := 1) nd rfl (.inl rfl))) (fun _ _ _ _ _ => pts_nil) (fun _ _ _ _ _ => (pe_cmpR op_in_sign (pv 1) (pe_gc (by rfl) T.c_LETTERS) (by with_unfolding_all rfl)))) pa_nil))))), ?_⟩
    obtain ⟨t, ht, hs, hi, hb⟩ := hv.ty
    refine ⟨v, rfl, v, .ty "str", t, _, isS v, rfl, .ty _, ht, hs, _, rfl, ?_⟩
    cases e : isS v with
    | false =>
      refine iteT ?_
      have q' := q H (Same.refl H)
      rw [nameB_not e] at q'
      exact q'
    | true =>
      obtain ⟨z, rfl⟩ := isS_str e
      have hz := hv.size
      refine iteF ⟨.str z, rfl, .str z, z.cps.size, rfl, ⟨smallE (show z.cps.size ≤ 100000 by omega), rfl⟩, 1, (z.cps.size : Int), rfl, rfl, _, rfl, ?_⟩
      by_cases a : 1 ≤ z.cps.size
      · rw [decide_eq_true (show (1 : Int) ≤ (z.cps.size : Int) by omega)]
        refine iteT ⟨(z.cps.size : Int), 12, rfl, rfl, _, rfl, ?_⟩
        by_cases b : z.cps.size ≤ 12
        · rw [decide_eq_true (show (z.cps.size : Int) ≤ 12 by omega)]
          refine iteF ⟨.str z, rfl, z, rfl, fun D nD => lc_text (fun i H' => Same H H' ∧ H' D = some (.lst ((z.cps.toList.take i).map fun c => .bl (inL c)))) ⟨same_upd nD, upd_same⟩ (fun i c H' hc hP => ?_) (fun H' hP => ?_)⟩
          · obtain ⟨sm, eD⟩ := hP
            have hl : i < z.cps.toList.length := (List.getElem?_eq_some_iff.mp hc).1
            rw [Array.length_toList] at hl
            refine ⟨rfl, ?_⟩
            refine ⟨.str ⟨#[c]⟩, rfl, c, letters, rfl, rfl, _, eD, ?_, same_set nD sm, ?_⟩
            · rw [List.length_map, List.length_take]
              exact Nat.lt_of_le_of_lt (Nat.min_le_left _ _) (small (by omega))
            · rw [upd_same, take_more hc, List.map_append]; rfl
          · obtain ⟨sm, eD⟩ := hP
            rw [List.take_length] at eD
            refine ⟨D, z.cps.toList.map inL, rfl, .inl (.inl (by rw [eD, List.map_map]; rfl)), ?_⟩
            have q' := q H' sm
            rw [nameB_in a b] at q'
            rw [List.all_map]
            exact q'
        · rw [decide_eq_false (show ¬ (z.cps.size : Int) ≤ 12 by omega)]
          refine iteT ?_
          have q' := q H (Same.refl H)
          rw [nameB_out (fun h => b h.2)] at q'
          exact q'
      · rw [decide_eq_false (show ¬ (1 : Int) ≤ (z.cps.size : Int) by omega)]
        refine iteF ?_
        have q' := q H (Same.refl H)
        rw [nameB_out (fun h => a h.1)] at q'
        exact ⟨_, rfl, q'⟩

/-! ### rows, steps -/
abbrev rowO (b : Bool) (xs : List V) : HO := match b with | true => .lst xs | false => .tup xs
theorem row_sq {b : Bool} {H : Hp} {a : Addr} {xs : List V} (h : H a = some (rowO b xs)) : KnE.Sq K b H a xs := by
  cases b with
  | true => exact .inl (.inl h)
  | false => exact .inl (.inl h)
theorem row_len {b : Bool} {H : Hp} {a : Addr} {xs : List V} (h : H a = some (rowO b xs)) : LenV K (.ref a) H xs.length := by
  cases b with
  | true => exact .inl ⟨xs, .inl (.inl h), rfl⟩
  | false => exact .inr ⟨xs, .inl (.inl h), rfl⟩
abbrev tup3 (st : KnA.Stp) : HO := .tup [.int st.1, .str st.2.1, .int st.2.2]
abbrev key3 (st : KnA.Stp) : List Key := [.inl st.1, .inr st.2.1, .inl st.2.2]
theorem key3_inj {x y : KnA.Stp} (h : key3 x = key3 y) : x = y := by
  obtain ⟨a, b, c⟩ := x
  obtain ⟨a', b', c'⟩ := y
  simp only [key3, List.cons.injEq, Sum.inl.injEq, Sum.inr.injEq, and_true] at h
  obtain ⟨rfl, rfl, rfl⟩ := h
  rfl
def Stps (H : Hp) (as : List Addr) (ss : List KnA.Stp) : Prop := Paired (fun a st => H a = some (tup3 st)) as ss
theorem Stps.mono {H H' : Hp} {as : List Addr} {ss : List KnA.Stp} (h : Stps H as ss) (s : Same H H') : Stps H' as ss := Paired.mapP h fun _ _ e => s _ _ e
theorem paired_get {α β : Type} {F : α → β → Prop} {l : List α} {m : List β} (h : Paired F l m) : ∀ {i : Nat} {a : α}, l[i]? = some a → ∃ b, m[i]? = some b ∧ F a b := by
  induction h with
  | nil => intro i a e; cases e
  | cons r _ ih =>
    intro i a e
    cases i with
    | zero => cases e; exact ⟨_, rfl, r⟩
    | succ i => exact ih (i := i) e
theorem ref_get {H : Hp} {as : List Addr} {ss : List KnA.Stp} (h : Stps H as ss) {i : Nat} {x : V} (e : (as.map V.ref)[i]? = some x) : ∃ a st, x = .ref a ∧ as[i]? = some a ∧ ss[i]? = some st ∧ H a = some (tup3 st) := by
  rw [List.getElem?_map] at e
  cases g : as[i]? with
  | none => rw [g] at e; cases e
  | some a =>
    rw [g] at e
    obtain ⟨st, g2, r⟩ := paired_get h g
    exact ⟨a, st, (Option.some.inj e).symm, rfl, g2, r⟩
structure GoodStep (x : KnA.Stp) : Prop where
  s : stateB (.int x.1) = true
  w : nameB (.str x.2.1) = true
  t : stateB (.int x.2.2) = true
theorem name_size {z : Str} (h : nameB (.str z) = true) : 1 ≤ z.cps.size ∧ z.cps.size ≤ 12 := by
  by_cases a : 1 ≤ z.cps.size ∧ z.cps.size ≤ 12
  · exact a
  · rw [nameB_out a] at h; cases h
def cnt (ss : List KnA.Stp) (s : Int) : Nat := (ss.filter fun x => decide (x.1 = s)).length
structure GoodSteps (ss : List KnA.Stp) : Prop where
  lo : 1 ≤ ss.length
  hi : ss.length ≤ 80
  good : ∀ x ∈ ss, GoodStep x
  nd : ss.Nodup
  few : ∀ s, cnt ss s ≤ 8
def sp_is_row (_ : PySem.W.Frag) : Sp := fun vs H Q _ => ∃ b a xs, vs = [.ref a] ∧ H a = some (rowO b xs) ∧ ∀ H', Same H H' → Q (.bl true) H'
def sp_is_step (_ : PySem.W.Frag) : Sp := fun vs H Q _ => ∃ a st, vs = [.ref a] ∧ H a = some (tup3 st) ∧ GoodStep st ∧ ∀ H', Same H H' → Q (.bl true) H'
def sp_check_steps (_ : PySem.W.Frag) : Sp := fun vs H Q _ => ∃ b a as ss, vs = [.ref a] ∧ H a = some (rowO b (as.map V.ref)) ∧ Stps H as ss ∧ GoodSteps ss ∧ ∀ H', Same H H' → Q .non H'
theorem ok_is_row {f : Addr} {C : Addr} {fd : FuncData} (T : Txt K mg C) (F : Fun K "is_row" "is_row" s_is_row f fd)  : FnOk P w K mg base CX0 1 f fd ["value"] (sp_is_row K) := by
  have nd := sc_is_row.nd
  refine F.ok sc_is_row (fun vs H Q E h => ?_) (fun cdv A outer s H vs Q E hr h => ?_)
  · obtain ⟨b, a, xs, rfl, _⟩ := h
    rfl
  · obtain ⟨b, a, xs, rfl, ha, q⟩ := h
    refine ⟨_, (pss_one (ps_ret (pe_callB call_isiT (by rfl) T.m_isinstance (by decide +kernel) (pa_cons (pv 0) (pa_cons (pe_tup (pa_cons (pe_bltn (v := .ty "list") (u := .type "list") (by rfl) T.m_list (by decide +kernel) rfl) (pa_cons (pe_bltn (v := .ty "tuple") (u := .type "tuple") (by rfl) T.m_tuple (by decide +kernel) rfl) pa_nil))) pa_nil))))), ?_⟩
    refine ⟨.ref a, rfl, szl rfl, fun p np => ?_⟩
    have q' := q _ (same_upd (o := .tup [.ty "list", .ty "tuple"]) np)
    have ha' : (upd H p (.tup [.ty "list", .ty "tuple"])) a = some (rowO b xs) := (upd_ne (ne_of_none ha np)).trans ha
    cases b with
    | true =>
      exact ⟨.ref a, p, [.ty "list", .ty "tuple"], .type "list", [.type "list", .type "tuple"], true, rfl, upd_same, .cons (.ty _) (.cons (.ty _) .nil), .base (.lst ha'), kitAny_cons (kit_ty (show kitB "list" "list" = some true by decide +kernel)) (fun z => nomatch z) (fun _ => rfl), q'⟩
    | false =>
      exact ⟨.ref a, p, [.ty "list", .ty "tuple"], .type "tuple", [.type "list", .type "tuple"], true, rfl, upd_same, .cons (.ty _) (.cons (.ty _) .nil), .base (.tup ha'),
        kitAny_cons (kit_ty (show kitB "tuple" "list" = some false by decide +kernel)) (fun _ => kitAny_cons (kit_ty (show kitB "tuple" "tuple" = some true by decide +kernel)) (fun z => nomatch z) fun _ => rfl) (fun z => nomatch z), q'⟩
theorem ok_is_step {f : Addr} {C : Addr} {fd : FuncData} (T : Txt K mg C) (F : Fun K "is_step" "is_step" s_is_step f fd) (c_is_state : Cal P w K mg base 2 "is_state" (sp_is_state K) []) (c_is_name : Cal P w K mg base 1 "is_name" (sp_is_name K) []) : FnOk P w K mg base CX0 3 f fd ["value"] (sp_is_step K) := by
  have nd := sc_is_step.nd
  refine F.ok sc_is_step (fun vs H Q E h => ?_) (fun cdv A outer s H vs Q E hr h => ?_)
  · obtain ⟨a, st, rfl, _⟩ := h
    rfl
  · obtain ⟨a, st, rfl, ha, g, q⟩ := h
    refine ⟨_, (pss_cons (ps_if (PW.pt (pw_or (pt_not (pt_val (pe_callB call_isi (by rfl) T.m_isinstance (by decide +kernel) (pa_cons (pv 0) (pa_cons (pe_bltn (v := .ty "tuple") (u := .type "tuple") (by rfl) T.m_tuple (by decide +kernel) rfl) pa_nil))))) (pw_or1 (pt_cmpR op_ne (pe_callB call_len (by rfl) T.m_len (by decide +kernel) (pa_cons (pv 0) pa_nil)) pe_int (nomark _))))) (pss_one (ps_ret pe_bl)) pss_nil)
      (pss_one (ps_ret (pe_and (pe_c c_is_state hr (by omega) (by rfl) (pa_cons (pe_ix (r := rIxT K) ix_tup (pv 0) pe_int (fun _ _ => rfl)) pa_nil)) (pe_and (pe_c c_is_name hr (by omega) (by rfl) (pa_cons (pe_ix (r := rIxT K) ix_tup (pv 0) pe_int (fun _ _ => rfl)) pa_nil)) (pe_one (pe_c c_is_state hr (by omega) (by rfl) (pa_cons (pe_ix (r := rIxT K) ix_tup (pv 0) pe_int (fun _ _ => rfl)) pa_nil)))))))), ?_⟩
    have sq : ∀ {H' : Hp}, Same H H' → SqT K H' a [.int st.1, .str st.2.1, .int st.2.2] := fun s => .inl (.inl (s _ _ ha))
    refine ⟨.ref a, rfl, .ref a, .ty "tuple", .type "tuple", _, true, rfl, .ty _, .base (.tup ha), kit_ty (show kitB "tuple" "tuple" = some true by decide +kernel), _, rfl, ?_⟩
    refine iteF ⟨.ref a, rfl, .ref a, 3, rfl, .inr ⟨_, sq (Same.refl H), rfl⟩, rfl, _, rfl, iteNS rfl ?_⟩
    refine ⟨.ref a, rfl, a, _, 0, .int st.1, rfl, rfl, sq (Same.refl H), atI_nat (j := 0) rfl, .int st.1, rfl, .int _, fun H1 s1 => ⟨_, rfl, ?_⟩⟩
    rw [if_pos g.s]
    refine ⟨.ref a, rfl, a, _, 1, .str st.2.1, rfl, rfl, sq s1, atI_nat (j := 1) rfl, .str st.2.1, rfl, .str _ (by have := (name_size g.w).2; omega), fun H2 s2 => ⟨_, rfl, ?_⟩⟩
    rw [if_pos g.w]
    refine ⟨.ref a, rfl, a, _, 2, .int st.2.2, rfl, rfl, sq (s1.trans s2), atI_nat (j := 2) rfl, .int st.2.2, rfl, .int _, fun H3 s3 => ?_⟩
    have q' := q H3 (s1.trans (s2.trans s3))
    rw [← g.t] at q'
    exact q'
theorem valT_in {kvs : List (List Key × V)} {k : List Key} : (valV kvs k).isSome = true ↔ k ∈ kvs.map (·.1) := by
  rw [← valV_any, List.any_eq_true]
  constructor
  · rintro ⟨p, hp, e⟩
    exact List.mem_map.mpr ⟨p, hp, of_decide_eq_true e⟩
  · intro h
    obtain ⟨p, hp, e⟩ := List.mem_map.mp h
    exact ⟨p, hp, decide_eq_true e⟩
theorem cnt_take {ss : List KnA.Stp} {i : Nat} {st : KnA.Stp} (h : ss[i]? = some st) (s : Int) : cnt (ss.take (i + 1)) s = cnt (ss.take i) s + if st.1 = s then 1 else 0 := by
  unfold cnt
  rw [take_more h, List.filter_append, List.length_append]
  by_cases e : st.1 = s
  · simp [List.filter_cons, e]
  · simp [List.filter_cons, e]
theorem cnt_le (ss : List KnA.Stp) (i : Nat) (s : Int) : cnt (ss.take i) s ≤ cnt ss s := by
  unfold cnt
  exact (List.Sublist.filter _ (List.take_sublist i ss)).length_le
theorem ok_check_steps {f : Addr} {C : Addr} {fd : FuncData} (T : Txt K mg C) (F : Fun K "check_steps" "check_steps" s_check_steps f fd) (c_is_row : Cal P w K mg base 1 "is_row" (sp_is_row K) []) (c_is_step : Cal P w K mg base 3 "is_step" (sp_is_step K) []) : FnOk P w K mg base CX0 4 f fd ["steps"] (sp_check_steps K) := by
  have nd := sc_check_steps.nd
  refine F.ok sc_check_steps (fun vs H Q E h => ?_) (fun cdv A outer s H vs Q E hr h => ?_)
  · obtain ⟨b, a, as, ss, rfl, _⟩ := h
    rfl
  · obtain ⟨b, a, as, ss, rfl, ha, hst, gs, q⟩ := h
    refine ⟨_, (pss_cons (ps_if (PW.pt (pw_or (pt_not (pt_val (pe_c c_is_row hr (by omega) (by rfl) (pa_cons (pv 0) pa_nil)))) (pw_or1 (pt_not (pt_chain op_le op_le pe_int (pe_callB call_len (by rfl) T.m_len (by decide +kernel) (pa_cons (pv 0) pa_nil)) (pe_gc (by rfl) T.c_MOST_STEPS)))))) (pss_one ps_never) pss_nil)
      (pss_cons (ps_set (i := 1) nd rfl (.inl rfl) pe_dnewT)
      (pss_cons (ps_set (i := 2) nd rfl (.inl rfl) pe_dnewK)
      (pss_one (ps_for PassesOwn.never rfl (KnE.pi_en (by rfl) T.m_enumerate (pa_cons (pv 0) pa_nil)) (pg_tup (by rfl) (pgs_cons (pg_name (i := 3) nd rfl (.inl rfl)) (pgs_cons (pg_name (i := 4) nd rfl (.inl rfl)) pgs_nil))) (pss_cons (ps_if (PW.pt (pw_or (pt_not (pt_val (pe_c c_is_step hr (by omega) (by rfl) (pa_cons (pv 4) pa_nil)))) (pw_or1 (pt_cmp (pc_din (hu_of hr) (pv 4) (pv 1)))))) (pss_one ps_never) pss_nil)
      (pss_cons (ps_dput (hu_of hr) (pv 1) (pv 4) pe_bl rfl)
      (pss_cons (ps_dput (hu_of hr) (pv 2) (pe_ix (r := rIxT K) ix_tup (pv 4) pe_int (fun _ _ => rfl)) (pe_op op_add (pe_dget2 (hu_of hr) (pv 2) (pe_ix (r := rIxT K) ix_tup (pv 4) pe_int (fun _ _ => rfl)) pe_int ⟨rfl, rfl, rfl, rfl⟩) pe_int) rfl)
      (pss_one (ps_if (pt_cmpR op_gt (pe_dget (hu_of hr) (pv 2) (pe_ix (r := rIxT K) ix_tup (pv 4) pe_int (fun _ _ => rfl)) (fun _ _ => rfl)) (pe_gc (by rfl) T.c_MOST_LEAVING) (nomark _)) (pss_one ps_never) pss_nil)))))))))), ?_⟩
    have len : (as.map V.ref).length = ss.length := by rw [List.length_map, hst.length]
    have lo := gs.lo
    have hi := gs.hi
    refine ⟨.ref a, rfl, b, a, _, rfl, ha, fun H1 s1 => ⟨_, rfl, iteF ⟨.ref a, rfl, .ref a, (as.map V.ref).length, rfl, row_len (s1 _ _ ha), 1, ((as.map V.ref).length : Int), rfl, rfl, _, rfl, ?_⟩⟩⟩
    rw [decide_eq_true (show (1 : Int) ≤ ((as.map V.ref).length : Int) by omega)]
    refine iteT ⟨((as.map V.ref).length : Int), 80, rfl, rfl, _, rfl, iteNS (show ((as.map V.ref).length : Int) ≤ 80 by omega) ?_⟩
    refine fun d nD c nC => ?_
    have s2 := same_upd (o := .dT []) nD
    have s3 := same_upd (o := .dK []) nC
    have nDC : d ≠ c := fun e => by rw [e, upd_same] at nC; cases nC
    have nDH : H d = none := s1.free nD
    have nCH : H c = none := s1.free (s2.free nC)
    have S0 : Same H (upd (upd H1 d (.dT [])) c (.dK [])) := s1.trans (s2.trans s3)
    refine ⟨.ref a, rfl, a, b, as.map V.ref, rfl, row_sq (S0 _ _ ha), ?_⟩
    refine KnE.for_en (K := K) (fun i σ H' => ∃ y3 y4, σ = [some (.ref a), some (.ref d), some (.ref c), y3, y4] ∧ Same H H' ∧ (∃ kvs, H' d = some (.dT kvs) ∧ kvs.length ≤ i ∧ ∀ k, k ∈ kvs.map (·.1) ↔ k ∈ (ss.take i).map key3) ∧
        ∃ cs, H' c = some (.dK cs) ∧ cs.length ≤ i ∧ ∀ s : Int, valV cs (.inl s) = if cnt (ss.take i) s = 0 then none else some (.int (cnt (ss.take i) s)))
      ⟨none, none, rfl, S0, ⟨[], (upd_ne nDC).trans upd_same, Nat.le_refl _, fun k => Iff.rfl⟩, [], upd_same, Nat.le_refl _, fun s => rfl⟩ (fun i σ H' _ hP => row_sq (hP.choose_spec.choose_spec.2.1 _ _ ha)) (fun i x T σ H' hx nT hP => ?_) (fun σ H' hP => ?_)
    · obtain ⟨y3, y4, rfl, S, ⟨kvs, ed, lk, mk⟩, cs, ec, lc, vc⟩ := hP
      obtain ⟨ai, st, rfl, gi, gsi, hai⟩ := ref_get (hst.mono S) hx
      have hi80 : i < ss.length := (List.getElem?_eq_some_iff.mp gsi).1
      have gst := gs.good st (List.mem_of_getElem? gsi)
      have sT := same_upd (o := .tup [.int (i : Nat), .ref ai]) nT
      have S' : Same H (upd H' T (.tup [.int (i : Nat), .ref ai])) := S.trans sT
      have ed' := sT _ _ ed
      have ec' := sT _ _ ec
      have hai' := sT _ _ hai
      have eT : (upd H' T (.tup [.int (i : Nat), .ref ai])) T = some (.tup [.int (i : Nat), .ref ai]) := upd_same
      generalize upd H' T (.tup [.int (i : Nat), .ref ai]) = H2 at S' ed' ec' hai' eT ⊢
      refine ⟨T, [.int (i : Nat), .ref ai], rfl, .inl (.inl eT), rfl, .int (i : Nat), [.ref ai], rfl, .ref ai, [], rfl, rfl, ?_⟩
      refine ⟨.ref ai, rfl, ai, st, rfl, hai', gst, fun H3 s3' => ⟨_, rfl, iteF ?_⟩⟩
      have ed3 := s3' _ _ ed'
      have ec3 := s3' _ _ ec'
      have hai3 := s3' _ _ hai'
      have S3 : Same H H3 := S'.trans s3'
      refine ⟨.ref ai, rfl, .ref d, rfl, d, valV kvs (key3 st), rfl, DGet.t ed3 hai3, _, rfl, ?_⟩
      have fresh : ¬ key3 st ∈ (ss.take i).map key3 := fun z => by
        obtain ⟨x, hx', e⟩ := List.mem_map.mp z
        have e' := key3_inj e
        subst e'
        obtain ⟨j, hj, ej⟩ := List.mem_iff_getElem.mp hx'
        rw [List.getElem_take] at ej
        have lj : j < i := by rw [List.length_take] at hj; omega
        have e1 : ss[i] = x := (List.getElem?_eq_some_iff.mp gsi).2
        exact absurd ((List.getElem_inj gs.nd).mp (ej.trans e1.symm)) (by omega)
      have no : valV kvs (key3 st) = none := by
        cases e : valV kvs (key3 st) with
        | none => rfl
        | some v => exact absurd ((mk _).mp (valT_in.mp (by rw [e]; rfl))) fresh
      rw [no]
      refine iteF ?_
      -- seen[step] = True
      refine ⟨.ref d, rfl, .ref ai, rfl, d, _, rfl, DPut.t (k := key3 st) ed3 hai3 (small (by omega)), ?_⟩
      have ec4 : (upd H3 d (.dT (putK kvs (key3 st) (.bl true)))) c = some (.dK cs) := (upd_ne nDC.symm).trans ec3
      have nAi : ai ≠ d := ne_of hai3 ed3 (fun z => by cases z)
      have hai4 : (upd H3 d (.dT (putK kvs (key3 st) (.bl true)))) ai = some (tup3 st) := (upd_ne nAi).trans hai3
      have ed4 : (upd H3 d (.dT (putK kvs (key3 st) (.bl true)))) d = some (.dT (putK kvs (key3 st) (.bl true))) := upd_same
      have S4 : Same H (upd H3 d (.dT (putK kvs (key3 st) (.bl true)))) := same_set nDH S3
      generalize upd H3 d (.dT (putK kvs (key3 st) (.bl true))) = H4 at ec4 hai4 ed4 S4 ⊢
      -- counts[step[0]] = counts.get(step[0], 0) + 1
      have sq4 : SqT K H4 ai [.int st.1, .str st.2.1, .int st.2.2] := .inl (.inl hai4)
      have get0 : (valV cs (.inl st.1)).getD (.int 0) = .int (cnt (ss.take i) st.1 : Nat) := by
        rw [vc]
        by_cases z : cnt (ss.take i) st.1 = 0
        · rw [if_pos z, z]; rfl
        · rw [if_neg z]; rfl
      refine ⟨.ref c, rfl, c, rfl, .inl ⟨cs, .inl ec4⟩, .ref ai, rfl, ai, _, 0, .int st.1, rfl, rfl, sq4, atI_nat (j := 0) rfl, valV cs (.inl st.1), DGet.k (k := .inl st.1) ec4, (cnt (ss.take i) st.1 : Nat), 1, get0, rfl, ?_⟩
      refine ⟨.ref c, rfl, .ref ai, rfl, ai, _, 0, .int st.1, rfl, rfl, sq4, atI_nat (j := 0) rfl, c, _, rfl, DPut.k (k := .inl st.1) ec4 (small (by omega)), ?_⟩
      have nAc : ai ≠ c := ne_of hai4 ec4 (fun z => by cases z)
      have v1 : (V.int ((cnt (ss.take i) st.1 : Nat) + 1) : V) = .int (cnt (ss.take (i + 1)) st.1 : Nat) := by
        rw [cnt_take gsi, if_pos rfl]; rfl
      have vnew : ∀ s : Int, valV (putK cs (.inl st.1) (.int ((cnt (ss.take i) st.1 : Nat) + 1))) (.inl s) = if cnt (ss.take (i + 1)) s = 0 then none else some (.int (cnt (ss.take (i + 1)) s)) := fun s => by
        rw [valV_put]
        by_cases e : s = st.1
        · subst e
          rw [if_pos rfl, v1, if_neg (by rw [cnt_take gsi, if_pos rfl]; omega)]
        · have e0 : cnt (ss.take (i + 1)) s = cnt (ss.take i) s := by rw [cnt_take gsi, if_neg (fun z => e z.symm)]; rfl
          rw [if_neg (fun z => e (Sum.inl.inj z)), vc, e0]
      have ec5 : (upd H4 c (.dK (putK cs (.inl st.1) (.int ((cnt (ss.take i) st.1 : Nat) + 1))))) c = some (.dK (putK cs (.inl st.1) (.int ((cnt (ss.take i) st.1 : Nat) + 1)))) := upd_same
      have ed5 : (upd H4 c (.dK (putK cs (.inl st.1) (.int ((cnt (ss.take i) st.1 : Nat) + 1))))) d = some (.dT (putK kvs (key3 st) (.bl true))) := (upd_ne nDC).trans ed4
      have hai5 : (upd H4 c (.dK (putK cs (.inl st.1) (.int ((cnt (ss.take i) st.1 : Nat) + 1))))) ai = some (tup3 st) := (upd_ne nAc).trans hai4
      have S5 : Same H (upd H4 c (.dK (putK cs (.inl st.1) (.int ((cnt (ss.take i) st.1 : Nat) + 1))))) := same_set nCH S4
      have l5 := length_putK cs (.inl st.1) (.int ((cnt (ss.take i) st.1 : Nat) + 1))
      generalize upd H4 c (.dK (putK cs (.inl st.1) (.int ((cnt (ss.take i) st.1 : Nat) + 1)))) = H5 at ec5 ed5 hai5 S5 ⊢
      have g5 := vnew st.1
      rw [if_neg (by rw [cnt_take gsi, if_pos rfl]; omega)] at g5
      have le8 : (cnt (ss.take (i + 1)) st.1 : Int) ≤ 8 := by
        have h1 := cnt_le ss (i + 1) st.1
        have h2 := gs.few st.1
        omega
      refine ⟨.ref c, rfl, .ref ai, rfl, ai, _, 0, .int st.1, rfl, rfl, .inl (.inl hai5), atI_nat (j := 0) rfl, c, .int (cnt (ss.take (i + 1)) st.1 : Nat), rfl, ?_, (cnt (ss.take (i + 1)) st.1 : Nat), 8, rfl, rfl, _, rfl, ?_⟩
      · have dg := DGet.k (k := .inl st.1) ec5
        rw [g5] at dg
        exact dg
      · rw [decide_eq_false (show ¬ (8 : Int) < (cnt (ss.take (i + 1)) st.1 : Nat) by omega)]
        refine iteF ⟨_, _, rfl, S5, ⟨_, ed5, ?_, fun k => ?_⟩, _, ec5, by omega, vnew⟩
        · have := length_putK kvs (key3 st) (.bl true)
          omega
        · rw [putK_new _ no, List.map_append, List.mem_append, mk, take_more gsi, List.map_append, List.mem_append]
          exact Iff.rfl
    · obtain ⟨y3, y4, rfl, S, _⟩ := hP
      exact q H' S

/-! ### faults -/
/-- what a walk over the items of a dict asks -/
theorem for_items {d : Addr} {o : Obj} {kvs : List (Key × V)} {g : TG} {tb : TS} {D : Ends} {σ : L2.St} {H : Hp} (Pv : Nat → L2.St → Hp → Prop) (h0 : Pv 0 σ H) (hl : ∀ i σ H, i ≤ kvs.length → Pv i σ H → H d = some (.frz o (.dK kvs)))
    (hs : ∀ (i : Nat) (k : Key) (v : V) (T : Addr) (σ : L2.St) (H : Hp), kvs[i]? = some (k, v) → H T = none → Pv i σ H → g (.ref T) σ (upd H T (.tup [kV k, v])) fun σ2 H2 => tb { D with nx := Pv (i + 1), ct := Pv (i + 1), bk := D.nx } σ2 H2) (hd : ∀ σ H, Pv kvs.length σ H → D.nx σ H) :
    ∃ W : Nat → Nat → L2.St → Hp → Prop, (∃ m, W 0 m σ H) ∧ ∀ i m σ H, W i m σ H →
      ((Iti d o kvs).stop i H ∧ D.nx σ H) ∨ ((Iti d o kvs).go i H ∧ ∃ N : L2.St → Hp → Prop, (∀ σ' H', N σ' H' → ∃ m', m' < m ∧ W (i + 1) m' σ' H') ∧ ∀ x H', (Iti d o kvs).yld i H x H' → g x σ H' fun σ2 H2 => tb { D with nx := N, ct := N, bk := D.nx } σ2 H2) := by
  refine ⟨fun i m σ H => m = kvs.length - i ∧ i ≤ kvs.length ∧ Pv i σ H, ⟨kvs.length, rfl, Nat.zero_le _, h0⟩, fun i m σ H ⟨em, hi, p⟩ => ?_⟩
  have q := hl i σ H hi p
  rcases Nat.lt_or_eq_of_le hi with lt | e
  · refine .inr ⟨⟨q, lt⟩, Pv (i + 1), fun σ' H' p' => ⟨kvs.length - (i + 1), by omega, rfl, lt, p'⟩, fun v H' ⟨T, k, u, ek, ev, nT, eH⟩ => ?_⟩
    subst ev eH
    exact hs i k u T σ H ek nT p
  · subst e
    exact .inl ⟨⟨q, Nat.le_refl _⟩, hd σ H p⟩
/-- the pairs of a dict of faults -/
def fkv (fs : List (Str × Str)) : List (Key × V) := fs.map fun p => (Sum.inr p.1, .str p.2)
theorem fkv_get {fs : List (Str × Str)} {i : Nat} {k : Key} {v : V} (h : (fkv fs)[i]? = some (k, v)) : ∃ x y, fs[i]? = some (x, y) ∧ k = .inr x ∧ v = .str y := by
  unfold fkv at h
  rw [List.getElem?_map] at h
  cases e : fs[i]? with
  | none => rw [e] at h; cases h
  | some p => rw [e] at h; cases h; exact ⟨p.1, p.2, rfl, rfl, rfl⟩
structure GoodFaults (fs : List (Str × Str)) (ws : List Str) : Prop where
  word : ∀ p ∈ fs, nameB (.str p.1) = true ∧ p.1 ∈ ws ∧ nameB (.str p.2) = true
  few : (KnS.allL (fs.map fun p => Sum.inr p.2)).length ≤ 3
  len : fs.length ≤ 1000
/-- the faults as they are passed: None (no faults), or a dict -/
def FArg (H : Hp) (v : V) (fs : List (Str × Str)) : Prop := (v = .non ∧ fs = []) ∨ ∃ d, v = .ref d ∧ H d = some (.dK (fkv fs))
theorem FArg.mono {H H' : Hp} {v : V} {fs : List (Str × Str)} (h : FArg H v fs) (s : Same H H') : FArg H' v fs := by
  rcases h with h | ⟨d, e, h⟩
  · exact .inl h
  · exact .inr ⟨d, e, s _ _ h⟩
def sp_check_faults (_ : PySem.W.Frag) : Sp := fun vs H Q _ => ∃ (v : V) (fs : List (Str × Str)) (l : Addr) (ws : List Str), vs = [v, .ref l] ∧ FArg H v fs ∧ H l = some (.lst (ws.map V.str)) ∧ GoodFaults fs ws ∧ ∀ H', Same H H' → Q .non H'
theorem inV_strs {x : Str} {ws : List Str} : inV (.str x) (ws.map V.str) = decide (x ∈ ws) := by
  unfold inV
  induction ws with
  | nil => rfl
  | cons y r ih =>
    rw [List.map_cons, List.any_cons, ih]
    have e : eqV (.str y) (.str x) = decide (y = x) := by
      show (y == x) = decide (y = x)
      by_cases z : y = x
      · rw [z]; simp
      · rw [decide_eq_false z]; exact beq_eq_false_iff_ne.mpr z
    rw [e]
    by_cases z : y = x
    · subst z; simp
    · have z' : ¬ x = y := fun q => z q.symm
      simp [z, z']
theorem flat_ws (ws : List Str) : (ws.map V.str).all flatV = true := by
  rw [List.all_map]
  exact List.all_eq_true.mpr fun _ _ => rfl
theorem foldL_mono : ∀ (l acc : List Key), acc.length ≤ (l.foldl KnS.addL acc).length
  | [], _ => Nat.le_refl _
  | k :: l, acc => by
    refine Nat.le_trans ?_ (foldL_mono l (KnS.addL acc k))
    unfold KnS.addL
    by_cases z : KnS.hasL acc k = true
    · rw [if_pos z]; exact Nat.le_refl _
    · rw [if_neg z, List.length_append]; exact Nat.le_add_right _ _
theorem putK_keys {kvs : List (Key × V)} {k : Key} {v : V} : (putK kvs k v).map (·.1) = KnS.addL (kvs.map (·.1)) k := by
  unfold putK KnS.addL
  have e : (kvs.any fun kv => decide (kv.1 = k)) = KnS.hasL (kvs.map (·.1)) k := by
    unfold KnS.hasL
    rw [List.any_map]; rfl
  rw [e]
  by_cases z : KnS.hasL (kvs.map (·.1)) k = true
  · rw [if_pos z, if_pos z, List.map_map]
    refine List.map_congr_left fun p _ => ?_
    show (if p.1 = k then (p.1, v) else p).1 = p.1
    split <;> rfl
  · rw [if_neg z, if_neg z, List.map_append]; rfl
theorem ok_check_faults {f : Addr} {C : Addr} {fd : FuncData} (T : Txt K mg C) (F : Fun K "check_faults" "check_faults" s_check_faults f fd) (c_is_name : Cal P w K mg base 1 "is_name" (sp_is_name K) []) : FnOk P w K mg base CX0 2 f fd ["faults", "words"] (sp_check_faults K) := by
  have nd := sc_check_faults.nd
  refine F.ok sc_check_faults (fun vs H Q E h => ?_) (fun cdv A outer s H vs Q E hr h => ?_)
  · obtain ⟨v, fs, l, ws, rfl, _⟩ := h
    rfl
  · obtain ⟨v, fs, l, ws, rfl, hf, hl, gf, q⟩ := h
    refine ⟨_, (pss_cons (ps_if (pt_cmpR op_isN (pv 0) pe_non (nomark _)) (pss_one (ps_retN)) pss_nil)
      (pss_cons (ps_if (pt_not (pt_val (pe_callB call_isi (by rfl) T.m_isinstance (by decide +kernel) (pa_cons (pv 0) (pa_cons (pe_bltn (v := .ty "dict") (u := .type "dict") (by rfl) T.m_dict (by decide +kernel) rfl) pa_nil))))) (pss_one ps_never) pss_nil)
      (pss_cons (ps_set (i := 2) nd rfl (.inl rfl) pe_dnewK)
      (pss_one (ps_lock (ps_for PassesOwn.never rfl (pi_items (pv 0)) (pg_tup (by rfl) (pgs_cons (pg_name (i := 3) nd rfl (.inl rfl)) (pgs_cons (pg_name (i := 4) nd rfl (.inl rfl)) pgs_nil))) (pss_cons (ps_if (PW.pt (pw_or (pt_not (pt_val (pe_c c_is_name hr (by omega) (by rfl) (pa_cons (pv 3) pa_nil)))) (pw_or (pt_cmpR op_notIn_seq (pv 3) (pv 1) (by with_unfolding_all rfl)) (pw_or1 (pt_not (pt_val (pe_c c_is_name hr (by omega) (by rfl) (pa_cons (pv 4) pa_nil)))))))) (pss_one ps_never) pss_nil)
      (pss_cons (ps_dput (hu_of hr) (pv 2) (pv 4) pe_bl rfl)
      (pss_one (ps_if (pt_cmpR op_gt (pe_callB call_lenD (by rfl) T.m_len (by decide +kernel) (pa_cons (pv 2) pa_nil)) (pe_gc (by rfl) T.c_MOST_FAULTS) (nomark _)) (pss_one ps_never) pss_nil)))))))))), ?_⟩
    rcases hf with ⟨rfl, rfl⟩ | ⟨d, rfl, hd⟩
    · exact ⟨.non, rfl, rfl, _, rfl, iteT (q H (Same.refl H))⟩
    · refine ⟨.ref d, rfl, rfl, _, rfl, iteF ?_⟩
      refine ⟨.ref d, rfl, .ref d, .ty "dict", .type "dict", _, true, rfl, .ty _, .base (.dK hd), kit_ty (show kitB "dict" "dict" = some true by decide +kernel), _, rfl, iteF ?_⟩
      refine fun c nC => ?_
      have S0 := same_upd (o := .dK []) nC
      have nDC : d ≠ c := ne_of_none hd nC
      have ed0 := S0 _ _ hd
      have ec0 := upd_same (H := H) (a := c) (o := .dK [])
      generalize upd H c (.dK []) = H0 at S0 ed0 ec0 ⊢
      refine ⟨d, .dK (fkv fs), ed0, trivial, fun od => ?_⟩
      have back : ∀ {H' : Hp}, (∀ b o, b ≠ d → H b = some o → H' b = some o) → Same H (upd H' d (.dK (fkv fs))) := fun k b o e => by
        by_cases z : b = d
        · rw [z] at e ⊢
          rw [hd] at e
          cases e
          exact upd_same
        · rw [upd_ne z]; exact k b o z e
      refine ⟨.ref d, rfl, d, od, fkv fs, rfl, upd_same, ?_⟩
      refine for_items (fun i σ H' => ∃ y3 y4, σ = [some (.ref d), some (.ref l), some (.ref c), y3, y4] ∧ H' d = some (.frz od (.dK (fkv fs))) ∧ (∀ b o, b ≠ d → H b = some o → H' b = some o) ∧ ∃ cs, H' c = some (.dK cs) ∧ cs.map (·.1) = KnS.allL ((fs.take i).map fun p => Sum.inr p.2))
        ⟨none, none, rfl, upd_same, fun b o z e => (upd_ne z).trans (S0 _ _ e), [], (upd_ne nDC.symm).trans ec0, rfl⟩ (fun i σ H' _ hP => hP.choose_spec.choose_spec.2.1) (fun i k v T σ H' hx nT hP => ?_) (fun σ H' hP => ?_)
      · obtain ⟨y3, y4, rfl, ed, S, cs, ec, kc⟩ := hP
        obtain ⟨x, y, gx, rfl, rfl⟩ := fkv_get hx
        obtain ⟨g1, g2, g3⟩ := gf.word _ (List.mem_of_getElem? gx)
        have hi : i < fs.length := (List.getElem?_eq_some_iff.mp gx).1
        have lenf := gf.len
        have sT := same_upd (o := .tup [.str x, .str y]) nT
        have ed2 := sT _ _ ed
        have ec2 := sT _ _ ec
        have S2 : ∀ b o, b ≠ d → H b = some o → (upd H' T (.tup [.str x, .str y])) b = some o := fun b o z e => sT _ _ (S b o z e)
        have eT : (upd H' T (.tup [.str x, .str y])) T = some (.tup [.str x, .str y]) := upd_same
        show gTup _ _ _ _ _ (upd H' T (.tup [.str x, .str y])) _
        generalize upd H' T (.tup [.str x, .str y]) = H2 at ed2 ec2 S2 eT ⊢
        refine ⟨T, [.str x, .str y], rfl, .inl (.inl eT), rfl, .str x, [.str y], rfl, .str y, [], rfl, rfl, ?_⟩
        have zx : x.cps.size ≤ 12 := (name_size g1).2
        have zy : y.cps.size ≤ 12 := (name_size g3).2
        refine ⟨.str x, rfl, .str x, rfl, .str x (by omega), fun H3 s3 => ⟨_, rfl, ?_⟩⟩
        rw [g1]
        have nlc : l ≠ d := ne_of hl hd (fun z => by cases z)
        have hl3 : H3 l = some (.lst (ws.map V.str)) := s3 _ _ (S2 l _ nlc hl)
        refine iteF ⟨.str x, rfl, .ref l, rfl, l, ws.map V.str, rfl, .inl (.inl (.inl hl3)), rfl, flat_ws ws, _, rfl, ?_⟩
        show if (!inV (.str x) (ws.map V.str)) = true then _ else _
        rw [inV_strs, decide_eq_true g2]
        refine iteF ⟨.str y, rfl, .str y, rfl, .str y (by omega), fun H4 s4 => ⟨_, rfl, ?_⟩⟩
        rw [g3]
        refine iteF ?_
        have ec4 := s4 _ _ (s3 _ _ ec2)
        have ed4 := s4 _ _ (s3 _ _ ed2)
        have S4 : ∀ b o, b ≠ d → H b = some o → H4 b = some o := fun b o z e => s4 _ _ (s3 _ _ (S2 b o z e))
        have hcs : cs.length ≤ i := by
          have h1 := congrArg List.length kc
          have h2 := KnS.foldL_length ((fs.take i).map fun p => (Sum.inr p.2 : Key)) []
          rw [List.length_map] at h1
          rw [List.length_map, List.length_take] at h2
          have h3 : ([] : List Key).length = 0 := rfl
          unfold KnS.allL at h1
          omega
        refine ⟨.ref c, rfl, .str y, rfl, c, _, rfl, DPut.k (k := .inr y) ec4 (small (by omega)), ?_⟩
        have kn : (putK cs (.inr y) (.bl true)).map (·.1) = KnS.allL ((fs.take (i + 1)).map fun p => Sum.inr p.2) := by
          rw [putK_keys, kc, take_more gx, List.map_append]
          unfold KnS.allL
          rw [List.foldl_append]
          rfl
        have few3 : (putK cs (.inr y) (.bl true)).length ≤ 3 := by
          have h1 := congrArg List.length kn
          rw [List.length_map] at h1
          rw [h1]
          refine Nat.le_trans ?_ gf.few
          have e : (fs.map fun p => (Sum.inr p.2 : Key)) = ((fs.take (i + 1)).map fun p => Sum.inr p.2) ++ ((fs.drop (i + 1)).map fun p => Sum.inr p.2) := by
            rw [← List.map_append, List.take_append_drop]
          rw [e]
          unfold KnS.allL
          rw [List.foldl_append]
          exact foldL_mono _ _
        refine ⟨.ref c, rfl, c, putK cs (.inr y) (.bl true), rfl, upd_same, ((putK cs (.inr y) (.bl true)).length : Int), 3, rfl, rfl, _, rfl, ?_⟩
        rw [decide_eq_false (show ¬ (3 : Int) < ((putK cs (.inr y) (.bl true)).length : Int) by omega)]
        refine iteF ⟨_, _, rfl, (upd_ne nDC).trans ed4, fun b o z e => (upd_ne (ne_of_none e nC)).trans (S4 b o z e), _, upd_same, kn⟩
      · obtain ⟨y3, y4, rfl, ed, S, _⟩ := hP
        exact ⟨ed, q _ (back S)⟩

/-! ### moves by state -/
/-- the moves that leave s, in order -/
def mv (ss : List KnA.Stp) (s : Int) : List (Str × Int) := (ss.filter fun x => decide (x.1 = s)).map (·.2)
theorem mv_take {ss : List KnA.Stp} {i : Nat} {st : KnA.Stp} (h : ss[i]? = some st) (s : Int) : mv (ss.take (i + 1)) s = mv (ss.take i) s ++ if st.1 = s then [st.2] else [] := by
  unfold mv
  rw [take_more h, List.filter_append, List.map_append]
  by_cases e : st.1 = s
  · simp [List.filter_cons, e]
  · simp [List.filter_cons, e]
theorem mv_mem {ss : List KnA.Stp} {s : Int} {m : Str × Int} : m ∈ mv ss s ↔ (s, m) ∈ ss := by
  unfold mv
  rw [List.mem_map]
  constructor
  · rintro ⟨x, hx, rfl⟩
    obtain ⟨h1, h2⟩ := List.mem_filter.mp hx
    have e := of_decide_eq_true h2
    rw [← e]
    exact h1
  · intro h
    exact ⟨_, List.mem_filter.mpr ⟨h, decide_eq_true rfl⟩, rfl⟩
abbrev tup2 (m : Str × Int) : HO := .tup [.str m.1, .int m.2]
def Mvs (H : Hp) (as : List Addr) (ms : List (Str × Int)) : Prop := Paired (fun a m => H a = some (tup2 m)) as ms
theorem Mvs.mono {H H' : Hp} {as : List Addr} {ms : List (Str × Int)} (h : Mvs H as ms) (s : Same H H') : Mvs H' as ms := Paired.mapP h fun _ _ e => s _ _ e
/-- the dict at d: for each state the list of its moves -/
def Leaves (H : Hp) (d : Addr) (ss : List KnA.Stp) : Prop := ∃ kvs, H d = some (.dK kvs) ∧ ∀ s : Int, if mv ss s = [] then valV kvs (.inl s) = none else ∃ l as, valV kvs (.inl s) = some (.ref l) ∧ H l = some (.lst (as.map V.ref)) ∧ Mvs H as (mv ss s)
theorem Leaves.mono {H H' : Hp} {d : Addr} {ss : List KnA.Stp} (h : Leaves H d ss) (s : Same H H') : Leaves H' d ss := by
  obtain ⟨kvs, e, h⟩ := h
  refine ⟨kvs, s _ _ e, fun x => ?_⟩
  have q := h x
  by_cases z : mv ss x = []
  · rw [if_pos z] at q ⊢; exact q
  · rw [if_neg z] at q ⊢
    obtain ⟨l, as, a, b, c⟩ := q
    exact ⟨l, as, a, s _ _ b, c.mono s⟩
def sp_moves_by_state (_ : PySem.W.Frag) : Sp := fun vs H Q _ => ∃ b a as ss, vs = [.ref a] ∧ H a = some (rowO b (as.map V.ref)) ∧ Stps H as ss ∧ ss.length ≤ 1000 ∧ ∀ H' d, Same H H' → Leaves H' d ss → Q (.ref d) H'
/-- .. while it is built: the lists are new, one for each state -/
structure Built (H H' : Hp) (d : Addr) (kvs : List (Key × V)) (ss : List KnA.Stp) : Prop where
  at_ : H' d = some (.dK kvs)
  len : kvs.length ≤ ss.length
  no : ∀ s : Int, mv ss s = [] → valV kvs (.inl s) = none
  yes : ∀ s : Int, mv ss s ≠ [] → ∃ l as, valV kvs (.inl s) = some (.ref l) ∧ H l = none ∧ H' l = some (.lst (as.map V.ref)) ∧ Mvs H' as (mv ss s)
  apart : ∀ s t : Int, ∀ l, valV kvs (.inl s) = some (.ref l) → valV kvs (.inl t) = some (.ref l) → s = t
theorem Built.leaves {H H' : Hp} {d : Addr} {kvs : List (Key × V)} {ss : List KnA.Stp} (B : Built H H' d kvs ss) : Leaves H' d ss := by
  refine ⟨kvs, B.at_, fun s => ?_⟩
  by_cases z : mv ss s = []
  · rw [if_pos z]; exact B.no s z
  · rw [if_neg z]
    obtain ⟨l, as, a, _, b, c⟩ := B.yes s z
    exact ⟨l, as, a, b, c⟩
theorem lst_ne_tup {H : Hp} {l a : Addr} {xs ys : List V} (h1 : H l = some (.lst xs)) (h2 : H a = some (.tup ys)) : a ≠ l := ne_of h2 h1 (fun z => by cases z)
theorem Mvs.upd {H : Hp} {as : List Addr} {ms : List (Str × Int)} {l : Addr} {xs : List V} {o : HO} (h : Mvs H as ms) (hl : H l = some (.lst xs)) : Mvs (upd H l o) as ms :=
  Paired.mapP h fun _ _ e => (upd_ne (lst_ne_tup hl e)).trans e
/-- one step more, of a state that has moves already -/
theorem Built.more {H H' : Hp} {d : Addr} {kvs : List (Key × V)} {ss : List KnA.Stp} {i : Nat} {st : KnA.Stp} (B : Built H H' d kvs (ss.take i)) (g : ss[i]? = some st) {l T : Addr} {as : List Addr} (hv : valV kvs (.inl st.1) = some (.ref l)) (hl : H' l = some (.lst (as.map V.ref)))
    (hm : Mvs H' as (mv (ss.take i) st.1)) (hT : H' T = none) : Built H (upd (upd H' T (tup2 st.2)) l (.lst (as.map V.ref ++ [.ref T]))) d kvs (ss.take (i + 1)) := by
  have nd : d ≠ l := ne_of B.at_ hl (fun z => by cases z)
  have ndT : d ≠ T := ne_of_none B.at_ hT
  have nlT : l ≠ T := ne_of_none hl hT
  have sT := same_upd (o := tup2 st.2) hT
  have hl1 := sT _ _ hl
  refine ⟨(upd_ne nd).trans (sT _ _ B.at_), ?_, fun s hs => ?_, fun s hs => ?_, B.apart⟩
  · have := B.len
    have hi : i < ss.length := (List.getElem?_eq_some_iff.mp g).1
    rw [List.length_take] at this ⊢
    omega
  · rw [mv_take g] at hs
    exact B.no s (List.append_eq_nil_iff.mp hs).1
  · by_cases e : st.1 = s
    · subst e
      have nl : H l = none := by
        have z : mv (ss.take i) st.1 ≠ [] := fun z => by rw [B.no _ z] at hv; cases hv
        obtain ⟨l', _, hv', hn, _⟩ := B.yes _ z
        rw [hv] at hv'
        cases hv'
        exact hn
      refine ⟨l, as ++ [T], hv, nl, by rw [upd_same, List.map_append]; rfl, ?_⟩
      rw [mv_take g, if_pos rfl]
      exact ((hm.mono sT).upd hl1).snoc ((upd_ne (lst_ne_tup hl1 upd_same)).trans upd_same)
    · rw [mv_take g, if_neg e, List.append_nil] at hs ⊢
      obtain ⟨l', as', hv', hn', hl', hm'⟩ := B.yes s hs
      have ne : l' ≠ l := fun z => e (B.apart _ _ l hv (z ▸ hv'))
      exact ⟨l', as', hv', hn', (upd_ne ne).trans (sT _ _ hl'), (hm'.mono sT).upd hl1⟩
/-- .. of a state that has none yet -/
theorem Built.first {H H' : Hp} {d : Addr} {kvs : List (Key × V)} {ss : List KnA.Stp} {i : Nat} {st : KnA.Stp} (S : Same H H') (hd : H d = none) (B : Built H H' d kvs (ss.take i)) (g : ss[i]? = some st) {l T : Addr} (hv : valV kvs (.inl st.1) = none) (hl : H' l = none)
    (hT : (upd (upd H' l (.lst [])) d (.dK (putK kvs (.inl st.1) (.ref l)))) T = none) :
    Built H (upd (upd (upd (upd H' l (.lst [])) d (.dK (putK kvs (.inl st.1) (.ref l)))) T (tup2 st.2)) l (.lst [.ref T])) d (putK kvs (.inl st.1) (.ref l)) (ss.take (i + 1)) := by
  have ndl : d ≠ l := ne_of_none B.at_ hl
  have s1 := same_upd (o := .lst []) hl
  have hl2 : (upd (upd H' l (.lst [])) d (.dK (putK kvs (.inl st.1) (.ref l)))) l = some (.lst []) := (upd_ne ndl.symm).trans upd_same
  have hd2 : (upd (upd H' l (.lst [])) d (.dK (putK kvs (.inl st.1) (.ref l)))) d = some (.dK (putK kvs (.inl st.1) (.ref l))) := upd_same
  have old : ∀ b o, b ≠ d → H' b = some o → (upd (upd H' l (.lst [])) d (.dK (putK kvs (.inl st.1) (.ref l)))) b = some o := fun b o z e => (upd_ne z).trans (s1 _ _ e)
  have nolist : ∀ b xs, H' b = some (.lst xs) → b ≠ d := fun b xs e z => by rw [z, B.at_] at e; cases e
  have notup : ∀ b xs, H' b = some (.tup xs) → b ≠ d := fun b xs e z => by rw [z, B.at_] at e; cases e
  generalize upd (upd H' l (.lst [])) d (.dK (putK kvs (.inl st.1) (.ref l))) = H2 at hT hl2 hd2 old ⊢
  have sT := same_upd (o := tup2 st.2) hT
  have hl3 := sT _ _ hl2
  have nlT : l ≠ T := ne_of_none hl2 hT
  have empty : mv (ss.take i) st.1 = [] := by
    by_cases z : mv (ss.take i) st.1 = []
    · exact z
    · obtain ⟨_, _, hv', _⟩ := B.yes _ z
      rw [hv] at hv'
      cases hv'
  refine ⟨(upd_ne ndl).trans (sT _ _ hd2), ?_, fun s hs => ?_, fun s hs => ?_, fun s t l' h1 h2 => ?_⟩
  · have h1 := B.len
    have h2 := length_putK kvs (.inl st.1 : Key) (.ref l)
    have hi : i < ss.length := (List.getElem?_eq_some_iff.mp g).1
    rw [List.length_take] at h1 ⊢
    omega
  · rw [mv_take g] at hs
    obtain ⟨h1, h2⟩ := List.append_eq_nil_iff.mp hs
    have ne : ¬ st.1 = s := fun e => by rw [if_pos e] at h2; cases h2
    rw [valV_put, if_neg fun z => ne (Sum.inl.inj z).symm]
    exact B.no s h1
  · by_cases e : st.1 = s
    · subst e
      refine ⟨l, [T], by rw [valV_put, if_pos rfl], S.free hl, upd_same, ?_⟩
      rw [mv_take g, if_pos rfl, empty]
      exact .cons ((upd_ne nlT.symm).trans upd_same) .nil
    · rw [mv_take g, if_neg e, List.append_nil] at hs ⊢
      obtain ⟨l', as', hv', hn', hl', hm'⟩ := B.yes s hs
      have ne : l' ≠ l := ne_of_none hl' hl
      refine ⟨l', as', by rw [valV_put, if_neg fun z => e (Sum.inl.inj z).symm]; exact hv', hn', (upd_ne ne).trans (sT _ _ (old _ _ (nolist _ _ hl') hl')), ?_⟩
      have hm2 : Mvs H2 as' (mv (ss.take i) s) := Paired.mapP hm' fun _ _ q => old _ _ (notup _ _ q) q
      exact (hm2.mono sT).upd hl3
  · rw [valV_put] at h1 h2
    have nol : ∀ t : Int, valV kvs (.inl t) = some (.ref l) → False := fun t q => by
      have z : mv (ss.take i) t ≠ [] := fun z => by rw [B.no _ z] at q; cases q
      obtain ⟨l'', _, q', _, q2, _⟩ := B.yes _ z
      rw [q] at q'
      cases q'
      rw [hl] at q2
      cases q2
    by_cases e1 : s = st.1
    · by_cases e2 : t = st.1
      · rw [e1, e2]
      · rw [if_pos (congrArg Sum.inl e1)] at h1
        rw [if_neg fun z => e2 (Sum.inl.inj z)] at h2
        cases h1
        exact (nol t h2).elim
    · rw [if_neg fun z => e1 (Sum.inl.inj z)] at h1
      by_cases e2 : t = st.1
      · rw [if_pos (congrArg Sum.inl e2)] at h2
        cases h2
        exact (nol s h1).elim
      · rw [if_neg fun z => e2 (Sum.inl.inj z)] at h2
        exact B.apart s t l' h1 h2
theorem ok_moves_by_state {f : Addr} {C : Addr} {fd : FuncData} (T : Txt K mg C) (F : Fun K "moves_by_state" "moves_by_state" s_moves_by_state f fd)  : FnOk P w K mg base CX0 1 f fd ["steps"] (sp_moves_by_state K) := by
  have nd := sc_moves_by_state.nd
  refine F.ok sc_moves_by_state (fun vs H Q E h => ?_) (fun cdv A outer s H vs Q E hr h => ?_)
  · obtain ⟨b, a, as, ss, rfl, _⟩ := h
    rfl
  · obtain ⟨b, a, as, ss, rfl, ha, hst, lss, q⟩ := h
    refine ⟨_, (pss_cons (ps_set (i := 1) nd rfl (.inl rfl) pe_dnewK)
      (pss_cons (ps_for PassesOwn.never rfl (KnE.pi_seq (pv 0)) (pg_tup (by rfl) (pgs_cons (pg_name (i := 2) nd rfl (.inl rfl)) (pgs_cons (pg_name (i := 3) nd rfl (.inl rfl)) (pgs_cons (pg_name (i := 4) nd rfl (.inl rfl)) pgs_nil)))) (pss_one (ps_expr (pe_bm PySem.F.plainAttrs_list PySem.F.slot_list_append PySem.F.type_list_append mt_append (pe_dsetd (pv 1) (pv 2) (pe_lst pa_nil) ⟨rfl, rfl, rfl, rfl⟩) (pa_cons (pe_tup (pa_cons (pv 3) (pa_cons (pv 4) pa_nil))) pa_nil)))))
      (pss_one (ps_ret (pv 1))))), ?_⟩
    refine fun d nD => ?_
    have S0 := same_upd (o := .dK []) nD
    refine ⟨.ref a, rfl, a, b, rfl, ⟨_, row_sq (S0 _ _ ha)⟩, ?_⟩
    refine KnE.for_seq (K := K) (xs := as.map V.ref) (fun i σ H' => ∃ y2 y3 y4 kvs, σ = [some (.ref a), some (.ref d), y2, y3, y4] ∧ Same H H' ∧ Built H H' d kvs (ss.take i))
      ⟨none, none, none, [], rfl, S0, upd_same, Nat.zero_le _, fun _ _ => rfl, fun s hs => (hs rfl).elim, fun s t l h => by cases h⟩ (fun i σ H' _ hP => ?_) (fun i x σ H' hx hP => ?_) (fun σ H' hP => ?_)
    · obtain ⟨_, _, _, _, _, S, _⟩ := hP
      exact row_sq (S _ _ ha)
    · obtain ⟨y2, y3, y4, kvs, rfl, S, B⟩ := hP
      obtain ⟨ai, st, rfl, gi, g, hai⟩ := ref_get (hst.mono S) hx
      refine ⟨ai, _, rfl, .inl (.inl hai), rfl, .int st.1, _, rfl, .str st.2.1, _, rfl, .int st.2.2, [], rfl, rfl, ?_⟩
      refine ⟨.ref d, rfl, d, rfl, .inl ⟨kvs, .inl B.at_⟩, .int st.1, rfl, szl rfl, fun l nl => ?_⟩
      have hi : i < ss.length := (List.getElem?_eq_some_iff.mp g).1
      have lk := B.len
      rw [List.length_take] at lk
      have ndl : d ≠ l := ne_of_none B.at_ nl
      have ed1 : (upd H' l (.lst [])) d = some (.dK kvs) := (upd_ne ndl).trans B.at_
      have S1 := same_upd (o := .lst []) nl
      refine ⟨kvs, .inl st.1, ed1, rfl, small (by omega), fun v hv => ?_, fun hv => ?_⟩
      · -- the list is there
        have z : mv (ss.take i) st.1 ≠ [] := fun z => by rw [B.no _ z] at hv; cases hv
        obtain ⟨l', as', hv', hn', hl', hm'⟩ := B.yes _ z
        rw [hv] at hv'
        cases hv'
        have hl1 := S1 _ _ hl'
        have B1 : Built H (upd H' l (.lst [])) d kvs (ss.take i) := ⟨ed1, B.len, B.no, fun s hs => let ⟨l, as, a, b, c, e⟩ := B.yes s hs; ⟨l, as, a, b, S1 _ _ c, e.mono S1⟩, B.apart⟩
        refine ⟨.inl ⟨rfl, _, .inl (.inl hl1)⟩, .str st.2.1, rfl, .int st.2.2, rfl, szl rfl, fun T nT => ?_⟩
        have ST := same_upd (o := tup2 st.2) nT
        refine ⟨l', as'.map V.ref, .ref T, rfl, rfl, ST _ _ hl1, ?_, ?_⟩
        · rw [List.length_map, hm'.length]
          unfold mv
          rw [List.length_map]
          refine small (Nat.le_trans (List.length_filter_le _ _) ?_)
          rw [List.length_take]
          omega
        · exact ⟨_, _, _, kvs, rfl, same_set hn' (S.trans (S1.trans ST)), B1.more g hv hl1 (hm'.mono S1) nT⟩
      · -- it is the state's first
        have hl1 : (upd (upd H' l (.lst [])) d (.dK (putK kvs (.inl st.1) (.ref l)))) l = some (.lst []) := (upd_ne ndl.symm).trans upd_same
        refine ⟨.inl ⟨rfl, _, .inl (.inl hl1)⟩, .str st.2.1, rfl, .int st.2.2, rfl, szl rfl, fun T nT => ?_⟩
        have ST := same_upd (o := tup2 st.2) nT
        refine ⟨l, [], .ref T, rfl, rfl, ST _ _ hl1, small (by decide), ?_⟩
        refine ⟨_, _, _, _, rfl, same_set (S.free nl) ((same_set nD (S.trans S1)).trans ST), B.first S nD g hv nl nT⟩
    · obtain ⟨y2, y3, y4, kvs, rfl, S, B⟩ := hP
      rw [List.length_map, hst.length, List.take_length] at B
      exact ⟨.ref d, rfl, q H' d S B.leaves⟩

/-! ### reached states -/
def sp_reached_states (_ : PySem.W.Frag) : Sp := fun vs H Q _ => ∃ (s0 : Int) (d : Addr) (ss : List KnA.Stp), vs = [.int s0, .ref d] ∧ stateB (.int s0) = true ∧ GoodSteps ss ∧ Leaves H d ss ∧ ∀ H' a ns, Same H H' → H a = none → H' a = some (.lst (ns.map V.int)) → KnA.States ns ss s0 → Q (.ref a) H'
theorem few_nat : ∀ (n : Nat) (l : List Nat), l.Nodup → (∀ x ∈ l, x < n) → l.length ≤ n
  | 0, l, _, h => by
    cases l with
    | nil => exact Nat.le_refl _
    | cons x r => exact absurd (h x List.mem_cons_self) (Nat.not_lt_zero _)
  | n + 1, l, d, h => by
    have ih := few_nat n (l.erase n) (d.erase n) (fun x hx => by
      have h1 := h x (List.mem_of_mem_erase hx)
      have h2 := ((List.Nodup.mem_erase_iff d).mp hx).1
      omega)
    have := List.length_erase (a := n) (l := l)
    by_cases z : n ∈ l
    · rw [if_pos z] at this; omega
    · rw [if_neg z] at this; omega
theorem few_int {l : List Int} (d : l.Nodup) (h : ∀ x ∈ l, 0 ≤ x ∧ x ≤ 99) : l.length ≤ 100 := by
  have := few_nat 100 (l.map Int.toNat) (List.pairwise_map.mpr (d.imp_of_mem fun ha hb ne e => ne (by have := h _ ha; have := h _ hb; omega))) (fun x hx => by
    obtain ⟨y, hy, rfl⟩ := List.mem_map.mp hx
    have := h y hy
    omega)
  rwa [List.length_map] at this
theorem state_in {x : Int} (h : stateB (.int x) = true) : 0 ≤ x ∧ x ≤ 99 := by
  have h' : (decide (0 ≤ x) && decide (x ≤ 99)) = true := h
  rw [Bool.and_eq_true] at h'
  exact ⟨of_decide_eq_true h'.1, of_decide_eq_true h'.2⟩
/-- the dict of the reached states -/
def rkv (R : List Int) : List (Key × V) := R.map fun x => (Sum.inl x, .bl true)
theorem rkv_in (R : List Int) (y : Int) : (valV (rkv R) (.inl y)).isSome = decide (y ∈ R) := by
  rw [← valV_any]
  unfold rkv
  induction R with
  | nil => rfl
  | cons x r ih =>
    rw [List.map_cons, List.any_cons, ih]
    by_cases e : x = y
    · subst e; simp
    · have e' : ¬ y = x := fun q => e q.symm
      simp [e, e']
theorem rkv_put {R : List Int} {y : Int} (h : y ∉ R) : putK (rkv R) (.inl y) (.bl true) = rkv (R ++ [y]) := by
  rw [putK_new]
  · unfold rkv; rw [List.map_append]; rfl
  · have := rkv_in R y
    rw [decide_eq_false h] at this
    cases e : valV (rkv R) (.inl y) with
    | none => rfl
    | some v => rw [e] at this; cases this
/-- the walk: R is reached, W waits; x is under way, its moves up to the i-th are done -/
structure Walk (ss : List KnA.Stp) (s0 : Int) (R W : List Int) (un : Int → Prop) : Prop where
  nd : R.Nodup
  le : W.length ≤ R.length
  sub : ∀ x ∈ W, x ∈ R
  re : ∀ x ∈ R, KnA.Reach ss s0 x
  st : ∀ x ∈ R, 0 ≤ x ∧ x ≤ 99
  s0 : s0 ∈ R
  cl : ∀ x w y, x ∈ R → x ∉ W → ¬ un x → (x, w, y) ∈ ss → y ∈ R
theorem Walk.few {ss : List KnA.Stp} {s0 : Int} {R W : List Int} {un : Int → Prop} (h : Walk ss s0 R W un) : R.length ≤ 100 := few_int h.nd h.st
theorem Walk.push {ss : List KnA.Stp} {s0 : Int} {R W : List Int} {un : Int → Prop} (h : Walk ss s0 R W un) {y : Int} (hy : y ∉ R) (hr : KnA.Reach ss s0 y) (hs : 0 ≤ y ∧ y ≤ 99) : Walk ss s0 (R ++ [y]) (W ++ [y]) un := by
  have mem : ∀ {l : List Int} {x : Int}, x ∈ l ++ [y] ↔ x ∈ l ∨ x = y := fun {l x} => by rw [List.mem_append, List.mem_singleton]
  refine ⟨?_, by rw [List.length_append, List.length_append]; exact Nat.add_le_add_right h.le _, fun x hx => ?_, fun x hx => ?_, fun x hx => ?_, mem.mpr (.inl h.s0), fun x w z hx hw hu hm => ?_⟩
  · refine List.nodup_append.mpr ⟨h.nd, by simp, fun a ha b hb e => ?_⟩
    rw [List.mem_singleton] at hb
    exact hy (hb ▸ e ▸ ha)
  · rcases mem.mp hx with q | q
    · exact mem.mpr (.inl (h.sub x q))
    · exact mem.mpr (.inr q)
  · rcases mem.mp hx with q | q
    · exact h.re x q
    · rw [q]; exact hr
  · rcases mem.mp hx with q | q
    · exact h.st x q
    · rw [q]; exact hs
  · have nw : x ∉ W := fun q => hw (mem.mpr (.inl q))
    have ny : ¬ x = y := fun q => hw (mem.mpr (.inr q))
    exact mem.mpr (.inl (h.cl x w z ((mem.mp hx).resolve_right ny) nw hu hm))
theorem ok_reached_states {f : Addr} {C : Addr} {fd : FuncData} (T : Txt K mg C) (F : Fun K "reached_states" "reached_states" s_reached_states f fd)  : FnOk P w K mg base CX0 1 f fd ["start", "leaving"] (sp_reached_states K) := by
  have nd := sc_reached_states.nd
  refine F.ok sc_reached_states (fun vs H Q E h => ?_) (fun cdv A outer s H vs Q E hr h => ?_)
  · obtain ⟨s0, d, ss, rfl, _⟩ := h
    rfl
  · obtain ⟨s0, d, ss, rfl, st0, gs, hd, q⟩ := h
    refine ⟨_, (pss_cons (ps_set (i := 2) nd rfl (.inl rfl) (pe_disp (pps_cons (pv 0) pe_bl pps_nil) (by rfl) (by rfl) (fun z => by cases z) (by decide)))
      (pss_cons (ps_set (i := 3) nd rfl (.inl rfl) (pe_lst (pa_cons (pv 0) pa_nil)))
      (pss_cons (ps_while PassesOwn.never (pt_cmpR op_gt (pe_callB call_len (by rfl) T.m_len (by decide +kernel) (pa_cons (pv 3) pa_nil)) pe_int (nomark _)) (pss_cons (ps_set (i := 4) nd rfl (.inl rfl) (pe_dget2 (hu_of hr) (pv 1) (pe_bm0 PySem.F.plainAttrs_list PySem.F.slot_list_pop PySem.F.type_list_pop mt_pop (pv 3)) (pe_lst pa_nil) ⟨rfl, rfl, rfl, rfl⟩))
      (pss_one (ps_for PassesOwn.never rfl (pi_list (pv 4)) (pg_tup (by rfl) (pgs_cons (pg_name (i := 5) nd rfl (.inl rfl)) (pgs_cons (pg_name (i := 6) nd rfl (.inl rfl)) pgs_nil))) (pss_one (ps_if (pt_cmp (pc_dnotin (hu_of hr) (pv 6) (pv 2))) (pss_cons (ps_dput (hu_of hr) (pv 2) (pv 6) pe_bl rfl)
      (pss_one (ps_expr (pe_bm PySem.F.plainAttrs_list PySem.F.slot_list_append PySem.F.type_list_append mt_append (pv 3) (pa_cons (pv 6) pa_nil))))) pss_nil))))))
      (pss_one (ps_ret (pe_callB cr_sortedI (by rfl) T.m_sorted (by decide +kernel) (pa_cons (pe_callTy (call_listD rfl) (by rfl) T.m_list (by decide +kernel) (pa_cons (pv 2) pa_nil)) pa_nil))))))), ?_⟩
    refine fun r nr => ⟨.int s0, rfl, upd_same, [(.inl s0, .bl true)], rfl, Nat.le_of_ble_eq_true rfl, .int s0, rfl, szl rfl, fun wa nw => ?_⟩
    rw [upd_upd] at nw ⊢
    have s1 := same_upd (o := .dK (mergeK [] [((.inl s0 : Key), V.bl true)])) nr
    have s2 := same_upd (o := .lst [.int s0]) nw
    have nrw : r ≠ wa := fun e => by rw [e, upd_same] at nw; cases nw
    have nwH : H wa = none := s1.free nw
    refine ⟨fun m σ H' => ∃ y4 y5 y6 R W, σ = [some (.int s0), some (.ref d), some (.ref r), some (.ref wa), y4, y5, y6] ∧ Same H H' ∧ H' r = some (.dK (rkv R)) ∧ H' wa = some (.lst (W.map V.int)) ∧ Walk ss s0 R W (fun _ => False) ∧ m = 2 * (101 - R.length) + W.length,
      ⟨_, none, none, none, [s0], [s0], rfl, s1.trans s2, (upd_ne nrw).trans upd_same, upd_same, ⟨by simp, Nat.le_refl _, fun x hx => hx, fun x hx => by rw [List.mem_singleton.mp hx]; exact .start, fun x hx => by rw [List.mem_singleton.mp hx]; exact state_in st0, List.mem_singleton.mpr rfl, fun x w y hx hn => absurd hx hn⟩, rfl⟩, fun m σ H' hW => ?_⟩
    obtain ⟨y4, y5, y6, R, W, rfl, S, er, ew, wk, rfl⟩ := hW
    refine ⟨.ref wa, rfl, .ref wa, (W.map V.int).length, rfl, .inl ⟨_, .inl (.inl ew), rfl⟩, ((W.map V.int).length : Int), 0, rfl, rfl, _, rfl, ?_⟩
    rw [List.length_map]
    by_cases z : W = []
    · subst z
      refine iteF ⟨.ref r, rfl, r, rkv R, rfl, .inl er, fun p np => ?_⟩
      have em : (rkv R).map (fun kv => kV kv.1) = R.map V.int := by unfold rkv; rw [List.map_map]; rfl
      rw [em]
      have sp := same_upd (o := .lst (R.map V.int)) np
      refine ⟨p, R, rfl, .inl (.inl upd_same), fun ns o hp hs no => ?_⟩
      refine q _ o ns (S.trans (sp.trans (same_upd no))) (S.free (sp.free no)) upd_same ⟨KnA.lt_of_le hs (hp.symm.nodup wk.nd), fun x => ?_⟩
      rw [hp.mem_iff]
      exact KnA.reach_of wk.s0 (fun x w y hx => wk.cl x w y hx (fun z => nomatch z) id) wk.re x
    · have lw : 0 < W.length := List.length_pos_iff.mpr z
      rw [decide_eq_true (show (0 : Int) < (W.length : Int) by omega)]
      refine iteT ⟨fun σ' H'' => ∃ y4 y5 y6 R' W', σ' = [some (.int s0), some (.ref d), some (.ref r), some (.ref wa), y4, y5, y6] ∧ Same H H'' ∧ H'' r = some (.dK (rkv R')) ∧ H'' wa = some (.lst (W'.map V.int)) ∧ Walk ss s0 R' W' (fun _ => False) ∧ 2 * (101 - R'.length) + W'.length < 2 * (101 - R.length) + W.length,
        fun σ' H'' ⟨y4, y5, y6, R', W', e, a1, a2, a3, a4, a5⟩ => ⟨_, a5, y4, y5, y6, R', W', e, a1, a2, a3, a4, rfl⟩, ?_⟩
      have hD : ∀ {G : Hp}, Same H G → IsD G d := fun s => let ⟨kvs, e, _⟩ := hd; .inl ⟨kvs, .inl (s _ _ e)⟩
      obtain ⟨x, hx⟩ : ∃ x, W[W.length - 1]? = some x := ⟨_, List.getElem?_eq_getElem (by omega)⟩
      have hxR := wk.sub x (List.mem_of_getElem? hx)
      refine ⟨.ref d, rfl, d, rfl, hD S, .ref wa, rfl, .inl ⟨rfl, _, .inl (.inl ew)⟩, wa, W.map V.int, .int x, rfl, rfl, ew, by rw [List.length_map, List.getElem?_map, hx]; rfl, szl rfl, fun p np => ?_⟩
      have nr2 : r ≠ wa := nrw
      have S2 : Same H (upd H' wa (.lst (W.map V.int).dropLast)) := same_set nwH S
      have er2 : (upd H' wa (.lst (W.map V.int).dropLast)) r = some (.dK (rkv R)) := (upd_ne nr2).trans er
      have ew2 : (upd H' wa (.lst (W.map V.int).dropLast)) wa = some (.lst (W.dropLast.map V.int)) := by rw [upd_same, List.map_dropLast]
      generalize upd H' wa (.lst (W.map V.int).dropLast) = H2 at np S2 er2 ew2 ⊢
      have sp := same_upd (o := .lst []) np
      have S3 := S2.trans sp
      have er3 := sp _ _ er2
      have ew3 := sp _ _ ew2
      obtain ⟨o, ml, as, dg, eo, hml, hms, nmr, nmw⟩ : ∃ o ml as, DGet (upd H2 p (.lst [])) d (.int x) o ∧ o.getD (.ref p) = .ref ml ∧ (upd H2 p (.lst [])) ml = some (.lst (as.map V.ref)) ∧ Mvs (upd H2 p (.lst [])) as (mv ss x) ∧ ml ≠ r ∧ ml ≠ wa := by
        obtain ⟨kvs, ed, hk⟩ := hd
        refine ⟨valV kvs (.inl x), ?_⟩
        have hkx := hk x
        have dg : DGet (upd H2 p (.lst [])) d (.int x) (valV kvs (.inl x)) := DGet.k (k := .inl x) (S3 _ _ ed)
        by_cases e : mv ss x = []
        · rw [if_pos e] at hkx
          refine ⟨p, [], dg, by rw [hkx]; rfl, upd_same, by rw [e]; exact .nil, (ne_of_none er2 np).symm, (ne_of_none ew2 np).symm⟩
        · rw [if_neg e] at hkx
          obtain ⟨l, as, h1, h2, h3⟩ := hkx
          exact ⟨l, as, dg, by rw [h1]; rfl, S3 _ _ h2, h3.mono S3, ne_of_none h2 nr, ne_of_none h2 nwH⟩
      refine ⟨o, dg, ?_⟩
      rw [eo]
      generalize upd H2 p (.lst []) = H3 at S3 er3 ew3 hml hms
      have wk0 : Walk ss s0 R W.dropLast (fun u => u = x) := ⟨wk.nd, by rw [List.length_dropLast]; have := wk.le; omega, fun u hu => wk.sub u ((List.dropLast_sublist W).subset hu), wk.re, wk.st, wk.s0, fun u w y hu hn hne hm => wk.cl u w y hu (fun hin => by
          have sp : W = W.dropLast ++ [x] := by
            have := List.dropLast_concat_getLast z
            rw [List.getLast_eq_getElem] at this
            have e2 : W[W.length - 1]'(by omega) = x := (List.getElem?_eq_some_iff.mp hx).2
            rw [e2] at this
            exact this.symm
          rw [sp, List.mem_append, List.mem_singleton] at hin
          exact hin.elim hn hne) id hm⟩
      refine ⟨.ref ml, rfl, ml, rfl, ⟨_, .inl (.inl hml)⟩, ?_⟩
      refine for_list (K := K) (xs := as.map V.ref) (fun i σ H' => ∃ y5 y6 R' W', σ = [some (.int s0), some (.ref d), some (.ref r), some (.ref wa), some (.ref ml), y5, y6] ∧ Same H H' ∧ H' r = some (.dK (rkv R')) ∧ H' wa = some (.lst (W'.map V.int)) ∧ Walk ss s0 R' W' (fun u => u = x) ∧
          H' ml = some (.lst (as.map V.ref)) ∧ Mvs H' as (mv ss x) ∧ (∀ y ∈ (mv ss x).take i, y.2 ∈ R') ∧ x ∈ R' ∧ 2 * (101 - R'.length) + W'.length < 2 * (101 - R.length) + W.length)
        ⟨_, _, R, W.dropLast, rfl, S3, er3, ew3, wk0, hml, hms, fun y hy => absurd hy (by simp), hxR, by rw [List.length_dropLast]; omega⟩
        (fun i σ H' _ ⟨_, _, _, _, _, _, _, _, _, h, _⟩ => .inl (.inl h)) (fun i v σ H' hv hP => ?_) (fun σ H' hP => ?_)
      · obtain ⟨y5, y6, R', W', rfl, S, er, ew, wk, hml, hms, hin, hxR, lt⟩ := hP
        rw [List.getElem?_map] at hv
        cases ga : as[i]? with
        | none => rw [ga] at hv; cases hv
        | some ai =>
        rw [ga] at hv
        cases hv
        obtain ⟨m, gm, hai⟩ := paired_get hms ga
        have hss : (x, m.1, m.2) ∈ ss := mv_mem.mp (List.mem_of_getElem? gm)
        have takeM := take_more gm
        refine ⟨ai, _, rfl, .inl (.inl hai), rfl, .str m.1, _, rfl, .int m.2, [], rfl, rfl, ?_⟩
        refine ⟨.int m.2, rfl, .ref r, rfl, r, valV (rkv R') (.inl m.2), rfl, DGet.k (k := .inl m.2) er, _, rfl, ?_⟩
        rw [rkv_in]
        by_cases y : m.2 ∈ R'
        · rw [decide_eq_true y]
          refine iteF ⟨_, _, R', W', rfl, S, er, ew, wk, hml, hms, fun u hu => ?_, hxR, lt⟩
          rw [takeM, List.mem_append, List.mem_singleton] at hu
          rcases hu with hu | hu
          · exact hin u hu
          · rw [hu]; exact y
        · rw [decide_eq_false y]
          have few := wk.few
          have lrk : (rkv R').length = R'.length := List.length_map _
          refine iteT ⟨.ref r, rfl, .int m.2, rfl, r, _, rfl, DPut.k (k := .inl m.2) er (small (by omega)), ?_⟩
          rw [rkv_put y]
          have ew4 : (upd H' r (.dK (rkv (R' ++ [m.2])))) wa = some (.lst (W'.map V.int)) := (upd_ne nrw.symm).trans ew
          have S4 : Same H (upd H' r (.dK (rkv (R' ++ [m.2])))) := same_set nr S
          have hml4 : (upd H' r (.dK (rkv (R' ++ [m.2])))) ml = some (.lst (as.map V.ref)) := (upd_ne nmr).trans hml
          have hms4 : Mvs (upd H' r (.dK (rkv (R' ++ [m.2])))) as (mv ss x) := Paired.mapP hms fun _ _ e => (upd_ne (ne_of e er (fun z => by cases z))).trans e
          have er4 : (upd H' r (.dK (rkv (R' ++ [m.2])))) r = some (.dK (rkv (R' ++ [m.2]))) := upd_same
          generalize upd H' r (.dK (rkv (R' ++ [m.2]))) = H4 at S4 ew4 hml4 hms4 er4
          have le := wk.le
          refine ⟨.ref wa, rfl, .inl ⟨rfl, _, .inl (.inl ew4)⟩, .int m.2, rfl, wa, _, .int m.2, rfl, rfl, ew4, small (by rw [List.length_map]; omega), ?_⟩
          refine ⟨_, _, R' ++ [m.2], W' ++ [m.2], rfl, same_set nwH S4, (upd_ne nrw).trans er4, by rw [upd_same, List.map_append]; rfl, wk.push y (.step (wk.re x hxR) hss) (state_in (gs.good _ hss).t), (upd_ne nmw).trans hml4, Paired.mapP hms4 fun _ _ e => (upd_ne (ne_of e ew4 (fun z => by cases z))).trans e, fun u hu => ?_, List.mem_append.mpr (.inl hxR), ?_⟩
          · rw [takeM, List.mem_append, List.mem_singleton] at hu
            rcases hu with hu | hu
            · exact List.mem_append.mpr (.inl (hin u hu))
            · rw [hu]; exact List.mem_append.mpr (.inr (List.mem_singleton.mpr rfl))
          · have f2 := (wk.push y (.step (wk.re x hxR) hss) (state_in (gs.good _ hss).t)).few
            rw [List.length_append] at f2 ⊢
            rw [List.length_append]
            have e1 : [m.2].length = 1 := rfl
            rw [e1] at f2 ⊢
            omega
      · obtain ⟨y5, y6, R', W', rfl, S, er, ew, wk, hml, hms, hin, hxR, lt⟩ := hP
        refine ⟨_, _, _, R', W', rfl, S, er, ew, ⟨wk.nd, wk.le, wk.sub, wk.re, wk.st, wk.s0, fun u w y hu hn _ hm => ?_⟩, lt⟩
        by_cases e : u = x
        · subst e
          rw [List.length_map, hms.length, List.take_length] at hin
          exact hin _ (mv_mem.mpr hm)
        · exact wk.cl u w y hu hn e hm

/-! ### a machine -/
def look (fs : List (Str × Str)) (x : Str) : Option Str := (fs.find? fun p => decide (p.1 = x)).map (·.2)
/-- the faults in the order of the words -/
def orderF (ws : List Str) (fs : List (Str × Str)) : List (Str × Str) := ws.filterMap fun x => (look fs x).map fun n => (x, n)
theorem look_val (fs : List (Str × Str)) (x : Str) : valV (fkv fs) (.inr x) = (look fs x).map V.str := by
  unfold look fkv
  induction fs with
  | nil => rfl
  | cons p r ih =>
    obtain ⟨y, n⟩ := p
    by_cases e : y = x
    · rw [List.find?_cons_of_pos (by simp [e])]
      unfold valV
      rw [List.map_cons, List.find?_cons_of_pos (by simp [e])]
      rfl
    · rw [List.find?_cons_of_neg (by simp [e]), ← ih]
      unfold valV
      rw [List.map_cons, List.find?_cons_of_neg (by simp [e])]
theorem order_take {ws : List Str} {fs : List (Str × Str)} {i : Nat} {x : Str} (h : ws[i]? = some x) : orderF (ws.take (i + 1)) fs = orderF (ws.take i) fs ++ (match look fs x with | none => [] | some n => [(x, n)]) := by
  unfold orderF
  rw [take_more h, List.filterMap_append]
  congr 1
  rw [List.filterMap_cons]
  cases look fs x <;> rfl
theorem order_keys {ws : List Str} {fs : List (Str × Str)} {p : Str × Str} (h : p ∈ orderF ws fs) : p.1 ∈ ws := by
  unfold orderF at h
  obtain ⟨x, hx, e⟩ := List.mem_filterMap.mp h
  cases g : look fs x with
  | none => rw [g] at e; cases e
  | some n => rw [g] at e; cases e; exact hx
theorem order_len (ws : List Str) (fs : List (Str × Str)) : (orderF ws fs).length ≤ ws.length := List.length_filterMap_le _ _
theorem order_nil (ws : List Str) : orderF ws [] = [] := by
  unfold orderF
  induction ws with
  | nil => rfl
  | cons x r ih => rw [List.filterMap_cons]; exact ih
theorem val_none {fs : List (Str × Str)} {x : Str} (h : ∀ p ∈ fs, p.1 ≠ x) : valV (fkv fs) (.inr x) = none := by
  rw [look_val]
  unfold look
  rw [List.find?_eq_none.mpr fun p hp => by simp [h p hp]]; rfl
def mflds (s0 : Int) (ls lw df lt : Addr) : List (Str × V) := putF "_states" (.ref lt) (putF "_faults" (.ref df) (putF "_words" (.ref lw) (putF "_steps" (.ref ls) (putF "_start" (.int s0) []))))
theorem mf_start (s0 : Int) (ls lw df lt : Addr) : (mflds s0 ls lw df lt).lookup ("_start" : Str) = some (.int s0) := by
  unfold mflds; simp only [lookup_putF]; rw [if_neg (by decide +kernel), if_neg (by decide +kernel), if_neg (by decide +kernel), if_neg (by decide +kernel), if_pos True.intro]
theorem mf_steps (s0 : Int) (ls lw df lt : Addr) : (mflds s0 ls lw df lt).lookup ("_steps" : Str) = some (.ref ls) := by
  unfold mflds; simp only [lookup_putF]; rw [if_neg (by decide +kernel), if_neg (by decide +kernel), if_neg (by decide +kernel), if_pos True.intro]
theorem mf_words (s0 : Int) (ls lw df lt : Addr) : (mflds s0 ls lw df lt).lookup ("_words" : Str) = some (.ref lw) := by
  unfold mflds; simp only [lookup_putF]; rw [if_neg (by decide +kernel), if_neg (by decide +kernel), if_pos True.intro]
theorem mf_faults (s0 : Int) (ls lw df lt : Addr) : (mflds s0 ls lw df lt).lookup ("_faults" : Str) = some (.ref df) := by
  unfold mflds; simp only [lookup_putF]; rw [if_neg (by decide +kernel), if_pos True.intro]
theorem mf_states (s0 : Int) (ls lw df lt : Addr) : (mflds s0 ls lw df lt).lookup ("_states" : Str) = some (.ref lt) := by
  unfold mflds; simp only [lookup_putF]; rw [if_pos True.intro]
structure MachO (C : Addr) (H : Hp) (p dx ls lw df lt : Addr) (as : List Addr) (ws : List Str) (ns : List Int) (s0 : Int) (ss : List KnA.Stp) (fs : List (Str × Str)) : Prop where
  ob : H p = some (.ins C dx (mflds s0 ls lw df lt))
  hs : H ls = some (.lst (as.map V.ref))
  st : Stps H as ss
  hw : H lw = some (.lst (ws.map V.str))
  wo : KnA.Words ws (ss.map (·.2.1))
  hf : H df = some (.dK (fkv (orderF ws fs)))
  ht : H lt = some (.lst (ns.map V.int))
  re : KnA.States ns ss s0
/-- a machine stands at p -/
def MachAt (C : Addr) (H : Hp) (p : Addr) (s0 : Int) (ss : List KnA.Stp) (fs : List (Str × Str)) : Prop := ∃ dx ls lw df lt as ws ns, MachO C H p dx ls lw df lt as ws ns s0 ss fs
theorem MachAt.mono {C : Addr} {H H' : Hp} {p : Addr} {s0 : Int} {ss : List KnA.Stp} {fs : List (Str × Str)} (h : MachAt C H p s0 ss fs) (s : Same H H') : MachAt C H' p s0 ss fs := by
  obtain ⟨dx, ls, lw, df, lt, as, ws, ns, m⟩ := h
  exact ⟨dx, ls, lw, df, lt, as, ws, ns, s _ _ m.ob, s _ _ m.hs, m.st.mono s, s _ _ m.hw, m.wo, s _ _ m.hf, s _ _ m.ht, m.re⟩
/-- what makes a machine -/
structure GoodMach (s0 : Int) (ss : List KnA.Stp) (fs : List (Str × Str)) : Prop where
  st0 : stateB (.int s0) = true
  gs : GoodSteps ss
  few : ∀ ws, KnA.Words ws (ss.map (·.2.1)) → ws.length ≤ 14
  gf : GoodFaults fs (ss.map (·.2.1))
  live : ∀ x, KnA.Reach ss s0 x → ∃ w y, (x, w, y) ∈ ss
theorem GoodFaults.at_ {fs : List (Str × Str)} {ws xs : List Str} (g : GoodFaults fs xs) (h : KnA.Words ws xs) : GoodFaults fs ws := ⟨fun p hp => let ⟨a, b, c⟩ := g.word p hp; ⟨a, (h.mem _).mpr b, c⟩, g.few, g.len⟩
def sp_Machine_init (K : PySem.W.Frag) (C : Addr) : Sp := fun vs H Q _ => ∃ (p dx a : Addr) (s0 : Int) (v : V) (b : Bool) (as : List Addr) (ss : List KnA.Stp) (fs : List (Str × Str)), vs = [.ref p, .int s0, .ref a, v] ∧ H p = some (.ins C dx []) ∧
  H a = some (rowO b (as.map V.ref)) ∧ Stps H as ss ∧ FArg H v fs ∧ GoodMach s0 ss fs ∧ ∀ H' dx ls lw df lt ws ns, (∀ b o, H b = some o → b ≠ p → H' b = some o) → MachO C H' p dx ls lw df lt as ws ns s0 ss fs → H ls = none → H lw = none → H df = none → H lt = none → Q .non H'
theorem ok_Machine_init {f : Addr} {C : Addr} {fd : FuncData} (T : Txt K mg C) (F : KnD.FunX K "__init__" "Machine.__init__" s_Machine_init f fd) (c_is_state : Cal P w K mg base 2 "is_state" (sp_is_state K) []) (c_check_steps : Cal P w K mg base 4 "check_steps" (sp_check_steps K) []) (c_check_faults : Cal P w K mg base 2 "check_faults" (sp_check_faults K) []) (c_moves_by_state : Cal P w K mg base 1 "moves_by_state" (sp_moves_by_state K) []) (c_reached_states : Cal P w K mg base 1 "reached_states" (sp_reached_states K) []) : FnOk P w K mg base CX0 5 f fd ["self", "start", "steps", "faults"] (sp_Machine_init K C) := by
  have nd := sc_Machine_init.nd
  refine F.ok sc_Machine_init (fun vs H Q E h => ?_) (fun cdv A outer s H vs Q E hr h => ?_)
  · obtain ⟨p, dx, a, s0, v, b, as, ss, fs, rfl, _⟩ := h
    rfl
  · obtain ⟨p, dx, a, s0, v, b, as, ss, fs, rfl, hp, ha, hst, hf, gm, q⟩ := h
    refine ⟨_, (pss_cons (ps_if (pt_not (pt_val (pe_c c_is_state hr (by omega) (by rfl) (pa_cons (pv 1) pa_nil)))) (pss_one ps_never) pss_nil)
      (pss_cons (ps_expr (pe_c c_check_steps hr (by omega) (by rfl) (pa_cons (pv 2) pa_nil)))
      (pss_cons (ps_set (i := 4) nd rfl (.inl rfl) (pe_callB (show CallR _ (.builtin "sorted") (KnS.rSortedL P w) from KnS.cr_sortedL rfl) (by rfl) T.m_sorted (by decide +kernel) (pa_cons (KnS.scL (own := [("step", 8)]) (g := gName 8) (tt := tYes) rfl nd (KnE.pi_seq (pv 2)) (blkOk_by (own := [("step", 8)]) (N := ["self", "start", "steps", "faults", "words", "leaving", "states", "state", "step", "word"]) (sc := defScope s_Machine_init) (by decide +kernel)) (fun _ _ _ _ _ => (pg_name (i := 8) nd rfl (.inl rfl))) (fun _ _ _ _ _ => pts_nil) (fun _ _ _ _ _ => (pe_ix (r := rIxT K) ix_tup (pv 8) pe_int (fun _ _ => rfl)))) pa_nil)))
      (pss_cons (ps_if (pt_cmpR op_gt (pe_callB call_len (by rfl) T.m_len (by decide +kernel) (pa_cons (pv 4) pa_nil)) (pe_gc (by rfl) T.c_MOST_WORDS) (nomark _)) (pss_one ps_never) pss_nil)
      (pss_cons (ps_expr (pe_c c_check_faults hr (by omega) (by rfl) (pa_cons (pv 3) (pa_cons (pv 4) pa_nil))))
      (pss_cons (ps_set (i := 5) nd rfl (.inl rfl) (pe_c c_moves_by_state hr (by omega) (by rfl) (pa_cons (pv 2) pa_nil)))
      (pss_cons (ps_set (i := 6) nd rfl (.inl rfl) (pe_c c_reached_states hr (by omega) (by rfl) (pa_cons (pv 1) (pa_cons (pv 5) pa_nil))))
      (pss_cons (ps_for PassesOwn.never rfl (pi_list (pv 6)) (pg_name (i := 7) nd rfl (.inl rfl)) (pss_one (ps_if (pt_cmp (pc_dnotin (hu_of hr) (pv 7) (pv 5))) (pss_one ps_never) pss_nil)))
      (pss_cons (ps_fld (pv 0) (pv 1) rfl)
      (pss_cons (ps_fld (pv 0) (pe_callTy call_list_of (by rfl) T.m_list (by decide +kernel) (pa_cons (pv 2) pa_nil)) rfl)
      (pss_cons (ps_fld (pv 0) (pv 4) rfl)
      (pss_cons (ps_fld (pv 0) (pe_ifExp (pt_cmpR op_isN (pv 3) pe_non (nomark _)) pe_dnewK (pe_dc (own := [("word", 9)]) (g := gName 9) rfl nd (pi_list (pv 4)) (blkOk_by (own := [("word", 9)]) (N := ["self", "start", "steps", "faults", "words", "leaving", "states", "state", "step", "word"]) (sc := defScope s_Machine_init) (by decide +kernel)) (fun _ _ _ _ _ => (pg_name (i := 9) nd rfl (.inl rfl))) (fun _ _ _ _ _ => (pts_one (pt_cmp (pc_din (hu_of hr) (pv 9) (pv 3))))) (fun _ _ _ _ _ => (pv 9)) (fun _ _ _ _ _ => (pe_dget (hu_of hr) (pv 3) (pv 9) (fun _ _ => rfl))))) rfl)
      (pss_one (ps_fld (pv 0) (pv 6) rfl)))))))))))))), ?_⟩
    have gs := gm.gs
    refine ⟨.int s0, rfl, .int s0, rfl, .int _, fun H1 s1 => ⟨_, rfl, ?_⟩⟩
    rw [gm.st0]
    refine iteF ?_
    refine ⟨.ref a, rfl, b, a, as, ss, rfl, s1 _ _ ha, hst.mono s1, gs, fun H2 s2' => ?_⟩
    have s2 := s1.trans s2'
    refine ⟨.ref a, rfl, a, b, rfl, ⟨_, row_sq (s2 _ _ ha)⟩, fun D nD => ?_⟩
    have nDH : H D = none := s2.free nD
    have hi := gs.hi
    have lst : (as.map V.ref).length = ss.length := by rw [List.length_map, hst.length]
    refine KnC.sc_seq (P := P) (w := w) (K := K) (b := b) (a := a) (xs := as.map V.ref) (fun i H' => Same H H' ∧ ∃ xs : List Str, H' D = some (KnS.SetL P w D (xs.map Sum.inr)) ∧ xs.Nodup ∧ xs.length ≤ i ∧ ∀ x, x ∈ xs ↔ x ∈ (ss.take i).map (·.2.1))
      ⟨same_set nDH s2, [], upd_same, List.nodup_nil, Nat.le_refl _, fun x => Iff.rfl⟩ (fun i H' _ hP => row_sq (hP.1 _ _ ha)) (fun i x H' hx hP => ?_) (fun H' hP => ?_)
    · obtain ⟨S, xs, eD, nx, lx, mx⟩ := hP
      obtain ⟨ai, st, rfl, gi, gsi, hai⟩ := ref_get (hst.mono S) hx
      have hi80 : i < ss.length := (List.getElem?_eq_some_iff.mp gsi).1
      refine ⟨rfl, ?_⟩
      unfold tYes
      refine iteT ?_
      refine ⟨.ref ai, rfl, ai, [.int st.1, .str st.2.1, .int st.2.2], 1, .str st.2.1, rfl, rfl, .inl (.inl hai), atI_nat (j := 1) rfl, .inr st.2.1, _, rfl, eD, by rw [List.length_map]; unfold scanBound; omega, same_set nDH S, _, by rw [upd_same, KnC.addL_strs], ?_, ?_, fun x => ?_⟩
      · by_cases z : st.2.1 ∈ xs
        · rw [if_pos z]; exact nx
        · rw [if_neg z]
          refine List.nodup_append.mpr ⟨nx, by simp, fun a ha b hb e => ?_⟩
          rw [List.mem_singleton] at hb
          exact z (hb ▸ e ▸ ha)
      · by_cases z : st.2.1 ∈ xs
        · rw [if_pos z]; omega
        · rw [if_neg z, List.length_append]; exact Nat.succ_le_succ lx
      · rw [take_more gsi, List.map_append, List.mem_append, ← mx]
        by_cases z : st.2.1 ∈ xs
        · rw [if_pos z]
          refine ⟨.inl, fun y => y.elim id fun e => ?_⟩
          rw [List.mem_singleton.mp e]; exact z
        · rw [if_neg z, List.mem_append]; exact Iff.rfl
    · obtain ⟨S, xs, eD, nx, lx, mx⟩ := hP
      rw [lst, List.take_length] at mx
      refine ⟨D, xs, rfl, eD, fun ws lw pw sw nw => ?_⟩
      have hws : KnA.Words ws (ss.map (·.2.1)) := ⟨KnA.sorted_pair sw, pw.symm.nodup nx, fun x => pw.mem_iff.trans (mx x)⟩
      have few := gm.few ws hws
      have S3 := S.trans (same_upd (o := .lst (ws.map V.str)) nw)
      have ew : (upd H' lw (.lst (ws.map V.str))) lw = some (.lst (ws.map V.str)) := upd_same
      have nwH : H lw = none := S.free nw
      generalize upd H' lw (.lst (ws.map V.str)) = H3 at S3 ew
      refine ⟨.ref lw, rfl, .ref lw, (ws.map V.str).length, rfl, .inl ⟨_, .inl (.inl ew), rfl⟩, ((ws.map V.str).length : Int), 14, rfl, rfl, _, rfl, ?_⟩
      rw [List.length_map, decide_eq_false (show ¬ (14 : Int) < (ws.length : Int) by omega)]
      refine iteF ⟨v, rfl, .ref lw, rfl, v, fs, lw, ws, rfl, hf.mono S3, ew, gm.gf.at_ hws, fun H4 s4' => ?_⟩
      have S4 := S3.trans s4'
      have ew4 := s4' _ _ ew
      refine ⟨.ref a, rfl, b, a, as, ss, rfl, S4 _ _ ha, hst.mono S4, Nat.le_trans hi (by decide), fun H5 d s5' hd => ?_⟩
      have S5 := S4.trans s5'
      have ew5 := s5' _ _ ew4
      refine ⟨.int s0, rfl, .ref d, rfl, s0, d, ss, rfl, gm.st0, gs, hd, fun H6 lt ns s6' nlt elt hns => ?_⟩
      have S6 := S5.trans s6'
      have ew6 := s6' _ _ ew5
      have hd6 := hd.mono s6'
      have nltH : H lt = none := S5.free nlt
      refine ⟨.ref lt, rfl, lt, rfl, ⟨_, .inl (.inl elt)⟩, ?_⟩
      refine for_list (K := K) (xs := ns.map V.int) (fun i σ H' => ∃ y7, σ = [some (.ref p), some (.int s0), some (.ref a), some v, some (.ref lw), some (.ref d), some (.ref lt), y7, none, none] ∧ H' = H6) ⟨none, rfl, rfl⟩ (fun i σ H' _ ⟨_, _, e⟩ => by rw [e]; exact .inl (.inl elt)) (fun i x σ H' hx hP => ?_) (fun σ H' hP => ?_)
      · obtain ⟨y7, rfl, rfl⟩ := hP
        rw [List.getElem?_map] at hx
        cases gx : ns[i]? with
        | none => rw [gx] at hx; cases hx
        | some n =>
        rw [gx] at hx
        cases hx
        obtain ⟨kvs, ed, hk⟩ := hd6
        obtain ⟨w', y', hm⟩ := gm.live n ((hns.mem n).mp (List.mem_of_getElem? gx))
        have hkn := hk n
        have ne : mv ss n ≠ [] := List.ne_nil_of_mem (mv_mem.mpr (show (n, (w', y')) ∈ ss from hm))
        rw [if_neg ne] at hkn
        obtain ⟨l, as', hv, _⟩ := hkn
        have dg : DGet H' d (.int n) (valV kvs (.inl n)) := DGet.k (k := .inl n) ed
        rw [hv] at dg
        exact ⟨.int n, rfl, .ref d, rfl, d, _, rfl, dg, _, rfl, iteF ⟨_, rfl, rfl⟩⟩
      · obtain ⟨y7, rfl, rfl⟩ := hP
        have kp : ∀ {G : Hp} {o : HO} {b : Addr}, b ≠ p → (upd G p o) b = G b := fun h => upd_ne h
        have hp6 := S6 _ _ hp
        -- self._start = start
        refine ⟨.int s0, rfl, .ref p, rfl, p, C, dx, [], rfl, hp6, T.cl, T.n__start, by show 0 < 1000; decide, ?_⟩
        -- self._steps = list(steps)
        have npa : a ≠ p := ne_of ha hp (fun z => by cases b <;> cases z)
        have eah : (upd H' p (.ins C dx (putF "_start" (.int s0) []))) a = some (rowO b (as.map V.ref)) := (kp npa).trans (S6 _ _ ha)
        have len1 : ∀ (f : Str) (x : V) (l : List (Str × V)) (n : Nat), l.length ≤ n → (putF f x l).length ≤ n + 1 := fun f x l n h => Nat.le_trans (length_putF f x l) (Nat.succ_le_succ h)
        have l1 : (putF ("_start" : Str) (.int s0) []).length ≤ 1 := len1 _ _ [] 0 (Nat.le_refl _)
        refine ⟨.ref a, rfl, a, as.map V.ref, rfl, by cases b with | true => exact .inl (.inl (.inl eah)) | false => exact .inr (.inl (.inl eah)), fun ls nls => ?_⟩
        have nls6 : H' ls = none := by
          by_cases e : ls = p
          · rw [e, upd_same] at nls; cases nls
          · rwa [kp e] at nls
        have nlsp : ls ≠ p := fun e => by rw [e, hp6] at nls6; cases nls6
        have s7 := same_upd (o := .lst (as.map V.ref)) nls
        refine ⟨.ref p, rfl, p, C, dx, _, rfl, s7 _ _ upd_same, T.cl, T.n__steps, by omega, ?_⟩
        have l2 := len1 "_steps" (.ref ls) _ _ l1
        -- self._words = words
        refine ⟨.ref lw, rfl, .ref p, rfl, p, C, dx, _, rfl, upd_same, T.cl, T.n__words, by omega, ?_⟩
        have l3 := len1 "_words" (.ref lw) _ _ l2
        -- the heap so far: all of H', the list of steps, the object
        have S7 : ∀ {G : Hp} (o : HO), (∀ b x, b ≠ p → H' b = some x → G b = some x) → ∀ b x, b ≠ p → H' b = some x → (upd G p o) b = some x := fun o k b x h e => (kp h).trans (k b x h e)
        have B7 : ∀ b x, b ≠ p → H' b = some x → (upd (upd (upd (upd H' p (.ins C dx (putF "_start" (.int s0) []))) ls (.lst (as.map V.ref))) p (.ins C dx (putF "_steps" (.ref ls) (putF "_start" (.int s0) [])))) p (.ins C dx (putF "_words" (.ref lw) (putF "_steps" (.ref ls) (putF "_start" (.int s0) []))))) b = some x := fun b x h e =>
          (kp h).trans ((kp h).trans (s7 _ _ ((kp h).trans e)))
        have els : (upd (upd (upd (upd H' p (.ins C dx (putF "_start" (.int s0) []))) ls (.lst (as.map V.ref))) p (.ins C dx (putF "_steps" (.ref ls) (putF "_start" (.int s0) [])))) p (.ins C dx (putF "_words" (.ref lw) (putF "_steps" (.ref ls) (putF "_start" (.int s0) []))))) ls = some (.lst (as.map V.ref)) := (kp nlsp).trans ((kp nlsp).trans upd_same)
        have ep : (upd (upd (upd (upd H' p (.ins C dx (putF "_start" (.int s0) []))) ls (.lst (as.map V.ref))) p (.ins C dx (putF "_steps" (.ref ls) (putF "_start" (.int s0) [])))) p (.ins C dx (putF "_words" (.ref lw) (putF "_steps" (.ref ls) (putF "_start" (.int s0) []))))) p = some (.ins C dx (putF "_words" (.ref lw) (putF "_steps" (.ref ls) (putF "_start" (.int s0) [])))) := upd_same
        generalize upd (upd (upd (upd H' p (.ins C dx (putF "_start" (.int s0) []))) ls (.lst (as.map V.ref))) p (.ins C dx (putF "_steps" (.ref ls) (putF "_start" (.int s0) [])))) p (.ins C dx (putF "_words" (.ref lw) (putF "_steps" (.ref ls) (putF "_start" (.int s0) [])))) = G at B7 els ep
        have nlwp : lw ≠ p := ne_of_none hp nwH |>.symm
        have nltp : lt ≠ p := ne_of_none hp nltH |>.symm
        have SG : ∀ b o, H b = some o → b ≠ p → G b = some o := fun b o e h => B7 b o h (S6 _ _ e)
        have stG : Stps G as ss := Paired.mapP hst fun b _ e => SG b _ e (ne_of e hp (fun z => by cases z))
        have fin : ∀ {G' : Hp} {df : Addr}, Same G G' → G df = none → G' df = some (.dK (fkv (orderF ws fs))) → (sFld K (fun σ H Q => Q (.ref p) H) (fun σ H Q => Q (.ref df) H) "_faults" { nx := fun σ' G2 => sFld K (tVar 0) (tVar 6) "_states" { nx := fun x H' => Q V.non H', rt := Q } σ' G2, rt := Q } [some (.ref p), some (.int s0), some (.ref a), some v, some (.ref lw), some (.ref d), some (.ref lt), y7, none, none] G') := fun {G' df} sG nfG edf => by
          have ndfp : df ≠ p := ne_of edf (sG _ _ ep) (fun z => by cases z)
          refine ⟨p, C, dx, _, rfl, sG _ _ ep, T.cl, T.n__faults, by omega, ?_⟩
          have l4 := len1 "_faults" (.ref df) _ _ l3
          refine ⟨.ref lt, rfl, .ref p, rfl, p, C, dx, _, rfl, upd_same, T.cl, T.n__states, by omega, ?_⟩
          have keep : ∀ b o, b ≠ p → G' b = some o → (upd (upd G' p (.ins C dx (putF "_faults" (.ref df) (putF "_words" (.ref lw) (putF "_steps" (.ref ls) (putF "_start" (.int s0) [])))))) p (.ins C dx (putF "_states" (.ref lt) (putF "_faults" (.ref df) (putF "_words" (.ref lw) (putF "_steps" (.ref ls) (putF "_start" (.int s0) []))))))) b = some o := fun b o h e => (kp h).trans ((kp h).trans e)
          have ndfH : H df = none := by
            cases e : H df with
            | none => rfl
            | some o =>
              have e2 := SG df o e ndfp
              rw [nfG] at e2
              cases e2
          refine q _ dx ls lw df lt ws ns (fun b o e h => keep b o h (sG _ _ (SG b o e h))) ⟨upd_same, keep _ _ nlsp (sG _ _ els), ?_, keep _ _ nlwp (sG _ _ (B7 _ _ nlwp ew6)), hws, keep _ _ ndfp edf, keep _ _ nltp (sG _ _ (B7 _ _ nltp elt)), hns⟩ (S6.free nls6) nwH ndfH nltH
          exact Paired.mapP (stG.mono sG) fun b _ e => keep b _ (ne_of e (sG _ _ ep) (fun z => by cases z)) e
        rcases hf with ⟨rfl, rfl⟩ | ⟨fd, rfl, efd⟩
        · refine ⟨.non, rfl, rfl, _, rfl, iteT fun df ndf => ⟨.ref p, rfl, ?_⟩⟩
          exact fin (same_upd ndf) ndf (by rw [upd_same, order_nil]; rfl)
        · refine ⟨.ref fd, rfl, rfl, _, rfl, ?_⟩
          rw [decide_eq_false (show ¬ V.ref fd = V.non from fun z => by cases z)]
          have nfp : fd ≠ p := ne_of efd hp (fun z => by cases z)
          have efG := SG _ _ efd nfp
          have ewG := B7 _ _ nlwp ew6
          refine iteF ⟨.ref lw, rfl, lw, rfl, ⟨_, .inl (.inl ewG)⟩, fun df ndf => ?_⟩
          refine KnC.dc_list (K := K) (xs := ws.map V.str) (fun i G' => Same G G' ∧ G' df = some (.dK (fkv (orderF (ws.take i) fs)))) ⟨same_upd ndf, upd_same⟩ (fun i G' _ hP => .inl (.inl (hP.1 _ _ ewG))) (fun i x G' hx hP => ?_) (fun G' hP => ?_)
          · obtain ⟨SG', edf⟩ := hP
            rw [List.getElem?_map] at hx
            cases gx : ws[i]? with
            | none => rw [gx] at hx; cases hx
            | some z =>
            rw [gx] at hx
            cases hx
            have hiw : i < ws.length := (List.getElem?_eq_some_iff.mp gx).1
            have dg : DGet G' fd (.str z) (valV (fkv fs) (.inr z)) := DGet.k (k := .inr z) (SG' _ _ efG)
            rw [look_val] at dg
            refine ⟨rfl, .str z, rfl, .ref fd, rfl, fd, _, rfl, dg, _, rfl, ?_⟩
            have tk := order_take (fs := fs) gx
            cases lk : look fs z with
            | none =>
              rw [lk] at tk
              refine iteF ⟨SG', ?_⟩
              rw [tk, List.append_nil]; exact edf
            | some n =>
              rw [lk] at tk dg
              have no : valV (fkv (orderF (ws.take i) fs)) (.inr z) = none := val_none fun p hp e => by
                have hm := order_keys hp
                rw [e] at hm
                obtain ⟨j, hj, ej⟩ := List.mem_iff_getElem.mp hm
                rw [List.getElem_take] at ej
                have lj : j < i := by rw [List.length_take] at hj; omega
                have e1 : ws[i] = z := (List.getElem?_eq_some_iff.mp gx).2
                exact absurd ((List.getElem_inj hws.nd).mp (ej.trans e1.symm)) (by omega)
              have lf : (fkv (orderF (ws.take i) fs)).length ≤ 14 := by
                unfold fkv
                rw [List.length_map]
                refine Nat.le_trans (order_len _ _) ?_
                rw [List.length_take]; omega
              refine iteT ⟨.str z, rfl, .ref fd, rfl, .str z, rfl, fd, .str n, rfl, dg, _, .inr z, rfl, edf, small (by omega), ?_⟩
              refine ⟨same_set ndf SG', ?_⟩
              rw [upd_same, putK_new _ no, tk]
              unfold fkv
              rw [List.map_append]; rfl
          · obtain ⟨SG', edf⟩ := hP
            rw [List.length_map, List.take_length] at edf
            exact ⟨.ref p, rfl, fin SG' ndf edf⟩

/-! ### what a machine tells -/
def sp_Machine_start (_ : PySem.W.Frag) (C : Addr) : Sp := fun vs H Q _ => ∃ (p : Addr) (s0 : Int) (ss : List KnA.Stp) (fs : List (Str × Str)), vs = [.ref p] ∧ MachAt C H p s0 ss fs ∧ Q (.int s0) H
def sp_Machine_steps (_ : PySem.W.Frag) (C : Addr) : Sp := fun vs H Q _ => ∃ (p : Addr) (s0 : Int) (ss : List KnA.Stp) (fs : List (Str × Str)), vs = [.ref p] ∧ MachAt C H p s0 ss fs ∧ ∀ H' l as, Same H H' → H l = none → H' l = some (.lst (as.map V.ref)) → Stps H' as ss → Q (.ref l) H'
theorem ok_Machine_start {f : Addr} {C : Addr} {fd : FuncData} (T : Txt K mg C) (F : Fun K "start" "Machine.start" s_Machine_start f fd)  : FnOk P w K mg base CX0 1 f fd ["self"] (sp_Machine_start K C) := by
  have nd := sc_Machine_start.nd
  refine F.ok sc_Machine_start (fun vs H Q E h => ?_) (fun cdv A outer s H vs Q E hr h => ?_)
  · obtain ⟨p, s0, ss, fs, rfl, _⟩ := h
    rfl
  · obtain ⟨p, s0, ss, fs, rfl, ⟨dx, ls, lw, df, lt, as, ws, ns, m⟩, q⟩ := h
    refine ⟨_, (pss_one (ps_ret (pe_fld (pv 0) rfl))), ?_⟩
    exact ⟨.ref p, rfl, p, C, dx, _, _, rfl, m.ob, T.cl, T.n__start, mf_start _ _ _ _ _, q⟩
theorem ok_Machine_steps {f : Addr} {C : Addr} {fd : FuncData} (T : Txt K mg C) (F : Fun K "steps" "Machine.steps" s_Machine_steps f fd)  : FnOk P w K mg base CX0 1 f fd ["self"] (sp_Machine_steps K C) := by
  have nd := sc_Machine_steps.nd
  refine F.ok sc_Machine_steps (fun vs H Q E h => ?_) (fun cdv A outer s H vs Q E hr h => ?_)
  · obtain ⟨p, s0, ss, fs, rfl, _⟩ := h
    rfl
  · obtain ⟨p, s0, ss, fs, rfl, ⟨dx, ls, lw, df, lt, as, ws, ns, m⟩, q⟩ := h
    refine ⟨_, (pss_one (ps_ret (pe_callTy call_list_of (by rfl) T.m_list (by decide +kernel) (pa_cons (pe_fld (pv 0) rfl) pa_nil)))), ?_⟩
    exact ⟨.ref p, rfl, p, C, dx, _, _, rfl, m.ob, T.cl, T.n__steps, mf_steps _ _ _ _ _, ls, as.map V.ref, rfl, .inl (.inl (.inl m.hs)), fun l nl => q _ l as (same_upd nl) nl upd_same (m.st.mono (same_upd nl))⟩

def sp_Machine_states (_ : PySem.W.Frag) (C : Addr) : Sp := fun vs H Q _ => ∃ (p : Addr) (s0 : Int) (ss : List KnA.Stp) (fs : List (Str × Str)), vs = [.ref p] ∧ MachAt C H p s0 ss fs ∧ ∀ H' l ns, Same H H' → H l = none → H' l = some (.lst (ns.map V.int)) → KnA.States ns ss s0 → Q (.ref l) H'
theorem ok_Machine_states {f : Addr} {C : Addr} {fd : FuncData} (T : Txt K mg C) (F : Fun K "states" "Machine.states" s_Machine_states f fd)  : FnOk P w K mg base CX0 1 f fd ["self"] (sp_Machine_states K C) := by
  have nd := sc_Machine_states.nd
  refine F.ok sc_Machine_states (fun vs H Q E h => ?_) (fun cdv A outer s H vs Q E hr h => ?_)
  · obtain ⟨p, s0, ss, fs, rfl, _⟩ := h
    rfl
  · obtain ⟨p, s0, ss, fs, rfl, ⟨dx, ls, lw, df, lt, as, ws, ns, m⟩, q⟩ := h
    refine ⟨_, (pss_one (ps_ret (pe_callTy call_list_of (by rfl) T.m_list (by decide +kernel) (pa_cons (pe_fld (pv 0) rfl) pa_nil)))), ?_⟩
    exact ⟨.ref p, rfl, p, C, dx, _, _, rfl, m.ob, T.cl, T.n__states, mf_states _ _ _ _ _, lt, ns.map V.int, rfl, .inl (.inl (.inl m.ht)), fun l nl => q _ l ns (same_upd nl) nl upd_same m.re⟩

theorem sub_len {α : Type} [DecidableEq α] : ∀ {l m : List α}, l.Nodup → (∀ x ∈ l, x ∈ m) → l.length ≤ m.length
  | [], _, _, _ => Nat.zero_le _
  | x :: r, m, d, h => by
    obtain ⟨d1, d2⟩ := List.nodup_cons.mp d
    have hx := h x List.mem_cons_self
    have ih := sub_len (m := m.erase x) d2 (fun y hy => (List.mem_erase_of_ne (fun e : y = x => d1 (by rw [← e]; exact hy))).mpr (h y (List.mem_cons_of_mem _ hy)))
    have e := List.length_erase_of_mem hx
    have : 0 < m.length := List.length_pos_of_mem hx
    rw [List.length_cons]
    omega
theorem words_le {ws xs : List Str} (h : KnA.Words ws xs) : ws.length ≤ xs.length := sub_len h.nd fun x hx => (h.mem x).mp hx
/-- set(xs), xs texts -/
theorem foldL_strs : ∀ (xs acc : List Str), acc.Nodup → ∃ ys : List Str, (xs.map Sum.inr).foldl KnS.addL (acc.map Sum.inr) = ys.map Sum.inr ∧ ys.Nodup ∧ ∀ x, x ∈ ys ↔ x ∈ acc ∨ x ∈ xs
  | [], acc, h => ⟨acc, rfl, h, fun x => by simp⟩
  | z :: xs, acc, h => by
    obtain ⟨ys, e, n, m⟩ := foldL_strs xs (if z ∈ acc then acc else acc ++ [z]) (by
      by_cases q : z ∈ acc
      · rw [if_pos q]; exact h
      · rw [if_neg q]
        refine List.nodup_append.mpr ⟨h, by simp, fun a ha b hb e => ?_⟩
        rw [List.mem_singleton] at hb
        exact q (hb ▸ e ▸ ha))
    refine ⟨ys, ?_, n, fun x => ?_⟩
    · rw [List.map_cons, List.foldl_cons, KnC.addL_strs, e]
    · rw [m]
      by_cases q : z ∈ acc
      · rw [if_pos q, List.mem_cons]
        exact ⟨fun y => y.elim .inl fun t => .inr (.inr t), fun y => y.elim .inl fun t => t.elim (fun t => .inl (t ▸ q)) .inr⟩
      · rw [if_neg q, List.mem_append, List.mem_singleton, List.mem_cons, or_assoc]
theorem allL_strs (xs : List Str) : ∃ ys : List Str, KnS.allL (xs.map Sum.inr) = ys.map Sum.inr ∧ ys.Nodup ∧ ∀ x, x ∈ ys ↔ x ∈ xs := by
  obtain ⟨ys, e, n, m⟩ := foldL_strs xs [] List.nodup_nil
  exact ⟨ys, e, n, fun x => (m x).trans (by simp)⟩


theorem ok__law_mix {f : Addr} {C : Addr} {fd : FuncData} (T : Txt K mg C) (F : Fun K "_law_mix" "_law_mix" s__law_mix f fd)  : FnOk P w K mg base CX0 1 f fd ["_law_cell_here", "_law_k"] (sp__law_mix K) := by
  have nd := sc__law_mix.nd
  refine F.ok sc__law_mix (fun vs H Q E h => ?_) (fun cdv A outer s H vs Q E hr h => ?_)
  · obtain ⟨c, k, rfl, _⟩ := h
    rfl
  · obtain ⟨c, k, rfl, q⟩ := h
    refine ⟨_, (pss_cons (ps_set (i := 2) nd rfl (.inl rfl) (pe_op op_mod (pe_op op_mul (pe_callTy call_int1 (by rfl) T.m_int (by decide +kernel) (pa_cons (pe_op op_add (pe_op op_add (pe_callTy call_int1 (by rfl) T.m_int (by decide +kernel) (pa_cons (pv 0) pa_nil)) (pe_op op_mul pe_int (pv 1))) pe_int) pa_nil)) pe_int) pe_int))
      (pss_cons (ps_set (i := 2) nd rfl (.inl rfl) (pe_op op_mod (pe_callTy call_int1 (by rfl) T.m_int (by decide +kernel) (pa_cons (pe_op op_mul (pv 2) (pe_op op_add (pe_op op_fdiv (pv 2) pe_int) pe_int)) pa_nil)) pe_int))
      (pss_one (ps_ret (pe_op op_mod (pe_callTy call_int1 (by rfl) T.m_int (by decide +kernel) (pa_cons (pe_op op_mul (pv 2) (pe_op op_add (pe_op op_fdiv (pv 2) pe_int) pe_int)) pa_nil)) pe_int))))), ?_⟩
    refine ⟨.int c, rfl, .inl ⟨c, rfl, .int k, rfl, 7919, k, rfl, rfl, .inl ⟨by decide, by decide⟩, _, _, rfl, rfl, _, _, rfl, rfl, .inl ⟨_, rfl, _, 48271, rfl, rfl, .inr ⟨by decide, by decide⟩, _, 2147483647, rfl, rfl, (show (0 : Int) < 2147483647 by decide), ?_⟩⟩⟩
    refine ⟨_, rfl, _, rfl, _, 1009, rfl, rfl, ⟨by decide, by decide⟩, _, 69621, rfl, rfl, _, _, rfl, rfl, .inl ⟨?_, ?_⟩, .inl ⟨_, rfl, _, 2147483647, rfl, rfl, (show (0 : Int) < 2147483647 by decide), ?_⟩⟩
    · omega
    · omega
    refine ⟨_, rfl, _, rfl, _, 2003, rfl, rfl, ⟨by decide, by decide⟩, _, 40692, rfl, rfl, _, _, rfl, rfl, .inl ⟨?_, ?_⟩, .inl ⟨_, rfl, _, 2147483399, rfl, rfl, (show (0 : Int) < 2147483399 by decide), ?_⟩⟩
    · omega
    · omega
    exact q _ (Int.emod_nonneg _ (by decide)) (Int.emod_lt_of_pos _ (by decide))

theorem ok__law_cell {f : Addr} {C : Addr} {fd : FuncData} (T : Txt K mg C) (F : Fun K "_law_cell" "_law_cell" s__law_cell f fd) (c__law_mix : Cal P w K mg base 1 "_law_mix" (sp__law_mix K) []) : FnOk P w K mg base CX0 2 f fd ["_law_script", "_law_k"] (sp__law_cell K) := by
  have nd := sc__law_cell.nd
  refine F.ok sc__law_cell (fun vs H Q E h => ?_) (fun cdv A outer s H vs Q E hr h => ?_)
  · obtain ⟨a, ns, k, rfl, _⟩ := h
    rfl
  · obtain ⟨a, ns, k, rfl, hS, q⟩ := h
    refine ⟨_, (pss_cons (ps_if (pt_cmpR op_lt (pv 1) (pe_callB call_len (by rfl) T.m_len (by decide +kernel) (pa_cons (pv 0) pa_nil)) (nomark _)) (pss_one (ps_ret (pe_callTy call_int1 (by rfl) T.m_int (by decide +kernel) (pa_cons (pe_ix (r := rIxL K) ix_list (pv 0) (pv 1) (fun _ _ => rfl)) pa_nil)))) pss_nil)
      (pss_cons (ps_if (pt_cmpR op_eq (pe_callB call_len (by rfl) T.m_len (by decide +kernel) (pa_cons (pv 0) pa_nil)) pe_int (nomark _)) (pss_one (ps_ret (pv 1))) pss_nil)
      (pss_one (ps_ret (pe_c c__law_mix hr (by omega) (by rfl) (pa_cons (pe_ix (r := rIxL K) ix_list (pv 0) (pe_op op_mod (pe_callTy call_int1 (by rfl) T.m_int (by decide +kernel) (pa_cons (pv 1) pa_nil)) (pe_callB call_len (by rfl) T.m_len (by decide +kernel) (pa_cons (pv 0) pa_nil))) (fun _ _ => rfl)) (pa_cons (pv 1) pa_nil))))))), ?_⟩
    refine ⟨.int k, rfl, .ref a, rfl, .ref a, (ns.map V.int).length, rfl, .inl ⟨_, hS, rfl⟩, _, _, rfl, rfl, _, rfl, ite2 (fun e => ?_) (fun e => ?_)⟩
    · have hk : k < (ns.map V.int).length := by
        have := of_decide_eq_true e
        omega
      have hk2 : k < ns.length := by rw [List.length_map] at hk; exact hk
      have g : (ns.map V.int)[k]? = some (.int ns[k]) := by rw [List.getElem?_map, List.getElem?_eq_getElem hk2]; rfl
      exact ⟨.ref a, rfl, .int k, rfl, a, _, (k : Int), _, rfl, rfl, hS, atI_nat g, .inl ⟨_, rfl, q _⟩⟩
    · refine ⟨.ref a, rfl, .ref a, (ns.map V.int).length, rfl, .inl ⟨_, hS, rfl⟩, rfl, _, rfl, ite2 (fun e0 => ?_) (fun e0 => ?_)⟩
      · exact ⟨.int k, rfl, q _⟩
      · have hp : 0 < (ns.map V.int).length := by
          cases e1 : (ns.map V.int).length with
          | zero => exact absurd (decide_eq_true (by rw [e1]; rfl)) e0
          | succ n => exact Nat.succ_pos _
        have hj : ((k : Int) % ((ns.map V.int).length : Int)) = ((k % (ns.map V.int).length : Nat) : Int) := rfl
        have hlt : k % (ns.map V.int).length < ns.length := by
          have := Nat.mod_lt k hp
          rw [List.length_map] at this ⊢
          exact this
        have g : (ns.map V.int)[k % (ns.map V.int).length]? = some (.int ns[k % (ns.map V.int).length]) := by rw [List.getElem?_map, List.getElem?_eq_getElem hlt]; rfl
        refine ⟨.ref a, rfl, .int k, rfl, .inl ⟨_, rfl, .ref a, rfl, .ref a, (ns.map V.int).length, rfl, .inl ⟨_, hS, rfl⟩, (k : Int), ((ns.map V.int).length : Int), rfl, rfl, (show (0 : Int) < ((ns.map V.int).length : Int) by omega), a, ns.map V.int, (k : Int) % ((ns.map V.int).length : Int), .int ns[k % (ns.map V.int).length], rfl, rfl, hS, ?_, ?_⟩⟩
        · rw [hj]; exact atI_nat g
        · exact ⟨.int k, rfl, _, _, rfl, fun r _ _ => q r⟩

theorem ok__law_row {f : Addr} {C : Addr} {fd : FuncData} (T : Txt K mg C) (F : Fun K "_law_row" "_law_row" s__law_row f fd) (c__law_mix : Cal P w K mg base 1 "_law_mix" (sp__law_mix K) []) : FnOk P w K mg base CX0 2 f fd ["_law_cell_here", "_law_sizes"] (sp__law_row K) := by
  have nd := sc__law_row.nd
  refine F.ok sc__law_row (fun vs H Q E h => ?_) (fun cdv A outer s H vs Q E hr h => ?_)
  · obtain ⟨c, b, ss, rfl, _⟩ := h
    rfl
  · obtain ⟨c, b, ss, rfl, hS, hlen, hpos, q⟩ := h
    refine ⟨_, (pss_cons (ps_set (i := 2) nd rfl (.inl rfl) (pe_lst pa_nil))
      (pss_cons (ps_set (i := 3) nd rfl (.inl rfl) (pe_callTy call_int1 (by rfl) T.m_int (by decide +kernel) (pa_cons (pv 0) pa_nil)))
      (pss_cons (ps_for PassesOwn.never rfl (pi_range1 (by rfl) T.m_range (pa_cons (pe_callB call_len (by rfl) T.m_len (by decide +kernel) (pa_cons (pv 1) pa_nil)) pa_nil)) (pg_name (i := 4) nd rfl (.inl rfl)) (pss_one (ps_if (pt_cmpR op_ge (pv 0) (pe_op op_pow pe_int pe_int) (nomark _)) (pss_cons (ps_expr (pe_bm PySem.F.plainAttrs_list PySem.F.slot_list_append PySem.F.type_list_append mt_append (pv 2) (pa_cons (pe_op op_mod (pe_callTy call_int1 (by rfl) T.m_int (by decide +kernel) (pa_cons (pv 3) pa_nil)) (pe_ix (r := rIxL K) ix_list (pv 1) (pv 4) (fun _ _ => rfl))) pa_nil)))
      (pss_one (ps_set (i := 3) nd rfl (.inl rfl) (pe_op op_fdiv (pv 3) (pe_ix (r := rIxL K) ix_list (pv 1) (pv 4) (fun _ _ => rfl)))))) (pss_one (ps_expr (pe_bm PySem.F.plainAttrs_list PySem.F.slot_list_append PySem.F.type_list_append mt_append (pv 2) (pa_cons (pe_op op_mod (pe_callTy call_int1 (by rfl) T.m_int (by decide +kernel) (pa_cons (pe_c c__law_mix hr (by omega) (by rfl) (pa_cons (pv 0) (pa_cons (pv 4) pa_nil))) pa_nil)) (pe_ix (r := rIxL K) ix_list (pv 1) (pv 4) (fun _ _ => rfl))) pa_nil)))))))
      (pss_one (ps_ret (pv 2)))))), ?_⟩
    refine ⟨Nat.zero_le _, fun R nR => ⟨.int c, rfl, .inl ⟨c, rfl, .ref b, rfl, .ref b, (ss.map V.int).length, rfl, .inl ⟨_, (same_upd nR).seq hS, rfl⟩, _, rfl, ?_, ?_, ?_⟩⟩⟩
    · have : (0 : Int) ≤ ((ss.map V.int).length : Int) := by omega
      omega
    · rw [List.length_map]
      omega
    · refine for_range (lo := 0) (fun i σ H' => ∃ (z : Int) (y : Option V) (rs : List Int), σ = [some (.int c), some (.ref b), some (.ref R), some (.int z), y] ∧ Same H H' ∧ H' R = some (.lst (rs.map V.int)) ∧ rs.length = i ∧ ∀ (i : Nat) (r s : Int), rs[i]? = some r → ss[i]? = some s → 0 ≤ r ∧ r < s)
        ⟨c, none, [], rfl, same_upd nR, upd_same, rfl, fun i r s h => by simp at h⟩ (fun i σ H' hi hP => ?_) (fun σ H' hP => ?_)
      · obtain ⟨z, y, rs, rfl, sm, eR, hrl, hb⟩ := hP
        have hi2 : i < ss.length := by
          have : i < ((ss.map V.int).length : Int).toNat := hi
          rw [List.length_map, Int.toNat_natCast] at this
          exact this
        have g : (ss.map V.int)[i]? = some (.int ss[i]) := by rw [List.getElem?_map, List.getElem?_eq_getElem hi2]; rfl
        have ps := hpos _ (List.getElem_mem hi2)
        have hS' := sm.seq hS
        have hA : atI (ss.map V.int) (0 + (i : Int)) = some (.int ss[i]) := by rw [Int.zero_add]; exact atI_nat g
        have push : ∀ r : Int, 0 ≤ r → r < ss[i] → ∀ (j : Nat) (r' s : Int), (rs ++ [r])[j]? = some r' → ss[j]? = some s → 0 ≤ r' ∧ r' < s := by
          intro r r0 r1 j r' s e1 e2
          by_cases hj : j < rs.length
          · rw [List.getElem?_append_left hj] at e1
            exact hb j r' s e1 e2
          · by_cases hj2 : j = rs.length
            · subst hj2
              rw [List.getElem?_concat_length] at e1
              cases e1
              rw [hrl, List.getElem?_eq_getElem hi2] at e2
              cases e2
              exact ⟨r0, r1⟩
            · rw [List.getElem?_eq_none (by rw [List.length_append]; simp; omega)] at e1
              cases e1
        have hsz : (rs.map V.int).length < sizeLine := by rw [List.length_map]; exact small (by omega)
        refine ⟨.int c, rfl, 10, 18, rfl, rfl, ⟨by decide, by decide, by decide⟩, c, _, rfl, rfl, _, rfl, ite2 (fun e => ?_) (fun e => ?_)⟩
        · -- the digits of a great cell
          refine ⟨.ref R, rfl, .inl ⟨rfl, _, .inl (.inl eR)⟩, .int z, rfl, .inl ⟨z, rfl, .ref b, rfl, .int (0 + (i : Int)), rfl, b, _, _, _, rfl, rfl, hS', hA, z, ss[i], rfl, rfl, ps.1, R, _, _, rfl, rfl, eR, hsz, ?_⟩⟩
          refine ⟨.int z, rfl, .ref b, rfl, .int (0 + (i : Int)), rfl, b, _, _, _, rfl, rfl, (same_set nR sm).seq hS, hA, z, ss[i], rfl, rfl, ps, ?_⟩
          exact ⟨_, _, rs ++ [z % ss[i]], rfl, same_set nR sm, by rw [upd_same, List.map_append]; rfl, by rw [List.length_append, hrl]; rfl, push _ (Int.emod_nonneg _ (by omega)) (Int.emod_lt_of_pos _ ps.1)⟩
        · refine ⟨.ref R, rfl, .inl ⟨rfl, _, .inl (.inl eR)⟩, .int c, rfl, .int (0 + (i : Int)), rfl, c, (0 + (i : Int)), rfl, fun r r0 r1 => .inl ⟨r, rfl, .ref b, rfl, .int (0 + (i : Int)), rfl, b, _, _, _, rfl, rfl, hS', hA, r, ss[i], rfl, rfl, ps.1, R, _, _, rfl, rfl, eR, hsz, ?_⟩⟩
          exact ⟨_, _, rs ++ [r % ss[i]], rfl, same_set nR sm, by rw [upd_same, List.map_append]; rfl, by rw [List.length_append, hrl]; rfl, push _ (Int.emod_nonneg _ (by omega)) (Int.emod_lt_of_pos _ ps.1)⟩
      · obtain ⟨z, y, rs, rfl, sm, eR, hrl, hb⟩ := hP
        refine ⟨.ref R, rfl, q H' R rs sm nR eR ?_ hb⟩
        rw [hrl, List.length_map, Int.toNat_natCast]

/-! ### names -/
theorem cutS_length (z : Str) (lo hi : Option Int) : (cutS z lo hi).cps.size ≤ z.cps.size := by
  show ((z.cps.toList.drop _).take _).toArray.size ≤ _
  rw [List.size_toArray, List.length_take, List.length_drop, Array.length_toList]
  exact Nat.le_trans (Nat.min_le_right _ _) (Nat.sub_le _ _)
theorem cutS_mem {z : Str} {lo hi : Option Int} {c : Nat} (h : c ∈ (cutS z lo hi).cps.toList) : c ∈ z.cps.toList := by
  have h' : c ∈ (z.cps.toList.drop (HT.sIx z.length 0 lo)).take (HT.sIx z.length z.length hi - HT.sIx z.length 0 lo) := h
  exact List.mem_of_mem_drop (List.mem_of_mem_take h')
theorem app_size (x y : Str) : (x ++ y).cps.size = x.cps.size + y.cps.size := by
  show (x.cps ++ y.cps).size = _
  rw [Array.size_append]
theorem app_mem {x y : Str} {c : Nat} (h : c ∈ (x ++ y).cps.toList) : c ∈ x.cps.toList ∨ c ∈ y.cps.toList := by
  have h' : c ∈ (x.cps ++ y.cps).toList := h
  rw [Array.toList_append] at h'
  exact List.mem_append.mp h'
theorem join_size : ∀ {ys : List Str}, (∀ y ∈ ys, y.cps.size = 1) → (Txt.join "" ys).cps.size ≤ ys.length := by
  intro ys
  rw [TL.join_eq]
  induction ys with
  | nil => intro _; exact Nat.le_refl _
  | cons x r ih =>
    intro h
    cases r with
    | nil => exact Nat.le_of_eq (h x List.mem_cons_self)
    | cons z r =>
      have h1 := h x List.mem_cons_self
      have h2 := ih fun y hy => h y (List.mem_cons_of_mem _ hy)
      have e : (Str.join "" (x :: z :: r)).cps.size = x.cps.size + 0 + (Str.join "" (z :: r)).cps.size := by
        show ((x.cps ++ #[]) ++ (Str.join "" (z :: r)).cps).size = _
        rw [Array.size_append, Array.size_append]; rfl
      rw [e, List.length_cons]
      omega
theorem join_mem {p : Nat → Prop} : ∀ {ys : List Str}, (∀ y ∈ ys, ∀ c ∈ y.cps.toList, p c) → ∀ c ∈ (Txt.join "" ys).cps.toList, p c := by
  intro ys
  rw [TL.join_eq]
  induction ys with
  | nil => intro _ c hc; exact absurd hc (by decide +revert)
  | cons x r ih =>
    intro h c hc
    cases r with
    | nil => exact h x List.mem_cons_self c hc
    | cons z r =>
      have h2 := ih fun y hy => h y (List.mem_cons_of_mem _ hy)
      have hc' : c ∈ ((x.cps ++ #[]) ++ (Str.join "" (z :: r)).cps).toList := hc
      rw [Array.toList_append, Array.toList_append, List.mem_append, List.mem_append] at hc'
      rcases hc' with (hc' | hc') | hc'
      · exact h x List.mem_cons_self c hc'
      · exact absurd hc' (by simp)
      · exact h2 c hc'
theorem join_sum {zs : List Str} (h : ∀ y ∈ zs, y.cps.size = 1) : (zs.map (·.length)).sum + zs.length * ("" : Str).length = zs.length := by
  have z0 : ("" : Str).length = 0 := rfl
  rw [z0, Nat.mul_zero, Nat.add_zero]
  induction zs with
  | nil => rfl
  | cons x r ih =>
    rw [List.map_cons, List.sum_cons, ih fun y hy => h y (List.mem_cons_of_mem _ hy), List.length_cons]
    have : x.length = 1 := h x List.mem_cons_self
    omega
/-- a place of a row -/
theorem row_at {rs ss : List Int} (hl : rs.length = ss.length) (hb : ∀ (i : Nat) (r s : Int), rs[i]? = some r → ss[i]? = some s → 0 ≤ r ∧ r < s) {j : Nat} {t : Int} (e : ss[j]? = some t) : ∃ r, rs[j]? = some r ∧ (rs.map V.int)[j]? = some (.int r) ∧ 0 ≤ r ∧ r < t := by
  have hj : j < ss.length := (List.getElem?_eq_some_iff.mp e).1
  have g : rs[j]? = some (rs[j]'(by omega)) := List.getElem?_eq_getElem (by omega)
  obtain ⟨h1, h2⟩ := hb j _ t g e
  exact ⟨_, g, by rw [List.getElem?_map, g]; rfl, h1, h2⟩
theorem flat_get {α : Type} {l : List α} {j : Nat} (hj : j < l.length) : ∀ {m k : Nat}, k < m → (List.replicate m l).flatten[l.length * k + j]? = l[j]?
  | 0, k, h => absurd h (Nat.not_lt_zero _)
  | m + 1, 0, _ => by
    rw [List.replicate_succ, List.flatten_cons, Nat.mul_zero, Nat.zero_add, List.getElem?_append_left hj]
  | m + 1, k + 1, h => by
    rw [List.replicate_succ, List.flatten_cons, List.getElem?_append_right (by rw [Nat.mul_succ]; omega)]
    have e : l.length * (k + 1) + j - l.length = l.length * k + j := by rw [Nat.mul_succ]; omega
    rw [e]
    exact flat_get hj (by omega)
theorem flat_len {α : Type} (l : List α) (m : Nat) : (List.replicate m l).flatten.length = l.length * m := by
  induction m with
  | zero => rfl
  | succ m ih => rw [List.replicate_succ, List.flatten_cons, List.length_append, ih, Nat.mul_succ]; omega
theorem flat_mem {α : Type} {l : List α} {m : Nat} {x : α} (h : x ∈ (List.replicate m l).flatten) : x ∈ l := by
  obtain ⟨y, hy, hx⟩ := List.mem_flatten.mp h
  rw [(List.mem_replicate.mp hy).2] at hx
  exact hx
theorem cut_nat {xs : List V} {a b : Nat} : cutV xs (some (a : Int)) (some (b : Int)) = (xs.drop a).take (b - a) := by
  unfold cutV
  rw [HT.sIx_nat, HT.sIx_nat]
  by_cases h : a ≤ xs.length
  · rw [Nat.min_eq_left h]
    by_cases h2 : b ≤ xs.length
    · rw [Nat.min_eq_left h2]
    · rw [Nat.min_eq_right (by omega : xs.length ≤ b), List.take_of_length_le (by rw [List.length_drop]; omega), List.take_of_length_le (by rw [List.length_drop]; omega)]
  · rw [Nat.min_eq_right (by omega : xs.length ≤ a), List.drop_of_length_le (Nat.le_refl _), List.drop_of_length_le (by omega), List.take_nil, List.take_nil]
def szN (m : Nat) : List Int := [13, 2, 6] ++ (List.replicate m [6, 13, 13, 13, 13, 13]).flatten
theorem szN_len (m : Nat) : (szN m).length = 3 + 6 * m := by
  unfold szN
  rw [List.length_append, flat_len]; rfl
theorem szN_map (m : Nat) : ([13, 2, 6].map V.int ++ (List.replicate m ([6, 13, 13, 13, 13, 13].map V.int)).flatten) = (szN m).map V.int := by
  unfold szN
  rw [List.map_append, List.map_flatten, List.map_replicate]
theorem szN_at {m k j : Nat} (hk : k < m) (hj : j < 6) : (szN m)[3 + 6 * k + j]? = ([6, 13, 13, 13, 13, 13] : List Int)[j]? := by
  unfold szN
  rw [List.getElem?_append_right (by show 3 ≤ _; omega)]
  show (List.replicate m [6, 13, 13, 13, 13, 13]).flatten[3 + 6 * k + j - 3]? = _
  rw [show 3 + 6 * k + j - 3 = 6 * k + j by omega]
  exact flat_get (l := ([6, 13, 13, 13, 13, 13] : List Int)) (j := j) hj hk
theorem szN_good {m : Nat} {x : Int} (h : x ∈ szN m) : 0 < x ∧ x < 1073741824 := by
  unfold szN at h
  rcases List.mem_append.mp h with h | h
  · simp at h; omega
  · have := flat_mem h
    simp at this; omega
/-- a place of a slice of a row -/
def Own (os : List Int) : Prop := os.length = 6 ∧ ∀ (j : Nat) (r s : Int), os[j]? = some r → ([6, 13, 13, 13, 13, 13] : List Int)[j]? = some s → 0 ≤ r ∧ r < s
theorem own_cut {rs : List Int} {m k : Nat} (hl : rs.length = (szN m).length) (hb : ∀ (i : Nat) (r s : Int), rs[i]? = some r → (szN m)[i]? = some s → 0 ≤ r ∧ r < s) (hk : k < m) : Own ((rs.drop (3 + 6 * k)).take 6) := by
  rw [szN_len] at hl
  refine ⟨by rw [List.length_take, List.length_drop]; omega, fun j r s e1 e2 => ?_⟩
  have hj : j < 6 := (List.getElem?_eq_some_iff.mp e2).1
  rw [List.getElem?_take_of_lt hj, List.getElem?_drop] at e1
  exact hb _ r s e1 (by rw [szN_at hk hj]; exact e2)
def half1 : Str := "abcdefghijklm"
def half2 : Str := "nopqrstuvwxyz"
theorem half1_in : ∀ c ∈ half1.cps.toList, inL c = true := by decide +kernel
theorem half2_in : ∀ c ∈ half2.cps.toList, inL c = true := by decide +kernel
def sp__law_names (_ : PySem.W.Frag) : Sp := fun vs H Q _ => ∃ (c : Int) (m : Nat), vs = [.int c, .int (m : Int)] ∧ m ≤ 100 ∧ ∀ H' a (zs : List Str), Same H H' → H a = none → H' a = some (.lst (zs.map V.str)) → zs.length = m → (∀ z ∈ zs, nameB (.str z) = true) → Q (.ref a) H'
theorem ok__law_names {f : Addr} {C : Addr} {fd : FuncData} (T : Txt K mg C) (F : Fun K "_law_names" "_law_names" s__law_names f fd) (c__law_row : Cal P w K mg base 2 "_law_row" (sp__law_row K) []) : FnOk P w K mg base CX0 3 f fd ["_law_cell_here", "_law_many"] (sp__law_names K) := by
  have nd := sc__law_names.nd
  refine F.ok sc__law_names (fun vs H Q E h => ?_) (fun cdv A outer s H vs Q E hr h => ?_)
  · obtain ⟨c, m, rfl, _⟩ := h
    rfl
  · obtain ⟨c, m, rfl, hm, q⟩ := h
    refine ⟨_, (pss_cons (ps_set (i := 2) nd rfl (.inl rfl) (pe_c c__law_row hr (by omega) (by rfl) (pa_cons (pv 0) (pa_cons (pe_op op_cat (pe_lst (pa_cons pe_int (pa_cons pe_int (pa_cons pe_int pa_nil)))) (pe_op op_rep (pe_lst (pa_cons pe_int (pa_cons pe_int (pa_cons pe_int (pa_cons pe_int (pa_cons pe_int (pa_cons pe_int pa_nil))))))) (pv 1))) pa_nil))))
      (pss_cons (ps_set (i := 3) nd rfl (.inl rfl) (pe_lst pa_nil))
      (pss_cons (ps_for PassesOwn.never rfl (pi_range1 (by rfl) T.m_range (pa_cons (pv 1) pa_nil)) (pg_name (i := 4) nd rfl (.inl rfl)) (pss_cons (ps_set (i := 5) nd rfl (.inl rfl) (pe_slice sl_list (pv 2) (po_some (pe_op op_add pe_int (pe_op op_mul pe_int (pv 4)))) (po_some (pe_op op_add pe_int (pe_op op_mul pe_int (pv 4))))))
      (pss_cons (ps_if (pt_cmpR op_eq (pe_ix (r := rIxL K) ix_list (pv 2) pe_int (fun _ _ => rfl)) pe_int (nomark _)) (pss_one (ps_set (i := 5) nd rfl (.inl rfl) (pe_slice sl_list (pv 2) (po_some pe_int) (po_some pe_int)))) pss_nil)
      (pss_cons (ps_set (i := 6) nd rfl (.inl rfl) (pe_join pe_str (pe_lc (own := [("_law_digit", 9)]) (g := gName 9) (tt := tYes) rfl nd (pi_list (pe_slice sl_list (pv 5) (po_some pe_int) (po_some (pe_op op_add pe_int (pe_ix (r := rIxL K) ix_list (pv 5) pe_int (fun _ _ => rfl)))))) (blkOk_by (N := ["_law_cell_here", "_law_many", "_law_row_here", "_law_names_here", "_law_k", "_law_own", "_law_text", "_law_at", "_law_letter", "_law_digit"]) (sc := defScope s__law_names) (by decide +kernel)) (fun _ _ _ _ _ => (pg_name (i := 9) nd rfl (.inl rfl))) (fun _ _ _ _ _ => pts_nil) (fun _ _ _ _ _ => (pe_ix ix_str pe_str (pv 9) (fun _ _ => rfl))))))
      (pss_cons (ps_set (i := 7) nd rfl (.inl rfl) (pe_op op_mod (pe_callTy call_int1 (by rfl) T.m_int (by decide +kernel) (pa_cons (pe_ix (r := rIxL K) ix_list (pv 2) pe_int (fun _ _ => rfl)) pa_nil)) (pe_op op_add (pe_callB call_len (by rfl) T.m_len (by decide +kernel) (pa_cons (pv 6) pa_nil)) pe_int)))
      (pss_cons (ps_set (i := 8) nd rfl (.inl rfl) (pe_ix ix_str pe_str (pe_op op_mod (pe_callTy call_int1 (by rfl) T.m_int (by decide +kernel) (pa_cons (pe_op op_add (pe_ix (r := rIxL K) ix_list (pv 2) pe_int (fun _ _ => rfl)) (pe_op op_mul pe_int (pv 4))) pa_nil)) pe_int) (fun _ _ => rfl)))
      (pss_one (ps_expr (pe_bm PySem.F.plainAttrs_list PySem.F.slot_list_append PySem.F.type_list_append mt_append (pv 3) (pa_cons (pe_op op_add_str (pe_op op_add_str (pe_slice sl_str (pv 6) po_none (po_some (pv 7))) (pv 8)) (pe_slice sl_str (pv 6) (po_some (pv 7)) po_none)) pa_nil))))))))))
      (pss_one (ps_ret (pv 3)))))), ?_⟩
    refine ⟨.int c, rfl, szl rfl, fun p1 n1 => ⟨szl rfl, fun p2 n2 => ⟨.int m, rfl, p2, m, [.int 6, .int 13, .int 13, .int 13, .int 13, .int 13], rfl, rfl, upd_same, by omega, by omega, smallE (by show 6 * (m : Int).toNat ≤ _; omega), fun p3 n3 => ?_⟩⟩⟩
    have em : (m : Int).toNat = m := Int.toNat_natCast m
    rw [em]
    have s1 := same_upd (o := .lst [.int 13, .int 2, .int 6]) n1
    have s2 := same_upd (o := .lst [.int 6, .int 13, .int 13, .int 13, .int 13, .int 13]) n2
    have s3 := same_upd (o := .lst (List.replicate m [V.int 6, .int 13, .int 13, .int 13, .int 13, .int 13]).flatten) n3
    refine ⟨p1, p3, [.int 13, .int 2, .int 6], _, rfl, rfl, s3 _ _ (s2 _ _ upd_same), upd_same, smallE (by rw [flat_len]; show 3 + 6 * m ≤ _; omega), fun p4 n4 => ?_⟩
    have s4 := (s1.trans (s2.trans s3)).trans (same_upd (o := .lst ([.int 13, .int 2, .int 6] ++ (List.replicate m [V.int 6, .int 13, .int 13, .int 13, .int 13, .int 13]).flatten)) n4)
    have e4 : (upd (upd (upd (upd H p1 (.lst [.int 13, .int 2, .int 6])) p2 (.lst [.int 6, .int 13, .int 13, .int 13, .int 13, .int 13])) p3 (.lst (List.replicate m [V.int 6, .int 13, .int 13, .int 13, .int 13, .int 13]).flatten)) p4 (.lst ([.int 13, .int 2, .int 6] ++ (List.replicate m [V.int 6, .int 13, .int 13, .int 13, .int 13, .int 13]).flatten))) p4 = some (.lst ((szN m).map V.int)) := by
      rw [upd_same, ← szN_map]; rfl
    generalize upd (upd (upd (upd H p1 (.lst [.int 13, .int 2, .int 6])) p2 (.lst [.int 6, .int 13, .int 13, .int 13, .int 13, .int 13])) p3 (.lst (List.replicate m [V.int 6, .int 13, .int 13, .int 13, .int 13, .int 13]).flatten)) p4 (.lst ([.int 13, .int 2, .int 6] ++ (List.replicate m [V.int 6, .int 13, .int 13, .int 13, .int 13, .int 13]).flatten)) = G at s4 e4
    refine ⟨c, p4, szN m, rfl, .inl (.inl e4), by rw [szN_len]; omega, fun x hx => szN_good hx, fun H1 R rs sm nR eR hrl hb => ?_⟩
    have sH : Same H H1 := s4.trans sm
    refine ⟨szl rfl, fun N nN => ?_⟩
    have s5 := same_upd (o := .lst []) nN
    have nNH : H N = none := sH.free nN
    have eR5 := s5 _ _ eR
    have nNR : R ≠ N := ne_of_none eR nN
    refine ⟨.int m, rfl, m, rfl, by omega, by omega, ?_⟩
    refine for_range (lo := 0) (fun i σ H' => ∃ (y4 y5 y6 y7 y8 : Option V) (zs : List Str), σ = [some (.int c), some (.int m), some (.ref R), some (.ref N), y4, y5, y6, y7, y8, none] ∧ Same H H' ∧ H' R = some (.lst (rs.map V.int)) ∧ H' N = some (.lst (zs.map V.str)) ∧ zs.length = i ∧ ∀ z ∈ zs, nameB (.str z) = true)
      ⟨_, _, _, _, _, [], rfl, sH.trans s5, eR5, upd_same, rfl, fun z hz => nomatch hz⟩ (fun i σ H' hi hP => ?_) (fun σ H' hP => ?_)
    · rw [em] at hi
      obtain ⟨y4, y5, y6, y7, y8, zs, rfl, S, eR, eN, lz, hz⟩ := hP
      have e0 : (0 : Int) + (i : Nat) = (i : Nat) := by omega
      rw [e0]
      have i0 : m ≠ 0 := by omega
      obtain ⟨r0, _, g0, l0, u0⟩ := row_at hrl hb (j := 0) (t := 13) rfl
      obtain ⟨r1, _, g1, l1, u1⟩ := row_at hrl hb (j := 1) (t := 2) rfl
      obtain ⟨r2, _, g2, l2, u2⟩ := row_at hrl hb (j := 2) (t := 6) rfl
      refine ⟨.ref R, rfl, .int (i : Nat), rfl, 6, (i : Nat), rfl, rfl, .inl ⟨by decide, by decide⟩, 3, _, rfl, rfl, _, rfl, .int (i : Nat), rfl, 6, (i : Nat), rfl, rfl, .inl ⟨by decide, by decide⟩, 9, _, rfl, rfl, _, rfl, R, rs.map V.int, rfl, .inl (.inl eR), fun w1 nw1 => ?_⟩
      have ec : cutV (rs.map V.int) (some (3 + 6 * ((i : Nat) : Int))) (some (9 + 6 * ((i : Nat) : Int))) = (((rs.drop (3 + 6 * i)).take 6)).map V.int := by
        rw [show (3 + 6 * ((i : Nat) : Int)) = ((3 + 6 * i : Nat) : Int) by omega, show (9 + 6 * ((i : Nat) : Int)) = ((9 + 6 * i : Nat) : Int) by omega, cut_nat, List.map_take, List.map_drop, show 9 + 6 * i - (3 + 6 * i) = 6 by omega]
      rw [ec]
      have sw1 := same_upd (o := .lst (((rs.drop (3 + 6 * i)).take 6).map V.int)) nw1
      have own1 := own_cut hrl hb hi
      refine KnC.asg_if (fun σ2 G => ∃ (wa : Addr) (os : List Int), σ2 = [some (.int c), some (.int m), some (.ref R), some (.ref N), some (.int (i : Nat)), some (.ref wa), y6, y7, y8, none] ∧ Same H' G ∧ G wa = some (.lst (os.map V.int)) ∧ Own os) (fun go => ?_) (fun σ2 G hT => ?_)
      · refine ⟨.ref R, rfl, R, rs.map V.int, 1, .int r1, rfl, rfl, .inl (.inl (sw1 _ _ eR)), atI_nat (j := 1) g1, rfl, _, rfl, ite2 (fun e => ?_) (fun e => ?_)⟩
        · refine ⟨.ref R, rfl, _, rfl, _, rfl, R, rs.map V.int, rfl, .inl (.inl (sw1 _ _ eR)), fun w2 nw2 => ?_⟩
          refine go _ _ ⟨w2, (rs.drop 3).take 6, rfl, sw1.trans (same_upd nw2), ?_, own_cut hrl hb (k := 0) (by omega)⟩
          rw [upd_same, show (some (3 : Int)) = some ((3 : Nat) : Int) from rfl, show (some (9 : Int)) = some ((9 : Nat) : Int) from rfl, cut_nat, List.map_take, List.map_drop]
        · exact go _ _ ⟨w1, _, rfl, sw1, upd_same, own1⟩
      · obtain ⟨wa, os, rfl, SG, ewa, lo, ow⟩ := hT
        obtain ⟨o0, go0, gV, l0', u0'⟩ := row_at (rs := os) (ss := [6, 13, 13, 13, 13, 13]) lo ow (j := 0) (t := 6) rfl
        have eRG := SG _ _ eR
        have eNG := SG _ _ eN
        refine ⟨⟨"", rfl⟩, .ref wa, rfl, 1, rfl, .ref wa, rfl, wa, os.map V.int, 0, .int o0, rfl, rfl, .inl (.inl ewa), atI_nat (j := 0) gV, 1, o0, rfl, rfl, _, rfl, wa, os.map V.int, rfl, .inl (.inl ewa), fun cc nc => ?_⟩
        have cs_ : cutV (os.map V.int) (some 1) (some (1 + o0)) = ((os.drop 1).take o0.toNat).map V.int := by
          rw [show (1 + o0) = ((1 + o0.toNat : Nat) : Int) by omega, show (some (1 : Int)) = some ((1 : Nat) : Int) from rfl, cut_nat, List.map_take, List.map_drop, show 1 + o0.toNat - 1 = o0.toNat by omega]
        rw [cs_]
        have scc := same_upd (o := .lst (((os.drop 1).take o0.toNat).map V.int)) nc
        have ecc : (upd G cc (.lst (((os.drop 1).take o0.toNat).map V.int))) cc = some (.lst (((os.drop 1).take o0.toNat).map V.int)) := upd_same
        have lcs : ((os.drop 1).take o0.toNat).length ≤ 5 := by rw [List.length_take, List.length_drop]; omega
        have mcs : ∀ (j : Nat) (r : Int), ((os.drop 1).take o0.toNat)[j]? = some r → 0 ≤ r ∧ r < 13 := fun j r e => by
          have hj : j < o0.toNat := by
            have := (List.getElem?_eq_some_iff.mp e).1
            rw [List.length_take] at this
            omega
          rw [List.getElem?_take_of_lt hj, List.getElem?_drop] at e
          refine ow (1 + j) r 13 e ?_
          have : j < 5 := by omega
          rcases j with _ | _ | _ | _ | _ | j
          · rfl
          · rfl
          · rfl
          · rfl
          · rfl
          · omega
        generalize (os.drop 1).take o0.toNat = cs at scc ecc lcs mcs
        generalize upd G cc (.lst (cs.map V.int)) = G1 at scc ecc
        refine ⟨cc, rfl, ⟨_, .inl (.inl ecc)⟩, fun D nD => lc_list (K := K) (a := cc) (xs := cs.map V.int) (fun i H' => Same G1 H' ∧ ∃ ys : List Str, H' D = some (.lst (ys.map V.str)) ∧ ys.length = i ∧ (∀ y ∈ ys, y.cps.size = 1) ∧ ∀ y ∈ ys, ∀ c ∈ y.cps.toList, inL c = true)
          ⟨same_upd nD, [], upd_same, rfl, (fun y hy => nomatch hy), fun y hy => nomatch hy⟩ (fun i H' _ hP => hP.1.seq (.inl (.inl ecc))) (fun i x H' hx hP => ?_) (fun H' hP => ?_)⟩
        · obtain ⟨sm', ys, eD, hl, h1, h2⟩ := hP
          rw [List.getElem?_map] at hx
          cases gx : cs[i]? with
          | none => rw [gx] at hx; cases hx
          | some r =>
          rw [gx] at hx
          cases hx
          obtain ⟨l, u⟩ := mcs i r gx
          have hi : i < cs.length := (List.getElem?_eq_some_iff.mp gx).1
          obtain ⟨j, rfl⟩ : ∃ j : Nat, r = (j : Int) := ⟨r.toNat, by omega⟩
          have hj : j < half1.cps.toList.length := by
            have : half1.cps.toList.length = 13 := by decide
            omega
          refine ⟨rfl, ?_⟩
          unfold tYes
          refine iteT ?_
          refine ⟨.int j, rfl, half1, (j : Int), half1.cps.toList[j], rfl, rfl, smallE (by decide), atI_nat (List.getElem?_eq_getElem hj), ys.map V.str, eD, ?_, same_set nD sm', ys ++ [⟨#[half1.cps.toList[j]]⟩], ?_, ?_, ?_, ?_⟩
          · rw [List.length_map]; exact small (by omega)
          · rw [upd_same, List.map_append]; rfl
          · rw [List.length_append, hl]; rfl
          · intro y hy
            rcases List.mem_append.mp hy with hy | hy
            · exact h1 y hy
            · rw [List.mem_singleton.mp hy]; rfl
          · intro y hy c hc
            rcases List.mem_append.mp hy with hy | hy
            · exact h2 y hy c hc
            · rw [List.mem_singleton.mp hy] at hc
              rw [List.mem_singleton.mp (show c ∈ [half1.cps.toList[j]] from hc)]
              exact half1_in _ (List.getElem_mem hj)
        · obtain ⟨sm', ys, eD, hl, h1, h2⟩ := hP
          rw [List.length_map] at hl
          have hz1 := join_size h1
          have hin := join_mem h2
          have hs : (ys.map (·.length)).sum + ys.length * ("" : Str).length ≤ 16777216 := by rw [join_sum h1]; omega
          have SG' : Same G H' := scc.trans sm'
          have eRF := SG' _ _ eRG
          have eNF := SG' _ _ eNG
          have SF := S.trans (SG.trans SG')
          refine ⟨"", D, ys, rfl, rfl, .inl (.inl (.inl eD)), hs, ?_⟩
          generalize Txt.join "" ys = z at hz1 hin ⊢
          have hz5 : z.cps.size ≤ 5 := by omega
          have hzl : z.length ≤ sizeLine := smallE (show z.cps.size ≤ 100000 by omega)
          refine ⟨.ref R, rfl, R, rs.map V.int, 2, .int r2, rfl, rfl, .inl (.inl eRF), atI_nat (j := 2) g2, .inl ⟨r2, rfl, .str z, rfl, .str z, z.cps.size, rfl, ⟨hzl, rfl⟩, (z.cps.size : Int), 1, rfl, rfl, r2, (z.cps.size : Int) + 1, rfl, rfl, (show (0 : Int) < (z.cps.size : Int) + 1 by omega), ?_⟩⟩
          obtain ⟨j, ej⟩ : ∃ j : Nat, (r0 + 5 * ((i : Nat) : Int)) % 13 = (j : Int) := ⟨((r0 + 5 * ((i : Nat) : Int)) % 13).toNat, by omega⟩
          have hj : j < half2.cps.toList.length := by
            have : half2.cps.toList.length = 13 := by decide
            omega
          refine ⟨.ref R, rfl, R, rs.map V.int, 0, .int r0, rfl, rfl, .inl (.inl eRF), atI_nat (j := 0) g0, .int (i : Nat), rfl, 5, (i : Nat), rfl, rfl, .inl ⟨by decide, by decide⟩, r0, _, rfl, rfl, .inl ⟨_, rfl, _, 13, rfl, rfl, (show (0 : Int) < 13 by decide), half2, _, half2.cps.toList[j], rfl, rfl, smallE (by decide), by rw [ej]; exact atI_nat (List.getElem?_eq_getElem hj), ?_⟩⟩
          refine ⟨.ref N, rfl, .inl ⟨rfl, _, .inl (.inl eNF)⟩, .str z, rfl, _, rfl, _, rfl, z, rfl, hzl, .str _, rfl, _, _, rfl, rfl, ?_, .str z, rfl, _, rfl, _, rfl, z, rfl, hzl, _, _, rfl, rfl, ?_, N, _, _, rfl, rfl, eNF, ?_, ?_⟩
          · refine smallE ?_
            have := cutS_length z none (some (r2 % ((z.cps.size : Int) + 1)))
            show (cutS z none _).cps.size + 1 ≤ 100000
            omega
          · refine smallE ?_
            have h1 := cutS_length z none (some (r2 % ((z.cps.size : Int) + 1)))
            have h2 := cutS_length z (some (r2 % ((z.cps.size : Int) + 1))) none
            show ((cutS z none _) ++ (⟨#[_]⟩ : Str)).cps.size + (cutS z _ none).cps.size ≤ 100000
            rw [app_size]
            show (cutS z none _).cps.size + 1 + _ ≤ _
            omega
          · exact small (by rw [List.length_map]; omega)
          · refine ⟨_, _, _, _, _, zs ++ [_], rfl, same_set nNH SF, (upd_ne nNR).trans eRF, by rw [upd_same, List.map_append]; rfl, by rw [List.length_append, lz]; rfl, fun y hy => ?_⟩
            rcases List.mem_append.mp hy with hy | hy
            · exact hz y hy
            · rw [List.mem_singleton.mp hy]
              have h1 := cutS_length z none (some (r2 % ((z.cps.size : Int) + 1)))
              have h2 := cutS_length z (some (r2 % ((z.cps.size : Int) + 1))) none
              have sz : (cutS z none (some (r2 % ((z.cps.size : Int) + 1))) ++ (⟨#[half2.cps.toList[j]]⟩ : Str) ++ cutS z (some (r2 % ((z.cps.size : Int) + 1))) none).cps.size = (cutS z none (some (r2 % ((z.cps.size : Int) + 1)))).cps.size + 1 + (cutS z (some (r2 % ((z.cps.size : Int) + 1))) none).cps.size := by
                rw [app_size, app_size]; rfl
              show (decide _ && decide _ && List.all _ inL) = true
              rw [sz, Bool.and_eq_true, Bool.and_eq_true, List.all_eq_true]
              refine ⟨⟨decide_eq_true (by omega), decide_eq_true (by omega)⟩, fun c hc => ?_⟩
              rcases app_mem hc with hc | hc
              · rcases app_mem hc with hc | hc
                · exact hin c (cutS_mem hc)
                · rw [List.mem_singleton.mp (show c ∈ [half2.cps.toList[j]] from hc)]
                  exact half2_in _ (List.getElem_mem hj)
              · exact hin c (cutS_mem hc)
    · rw [em] at hP
      obtain ⟨y4, y5, y6, y7, y8, zs, rfl, S, eR, eN, lz, hz⟩ := hP
      exact ⟨.ref N, rfl, q H' N zs S nNH eN lz hz⟩

/-! ### a drawn machine -/
theorem paired_take {α β : Type} {F : α → β → Prop} {l : List α} {m : List β} (h : Paired F l m) : ∀ n, Paired F (l.take n) (m.take n) := by
  induction h with
  | nil => intro n; rw [List.take_nil, List.take_nil]; exact .nil
  | cons r _ ih =>
    intro n
    cases n with
    | zero => exact .nil
    | succ n => exact .cons r (ih n)
theorem paired_drop {α β : Type} {F : α → β → Prop} {l : List α} {m : List β} (h : Paired F l m) : ∀ n, Paired F (l.drop n) (m.drop n) := by
  induction h with
  | nil => intro n; rw [List.drop_nil, List.drop_nil]; exact .nil
  | cons r k ih =>
    intro n
    cases n with
    | zero => exact .cons r k
    | succ n => exact ih n
theorem paired_app {α β : Type} {F : α → β → Prop} {l l' : List α} {m m' : List β} (h : Paired F l m) (h' : Paired F l' m') : Paired F (l ++ l') (m ++ m') := by
  induction h with
  | nil => exact h'
  | cons r _ ih => exact .cons r ih
/-- steps of a drawn machine: `most` the greatest number that leave one state -/
structure Drawn (ls : List Int) (names : List Str) (ss : List KnA.Stp) (most : Nat) : Prop where
  nd : ss.Nodup
  good : ∀ x ∈ ss, x.1 ∈ ls ∧ x.2.1 ∈ names ∧ x.2.2 ∈ ls
  few : ∀ s, cnt ss s ≤ most
theorem cnt_app (l m : List KnA.Stp) (s : Int) : cnt (l ++ m) s = cnt l s + cnt m s := by
  unfold cnt
  rw [List.filter_append, List.length_append]
theorem cnt_one (x : KnA.Stp) (s : Int) : cnt [x] s ≤ 1 := List.length_filter_le _ _
theorem Drawn.push {ls : List Int} {names : List Str} {ss : List KnA.Stp} {most : Nat} (h : Drawn ls names ss most) {x : KnA.Stp} (hx : x ∉ ss) (g : x.1 ∈ ls ∧ x.2.1 ∈ names ∧ x.2.2 ∈ ls) : Drawn ls names (ss ++ [x]) (most + 1) := by
  refine ⟨?_, fun y hy => ?_, fun s => ?_⟩
  · refine List.nodup_append.mpr ⟨h.nd, by simp, fun a ha b hb e => ?_⟩
    rw [List.mem_singleton] at hb
    exact hx (hb ▸ e ▸ ha)
  · rcases List.mem_append.mp hy with q | q
    · exact h.good y q
    · rw [List.mem_singleton.mp q]; exact g
  · rw [cnt_app]
    have := h.few s
    have := cnt_one x s
    omega
theorem Drawn.up {ls : List Int} {names : List Str} {ss : List KnA.Stp} {m n : Nat} (h : Drawn ls names ss m) (k : m ≤ n) : Drawn ls names ss n := ⟨h.nd, h.good, fun s => Nat.le_trans (h.few s) k⟩
theorem Drawn.turn {ls : List Int} {names : List Str} {ss : List KnA.Stp} {m : Nat} (h : Drawn ls names ss m) (t : Nat) : Drawn ls names (ss.drop t ++ ss.take t) m := by
  have p : (ss.drop t ++ ss.take t).Perm ss := by
    have := List.perm_append_comm (l₁ := ss.drop t) (l₂ := ss.take t)
    rwa [List.take_append_drop] at this
  refine ⟨p.symm.nodup h.nd, fun x hx => h.good x (p.mem_iff.mp hx), fun s => ?_⟩
  have e : cnt (ss.drop t ++ ss.take t) s = cnt ss s := (p.filter _).length_eq
  rw [e]
  exact h.few s
/-- the base: each label has one step -/
theorem cnt_base {ss : List KnA.Stp} (h : (ss.map (·.1)).Nodup) (s : Int) : cnt ss s ≤ 1 := by
  unfold cnt
  induction ss with
  | nil => exact Nat.zero_le _
  | cons x r ih =>
    rw [List.map_cons, List.nodup_cons] at h
    by_cases e : x.1 = s
    · rw [List.filter_cons_of_pos (by simp [e])]
      have : r.filter (fun y => decide (y.1 = s)) = [] := List.filter_eq_nil_iff.mpr fun y hy z => h.1 (by
        have e2 := of_decide_eq_true z
        exact List.mem_map.mpr ⟨y, hy, e2.trans e.symm⟩)
      rw [this]
      exact Nat.le_refl _
    · rw [List.filter_cons_of_neg (by simp [e])]
      exact ih h.2
theorem nodup_base {ss : List KnA.Stp} (h : (ss.map (·.1)).Nodup) : ss.Nodup := by
  have := List.pairwise_map.mp h
  exact this.imp fun hne e => hne (congrArg (·.1) e)
def strides : List Int := [1, 3, 7, 9, 11, 13, 17, 19]
def labs (r st : Int) (n : Nat) : List Int := (List.range n).map fun (k : Nat) => (r + st * (k : Int)) % 100
theorem labs_len (r st : Int) (n : Nat) : (labs r st n).length = n := by unfold labs; rw [List.length_map, List.length_range]
theorem labs_succ (r st : Int) (n : Nat) : labs r st (n + 1) = labs r st n ++ [(r + st * (n : Int)) % 100] := by
  unfold labs
  rw [List.range_succ, List.map_append]; rfl
theorem labs_in {r st : Int} {n : Nat} {x : Int} (h : x ∈ labs r st n) : 0 ≤ x ∧ x ≤ 99 := by
  obtain ⟨k, _, rfl⟩ := List.mem_map.mp h
  have h1 := Int.emod_nonneg (r + st * (k : Int)) (show (100 : Int) ≠ 0 by decide)
  have h2 := Int.emod_lt_of_pos (r + st * (k : Int)) (show (0 : Int) < 100 by decide)
  omega
theorem labs_nd {r st : Int} {n : Nat} (hs : st ∈ strides) (hn : n ≤ 100) : (labs r st n).Nodup := by
  unfold labs
  refine List.pairwise_map.mpr (List.nodup_range.imp_of_mem fun {a b} ha hb ne e => ne ?_)
  have ha := List.mem_range.mp ha
  have hb := List.mem_range.mp hb
  unfold strides at hs
  simp only [List.mem_cons, List.not_mem_nil, or_false] at hs
  rcases hs with rfl | rfl | rfl | rfl | rfl | rfl | rfl | rfl <;> omega
theorem stateB_of {x : Int} (h : 0 ≤ x ∧ x ≤ 99) : stateB (.int x) = true := by
  show (decide (0 ≤ x) && decide (x ≤ 99)) = true
  rw [decide_eq_true h.1, decide_eq_true h.2]; rfl
/-- a drawn machine: its labels, the steps of each, a word that is used -/
structure DrawnM (ls : List Int) (names : List Str) (ss : List KnA.Stp) : Prop where
  ne : ls ≠ []
  few : ls.length ≤ 8
  st : ∀ x ∈ ls, stateB (.int x) = true
  dr : Drawn ls names ss 8
  all : ∀ x ∈ ls, ∃ w y, (x, w, y) ∈ ss
  hi : ss.length ≤ 80
  w0 : ∀ x, names[0]? = some x → x ∈ ss.map (·.2.1)
theorem DrawnM.steps {ls : List Int} {names : List Str} {ss : List KnA.Stp} (h : DrawnM ls names ss) (hn : ∀ z ∈ names, nameB (.str z) = true) : GoodSteps ss := by
  refine ⟨?_, h.hi, fun x hx => ⟨h.st _ (h.dr.good x hx).1, hn _ (h.dr.good x hx).2.1, h.st _ (h.dr.good x hx).2.2⟩, h.dr.nd, h.dr.few⟩
  obtain ⟨l, hl⟩ := List.exists_mem_of_ne_nil _ h.ne
  obtain ⟨w, y, hm⟩ := h.all l hl
  exact List.length_pos_of_mem hm
theorem DrawnM.live {ls : List Int} {names : List Str} {ss : List KnA.Stp} (h : DrawnM ls names ss) {s0 : Int} (hs : s0 ∈ ls) (x : Int) (r : KnA.Reach ss s0 x) : ∃ w y, (x, w, y) ∈ ss := by
  refine h.all x ?_
  induction r with
  | start => exact hs
  | step _ m _ => exact (h.dr.good _ m).2.2
def szM (n mo ex : Nat) : List Int := [(mo : Int), (ex : Int) + 1, 100, 8, 64] ++ (List.replicate mo [(n : Int) - 1, (mo : Int)]).flatten ++ (List.replicate ex [(mo : Int), (n : Int) + 2, (mo : Int)]).flatten
theorem szM_len (n mo ex : Nat) : (szM n mo ex).length = 5 + 2 * mo + 3 * ex := by
  unfold szM
  rw [List.length_append, List.length_append, flat_len, flat_len]; rfl
theorem szM_base {n mo ex k j : Nat} (hk : k < mo) (hj : j < 2) : (szM n mo ex)[5 + 2 * k + j]? = ([(n : Int) - 1, (mo : Int)] : List Int)[j]? := by
  unfold szM
  have l5 : ([(mo : Int), (ex : Int) + 1, 100, 8, 64] : List Int).length = 5 := rfl
  have l2 : (List.replicate mo [(n : Int) - 1, (mo : Int)]).flatten.length = 2 * mo := flat_len _ _
  rw [List.getElem?_append_left (by rw [List.length_append, l5, l2]; omega), List.getElem?_append_right (by rw [l5]; omega), l5, show 5 + 2 * k + j - 5 = 2 * k + j by omega]
  exact flat_get (l := ([(n : Int) - 1, (mo : Int)] : List Int)) (j := j) hj hk
theorem szM_more {n mo ex k j : Nat} (hk : k < ex) (hj : j < 3) : (szM n mo ex)[5 + 2 * mo + 3 * k + j]? = ([(mo : Int), (n : Int) + 2, (mo : Int)] : List Int)[j]? := by
  unfold szM
  have l5 : ([(mo : Int), (ex : Int) + 1, 100, 8, 64] : List Int).length = 5 := rfl
  have l2 : (List.replicate mo [(n : Int) - 1, (mo : Int)]).flatten.length = 2 * mo := flat_len _ _
  rw [List.getElem?_append_right (by rw [List.length_append, l5, l2]; omega), List.length_append, l5, l2, show 5 + 2 * mo + 3 * k + j - (5 + 2 * mo) = 3 * k + j by omega]
  exact flat_get (l := ([(mo : Int), (n : Int) + 2, (mo : Int)] : List Int)) (j := j) hj hk
theorem szM_good {n mo ex : Nat} (h1 : 2 ≤ n) (h2 : n ≤ 100) (h3 : 1 ≤ mo) (h4 : mo ≤ 100) (h5 : ex ≤ 100) {x : Int} (h : x ∈ szM n mo ex) : 0 < x ∧ x < 1073741824 := by
  unfold szM at h
  rcases List.mem_append.mp h with h | h
  · rcases List.mem_append.mp h with h | h
    · simp at h; omega
    · have := flat_mem h
      simp at this; omega
  · have := flat_mem h
    simp at this; omega
/-- steps as data -/
def dat (x : KnA.Stp) : PyData := .tuple [.int x.1, .str x.2.1, .int x.2.2]
theorem dat_eq (x y : KnA.Stp) : PyData.eqv (dat x) (dat y) = decide (x = y) := by
  obtain ⟨a, b, c⟩ := x
  obtain ⟨a', b', c'⟩ := y
  show ((a == a') && ((b == b') && ((c == c') && true))) = decide ((a, b, c) = (a', b', c'))
  by_cases e1 : a = a' <;> by_cases e2 : b = b' <;> by_cases e3 : c = c' <;> simp [e1, e2, e3]
theorem dat_any (ss : List KnA.Stp) (x : KnA.Stp) : ((ss.map dat).any fun z => PyData.eqv z (dat x)) = decide (x ∈ ss) := by
  induction ss with
  | nil => rfl
  | cons y r ih =>
    rw [List.map_cons, List.any_cons, ih, dat_eq]
    by_cases e : y = x
    · subst e; simp
    · have e' : ¬ x = y := fun q => e q.symm
      simp [e, e']
theorem strOk_name {z : Str} (h : nameB (.str z) = true) : PyData.strOk z = true := by
  have h' : (decide (1 ≤ z.cps.size) && decide (z.cps.size ≤ 12) && z.cps.toList.all inL) = true := h
  rw [Bool.and_eq_true] at h'
  have hl : ∀ c ∈ letters.cps.toList, c < 0x110000 := by decide +kernel
  unfold PyData.strOk
  rw [Array.all_eq_true]
  intro i hi
  have hm : z.cps[i] ∈ z.cps.toList := Array.getElem_mem_toList hi
  exact decide_eq_true (hl _ (of_decide_eq_true (List.all_eq_true.mp h'.2 _ hm)))
theorem dat_shaped {x : KnA.Stp} (h : nameB (.str x.2.1) = true) : SeqAt.shaped (dat x) = true := by
  unfold SeqAt.shaped
  have h1 : (dat x).canLay0 = true := by
    show (true && (PyData.strOk x.2.1 && (true && true))) = true
    rw [strOk_name h]; rfl
  have h2 : (dat x).depth = 1 := by
    show max 0 (max 0 (max 0 0)) + 1 = 1
    rfl
  rw [h1, h2]; rfl
theorem dats_shaped {ss : List KnA.Stp} (h : ∀ x ∈ ss, nameB (.str x.2.1) = true) : SeqAt.shaped (.list (ss.map dat)) = true := by
  have h1 : PyData.canLayAll0 (ss.map dat) = true ∧ PyData.depthAll (ss.map dat) ≤ 1 := by
    induction ss with
    | nil => exact ⟨rfl, Nat.zero_le _⟩
    | cons x r ih =>
      obtain ⟨a, b⟩ := ih fun y hy => h y (List.mem_cons_of_mem _ hy)
      refine ⟨?_, ?_⟩
      · show ((true && (PyData.strOk x.2.1 && (true && true))) && PyData.canLayAll0 (r.map dat)) = true
        rw [strOk_name (h x List.mem_cons_self), a]; rfl
      · show max (max 0 (max 0 (max 0 0)) + 1) (PyData.depthAll (r.map dat)) ≤ 1
        omega
  unfold SeqAt.shaped
  have h2 : (PyData.list (ss.map dat)).canLay0 = true := h1.1
  have h3 : (PyData.list (ss.map dat)).depth ≤ 64 := by
    show PyData.depthAll (ss.map dat) + 1 ≤ 64
    omega
  rw [h2, decide_eq_true h3]; rfl
theorem dps {K : PySem.W.Frag} {H : Hp} {as : List Addr} {ss : List KnA.Stp} (h : Stps H as ss) : DpAll K H (as.map V.ref) (ss.map dat) := by
  induction h with
  | nil => exact .nil
  | cons r _ ih => exact .cons (.tup (.inl (.inl r)) (.cons (.int _) (.cons (.str _) (.cons (.int _) .nil)))) ih
theorem cut_from {xs : List V} {a : Nat} : cutV xs (some (a : Int)) none = xs.drop a := by
  unfold cutV
  rw [HT.sIx_nat, HT.sIx_none]
  by_cases h : a ≤ xs.length
  · rw [Nat.min_eq_left h, List.take_of_length_le (by rw [List.length_drop]; omega)]
  · rw [Nat.min_eq_right (by omega : xs.length ≤ a), List.drop_of_length_le (Nat.le_refl _), List.drop_of_length_le (by omega), List.take_nil]
theorem cut_to {xs : List V} {a : Nat} : cutV xs none (some (a : Int)) = xs.take a := by
  unfold cutV
  rw [HT.sIx_nat, HT.sIx_none, List.drop_zero, Nat.sub_zero]
  by_cases h : a ≤ xs.length
  · rw [Nat.min_eq_left h]
  · rw [Nat.min_eq_right (by omega : xs.length ≤ a), List.take_of_length_le (Nat.le_refl _), List.take_of_length_le (by omega)]
theorem str_dec {a b : Str} : decide (V.str a = V.str b) = decide (a = b) := by
  by_cases e : a = b
  · subst e; simp
  · rw [decide_eq_false e, decide_eq_false fun z => e (V.str.inj z)]

def sp__law_machine (_ : PySem.W.Frag) : Sp := fun vs H Q _ => ∃ (c : Int) (n : Addr) (names : List Str) (mo ex : Nat), vs = [.int c, .ref n, .int (mo : Int), .int (ex : Int)] ∧ H n = some (.lst (names.map V.str)) ∧
  2 ≤ names.length ∧ names.length ≤ 14 ∧ (∀ z ∈ names, nameB (.str z) = true) ∧ 1 ≤ mo ∧ mo ≤ 8 ∧ ex ≤ 6 ∧
  ∀ H' t lb sl (ls : List Int) as ss, Same H H' → H' t = some (.lst [.ref lb, .ref sl]) → H lb = none → H sl = none → lb ≠ sl → H' lb = some (.lst (ls.map V.int)) → H' sl = some (.lst (as.map V.ref)) → Stps H' as ss → DrawnM ls names ss → Q (.ref t) H'
theorem ok__law_machine {f : Addr} {C : Addr} {fd : FuncData} (T : Txt K mg C) (F : Fun K "_law_machine" "_law_machine" s__law_machine f fd) (c__law_row : Cal P w K mg base 2 "_law_row" (sp__law_row K) []) : FnOk P w K mg base CX0 3 f fd ["_law_cell_here", "_law_names_here", "_law_most", "_law_extra"] (sp__law_machine K) := by
  have nd := sc__law_machine.nd
  refine F.ok sc__law_machine (fun vs H Q E h => ?_) (fun cdv A outer s H vs Q E hr h => ?_)
  · obtain ⟨c, n, names, mo, ex, rfl, _⟩ := h
    rfl
  · obtain ⟨c, n, names, mo, ex, rfl, hn, ln2, ln14, hnm, mo1, mo8, ex6, q⟩ := h
    refine ⟨_, (pss_cons (ps_set (i := 4) nd rfl (.inl rfl) (pe_op op_cat (pe_lst (pa_cons (pv 2) (pa_cons (pe_op op_add (pv 3) pe_int) (pa_cons pe_int (pa_cons pe_int (pa_cons pe_int pa_nil)))))) (pe_op op_rep (pe_lst (pa_cons (pe_op op_sub (pe_callB call_len (by rfl) T.m_len (by decide +kernel) (pa_cons (pv 1) pa_nil)) pe_int) (pa_cons (pv 2) pa_nil))) (pv 2))))
      (pss_cons (ps_set (i := 5) nd rfl (.inr rfl) (pe_c c__law_row hr (by omega) (by rfl) (pa_cons (pv 0) (pa_cons (pe_op op_cat (pv 4) (pe_op op_rep (pe_lst (pa_cons (pv 2) (pa_cons (pe_op op_add (pe_callB call_len (by rfl) T.m_len (by decide +kernel) (pa_cons (pv 1) pa_nil)) pe_int) (pa_cons (pv 2) pa_nil)))) (pv 3))) pa_nil))))
      (pss_cons (ps_set (i := 6) nd rfl (.inl rfl) (pe_op op_add pe_int (pe_ix (r := rIxL K) ix_list (pv 5) pe_int (fun _ _ => rfl))))
      (pss_cons (ps_set (i := 7) nd rfl (.inr rfl) (pe_ix (r := rIxL K) ix_list (pe_lst (pa_cons pe_int (pa_cons pe_int (pa_cons pe_int (pa_cons pe_int (pa_cons pe_int (pa_cons pe_int (pa_cons pe_int (pa_cons pe_int pa_nil))))))))) (pe_ix (r := rIxL K) ix_list (pv 5) pe_int (fun _ _ => rfl)) (fun _ _ => rfl)))
      (pss_cons (ps_setLc (i := 8) (own := [("_law_k", 10)]) (g := gName 10) (tt := tYes) rfl nd rfl rfl (sw_true rfl rfl rfl (by decide +kernel)) (pi_range1 (by rfl) T.m_range (pa_cons (pv 6) pa_nil)) (blkOk_by (N := ["_law_cell_here", "_law_names_here", "_law_most", "_law_extra", "_law_sizes", "_law_row_here", "_law_many", "_law_stride", "_law_labels", "_law_steps", "_law_k", "_law_word", "_law_at", "_law_step", "_law_target", "_law_turn"]) (sc := defScope s__law_machine) (by decide +kernel)) (fun _ _ _ _ _ => (pg_name (i := 10) nd rfl (.inl rfl))) (fun _ _ _ _ _ => pts_nil) (fun _ _ _ _ _ => (pe_op op_mod (pe_callTy call_int1 (by rfl) T.m_int (by decide +kernel) (pa_cons (pe_op op_add (pe_ix (r := rIxL K) ix_list (pv 5) pe_int (fun _ _ => rfl)) (pe_op op_mul (pv 7) (pv 10))) pa_nil)) pe_int)))
      (pss_cons (ps_set (i := 9) nd rfl (.inl rfl) (pe_lst pa_nil))
      (pss_cons (ps_for PassesOwn.never rfl (pi_range1 (by rfl) T.m_range (pa_cons (pv 6) pa_nil)) (pg_name (i := 10) nd rfl (.inl rfl)) (pss_cons (ps_set (i := 11) nd rfl (.inl rfl) (pe_ix (r := rIxL K) ix_list (pv 1) (pe_op op_add pe_int (pe_ix (r := rIxL K) ix_list (pv 5) (pe_op op_add pe_int (pe_op op_mul pe_int (pv 10))) (fun _ _ => rfl))) (fun _ _ => rfl)))
      (pss_one (ps_expr (pe_bm PySem.F.plainAttrs_list PySem.F.slot_list_append PySem.F.type_list_append mt_append (pv 9) (pa_cons (pe_tup (pa_cons (pe_ix (r := rIxL K) ix_list (pv 8) (pv 10) (fun _ _ => rfl)) (pa_cons (pv 11) (pa_cons (pe_ix (r := rIxL K) ix_list (pv 8) (pe_op op_mod (pe_callTy call_int1 (by rfl) T.m_int (by decide +kernel) (pa_cons (pe_ix (r := rIxL K) ix_list (pv 5) (pe_op op_add pe_int (pe_op op_mul pe_int (pv 10))) (fun _ _ => rfl)) pa_nil)) (pv 6)) (fun _ _ => rfl)) pa_nil)))) pa_nil))))))
      (pss_cons (ps_for PassesOwn.never rfl (pi_range1 (by rfl) T.m_range (pa_cons (pe_ix (r := rIxL K) ix_list (pv 5) pe_int (fun _ _ => rfl)) pa_nil)) (pg_name (i := 10) nd rfl (.inl rfl)) (pss_cons (ps_set (i := 12) nd rfl (.inl rfl) (pe_op op_add (pe_callB call_len (by rfl) T.m_len (by decide +kernel) (pa_cons (pv 4) pa_nil)) (pe_op op_mul pe_int (pv 10))))
      (pss_cons (ps_set (i := 11) nd rfl (.inl rfl) (pe_ix (r := rIxL K) ix_list (pv 1) (pe_op op_mod (pe_callTy call_int1 (by rfl) T.m_int (by decide +kernel) (pa_cons (pe_ix (r := rIxL K) ix_list (pv 5) (pe_op op_add (pv 12) pe_int) (fun _ _ => rfl)) pa_nil)) (pe_callB call_len (by rfl) T.m_len (by decide +kernel) (pa_cons (pv 1) pa_nil))) (fun _ _ => rfl)))
      (pss_cons (ps_set (i := 13) nd rfl (.inl rfl) (pe_tup (pa_cons (pe_ix (r := rIxL K) ix_list (pv 8) (pe_op op_mod (pe_callTy call_int1 (by rfl) T.m_int (by decide +kernel) (pa_cons (pe_ix (r := rIxL K) ix_list (pv 5) (pv 12) (fun _ _ => rfl)) pa_nil)) (pv 6)) (fun _ _ => rfl)) (pa_cons (pv 11) pa_nil))))
      (pss_cons (ps_set (i := 13) nd rfl (.inl rfl) (pe_op op_catT (pv 13) (pe_tup (pa_cons (pe_ix (r := rIxL K) ix_list (pv 8) (pe_op op_mod (pe_callTy call_int1 (by rfl) T.m_int (by decide +kernel) (pa_cons (pe_ix (r := rIxL K) ix_list (pv 5) (pe_op op_add (pv 12) pe_int) (fun _ _ => rfl)) pa_nil)) (pv 6)) (fun _ _ => rfl)) pa_nil))))
      (pss_one (ps_if (pt_cmpR (op_notInD (KnC.un65 hr)) (pv 13) (pv 9) (by with_unfolding_all rfl)) (pss_one (ps_expr (pe_bm PySem.F.plainAttrs_list PySem.F.slot_list_append PySem.F.type_list_append mt_append (pv 9) (pa_cons (pv 13) pa_nil)))) pss_nil)))))))
      (pss_cons (ps_if (pt_cmpR op_eq (pe_callB call_len (by rfl) T.m_len (by decide +kernel) (pa_cons (pe_lc (own := [("_law_step", 13)]) (g := gName 13) rfl nd (pi_list (pv 9)) (blkOk_by (N := ["_law_cell_here", "_law_names_here", "_law_most", "_law_extra", "_law_sizes", "_law_row_here", "_law_many", "_law_stride", "_law_labels", "_law_steps", "_law_k", "_law_word", "_law_at", "_law_step", "_law_target", "_law_turn"]) (sc := defScope s__law_machine) (by decide +kernel)) (fun _ _ _ _ _ => (pg_name (i := 13) nd rfl (.inl rfl))) (fun _ _ _ _ _ => (pts_one (pt_cmpR op_eq (pe_ix (r := rIxT K) ix_tup (pv 13) pe_int (fun _ _ => rfl)) (pe_ix (r := rIxL K) ix_list (pv 1) pe_int (fun _ _ => rfl)) (nomark _)))) (fun _ _ _ _ _ => (pv 13))) pa_nil)) pe_int (nomark _)) (pss_cons (ps_set (i := 14) nd rfl (.inl rfl) (pe_ix (r := rIxL K) ix_list (pv 8) (pe_op op_mod (pe_callTy call_int1 (by rfl) T.m_int (by decide +kernel) (pa_cons (pe_op op_fdiv (pe_ix (r := rIxL K) ix_list (pv 5) pe_int (fun _ _ => rfl)) pe_int) pa_nil)) (pv 6)) (fun _ _ => rfl)))
      (pss_one (ps_expr (pe_bm PySem.F.plainAttrs_list PySem.F.slot_list_append PySem.F.type_list_append mt_append (pv 9) (pa_cons (pe_tup (pa_cons (pe_ix (r := rIxL K) ix_list (pv 8) (pe_op op_mod (pe_callTy call_int1 (by rfl) T.m_int (by decide +kernel) (pa_cons (pe_ix (r := rIxL K) ix_list (pv 5) pe_int (fun _ _ => rfl)) pa_nil)) (pv 6)) (fun _ _ => rfl)) (pa_cons (pe_ix (r := rIxL K) ix_list (pv 1) pe_int (fun _ _ => rfl)) (pa_cons (pv 14) pa_nil)))) pa_nil))))) pss_nil)
      (pss_cons (ps_set (i := 15) nd rfl (.inl rfl) (pe_op op_mod (pe_callTy call_int1 (by rfl) T.m_int (by decide +kernel) (pa_cons (pe_ix (r := rIxL K) ix_list (pv 5) pe_int (fun _ _ => rfl)) pa_nil)) (pe_callB call_len (by rfl) T.m_len (by decide +kernel) (pa_cons (pv 9) pa_nil))))
      (pss_one (ps_ret (pe_lst (pa_cons (pv 8) (pa_cons (pe_op op_cat (pe_slice sl_list (pv 9) (po_some (pv 15)) po_none) (pe_slice sl_list (pv 9) po_none (po_some (pv 15)))) pa_nil))))))))))))))), ?_⟩
    have lenN : ∀ {G : Hp}, Same H G → LenV K (.ref n) G names.length := fun s => .inl ⟨_, .inl (.inl (s _ _ hn)), (List.length_map _).symm⟩
    refine ⟨.int mo, rfl, .int ex, rfl, ex, 1, rfl, rfl, szl rfl, fun p1 n1 => ?_⟩
    have s1 := same_upd (o := .lst [.int mo, .int ((ex : Int) + 1), .int 100, .int 8, .int 64]) n1
    refine ⟨.ref n, rfl, .ref n, names.length, rfl, lenN s1, (names.length : Int), 1, rfl, rfl, .int mo, rfl, szl rfl, fun p2 n2 => ?_⟩
    have s2 := s1.trans (same_upd (o := .lst [.int ((names.length : Int) - 1), .int mo]) n2)
    refine ⟨.int mo, rfl, p2, mo, _, rfl, rfl, upd_same, by omega, by omega, smallE (by show 2 * (mo : Int).toNat ≤ _; omega), fun p3 n3 => ?_⟩
    have emo : (mo : Int).toNat = mo := Int.toNat_natCast mo
    have eex : (ex : Int).toNat = ex := Int.toNat_natCast ex
    rw [emo]
    have s3 := same_upd (o := .lst (List.replicate mo [V.int ((names.length : Int) - 1), .int mo]).flatten) n3
    have e1 : (upd (upd (upd H p1 (.lst [.int mo, .int ((ex : Int) + 1), .int 100, .int 8, .int 64])) p2 (.lst [.int ((names.length : Int) - 1), .int mo])) p3 (.lst (List.replicate mo [V.int ((names.length : Int) - 1), .int mo]).flatten)) p1 = some (.lst [.int mo, .int ((ex : Int) + 1), .int 100, .int 8, .int 64]) := s3 _ _ (same_upd n2 _ _ upd_same)
    refine ⟨p1, p3, _, _, rfl, rfl, e1, upd_same, smallE (by rw [flat_len]; show 5 + 2 * mo ≤ _; omega), fun p4 n4 => ?_⟩
    have s4 := (s2.trans s3).trans (same_upd (o := .lst ([V.int mo, .int ((ex : Int) + 1), .int 100, .int 8, .int 64] ++ (List.replicate mo [V.int ((names.length : Int) - 1), .int mo]).flatten)) n4)
    have e4 : (upd (upd (upd (upd H p1 (.lst [.int mo, .int ((ex : Int) + 1), .int 100, .int 8, .int 64])) p2 (.lst [.int ((names.length : Int) - 1), .int mo])) p3 (.lst (List.replicate mo [V.int ((names.length : Int) - 1), .int mo]).flatten)) p4 (.lst ([V.int mo, .int ((ex : Int) + 1), .int 100, .int 8, .int 64] ++ (List.replicate mo [V.int ((names.length : Int) - 1), .int mo]).flatten))) p4 = some (.lst ([V.int mo, .int ((ex : Int) + 1), .int 100, .int 8, .int 64] ++ (List.replicate mo [V.int ((names.length : Int) - 1), .int mo]).flatten)) := upd_same
    generalize upd (upd (upd (upd H p1 (.lst [.int mo, .int ((ex : Int) + 1), .int 100, .int 8, .int 64])) p2 (.lst [.int ((names.length : Int) - 1), .int mo])) p3 (.lst (List.replicate mo [V.int ((names.length : Int) - 1), .int mo]).flatten)) p4 (.lst ([V.int mo, .int ((ex : Int) + 1), .int 100, .int 8, .int 64] ++ (List.replicate mo [V.int ((names.length : Int) - 1), .int mo]).flatten)) = G4 at s4 e4
    refine ⟨.int c, rfl, .ref p4, rfl, .int mo, rfl, .ref n, rfl, .ref n, names.length, rfl, lenN s4, (names.length : Int), 2, rfl, rfl, .int mo, rfl, szl rfl, fun p5 n5 => ?_⟩
    refine ⟨.int ex, rfl, p5, ex, _, rfl, rfl, upd_same, by omega, by omega, smallE (by show 3 * (ex : Int).toNat ≤ _; omega), fun p6 n6 => ?_⟩
    rw [eex]
    have s5 := same_upd (o := .lst [.int mo, .int ((names.length : Int) + 2), .int mo]) n5
    have s6 := same_upd (o := .lst (List.replicate ex [V.int mo, .int ((names.length : Int) + 2), .int mo]).flatten) n6
    refine ⟨p4, p6, _, _, rfl, rfl, s6 _ _ (s5 _ _ e4), upd_same, smallE (by rw [flat_len, List.length_append, flat_len]; show 5 + 2 * mo + 3 * ex ≤ _; omega), fun p7 n7 => ?_⟩
    have s7 := (s4.trans (s5.trans s6)).trans (same_upd (o := .lst (([V.int mo, .int ((ex : Int) + 1), .int 100, .int 8, .int 64] ++ (List.replicate mo [V.int ((names.length : Int) - 1), .int mo]).flatten) ++ (List.replicate ex [V.int mo, .int ((names.length : Int) + 2), .int mo]).flatten)) n7)
    have e47 := same_upd (o := .lst (([V.int mo, .int ((ex : Int) + 1), .int 100, .int 8, .int 64] ++ (List.replicate mo [V.int ((names.length : Int) - 1), .int mo]).flatten) ++ (List.replicate ex [V.int mo, .int ((names.length : Int) + 2), .int mo]).flatten)) n7 _ _ (s6 _ _ (s5 _ _ e4))
    have e7 : (upd (upd (upd G4 p5 (.lst [.int mo, .int ((names.length : Int) + 2), .int mo])) p6 (.lst (List.replicate ex [V.int mo, .int ((names.length : Int) + 2), .int mo]).flatten)) p7 (.lst (([V.int mo, .int ((ex : Int) + 1), .int 100, .int 8, .int 64] ++ (List.replicate mo [V.int ((names.length : Int) - 1), .int mo]).flatten) ++ (List.replicate ex [V.int mo, .int ((names.length : Int) + 2), .int mo]).flatten))) p7 = some (.lst ((szM names.length mo ex).map V.int)) := by
      rw [upd_same]
      unfold szM
      rw [List.map_append, List.map_append, List.map_flatten, List.map_flatten, List.map_replicate, List.map_replicate]; rfl
    generalize upd (upd (upd G4 p5 (.lst [.int mo, .int ((names.length : Int) + 2), .int mo])) p6 (.lst (List.replicate ex [V.int mo, .int ((names.length : Int) + 2), .int mo]).flatten)) p7 (.lst (([V.int mo, .int ((ex : Int) + 1), .int 100, .int 8, .int 64] ++ (List.replicate mo [V.int ((names.length : Int) - 1), .int mo]).flatten) ++ (List.replicate ex [V.int mo, .int ((names.length : Int) + 2), .int mo]).flatten)) = G7 at s7 e47 e7
    refine ⟨c, p7, szM names.length mo ex, rfl, .inl (.inl e7), by rw [szM_len]; omega, fun x hx => szM_good ln2 (by omega) mo1 (by omega) (by omega) hx, fun H1 R rs sm nR eR hrl hb => ?_⟩
    have sH : Same H H1 := s7.trans sm
    have e4H := sm _ _ e47
    have len4 : ([V.int mo, .int ((ex : Int) + 1), .int 100, .int 8, .int 64] ++ (List.replicate mo [V.int ((names.length : Int) - 1), .int mo]).flatten).length = 5 + 2 * mo := by
      rw [List.length_append, flat_len]; rfl
    obtain ⟨r0, _, g0, l0, u0⟩ := row_at hrl hb (j := 0) (t := (mo : Int)) rfl
    obtain ⟨r1, _, g1, l1, u1⟩ := row_at hrl hb (j := 1) (t := (ex : Int) + 1) rfl
    obtain ⟨r2, _, g2, l2, u2⟩ := row_at hrl hb (j := 2) (t := 100) rfl
    obtain ⟨r3, _, g3, l3, u3⟩ := row_at hrl hb (j := 3) (t := 8) rfl
    obtain ⟨r4, _, g4, l4, u4⟩ := row_at hrl hb (j := 4) (t := 64) rfl
    obtain ⟨ma, ema⟩ : ∃ ma : Nat, 1 + r0 = (ma : Int) := ⟨(1 + r0).toNat, by omega⟩
    -- many, stride
    refine ⟨.ref R, rfl, R, rs.map V.int, 0, .int r0, rfl, rfl, .inl (.inl eR), atI_nat (j := 0) g0, 1, r0, rfl, rfl, ?_⟩
    refine ⟨szl rfl, fun p8 n8 => ?_⟩
    have s8 := same_upd (o := .lst [.int 1, .int 3, .int 7, .int 9, .int 11, .int 13, .int 17, .int 19]) n8
    obtain ⟨k3, rfl⟩ : ∃ k3 : Nat, r3 = (k3 : Int) := ⟨r3.toNat, by omega⟩
    have hk3 : k3 < strides.length := by show k3 < 8; omega
    have hst : strides[k3] ∈ strides := List.getElem_mem hk3
    have gst : (strides.map V.int)[k3]? = some (.int strides[k3]) := by rw [List.getElem?_map, List.getElem?_eq_getElem hk3]; rfl
    refine ⟨.ref R, rfl, R, rs.map V.int, 3, .int k3, rfl, rfl, .inl (.inl (s8 _ _ eR)), atI_nat (j := 3) g3, p8, strides.map V.int, (k3 : Int), .int strides[k3], rfl, rfl, .inl (.inl upd_same), atI_nat gst, ?_⟩
    generalize strides[k3] = st at hst gst
    have s8' := sH.trans s8
    have eR8 := s8 _ _ eR
    have e48 := s8 _ _ e4H
    generalize upd H1 p8 (.lst [.int 1, .int 3, .int 7, .int 9, .int 11, .int 13, .int 17, .int 19]) = G8 at s8' eR8 e48
    have st20 : 0 < st ∧ st < 20 := by
      unfold strides at hst
      simp only [List.mem_cons, List.not_mem_nil, or_false] at hst
      omega
    -- labels
    refine ⟨.int (1 + r0), rfl, 1 + r0, rfl, by omega, by omega, fun LB nLB => ?_⟩
    have ema2 : (1 + r0).toNat = ma := by omega
    rw [ema2]
    refine lc_range (lo := 0) (n := ma) (fun i H' => Same G8 H' ∧ H' LB = some (.lst ((labs r2 st i).map V.int))) ⟨same_upd nLB, upd_same⟩ (fun i H' hi hP => ?_) (fun H' hP => ?_)
    · obtain ⟨S, eL⟩ := hP
      refine ⟨rfl, ?_⟩
      unfold tYes
      refine iteT ?_
      have e0 : (0 : Int) + (i : Nat) = (i : Nat) := by omega
      rw [e0]
      refine ⟨.ref R, rfl, R, rs.map V.int, 2, .int r2, rfl, rfl, .inl (.inl (S _ _ eR8)), atI_nat (j := 2) g2, .int st, rfl, .int (i : Nat), rfl, st, (i : Nat), rfl, rfl, .inl ⟨by omega, by omega⟩, r2, _, rfl, rfl, .inl ⟨_, rfl, _, 100, rfl, rfl, (show (0 : Int) < 100 by decide), _, eL, small (by rw [List.length_map, labs_len]; omega), same_set nLB S, ?_⟩⟩
      rw [upd_same, labs_succ, List.map_append]; rfl
    · obtain ⟨S9, eL9⟩ := hP
      have sL : Same H H' := s8'.trans S9
      have nLBH : H LB = none := s8'.free nLB
      have ndl := labs_nd (r := r2) hst (n := ma) (by omega)
      have inl : ∀ x ∈ labs r2 st ma, 0 ≤ x ∧ x ≤ 99 := fun x hx => labs_in hx
      have lenl := labs_len r2 st ma
      have eR9 := S9 _ _ eR8
      have e49 := S9 _ _ e48
      generalize labs r2 st ma = ls at eL9 ndl inl lenl
      have nlbn : LB ≠ n := (ne_of_none hn nLBH).symm
      have sL' := sL
      have hn9 := sL _ _ hn
      have lenL : (ls.map V.int).length = ma := by rw [List.length_map, lenl]
      have latx : ∀ (z : Int), 0 ≤ z → z < 1 + r0 → ∃ x, x ∈ ls ∧ atI (ls.map V.int) z = some (.int x) := fun z h1 h2 => by
        obtain ⟨k, rfl⟩ : ∃ k : Nat, z = (k : Int) := ⟨z.toNat, by omega⟩
        have hk : k < ls.length := by omega
        exact ⟨ls[k], List.getElem_mem hk, atI_nat (by rw [List.getElem?_map, List.getElem?_eq_getElem hk]; rfl)⟩
      have nat_ : ∀ (z : Int), 0 ≤ z → z < (names.length : Int) → ∃ x, x ∈ names ∧ atI (names.map V.str) z = some (.str x) := fun z h1 h2 => by
        obtain ⟨k, rfl⟩ : ∃ k : Nat, z = (k : Int) := ⟨z.toNat, by omega⟩
        have hk : k < names.length := by omega
        exact ⟨names[k], List.getElem_mem hk, atI_nat (by rw [List.getElem?_map, List.getElem?_eq_getElem hk]; rfl)⟩
      have rat : ∀ (z : Int) (k : Nat) (t : Int), z = (k : Int) → (szM names.length mo ex)[k]? = some t → ∃ r, atI (rs.map V.int) z = some (.int r) ∧ 0 ≤ r ∧ r < t := fun z k t e h => by
        obtain ⟨r, _, g, a, b⟩ := row_at hrl hb h
        rw [e]
        exact ⟨r, atI_nat g, a, b⟩
      refine ⟨szl rfl, fun S nS => ?_⟩
      have nSH : H S = none := sL.free nS
      have sS := same_upd (o := .lst []) nS
      refine ⟨.int (1 + r0), rfl, 1 + r0, rfl, by omega, by omega, ?_⟩
      rw [ema2]
      refine for_range (lo := 0) (n := ma) (fun i σ G => ∃ (y10 y11 : Option V) (as : List Addr) (ss : List KnA.Stp), σ = [some (.int c), some (.ref n), some (.int mo), some (.int ex), some (.ref p4), some (.ref R), some (.int (1 + r0)), some (.int st), some (.ref LB), some (.ref S), y10, y11, none, none, none, none] ∧
          Same H' G ∧ G S = some (.lst (as.map V.ref)) ∧ Stps G as ss ∧ ss.map (·.1) = ls.take i ∧ ∀ x ∈ ss, x.2.1 ∈ names ∧ x.2.2 ∈ ls)
        ⟨none, none, [], [], rfl, sS, upd_same, .nil, rfl, fun x hx => nomatch hx⟩ (fun i σ G hi hP => ?_) (fun σ G hP => ?_)
      · obtain ⟨y10, y11, as, ss, rfl, SG, eS, hst', hf, hg⟩ := hP
        have e0 : (0 : Int) + (i : Nat) = (i : Nat) := by omega
        rw [e0]
        have hi8 : i < mo := by omega
        obtain ⟨ra, ga, la0, ua⟩ := rat (5 + 2 * ((i : Nat) : Int)) (5 + 2 * i + 0) _ (by omega) ((szM_base (n := names.length) (ex := ex) hi8 (j := 0) (by omega)).trans rfl)
        obtain ⟨rb, gb, lb0, ub⟩ := rat (6 + 2 * ((i : Nat) : Int)) (5 + 2 * i + 1) _ (by omega) ((szM_base (n := names.length) (ex := ex) hi8 (j := 1) (by omega)).trans rfl)
        obtain ⟨wd, hwd, gwd⟩ := nat_ (1 + ra) (by omega) (by omega)
        have hil : i < ls.length := by omega
        have gl : ls[i]? = some ls[i] := List.getElem?_eq_getElem hil
        have gla : atI (ls.map V.int) ((i : Nat) : Int) = some (.int ls[i]) := atI_nat (by rw [List.getElem?_map, gl]; rfl)
        have h1 := Int.emod_nonneg rb (show 1 + r0 ≠ 0 by omega)
        have h2 := Int.emod_lt_of_pos rb (show 0 < 1 + r0 by omega)
        obtain ⟨tg, htg, gtg⟩ := latx (rb % (1 + r0)) h1 h2
        have eLG := SG _ _ eL9
        have eRG := SG _ _ eR9
        have enG := SG _ _ hn9
        refine ⟨.ref n, rfl, .ref R, rfl, .int (i : Nat), rfl, 2, (i : Nat), rfl, rfl, .inl ⟨by decide, by decide⟩, 5, _, rfl, rfl, R, rs.map V.int, _, .int ra, rfl, rfl, .inl (.inl eRG), ga, 1, ra, rfl, rfl, n, names.map V.str, _, .str wd, rfl, rfl, .inl (.inl enG), gwd, ?_⟩
        refine ⟨.ref S, rfl, .inl ⟨rfl, _, .inl (.inl eS)⟩, .ref LB, rfl, .int (i : Nat), rfl, LB, ls.map V.int, _, .int ls[i], rfl, rfl, .inl (.inl eLG), gla, .str wd, rfl, .ref LB, rfl, .ref R, rfl, .int (i : Nat), rfl, 2, (i : Nat), rfl, rfl, .inl ⟨by decide, by decide⟩, 6, _, rfl, rfl, R, rs.map V.int, _, .int rb, rfl, rfl, .inl (.inl eRG), gb,
          .inl ⟨rb, rfl, .int (1 + r0), rfl, rb, 1 + r0, rfl, rfl, (by omega : (0 : Int) < 1 + r0), LB, ls.map V.int, _, .int tg, rfl, rfl, .inl (.inl eLG), gtg, szl rfl, fun TT nT => ?_⟩⟩
        have sT := same_upd (o := .tup [.int ls[i], .str wd, .int tg]) nT
        have lss : ss.length ≤ i := by
          have := congrArg List.length hf
          rw [List.length_map, List.length_take] at this
          omega
        refine ⟨S, as.map V.ref, .ref TT, rfl, rfl, sT _ _ eS, small (by rw [List.length_map, hst'.length]; omega), ?_⟩
        refine ⟨_, _, as ++ [TT], ss ++ [(ls[i], wd, tg)], rfl, same_set nS (SG.trans sT), by rw [upd_same, List.map_append]; rfl, ?_, ?_, fun x hx => ?_⟩
        · exact Paired.mapP ((hst'.mono sT).snoc (show (upd G TT (.tup [.int ls[i], .str wd, .int tg])) TT = some (tup3 (ls[i], wd, tg)) from upd_same)) fun b _ e => (upd_ne (ne_of e (sT _ _ eS) (fun z => by cases z))).trans e
        · rw [List.map_append, hf, take_more gl]; rfl
        · rcases List.mem_append.mp hx with hx | hx
          · exact hg x hx
          · rw [List.mem_singleton.mp hx]; exact ⟨hwd, htg⟩
      · obtain ⟨y10, y11, as, ss, rfl, SG, eS, hst', hf, hg⟩ := hP
        have hfull : ss.map (·.1) = ls := by rw [hf, List.take_of_length_le (by omega)]
        have hlen0 : ss.length = ma := by
          have := congrArg List.length hfull
          rw [List.length_map] at this
          omega
        have ndss : (ss.map (·.1)).Nodup := by rw [hfull]; exact ndl
        have dr0 : Drawn ls names ss 1 := ⟨nodup_base ndss, fun x hx => ⟨by rw [← hfull]; exact List.mem_map.mpr ⟨x, hx, rfl⟩, hg x hx⟩, fun s => cnt_base ndss s⟩
        have all0 : ∀ x ∈ ls, ∃ w y, (x, w, y) ∈ ss := fun x hx => by
          rw [← hfull] at hx
          obtain ⟨u, hu, e⟩ := List.mem_map.mp hx
          exact ⟨u.2.1, u.2.2, by rw [← e]; exact hu⟩
        refine ⟨.ref R, rfl, R, rs.map V.int, 1, .int r1, rfl, rfl, .inl (.inl (SG _ _ eR9)), atI_nat (j := 1) g1, r1, rfl, by omega, by omega, ?_⟩
        refine for_range (lo := 0) (n := r1.toNat) (fun i σ G => ∃ (y10 y11 y12 y13 : Option V) (as : List Addr) (ss : List KnA.Stp), σ = [some (.int c), some (.ref n), some (.int mo), some (.int ex), some (.ref p4), some (.ref R), some (.int (1 + r0)), some (.int st), some (.ref LB), some (.ref S), y10, y11, y12, y13, none, none] ∧
          Same H' G ∧ G S = some (.lst (as.map V.ref)) ∧ Stps G as ss ∧ Drawn ls names ss (1 + i) ∧ (∀ x ∈ ls, ∃ w y, (x, w, y) ∈ ss) ∧ ss.length ≤ ma + i)
          ⟨_, _, _, _, as, ss, rfl, SG, eS, hst', dr0, all0, by omega⟩ (fun i σ G hi hP => ?_) (fun σ G hP => ?_)
        · obtain ⟨y10, y11, y12, y13, as, ss, rfl, SG, eS, hst', dr, al, lss⟩ := hP
          have e0 : (0 : Int) + (i : Nat) = (i : Nat) := by omega
          rw [e0]
          have hi6 : i < ex := by omega
          have eLG := SG _ _ eL9
          have eRG := SG _ _ eR9
          have enG := SG _ _ hn9
          have e4G := SG _ _ e49
          have lat : ∀ (j : Nat) (t : Int), ([(mo : Int), (names.length : Int) + 2, (mo : Int)] : List Int)[j]? = some t → ∃ r, atI (rs.map V.int) (((5 + 2 * mo : Nat) : Int) + 3 * ((i : Nat) : Int) + (j : Nat)) = some (.int r) ∧ 0 ≤ r := fun j t e => by
            have hj : j < 3 := (List.getElem?_eq_some_iff.mp e).1
            obtain ⟨r, a, b, _⟩ := rat (((5 + 2 * mo : Nat) : Int) + 3 * ((i : Nat) : Int) + (j : Nat)) (5 + 2 * mo + 3 * i + j) t (by omega) ((szM_more hi6 hj).trans e)
            exact ⟨r, a, b⟩
          obtain ⟨ru, gu, lu⟩ := lat 0 _ rfl
          obtain ⟨rw_, gw, lw⟩ := lat 1 _ rfl
          obtain ⟨rv, gv, lv⟩ := lat 2 _ rfl
          have gu' : atI (rs.map V.int) (((5 + 2 * mo : Nat) : Int) + 3 * ((i : Nat) : Int)) = some (.int ru) := by
            have z : ((5 + 2 * mo : Nat) : Int) + 3 * ((i : Nat) : Int) + ((0 : Nat) : Int) = ((5 + 2 * mo : Nat) : Int) + 3 * ((i : Nat) : Int) := by omega
            rw [z] at gu; exact gu
          obtain ⟨wd, hwd, gwd⟩ := nat_ (rw_ % (names.length : Int)) (Int.emod_nonneg _ (by omega)) (Int.emod_lt_of_pos _ (by omega))
          obtain ⟨xu, hxu, gxu⟩ := latx (ru % (1 + r0)) (Int.emod_nonneg _ (by omega)) (Int.emod_lt_of_pos _ (by omega))
          obtain ⟨xv, hxv, gxv⟩ := latx (rv % (1 + r0)) (Int.emod_nonneg _ (by omega)) (Int.emod_lt_of_pos _ (by omega))
          refine ⟨.ref p4, rfl, .ref p4, 5 + 2 * mo, rfl, .inl ⟨_, .inl (.inl e4G), len4.symm⟩, .int (i : Nat), rfl, 3, (i : Nat), rfl, rfl, .inl ⟨by decide, by decide⟩, ((5 + 2 * mo : Nat) : Int), _, rfl, rfl, ?_⟩
          refine ⟨.ref n, rfl, .ref R, rfl, .int (((5 + 2 * mo : Nat) : Int) + 3 * ((i : Nat) : Int)), rfl, _, 1, rfl, rfl, R, rs.map V.int, _, .int rw_, rfl, rfl, .inl (.inl eRG), gw, .inl ⟨rw_, rfl, .ref n, rfl, .ref n, names.length, rfl, lenN (sL.trans SG), rw_, (names.length : Int), rfl, rfl, (show (0 : Int) < (names.length : Int) by omega), n, names.map V.str, _, .str wd, rfl, rfl, .inl (.inl enG), gwd, ?_⟩⟩
          refine ⟨.ref LB, rfl, .ref R, rfl, .int (((5 + 2 * mo : Nat) : Int) + 3 * ((i : Nat) : Int)), rfl, R, rs.map V.int, _, .int ru, rfl, rfl, .inl (.inl eRG), gu', .inl ⟨ru, rfl, .int (1 + r0), rfl, ru, 1 + r0, rfl, rfl, (show (0 : Int) < 1 + r0 by omega), LB, ls.map V.int, _, .int xu, rfl, rfl, .inl (.inl eLG), gxu, .str wd, rfl, szl rfl, fun T1 nT1 => ?_⟩⟩
          have sT1 := same_upd (o := .tup [.int xu, .str wd]) nT1
          refine ⟨.ref T1, rfl, .ref LB, rfl, .ref R, rfl, .int (((5 + 2 * mo : Nat) : Int) + 3 * ((i : Nat) : Int)), rfl, _, 2, rfl, rfl, R, rs.map V.int, _, .int rv, rfl, rfl, .inl (.inl (sT1 _ _ eRG)), gv, .inl ⟨rv, rfl, .int (1 + r0), rfl, rv, 1 + r0, rfl, rfl, (show (0 : Int) < 1 + r0 by omega), LB, ls.map V.int, _, .int xv, rfl, rfl, .inl (.inl (sT1 _ _ eLG)), gxv, szl rfl, fun T2 nT2 => ?_⟩⟩
          have sT2 := same_upd (o := .tup [.int xv]) nT2
          refine ⟨T1, T2, [.int xu, .str wd], [.int xv], rfl, rfl, .inl (.inl (sT2 _ _ upd_same)), .inl (.inl upd_same), (fun z => by cases z), smallE (by show 2 + 1 ≤ 100000; decide), (fun z => by cases z), fun _ T3 nT3 => ?_⟩
          have sT3 := same_upd (o := .tup ([.int xu, .str wd] ++ [.int xv])) nT3
          have S3 := sT1.trans (sT2.trans sT3)
          have eT3 : (upd (upd (upd G T1 (.tup [.int xu, .str wd])) T2 (.tup [.int xv])) T3 (.tup ([.int xu, .str wd] ++ [.int xv]))) T3 = some (tup3 (xu, wd, xv)) := upd_same
          generalize upd (upd (upd G T1 (.tup [.int xu, .str wd])) T2 (.tup [.int xv])) T3 (.tup ([.int xu, .str wd] ++ [.int xv])) = G3 at S3 eT3
          have eS3 := S3 _ _ eS
          have hst3 := hst'.mono S3
          have names_ : ∀ x ∈ ss, nameB (.str x.2.1) = true := fun x hx => hnm _ (dr.good x hx).2.1
          refine ⟨.ref T3, rfl, .ref S, rfl, dat (xu, wd, xv), ss.map dat, .tup (.inl (.inl eT3)) (.cons (.int _) (.cons (.str _) (.cons (.int _) .nil))), .lst (.inl (.inl eS3)) (dps hst3), dat_shaped (x := (xu, wd, xv)) (hnm _ hwd), dats_shaped names_, _, rfl, ?_⟩
          show if (!((ss.map dat).any fun z => PyData.eqv z (dat (xu, wd, xv)))) = true then _ else _
          rw [dat_any]
          by_cases z : (xu, wd, xv) ∈ ss
          · rw [decide_eq_true z]
            exact iteF ⟨_, _, _, _, as, ss, rfl, SG.trans S3, eS3, hst3, dr.up (by omega), al, by omega⟩
          · rw [decide_eq_false z]
            refine iteT ⟨.ref S, rfl, .inl ⟨rfl, _, .inl (.inl eS3)⟩, .ref T3, rfl, S, as.map V.ref, .ref T3, rfl, rfl, eS3, small (by rw [List.length_map, hst3.length]; omega), ?_⟩
            refine ⟨_, _, _, _, as ++ [T3], ss ++ [(xu, wd, xv)], rfl, same_set nS (SG.trans S3), by rw [upd_same, List.map_append]; rfl, ?_, dr.push z ⟨hxu, hwd, hxv⟩, fun x hx => ?_, ?_⟩
            · exact Paired.mapP (hst3.snoc eT3) fun b _ e => (upd_ne (ne_of e eS3 (fun z => by cases z))).trans e
            · obtain ⟨w, y, hm⟩ := al x hx
              exact ⟨w, y, List.mem_append.mpr (.inl hm)⟩
            · rw [List.length_append]; show ss.length + 1 ≤ _; omega
        · obtain ⟨y10, y11, y12, y13, as, ss, rfl, SG, eS, hst', dr, al, lss⟩ := hP
          obtain ⟨w0, hw0, gw0⟩ := nat_ 0 (by omega) (by omega)
          have iw0 : names[0]? = some w0 := by
            have g : (names.map V.str)[0]? = some (.str names[0]) := by rw [List.getElem?_map, List.getElem?_eq_getElem (by omega)]; rfl
            rw [show (0 : Int) = ((0 : Nat) : Int) from rfl, atI_nat g] at gw0
            rw [List.getElem?_eq_getElem (by omega)]
            exact congrArg some (V.str.inj (Option.some.inj gw0))
          refine KnC.nx_if (fun σ2 G => ∃ (y10 y11 y12 y13 y14 : Option V) (as : List Addr) (ss : List KnA.Stp), σ2 = [some (.int c), some (.ref n), some (.int mo), some (.int ex), some (.ref p4), some (.ref R), some (.int (1 + r0)), some (.int st), some (.ref LB), some (.ref S), y10, y11, y12, y13, y14, none] ∧
            Same H' G ∧ G S = some (.lst (as.map V.ref)) ∧ Stps G as ss ∧ Drawn ls names ss 8 ∧ (∀ x ∈ ls, ∃ w y, (x, w, y) ∈ ss) ∧ ss.length ≤ ma + r1.toNat + 1 ∧ w0 ∈ ss.map (·.2.1)) (fun go => ?_) (fun σ2 G hT => ?_)
          · refine ⟨.ref S, rfl, S, rfl, ⟨_, .inl (.inl eS)⟩, fun D nD => ?_⟩
            refine lc_list (K := K) (xs := as.map V.ref) (fun i G' => Same G G' ∧ ∃ vs : List V, G' D = some (.lst vs) ∧ vs.length = ((ss.take i).filter fun x => decide (x.2.1 = w0)).length) ⟨same_upd nD, [], upd_same, rfl⟩ (fun i G' _ hP => .inl (.inl (hP.1 _ _ eS))) (fun i x G' hx hP => ?_) (fun G' hP => ?_)
            · obtain ⟨S1, vs, eD, lvs⟩ := hP
              obtain ⟨ai, u, rfl, gi, g, hai⟩ := ref_get (hst'.mono S1) hx
              have hi : i < ss.length := (List.getElem?_eq_some_iff.mp g).1
              refine ⟨rfl, .ref ai, rfl, ai, [.int u.1, .str u.2.1, .int u.2.2], 1, .str u.2.1, rfl, rfl, .inl (.inl hai), atI_nat (j := 1) rfl, .ref n, rfl, n, names.map V.str, 0, .str w0, rfl, rfl, .inl (.inl (S1 _ _ (SG _ _ hn9))), gw0, rfl, _, rfl, ?_⟩
              rw [str_dec]
              by_cases z : u.2.1 = w0
              · rw [decide_eq_true z]
                refine iteT ⟨.ref ai, rfl, vs, eD, small (by have := List.length_filter_le (fun x : KnA.Stp => decide (x.2.1 = w0)) (ss.take i); rw [List.length_take] at this; omega), same_set nD S1, vs ++ [.ref ai], upd_same, ?_⟩
                rw [List.length_append, lvs, take_more g, List.filter_append, List.length_append, List.filter_cons_of_pos (by simp [z])]; rfl
              · rw [decide_eq_false z]
                refine iteF ⟨S1, vs, eD, ?_⟩
                rw [lvs, take_more g, List.filter_append, List.length_append, List.filter_cons_of_neg (by simp [z])]; rfl
            · obtain ⟨S1, vs, eD, lvs⟩ := hP
              rw [List.length_map, hst'.length, List.take_length] at lvs
              refine ⟨.ref D, vs.length, rfl, .inl ⟨vs, .inl (.inl eD), rfl⟩, rfl, _, rfl, ?_⟩
              have stay := SG.trans S1
              by_cases z : vs.length = 0
              · have no : ∀ u ∈ ss, u.2.1 ≠ w0 := fun u hu e => by
                  have hm : u ∈ ss.filter fun x => decide (x.2.1 = w0) := List.mem_filter.mpr ⟨hu, decide_eq_true e⟩
                  have := List.length_pos_of_mem hm
                  omega
                rw [decide_eq_true (show V.int (vs.length : Nat) = V.int 0 by rw [z]; rfl)]
                obtain ⟨xu, hxu, gxu⟩ := latx (r4 / 8 % (1 + r0)) (Int.emod_nonneg _ (by omega)) (Int.emod_lt_of_pos _ (by omega))
                obtain ⟨xv, hxv, gxv⟩ := latx (r4 % (1 + r0)) (Int.emod_nonneg _ (by omega)) (Int.emod_lt_of_pos _ (by omega))
                have eLG := stay _ _ eL9
                have eRG := stay _ _ eR9
                have enG := stay _ _ hn9
                refine iteT ⟨.ref LB, rfl, .ref R, rfl, R, rs.map V.int, 4, .int r4, rfl, rfl, .inl (.inl eRG), atI_nat (j := 4) g4, r4, 8, rfl, rfl, ⟨by decide, by decide⟩, .inl ⟨_, rfl, .int (1 + r0), rfl, _, 1 + r0, rfl, rfl, (show (0 : Int) < 1 + r0 by omega), LB, ls.map V.int, _, .int xu, rfl, rfl, .inl (.inl eLG), gxu, ?_⟩⟩
                refine ⟨.ref S, rfl, .inl ⟨rfl, _, .inl (.inl (S1 _ _ eS))⟩, .ref LB, rfl, .ref R, rfl, R, rs.map V.int, 4, .int r4, rfl, rfl, .inl (.inl eRG), atI_nat (j := 4) g4, .inl ⟨r4, rfl, .int (1 + r0), rfl, r4, 1 + r0, rfl, rfl, (show (0 : Int) < 1 + r0 by omega), LB, ls.map V.int, _, .int xv, rfl, rfl, .inl (.inl eLG), gxv, .ref n, rfl, n, names.map V.str, 0, .str w0, rfl, rfl, .inl (.inl enG), gw0, .int xu, rfl, szl rfl, fun TT nT => ?_⟩⟩
                have sT := same_upd (o := .tup [.int xv, .str w0, .int xu]) nT
                refine ⟨S, as.map V.ref, .ref TT, rfl, rfl, sT _ _ (S1 _ _ eS), small (by rw [List.length_map, hst'.length]; omega), ?_⟩
                refine go _ _ ⟨_, _, _, _, _, as ++ [TT], ss ++ [(xv, w0, xu)], rfl, same_set nS (stay.trans sT), by rw [upd_same, List.map_append]; rfl, ?_, (dr.push (fun hm => no _ hm rfl) ⟨hxv, hw0, hxu⟩).up (by omega), fun x hx => ?_, ?_, ?_⟩
                · exact Paired.mapP ((hst'.mono (S1.trans sT)).snoc (show (upd G' TT (.tup [.int xv, .str w0, .int xu])) TT = some (tup3 (xv, w0, xu)) from upd_same)) fun b _ e => (upd_ne (ne_of e (sT _ _ (S1 _ _ eS)) (fun z => by cases z))).trans e
                · obtain ⟨w, y, hm⟩ := al x hx
                  exact ⟨w, y, List.mem_append.mpr (.inl hm)⟩
                · rw [List.length_append]; show ss.length + 1 ≤ _; omega
                · rw [List.map_append]; exact List.mem_append.mpr (.inr (List.mem_singleton.mpr rfl))
              · rw [decide_eq_false (show ¬ V.int (vs.length : Nat) = V.int 0 from fun e => z (by have := V.int.inj e; omega))]
                have some_ : ∃ u ∈ ss, u.2.1 = w0 := by
                  obtain ⟨u, hu⟩ := List.exists_mem_of_length_pos (l := ss.filter fun x => decide (x.2.1 = w0)) (by omega)
                  obtain ⟨h1, h2⟩ := List.mem_filter.mp hu
                  exact ⟨u, h1, of_decide_eq_true h2⟩
                obtain ⟨u, hu, eu⟩ := some_
                exact iteF (go _ _ ⟨_, _, _, _, _, as, ss, rfl, stay, S1 _ _ eS, hst'.mono S1, dr.up (by omega), al, by omega, List.mem_map.mpr ⟨u, hu, eu⟩⟩)
          · obtain ⟨y10, y11, y12, y13, y14, as, ss, rfl, SG, eS, hst', dr, al, lss, hw⟩ := hT
            have pos : 0 < ss.length := by
              obtain ⟨u, hu, _⟩ := List.mem_map.mp hw
              exact List.length_pos_of_mem hu
            have la : (as.map V.ref).length = ss.length := by rw [List.length_map, hst'.length]
            refine ⟨.ref R, rfl, R, rs.map V.int, 4, .int r4, rfl, rfl, .inl (.inl (SG _ _ eR9)), atI_nat (j := 4) g4, .inl ⟨r4, rfl, .ref S, rfl, .ref S, ss.length, rfl, .inl ⟨_, .inl (.inl eS), la.symm⟩, r4, (ss.length : Int), rfl, rfl, (show (0 : Int) < (ss.length : Int) by omega), ?_⟩⟩
            obtain ⟨tu, etu⟩ : ∃ tu : Nat, r4 % (ss.length : Int) = (tu : Int) := ⟨(r4 % (ss.length : Int)).toNat, by have := Int.emod_nonneg r4 (show (ss.length : Int) ≠ 0 by omega); omega⟩
            refine ⟨.ref LB, rfl, .ref S, rfl, _, rfl, _, rfl, S, as.map V.ref, rfl, .inl (.inl eS), fun A1 nA1 => ?_⟩
            rw [etu, cut_from]
            have sA1 := same_upd (o := .lst ((as.map V.ref).drop tu)) nA1
            refine ⟨.ref S, rfl, _, rfl, _, rfl, S, as.map V.ref, rfl, .inl (.inl (sA1 _ _ eS)), fun A2 nA2 => ?_⟩
            rw [etu, cut_to]
            have sA2 := same_upd (o := .lst ((as.map V.ref).take tu)) nA2
            refine ⟨A1, A2, _, _, rfl, rfl, sA2 _ _ upd_same, upd_same, smallE (by rw [List.length_drop, List.length_take]; omega), fun SL nSL => ⟨szl rfl, fun t nt => ?_⟩⟩
            have sSL := same_upd (o := .lst ((as.map V.ref).drop tu ++ (as.map V.ref).take tu)) nSL
            have st_ := same_upd (o := .lst [.ref LB, .ref SL]) nt
            have S12 := sA1.trans (sA2.trans sSL)
            have Sall := S12.trans st_
            have nSLH : H SL = none := (sL.trans (SG.trans (sA1.trans sA2))).free nSL
            have nls : LB ≠ SL := ne_of_none (sA2 _ _ (sA1 _ _ (SG _ _ eL9))) nSL
            refine q _ t LB SL ls (as.drop tu ++ as.take tu) (ss.drop tu ++ ss.take tu) (sL.trans (SG.trans Sall)) upd_same nLBH nSLH nls (Sall _ _ (SG _ _ eL9)) (by rw [st_ _ _ upd_same, List.map_append, List.map_drop, List.map_take]) (paired_app (paired_drop (hst'.mono Sall) tu) (paired_take (hst'.mono Sall) tu)) ?_
            have pm : (ss.drop tu ++ ss.take tu).Perm ss := by
              have := List.perm_append_comm (l₁ := ss.drop tu) (l₂ := ss.take tu)
              rwa [List.take_append_drop] at this
            refine ⟨fun z => by rw [z] at lenl; have : (0 : Nat) = ma := lenl; omega, by omega, fun x hx => stateB_of (inl x hx), dr.turn tu, fun x hx => ?_, ?_, fun x hx => ?_⟩
            · obtain ⟨w, y, hm⟩ := al x hx
              exact ⟨w, y, pm.mem_iff.mpr hm⟩
            · rw [pm.length_eq]; omega
            · rw [iw0] at hx
              cases hx
              exact (pm.map _).mem_iff.mpr hw

theorem in_names {names : List Str} {i : Nat} {x : Str} (h : names[i]? = some x) : (names.map V.str)[i]? = some (.str x) := by rw [List.getElem?_map, h]; rfl
/-- one or two faults -/
structure FewF (fs : List (Str × Str)) (names words marks : List Str) : Prop where
  nd : (fs.map (·.1)).Nodup
  len : fs.length ≤ 2
  mem : ∀ p ∈ fs, p.1 ∈ names ∧ p.1 ∈ words ∧ p.2 ∈ marks
def sp__law_faults (_ : PySem.W.Frag) : Sp := fun vs H Q _ => ∃ (dg : Int) (l n k : Addr) (as : List Addr) (ss : List KnA.Stp) (names marks : List Str), vs = [.int dg, .ref l, .ref n, .ref k] ∧ H l = some (.lst (as.map V.ref)) ∧ Stps H as ss ∧ ss.length ≤ 1000 ∧ H n = some (.lst (names.map V.str)) ∧ H k = some (.lst (marks.map V.str)) ∧ 2 ≤ names.length ∧ marks.length = 2 ∧
  (∀ x, names[0]? = some x → x ∈ ss.map (·.2.1)) ∧ ∀ H' d fs, Same H H' → H d = none → H' d = some (.dK (fkv fs)) → FewF fs names (ss.map (·.2.1)) marks → Q (.ref d) H'
theorem ok__law_faults {f : Addr} {C : Addr} {fd : FuncData} (T : Txt K mg C) (F : Fun K "_law_faults" "_law_faults" s__law_faults f fd)  : FnOk P w K mg base CX0 1 f fd ["_law_digit", "_law_steps", "_law_names_here", "_law_marks"] (sp__law_faults K) := by
  have nd := sc__law_faults.nd
  refine F.ok sc__law_faults (fun vs H Q E h => ?_) (fun cdv A outer s H vs Q E hr h => ?_)
  · obtain ⟨dg, l, n, k, as, ss, names, marks, rfl, _⟩ := h
    rfl
  · obtain ⟨dg, l, n, k, as, ss, names, marks, rfl, hl, hst, lss, hn, hk, ln, lk, h0, q⟩ := h
    refine ⟨_, (pss_cons (ps_set (i := 4) nd rfl (.inl rfl) (pe_disp (pps_cons (pe_ix (r := rIxL K) ix_list (pv 2) pe_int (fun _ _ => rfl)) (pe_ix (r := rIxL K) ix_list (pv 3) pe_int (fun _ _ => rfl)) pps_nil) (by rfl) (by rfl) (fun z => by cases z) (by decide)))
      (pss_cons (ps_if (PW.pt (pw_and (pt_cmpR op_gt (pe_op op_mod (pe_callTy call_int1 (by rfl) T.m_int (by decide +kernel) (pa_cons (pv 0) pa_nil)) pe_int) pe_int (nomark _)) (pw_and1 (pt_cmpR op_in_seq (pe_ix (r := rIxL K) ix_list (pv 2) pe_int (fun _ _ => rfl)) (pe_lc (own := [("_law_step", 5)]) (g := gName 5) (tt := tYes) rfl nd (pi_list (pv 1)) (blkOk_by (N := ["_law_digit", "_law_steps", "_law_names_here", "_law_marks", "_law_faults_here", "_law_step"]) (sc := defScope s__law_faults) (by decide +kernel)) (fun _ _ _ _ _ => (pg_name (i := 5) nd rfl (.inl rfl))) (fun _ _ _ _ _ => pts_nil) (fun _ _ _ _ _ => (pe_ix (r := rIxT K) ix_tup (pv 5) pe_int (fun _ _ => rfl)))) (by with_unfolding_all rfl))))) (pss_one (ps_dput (hu_of hr) (pv 4) (pe_ix (r := rIxL K) ix_list (pv 2) pe_int (fun _ _ => rfl)) (pe_ix (r := rIxL K) ix_list (pv 3) (pe_op op_sub (pe_op op_mod (pe_callTy call_int1 (by rfl) T.m_int (by decide +kernel) (pa_cons (pv 0) pa_nil)) pe_int) pe_int) (fun _ _ => rfl)) rfl)) pss_nil)
      (pss_one (ps_ret (pv 4))))), ?_⟩
    obtain ⟨x0, g0⟩ : ∃ x, names[0]? = some x := ⟨_, List.getElem?_eq_getElem (by omega)⟩
    obtain ⟨x1, g1⟩ : ∃ x, names[1]? = some x := ⟨_, List.getElem?_eq_getElem (by omega)⟩
    obtain ⟨m0, k0⟩ : ∃ x, marks[0]? = some x := ⟨_, List.getElem?_eq_getElem (by omega)⟩
    refine fun d nD => ?_
    have s1 := same_upd (o := .dK []) nD
    refine ⟨.ref n, rfl, n, _, 0, .str x0, rfl, rfl, .inl (.inl (s1 _ _ hn)), atI_nat (j := 0) (in_names g0), .ref k, rfl, k, _, 0, .str m0, rfl, rfl, .inl (.inl (s1 _ _ hk)), atI_nat (j := 0) (in_names k0), upd_same, [(.inr x0, .str m0)], rfl, Nat.le_of_ble_eq_true rfl, ?_⟩
    rw [upd_upd]
    have S : Same H (upd H d (.dK (mergeK [] [((.inr x0 : Key), V.str m0)]))) := same_upd nD
    have ed : (upd H d (.dK (mergeK [] [((.inr x0 : Key), V.str m0)]))) d = some (.dK (fkv [(x0, m0)])) := upd_same
    generalize upd H d (.dK (mergeK [] [((.inr x0 : Key), V.str m0)])) = H1 at S ed
    have base : FewF [(x0, m0)] names (ss.map (·.2.1)) marks := ⟨by simp, by simp, fun p hp => by rw [List.mem_singleton.mp hp]; exact ⟨List.mem_of_getElem? g0, h0 x0 g0, List.mem_of_getElem? k0⟩⟩
    refine ⟨.int dg, rfl, .inl ⟨dg, rfl, dg, 3, rfl, rfl, (by show (0 : Int) < 3; decide), dg % 3, 0, rfl, rfl, _, rfl, ?_⟩⟩
    by_cases z : 0 < dg % 3
    · rw [decide_eq_true z]
      refine iteT ⟨.ref n, rfl, n, _, 1, .str x1, rfl, rfl, .inl (.inl (S _ _ hn)), atI_nat (j := 1) (in_names g1), .ref l, rfl, l, rfl, ⟨_, .inl (.inl (S _ _ hl))⟩, fun D nD1 => ?_⟩
      refine lc_list (K := K) (xs := as.map V.ref) (fun i H' => Same H1 H' ∧ H' D = some (.lst (((ss.take i).map (·.2.1)).map V.str))) ⟨same_upd nD1, upd_same⟩ (fun i H' _ hP => .inl (.inl (hP.1 _ _ (S _ _ hl)))) (fun i x H' hx hP => ?_) (fun H' hP => ?_)
      · obtain ⟨S1, eD⟩ := hP
        obtain ⟨ai, st, rfl, gi, g, hai⟩ := ref_get (hst.mono (S.trans S1)) hx
        refine ⟨rfl, ?_⟩
        unfold tYes
        refine iteT ?_
        refine ⟨.ref ai, rfl, ai, [.int st.1, .str st.2.1, .int st.2.2], 1, .str st.2.1, rfl, rfl, .inl (.inl hai), atI_nat (j := 1) rfl, _, eD, small (by rw [List.length_map, List.length_map, List.length_take]; omega), same_set nD1 S1, ?_⟩
        rw [upd_same, take_more g, List.map_append, List.map_append]; rfl
      · obtain ⟨S1, eD⟩ := hP
        rw [List.length_map, hst.length, List.take_length] at eD
        refine ⟨D, _, rfl, .inl (.inl (.inl eD)), rfl, flat_ws _, _, rfl, ?_⟩
        show if inV (.str x1) ((ss.map (·.2.1)).map V.str) = true then _ else _
        rw [inV_strs]
        have S2 := S.trans S1
        by_cases y : x1 ∈ ss.map (·.2.1)
        · rw [decide_eq_true y]
          obtain ⟨m1, k1⟩ : ∃ x, marks[(dg % 3 - 1).toNat]? = some x := ⟨_, List.getElem?_eq_getElem (by omega)⟩
          have ej : dg % 3 - 1 = ((dg % 3 - 1).toNat : Nat) := by omega
          refine iteT ⟨.ref k, rfl, .int dg, rfl, .inl ⟨dg, rfl, dg, 3, rfl, rfl, (by show (0 : Int) < 3; decide), dg % 3, 1, rfl, rfl, k, _, dg % 3 - 1, .str m1, rfl, rfl, .inl (.inl (S2 _ _ hk)), by rw [ej]; exact atI_nat (in_names k1), ?_⟩⟩
          refine ⟨.ref d, rfl, .ref n, rfl, n, _, 1, .str x1, rfl, rfl, .inl (.inl (S2 _ _ hn)), atI_nat (j := 1) (in_names g1), d, _, rfl, DPut.k (k := .inr x1) (S1 _ _ ed) (small (by unfold fkv; simp)), ?_⟩
          refine ⟨.ref d, rfl, ?_⟩
          by_cases e : x0 = x1
          · subst e
            refine q _ d [(x0, m1)] (same_set nD S2) nD ?_ ⟨by simp, by simp, fun p hp => by rw [List.mem_singleton.mp hp]; exact ⟨List.mem_of_getElem? g0, y, List.mem_of_getElem? k1⟩⟩
            rw [upd_same]
            unfold putK fkv
            simp
          · refine q _ d [(x0, m0), (x1, m1)] (same_set nD S2) nD ?_ ⟨by simp [e], by simp, fun p hp => ?_⟩
            · rw [upd_same, putK_new _ (val_none fun p hp => by rw [List.mem_singleton.mp hp]; exact e)]; rfl
            · rcases List.mem_cons.mp hp with h | h
              · rw [h]; exact ⟨List.mem_of_getElem? g0, h0 x0 g0, List.mem_of_getElem? k0⟩
              · rw [List.mem_singleton.mp h]; exact ⟨List.mem_of_getElem? g1, y, List.mem_of_getElem? k1⟩
        · rw [decide_eq_false y]
          exact iteF ⟨.ref d, rfl, q _ d _ S2 nD (S1 _ _ ed) base⟩
    · rw [decide_eq_false z]
      exact iteF (iteF ⟨.ref d, rfl, q _ d _ S nD ed base⟩)

/-! ### the law's own helpers -/
def sp__law_reached (_ : PySem.W.Frag) : Sp := fun vs H Q _ => ∃ (s0 : Int) (l : Addr) (as : List Addr) (ss : List KnA.Stp), vs = [.int s0, .ref l] ∧ H l = some (.lst (as.map V.ref)) ∧ Stps H as ss ∧ stateB (.int s0) = true ∧ (∀ x ∈ ss, GoodStep x) ∧ ∀ H' a ns, Same H H' → H a = none → H' a = some (.lst (ns.map V.int)) → KnA.States ns ss s0 → Q (.ref a) H'
theorem inV_ints {x : Int} {ws : List Int} : inV (.int x) (ws.map V.int) = decide (x ∈ ws) := by
  unfold inV
  induction ws with
  | nil => rfl
  | cons y r ih =>
    rw [List.map_cons, List.any_cons, ih]
    have e : eqV (.int y) (.int x) = decide (y = x) := by
      show (y == x) = decide (y = x)
      by_cases z : y = x
      · rw [z]; simp
      · rw [decide_eq_false z]; exact beq_eq_false_iff_ne.mpr z
    rw [e]
    by_cases z : y = x
    · subst z; simp
    · have z' : ¬ x = y := fun q => z q.symm
      simp [z, z']
theorem flat_is (ws : List Int) : (ws.map V.int).all flatV = true := by
  rw [List.all_map]
  exact List.all_eq_true.mpr fun _ _ => rfl
/-- what has been found: each once, from the start -/
structure Fnd (ss : List KnA.Stp) (s0 : Int) (R : List Int) : Prop where
  nd : R.Nodup
  re : ∀ x ∈ R, KnA.Reach ss s0 x
  st : ∀ x ∈ R, 0 ≤ x ∧ x ≤ 99
  s0 : s0 ∈ R
def Clo (ss : List KnA.Stp) (R : List Int) : Prop := ∀ st ∈ ss, st.1 ∈ R → st.2.2 ∈ R
theorem Fnd.push {ss : List KnA.Stp} {s0 : Int} {R : List Int} (h : Fnd ss s0 R) {y : Int} (hy : y ∉ R) (hr : KnA.Reach ss s0 y) (hs : 0 ≤ y ∧ y ≤ 99) : Fnd ss s0 (R ++ [y]) := by
  have mem : ∀ {l : List Int} {x : Int}, x ∈ l ++ [y] ↔ x ∈ l ∨ x = y := fun {l x} => by rw [List.mem_append, List.mem_singleton]
  refine ⟨?_, fun x hx => ?_, fun x hx => ?_, mem.mpr (.inl h.s0)⟩
  · refine List.nodup_append.mpr ⟨h.nd, by simp, fun a ha b hb e => ?_⟩
    rw [List.mem_singleton] at hb
    exact hy (hb ▸ e ▸ ha)
  · rcases mem.mp hx with q | q
    · exact h.re x q
    · rw [q]; exact hr
  · rcases mem.mp hx with q | q
    · exact h.st x q
    · rw [q]; exact hs
theorem ok__law_reached {f : Addr} {C : Addr} {fd : FuncData} (T : Txt K mg C) (F : Fun K "_law_reached" "_law_reached" s__law_reached f fd)  : FnOk P w K mg base CX0 1 f fd ["_law_start", "_law_steps"] (sp__law_reached K) := by
  have nd := sc__law_reached.nd
  refine F.ok sc__law_reached (fun vs H Q E h => ?_) (fun cdv A outer s H vs Q E hr h => ?_)
  · obtain ⟨s0, l, as, ss, rfl, _⟩ := h
    rfl
  · obtain ⟨s0, l, as, ss, rfl, hl, hst, st0, gs, q⟩ := h
    refine ⟨_, (pss_cons (ps_set (i := 2) nd rfl (.inl rfl) (pe_lst (pa_cons (pv 0) pa_nil)))
      (pss_cons (ps_for PassesOwn.never rfl (pi_range1 (by rfl) T.m_range (pa_cons pe_int pa_nil)) (pg_name (i := 3) nd rfl (.inl rfl)) (pss_one (ps_for PassesOwn.never rfl (pi_list (pv 1)) (pg_name (i := 4) nd rfl (.inl rfl)) (pss_one (ps_if (PW.pt (pw_and (pt_cmpR op_in_seq (pe_ix (r := rIxT K) ix_tup (pv 4) pe_int (fun _ _ => rfl)) (pv 2) (by with_unfolding_all rfl)) (pw_and1 (pt_cmpR op_notIn_seq (pe_ix (r := rIxT K) ix_tup (pv 4) pe_int (fun _ _ => rfl)) (pv 2) (by with_unfolding_all rfl))))) (pss_one (ps_expr (pe_bm PySem.F.plainAttrs_list PySem.F.slot_list_append PySem.F.type_list_append mt_append (pv 2) (pa_cons (pe_ix (r := rIxT K) ix_tup (pv 4) pe_int (fun _ _ => rfl)) pa_nil)))) pss_nil)))))
      (pss_one (ps_ret (pe_callB cr_sortedI (by rfl) T.m_sorted (by decide +kernel) (pa_cons (pv 2) pa_nil)))))), ?_⟩
    refine ⟨.int s0, rfl, szl rfl, fun f nf => ?_⟩
    have s1 := same_upd (o := .lst [.int s0]) nf
    refine ⟨100, rfl, by decide, by decide, ?_⟩
    refine for_range (lo := 0) (n := 100) (fun i σ H' => ∃ y3 y4 R, σ = [some (.int s0), some (.ref l), some (.ref f), y3, y4] ∧ Same H H' ∧ H' f = some (.lst (R.map V.int)) ∧ Fnd ss s0 R ∧ (Clo ss R ∨ i + 1 ≤ R.length))
      ⟨_, _, [s0], rfl, s1, upd_same, ⟨by simp, fun x hx => by rw [List.mem_singleton.mp hx]; exact .start, fun x hx => by rw [List.mem_singleton.mp hx]; exact state_in st0, List.mem_singleton.mpr rfl⟩, .inr (Nat.le_refl _)⟩ (fun i σ H' hi hP => ?_) (fun σ H' hP => ?_)
    · obtain ⟨y3, y4, R0, rfl, S, ef, fd0, cl0⟩ := hP
      refine ⟨.ref l, rfl, l, rfl, ⟨_, .inl (.inl (S _ _ hl))⟩, ?_⟩
      refine for_list (K := K) (xs := as.map V.ref) (fun j σ H' => ∃ y4 R, σ = [some (.int s0), some (.ref l), some (.ref f), some (.int (0 + (i : Nat))), y4] ∧ Same H H' ∧ H' f = some (.lst (R.map V.int)) ∧ Fnd ss s0 R ∧ ((R = R0 ∧ Clo (ss.take j) R) ∨ (R0.length < R.length ∧ ¬ Clo ss R0)))
        ⟨_, R0, rfl, S, ef, fd0, .inl ⟨rfl, fun st h => absurd h (by simp)⟩⟩ (fun j σ H' _ ⟨_, _, _, S, _⟩ => .inl (.inl (S _ _ hl))) (fun j x σ H' hx hP => ?_) (fun σ H' hP => ?_)
      · obtain ⟨y4, R, rfl, S, ef, fd1, cl⟩ := hP
        obtain ⟨ai, st, rfl, gi, g, hai⟩ := ref_get (hst.mono S) hx
        have hm := List.mem_of_getElem? g
        have sq : SqT K H' ai [.int st.1, .str st.2.1, .int st.2.2] := .inl (.inl hai)
        have stay : (st.1 ∈ R → st.2.2 ∈ R) → (R = R0 ∧ Clo (ss.take (j + 1)) R) ∨ (R0.length < R.length ∧ ¬ Clo ss R0) := fun k => by
          rcases cl with ⟨e, c⟩ | c
          · refine .inl ⟨e, fun u hu => ?_⟩
            rw [take_more g, List.mem_append, List.mem_singleton] at hu
            rcases hu with hu | hu
            · exact c u hu
            · rw [hu]; exact k
          · exact .inr c
        refine ⟨.ref ai, rfl, ai, _, 0, .int st.1, rfl, rfl, sq, atI_nat (j := 0) rfl, .ref f, rfl, f, R.map V.int, rfl, .inl (.inl (.inl ef)), rfl, flat_is R, _, rfl, ?_⟩
        show if inV (.int st.1) (R.map V.int) = true then _ else _
        rw [inV_ints]
        by_cases z1 : st.1 ∈ R
        · rw [decide_eq_true z1]
          refine iteT ⟨.ref ai, rfl, ai, _, 2, .int st.2.2, rfl, rfl, sq, atI_nat (j := 2) rfl, .ref f, rfl, f, R.map V.int, rfl, .inl (.inl (.inl ef)), rfl, flat_is R, _, rfl, ?_⟩
          show if (!inV (.int st.2.2) (R.map V.int)) = true then _ else _
          rw [inV_ints]
          by_cases z2 : st.2.2 ∈ R
          · rw [decide_eq_true z2]
            exact iteF ⟨_, R, rfl, S, ef, fd1, stay fun _ => z2⟩
          · rw [decide_eq_false z2]
            have few := few_int fd1.nd fd1.st
            refine iteT ⟨.ref f, rfl, .inl ⟨rfl, _, .inl (.inl ef)⟩, .ref ai, rfl, ai, _, 2, .int st.2.2, rfl, rfl, sq, atI_nat (j := 2) rfl, f, R.map V.int, .int st.2.2, rfl, rfl, ef, small (by rw [List.length_map]; omega), ?_⟩
            refine ⟨_, R ++ [st.2.2], rfl, same_set nf S, by rw [upd_same, List.map_append]; rfl, fd1.push z2 (.step (w := st.2.1) (fd1.re _ z1) hm) (state_in (gs _ hm).t), .inr ?_⟩
            rw [List.length_append]
            rcases cl with ⟨e, c⟩ | ⟨c1, c2⟩
            · refine ⟨by rw [e]; exact Nat.lt_succ_self _, fun k => z2 ?_⟩
              rw [e] at z1 ⊢
              exact k st hm z1
            · exact ⟨Nat.lt_of_lt_of_le c1 (Nat.le_add_right _ _), c2⟩
        · rw [decide_eq_false z1]
          exact iteF (iteF ⟨_, R, rfl, S, ef, fd1, stay fun h => absurd h z1⟩)
      · obtain ⟨y4, R, rfl, S, ef, fd1, cl⟩ := hP
        refine ⟨_, _, R, rfl, S, ef, fd1, ?_⟩
        rcases cl with ⟨e, c⟩ | ⟨c1, c2⟩
        · rw [List.length_map, hst.length, List.take_length] at c
          exact .inl c
        · exact .inr (by have := cl0.resolve_left c2; omega)
    · obtain ⟨y3, y4, R, rfl, S, ef, fd1, cl⟩ := hP
      have few := few_int fd1.nd fd1.st
      have clo := cl.resolve_right (by omega)
      refine ⟨.ref f, rfl, f, R, rfl, .inl (.inl ef), fun ns o hp hs no => ?_⟩
      refine q _ o ns (S.trans (same_upd no)) (S.free no) upd_same ⟨KnA.lt_of_le hs (hp.symm.nodup fd1.nd), fun x => ?_⟩
      rw [hp.mem_iff]
      exact KnA.reach_of fd1.s0 (fun x w y hx hm => clo (x, w, y) hm hx) fd1.re x

theorem ok__law_is_integer {f : Addr} {C : Addr} {fd : FuncData} (T : Txt K mg C) (F : Fun K "_law_is_integer" "_law_is_integer" s__law_is_integer f fd)  : FnOk P w K mg base CX0 1 f fd ["_law_thing_here"] (sp__law_is_integer K) := by
  have nd := sc__law_is_integer.nd
  refine F.ok sc__law_is_integer (fun vs H Q E h => ?_) (fun cdv A outer s H vs Q E hr h => ?_)
  · obtain ⟨v, rfl, _⟩ := h
    rfl
  · obtain ⟨v, rfl, hv, q⟩ := h
    refine ⟨_, (pss_one (ps_ret (pe_and (pe_callB call_isi (by rfl) T.m_isinstance (by decide +kernel) (pa_cons (pv 0) (pa_cons (pe_bltn (v := .ty "int") (u := .type "int") (by rfl) T.m_int (by decide +kernel) rfl) pa_nil))) (pe_one (pe_not (pe_callB call_isi (by rfl) T.m_isinstance (by decide +kernel) (pa_cons (pv 0) (pa_cons (pe_bltn (v := .ty "bool") (u := .type "bool") (by rfl) T.m_bool (by decide +kernel) rfl) pa_nil)))))))), ?_⟩
    obtain ⟨t, ht, hs, hi, hb⟩ := hv.ty
    refine ⟨v, rfl, v, .ty "int", t, _, isI v, rfl, .ty _, ht, hi, _, rfl, ?_⟩
    have q' := q H (Same.refl H)
    unfold wholeB at q'
    by_cases e : isI v = true
    · rw [if_pos e]
      refine ⟨v, rfl, v, .ty "bool", t, _, isB v, rfl, .ty _, ht, hb, _, rfl, ?_⟩
      rw [e] at q'
      exact q'
    · rw [if_neg e]
      rw [Bool.eq_false_iff.mpr e] at q'
      exact q'


/-! ### two values are the same, kind by kind -/
inductive ExA (K : PySem.W.Frag) : V → V → Prop where
  | non : ExA K .non .non
  | bl (b : Bool) : ExA K (.bl b) (.bl b)
  | int (i : Int) : ExA K (.int i) (.int i)
  | str (z : Str) : ExA K (.str z) (.str z)
/-- .. with lists and tuples, nested less than n deep -/
def Ex (K : PySem.W.Frag) (H : Hp) : Nat → V → V → Prop
  | 0, _, _ => False
  | n + 1, x, y => ExA K x y ∨ ∃ b a a' xs ys, x = .ref a ∧ y = .ref a' ∧ H a = some (rowO b xs) ∧ H a' = some (rowO b ys) ∧ xs.length ≤ 100000 ∧ Paired (Ex K H n) xs ys
theorem Ex.mono {K : PySem.W.Frag} {H H' : Hp} (s : Same H H') : ∀ {n : Nat} {x y : V}, Ex K H n x y → Ex K H' n x y
  | 0, _, _, h => h
  | n + 1, _, _, h => by
    rcases h with h | ⟨b, a, a', xs, ys, e1, e2, h1, h2, l, p⟩
    · exact .inl h
    · exact .inr ⟨b, a, a', xs, ys, e1, e2, s _ _ h1, s _ _ h2, l, Paired.mapP p fun _ _ e => Ex.mono s e⟩
def spEx (n : Nat) (K : PySem.W.Frag) : Sp := fun vs H Q _ => ∃ x y, vs = [x, y] ∧ Ex K H n x y ∧ ∀ H', Same H H' → Q (.bl true) H'
def sp__law_exact := spEx 4
theorem ok_ex0 {f : Addr} {fd : FuncData} (F : Fun K "_law_exact" "_law_exact" s__law_exact f fd) : FnOk P w K mg base CX0 1 f fd ["_law_told", "_law_due"] (spEx 0 K) := by
  refine F.ok sc__law_exact (fun vs H Q E h => ?_) (fun cdv A outer s H vs Q E hr h => ?_)
  · obtain ⟨x, y, rfl, _⟩ := h
    rfl
  · obtain ⟨x, y, rfl, hx, q⟩ := h
    exact hx.elim
theorem ok_exs {f : Addr} {C : Addr} {fd : FuncData} (T : Txt K mg C) (F : Fun K "_law_exact" "_law_exact" s__law_exact f fd) (n : Nat) (c__law_is_integer : Cal P w K mg base 1 "_law_is_integer" (sp__law_is_integer K) [])
    (c__law_exact : Cal P w K mg base (n + 1) "_law_exact" (spEx n K) []) : FnOk P w K mg base CX0 (n + 1 + 1) f fd ["_law_told", "_law_due"] (spEx (n + 1) K) := by
  have nd := sc__law_exact.nd
  refine F.ok sc__law_exact (fun vs H Q E h => ?_) (fun cdv A outer s H vs Q E hr h => ?_)
  · obtain ⟨x, y, rfl, _⟩ := h
    rfl
  · obtain ⟨x, y, rfl, hx, q⟩ := h
    refine ⟨_, (pss_cons (ps_if (PW.pt (pw_or (pt_val (pe_callB call_isi (by rfl) T.m_isinstance (by decide +kernel) (pa_cons (pv 1) (pa_cons (pe_bltn (v := .ty "list") (u := .type "list") (by rfl) T.m_list (by decide +kernel) rfl) pa_nil)))) (pw_or1 (pt_val (pe_callB call_isi (by rfl) T.m_isinstance (by decide +kernel) (pa_cons (pv 1) (pa_cons (pe_bltn (v := .ty "tuple") (u := .type "tuple") (by rfl) T.m_tuple (by decide +kernel) rfl) pa_nil))))))) (pss_cons (ps_if (PW.pt (pw_and (pt_val (pe_callB call_isi (by rfl) T.m_isinstance (by decide +kernel) (pa_cons (pv 1) (pa_cons (pe_bltn (v := .ty "list") (u := .type "list") (by rfl) T.m_list (by decide +kernel) rfl) pa_nil)))) (pw_and1 (pt_not (pt_val (pe_callB call_isi (by rfl) T.m_isinstance (by decide +kernel) (pa_cons (pv 0) (pa_cons (pe_bltn (v := .ty "list") (u := .type "list") (by rfl) T.m_list (by decide +kernel) rfl) pa_nil)))))))) (pss_one (ps_ret pe_bl)) pss_nil)
      (pss_cons (ps_if (PW.pt (pw_and (pt_val (pe_callB call_isi (by rfl) T.m_isinstance (by decide +kernel) (pa_cons (pv 1) (pa_cons (pe_bltn (v := .ty "tuple") (u := .type "tuple") (by rfl) T.m_tuple (by decide +kernel) rfl) pa_nil)))) (pw_and1 (pt_not (pt_val (pe_callB call_isi (by rfl) T.m_isinstance (by decide +kernel) (pa_cons (pv 0) (pa_cons (pe_bltn (v := .ty "tuple") (u := .type "tuple") (by rfl) T.m_tuple (by decide +kernel) rfl) pa_nil)))))))) (pss_one (ps_ret pe_bl)) pss_nil)
      (pss_cons (ps_if (pt_cmpR op_ne (pe_callB call_len (by rfl) T.m_len (by decide +kernel) (pa_cons (pv 0) pa_nil)) (pe_callB call_len (by rfl) T.m_len (by decide +kernel) (pa_cons (pv 1) pa_nil)) (nomark _)) (pss_one (ps_ret pe_bl)) pss_nil)
      (pss_cons (ps_for PassesOwn.never rfl (pi_range1 (by rfl) T.m_range (pa_cons (pe_callB call_len (by rfl) T.m_len (by decide +kernel) (pa_cons (pv 1) pa_nil)) pa_nil)) (pg_name (i := 2) nd rfl (.inl rfl)) (pss_one (ps_if (pt_not (pt_val (pe_c c__law_exact hr (by omega) (by rfl) (pa_cons (pe_ix (r := KnC.rIx K) (KnC.ix_seq ix_list ix_tup) (pv 0) (pv 2) (fun _ _ => rfl)) (pa_cons (pe_ix (r := KnC.rIx K) (KnC.ix_seq ix_list ix_tup) (pv 1) (pv 2) (fun _ _ => rfl)) pa_nil))))) (pss_one (ps_ret pe_bl)) pss_nil)))
      (pss_one (ps_ret pe_bl)))))) pss_nil)
      (pss_cons (ps_if (pt_cmpR op_isN (pv 1) pe_non (nomark _)) (pss_one (ps_ret (pe_cmpR op_isN (pv 0) pe_non (nomark _)))) pss_nil)
      (pss_cons (ps_if (pt_val (pe_callB call_isi (by rfl) T.m_isinstance (by decide +kernel) (pa_cons (pv 1) (pa_cons (pe_bltn (v := .ty "bool") (u := .type "bool") (by rfl) T.m_bool (by decide +kernel) rfl) pa_nil)))) (pss_one (ps_ret (pe_and (pe_callB call_isi (by rfl) T.m_isinstance (by decide +kernel) (pa_cons (pv 0) (pa_cons (pe_bltn (v := .ty "bool") (u := .type "bool") (by rfl) T.m_bool (by decide +kernel) rfl) pa_nil))) (pe_one (pe_cmpR op_eq (pv 0) (pv 1) (nomark _)))))) pss_nil)
      (pss_cons (ps_if (pt_val (pe_callB call_isi (by rfl) T.m_isinstance (by decide +kernel) (pa_cons (pv 1) (pa_cons (pe_bltn (v := .ty "int") (u := .type "int") (by rfl) T.m_int (by decide +kernel) rfl) pa_nil)))) (pss_one (ps_ret (pe_and (pe_c c__law_is_integer hr (by omega) (by rfl) (pa_cons (pv 0) pa_nil)) (pe_one (pe_cmpR op_eq (pv 0) (pv 1) (nomark _)))))) pss_nil)
      (pss_one (ps_ret (pe_and (pe_callB call_isi (by rfl) T.m_isinstance (by decide +kernel) (pa_cons (pv 0) (pa_cons (pe_bltn (v := .ty "str") (u := .type "str") (by rfl) T.m_str (by decide +kernel) rfl) pa_nil))) (pe_one (pe_cmpR op_eq (pv 0) (pv 1) (nomark _)))))))))), ?_⟩
    have q0 := q H (Same.refl H)
    rcases hx with hx | ⟨b, a, a', xs, ys, rfl, rfl, ha, ha', hl, hp⟩
    · cases hx with
      | non =>
        refine ⟨.non, rfl, .non, .ty "list", _, _, false, rfl, .ty _, .base .non, kit_ty (show kitB "NoneType" "list" = some false by decide +kernel), _, rfl, iteF ?_⟩
        refine ⟨.non, rfl, .non, .ty "tuple", _, _, false, rfl, .ty _, .base .non, kit_ty (show kitB "NoneType" "tuple" = some false by decide +kernel), _, rfl, iteF ?_⟩
        exact ⟨.non, rfl, rfl, _, rfl, iteT ⟨.non, rfl, rfl, q0⟩⟩
      | bl c =>
        refine ⟨.bl c, rfl, .bl c, .ty "list", _, _, false, rfl, .ty _, .base (.bl c), kit_ty (show kitB "bool" "list" = some false by decide +kernel), _, rfl, iteF ?_⟩
        refine ⟨.bl c, rfl, .bl c, .ty "tuple", _, _, false, rfl, .ty _, .base (.bl c), kit_ty (show kitB "bool" "tuple" = some false by decide +kernel), _, rfl, iteF ?_⟩
        refine ⟨.bl c, rfl, rfl, _, rfl, ?_⟩
        rw [decide_eq_false (show ¬ V.bl c = V.non from fun z => by cases z)]
        refine iteF ⟨.bl c, rfl, .bl c, .ty "bool", _, _, true, rfl, .ty _, .base (.bl c), kit_ty (show kitB "bool" "bool" = some true by decide +kernel), _, rfl, iteT ?_⟩
        refine ⟨.bl c, rfl, .bl c, .ty "bool", _, _, true, rfl, .ty _, .base (.bl c), kit_ty (show kitB "bool" "bool" = some true by decide +kernel), _, rfl, iteT ⟨.bl c, rfl, .bl c, rfl, rfl, ?_⟩⟩
        rw [decide_eq_true rfl]
        exact q0
      | int i =>
        refine ⟨.int i, rfl, .int i, .ty "list", _, _, false, rfl, .ty _, .base (.int i), kit_ty (show kitB "int" "list" = some false by decide +kernel), _, rfl, iteF ?_⟩
        refine ⟨.int i, rfl, .int i, .ty "tuple", _, _, false, rfl, .ty _, .base (.int i), kit_ty (show kitB "int" "tuple" = some false by decide +kernel), _, rfl, iteF ?_⟩
        refine ⟨.int i, rfl, rfl, _, rfl, ?_⟩
        rw [decide_eq_false (show ¬ V.int i = V.non from fun z => by cases z)]
        refine iteF ⟨.int i, rfl, .int i, .ty "bool", _, _, false, rfl, .ty _, .base (.int i), kit_ty (show kitB "int" "bool" = some false by decide +kernel), _, rfl, iteF ?_⟩
        refine ⟨.int i, rfl, .int i, .ty "int", _, _, true, rfl, .ty _, .base (.int i), kit_ty (show kitB "int" "int" = some true by decide +kernel), _, rfl, iteT ?_⟩
        refine ⟨.int i, rfl, .int i, rfl, .int _, fun H1 s1 => ⟨_, rfl, iteT ⟨.int i, rfl, .int i, rfl, rfl, ?_⟩⟩⟩
        rw [decide_eq_true rfl]
        exact q H1 s1
      | str z =>
        refine ⟨.str z, rfl, .str z, .ty "list", _, _, false, rfl, .ty _, .base (.str z), kit_ty (show kitB "str" "list" = some false by decide +kernel), _, rfl, iteF ?_⟩
        refine ⟨.str z, rfl, .str z, .ty "tuple", _, _, false, rfl, .ty _, .base (.str z), kit_ty (show kitB "str" "tuple" = some false by decide +kernel), _, rfl, iteF ?_⟩
        refine ⟨.str z, rfl, rfl, _, rfl, ?_⟩
        rw [decide_eq_false (show ¬ V.str z = V.non from fun z => by cases z)]
        refine iteF ⟨.str z, rfl, .str z, .ty "bool", _, _, false, rfl, .ty _, .base (.str z), kit_ty (show kitB "str" "bool" = some false by decide +kernel), _, rfl, iteF ?_⟩
        refine ⟨.str z, rfl, .str z, .ty "int", _, _, false, rfl, .ty _, .base (.str z), kit_ty (show kitB "str" "int" = some false by decide +kernel), _, rfl, iteF ?_⟩
        refine ⟨.str z, rfl, .str z, .ty "str", _, _, true, rfl, .ty _, .base (.str z), kit_ty (show kitB "str" "str" = some true by decide +kernel), _, rfl, iteT ⟨.str z, rfl, .str z, rfl, rfl, ?_⟩⟩
        rw [decide_eq_true rfl]
        exact q0
    · have hly := hp.length
      have len1 : ∀ {G : Hp}, Same H G → LenV K (.ref a) G xs.length := fun s => row_len (s _ _ ha)
      have len2 : ∀ {G : Hp}, Same H G → LenV K (.ref a') G xs.length := fun s => by rw [hly]; exact row_len (s _ _ ha')
      cases b with
      | true =>
        refine ⟨.ref a', rfl, .ref a', .ty "list", _, _, true, rfl, .ty _, .base (.lst ha'), kit_ty (show kitB "list" "list" = some true by decide +kernel), _, rfl, iteT ?_⟩
        refine ⟨.ref a', rfl, .ref a', .ty "list", _, _, true, rfl, .ty _, .base (.lst ha'), kit_ty (show kitB "list" "list" = some true by decide +kernel), _, rfl, iteT ⟨.ref a, rfl, .ref a, .ty "list", _, _, true, rfl, .ty _, .base (.lst ha), kit_ty (show kitB "list" "list" = some true by decide +kernel), _, rfl, iteF ?_⟩⟩
        refine ⟨.ref a', rfl, .ref a', .ty "tuple", _, _, false, rfl, .ty _, .base (.lst ha'), kit_ty (show kitB "list" "tuple" = some false by decide +kernel), _, rfl, iteF (iteF ?_)⟩
        refine ⟨.ref a, rfl, .ref a, xs.length, rfl, len1 (Same.refl H), .ref a', rfl, .ref a', xs.length, rfl, len2 (Same.refl H), rfl, _, rfl, ?_⟩
        rw [decide_eq_true rfl]
        refine iteF ⟨.ref a', rfl, .ref a', xs.length, rfl, len2 (Same.refl H), (xs.length : Int), rfl, by omega, by omega, ?_⟩
        refine for_range (lo := 0) (n := ((xs.length : Int)).toNat) (fun i σ H' => Same H H' ∧ ∃ y2, σ = [some (.ref a), some (.ref a'), y2]) ⟨Same.refl H, none, rfl⟩ (fun i σ H' hi hP => ?_) (fun σ H' hP => ?_)
        · obtain ⟨S, y2, rfl⟩ := hP
          have hi' : i < xs.length := by omega
          have g1 : xs[i]? = some xs[i] := List.getElem?_eq_getElem hi'
          obtain ⟨y, g2, hxy⟩ := paired_get hp g1
          have e0 : (0 : Int) + (i : Nat) = (i : Nat) := by omega
          rw [e0]
          refine ⟨.ref a, rfl, .int (i : Nat), rfl, .inl ⟨a, xs, _, xs[i], rfl, rfl, .inl (.inl (S _ _ ha)), atI_nat g1, ?_⟩⟩
          refine ⟨.ref a', rfl, .int (i : Nat), rfl, .inl ⟨a', ys, _, y, rfl, rfl, .inl (.inl (S _ _ ha')), atI_nat g2, ?_⟩⟩
          exact ⟨xs[i], y, rfl, Ex.mono S hxy, fun H1 s1 => ⟨_, rfl, iteF ⟨S.trans s1, _, rfl⟩⟩⟩
        · obtain ⟨S, y2, rfl⟩ := hP
          exact q H' S
      | false =>
        refine ⟨.ref a', rfl, .ref a', .ty "list", _, _, false, rfl, .ty _, .base (.tup ha'), kit_ty (show kitB "tuple" "list" = some false by decide +kernel), _, rfl, iteF ⟨.ref a', rfl, .ref a', .ty "tuple", _, _, true, rfl, .ty _, .base (.tup ha'), kit_ty (show kitB "tuple" "tuple" = some true by decide +kernel), _, rfl, iteT ?_⟩⟩
        refine ⟨.ref a', rfl, .ref a', .ty "list", _, _, false, rfl, .ty _, .base (.tup ha'), kit_ty (show kitB "tuple" "list" = some false by decide +kernel), _, rfl, iteF (iteF ?_)⟩
        refine ⟨.ref a', rfl, .ref a', .ty "tuple", _, _, true, rfl, .ty _, .base (.tup ha'), kit_ty (show kitB "tuple" "tuple" = some true by decide +kernel), _, rfl, iteT ⟨.ref a, rfl, .ref a, .ty "tuple", _, _, true, rfl, .ty _, .base (.tup ha), kit_ty (show kitB "tuple" "tuple" = some true by decide +kernel), _, rfl, iteF ?_⟩⟩
        refine ⟨.ref a, rfl, .ref a, xs.length, rfl, len1 (Same.refl H), .ref a', rfl, .ref a', xs.length, rfl, len2 (Same.refl H), rfl, _, rfl, ?_⟩
        rw [decide_eq_true rfl]
        refine iteF ⟨.ref a', rfl, .ref a', xs.length, rfl, len2 (Same.refl H), (xs.length : Int), rfl, by omega, by omega, ?_⟩
        refine for_range (lo := 0) (n := ((xs.length : Int)).toNat) (fun i σ H' => Same H H' ∧ ∃ y2, σ = [some (.ref a), some (.ref a'), y2]) ⟨Same.refl H, none, rfl⟩ (fun i σ H' hi hP => ?_) (fun σ H' hP => ?_)
        · obtain ⟨S, y2, rfl⟩ := hP
          have hi' : i < xs.length := by omega
          have g1 : xs[i]? = some xs[i] := List.getElem?_eq_getElem hi'
          obtain ⟨y, g2, hxy⟩ := paired_get hp g1
          have e0 : (0 : Int) + (i : Nat) = (i : Nat) := by omega
          rw [e0]
          refine ⟨.ref a, rfl, .int (i : Nat), rfl, .inr ⟨a, xs, _, xs[i], rfl, rfl, .inl (.inl (S _ _ ha)), atI_nat g1, ?_⟩⟩
          refine ⟨.ref a', rfl, .int (i : Nat), rfl, .inr ⟨a', ys, _, y, rfl, rfl, .inl (.inl (S _ _ ha')), atI_nat g2, ?_⟩⟩
          exact ⟨xs[i], y, rfl, Ex.mono S hxy, fun H1 s1 => ⟨_, rfl, iteF ⟨S.trans s1, _, rfl⟩⟩⟩
        · obtain ⟨S, y2, rfl⟩ := hP
          exact q H' S

/-! ### faults given in another order -/
theorem look_cons (x n : Str) (r : List (Str × Str)) (y : Str) : look ((x, n) :: r) y = if x = y then some n else look r y := by
  unfold look
  by_cases e : x = y
  · rw [List.find?_cons_of_pos (by simp [e]), if_pos e]; rfl
  · rw [List.find?_cons_of_neg (by simp [e]), if_neg e]
theorem look_mem {fs : List (Str × Str)} (nd : (fs.map (·.1)).Nodup) {x n : Str} : look fs x = some n ↔ (x, n) ∈ fs := by
  induction fs with
  | nil => exact ⟨fun h => (by cases h), fun h => nomatch h⟩
  | cons p r ih =>
    obtain ⟨y, m⟩ := p
    rw [List.map_cons, List.nodup_cons] at nd
    rw [look_cons]
    by_cases e : y = x
    · subst e
      rw [if_pos rfl]
      constructor
      · intro h; cases h; exact List.mem_cons_self
      · intro h
        rcases List.mem_cons.mp h with h | h
        · cases h; rfl
        · exact absurd (List.mem_map.mpr ⟨_, h, rfl⟩) nd.1
    · rw [if_neg e, ih nd.2]
      constructor
      · intro h; exact List.mem_cons_of_mem _ h
      · intro h
        rcases List.mem_cons.mp h with h | h
        · cases h; exact absurd rfl e
        · exact h
theorem look_perm {gv fs : List (Str × Str)} (nd : (fs.map (·.1)).Nodup) (p : gv.Perm fs) (x : Str) : look gv x = look fs x := by
  have nd' : (gv.map (·.1)).Nodup := (p.map _).symm.nodup nd
  cases e : look fs x with
  | some n => rw [look_mem nd', p.mem_iff, ← look_mem nd]; exact e
  | none =>
    cases e' : look gv x with
    | none => rfl
    | some n => rw [look_mem nd', p.mem_iff, ← look_mem nd, e] at e'; cases e'
theorem order_perm {gv fs : List (Str × Str)} (nd : (fs.map (·.1)).Nodup) (p : gv.Perm fs) (ws : List Str) : orderF ws gv = orderF ws fs := by
  unfold orderF
  congr 1
  funext x
  rw [look_perm nd p]
theorem order_fst (ws : List Str) (fs : List (Str × Str)) : (orderF ws fs).map (·.1) = ws.filter fun x => (look fs x).isSome := by
  unfold orderF
  induction ws with
  | nil => rfl
  | cons x r ih =>
    rw [List.filterMap_cons]
    cases e : look fs x with
    | none => rw [List.filter_cons_of_neg (by simp [e])]; exact ih
    | some n => rw [List.filter_cons_of_pos (by simp [e]), ← ih]; rfl
theorem order_mem {ws : List Str} {fs : List (Str × Str)} {p : Str × Str} : p ∈ orderF ws fs ↔ p.1 ∈ ws ∧ look fs p.1 = some p.2 := by
  unfold orderF
  rw [List.mem_filterMap]
  constructor
  · rintro ⟨x, hx, e⟩
    cases g : look fs x with
    | none => rw [g] at e; cases e
    | some n => rw [g] at e; cases e; exact ⟨hx, g⟩
  · rintro ⟨h1, h2⟩
    exact ⟨p.1, h1, by rw [h2]; rfl⟩
theorem order_same {ws : List Str} {fs : List (Str × Str)} (nws : ws.Nodup) (nd : (fs.map (·.1)).Nodup) (h : ∀ p ∈ fs, p.1 ∈ ws) : (orderF ws fs).Perm fs := by
  have n1 : ((orderF ws fs).map (·.1)).Nodup := by rw [order_fst]; exact List.filter_sublist.nodup nws
  have ndp : ∀ {l : List (Str × Str)}, (l.map (·.1)).Nodup → l.Nodup := fun {l} hl => (List.pairwise_map.mp hl).imp fun hne e => hne (congrArg (·.1) e)
  refine (List.perm_ext_iff_of_nodup (ndp n1) (ndp nd)).mpr fun p => ?_
  rw [order_mem, look_mem nd]
  exact ⟨fun q => q.2, fun q => ⟨h p q, q⟩⟩
/-- both dicts hold the same -/
theorem same_dict {ws : List Str} {fs : List (Str × Str)} (nws : ws.Nodup) (nd : (fs.map (·.1)).Nodup) (h : ∀ p ∈ fs, p.1 ∈ ws) : (fkv (orderF ws fs)).length = (fkv fs).length ∧ ∀ p ∈ fkv (orderF ws fs), valV (fkv fs) p.1 = some p.2 ∧ flatB p.2 = true := by
  refine ⟨by unfold fkv; rw [List.length_map, List.length_map]; exact (order_same nws nd h).length_eq, fun p hp => ?_⟩
  unfold fkv at hp
  obtain ⟨u, hu, rfl⟩ := List.mem_map.mp hp
  refine ⟨?_, rfl⟩
  show valV (fkv fs) (.inr u.1) = _
  rw [look_val, (order_mem.mp hu).2]; rfl
theorem FewF.good {fs gv : List (Str × Str)} {names words marks : List Str} (f : FewF fs names words marks) (p : gv.Perm fs) (h1 : ∀ z ∈ names, nameB (.str z) = true) (h2 : ∀ z ∈ marks, nameB (.str z) = true) : GoodFaults gv words := by
  have len : gv.length ≤ 2 := by rw [p.length_eq]; exact f.len
  refine ⟨fun u hu => ?_, ?_, by omega⟩
  · obtain ⟨a, b, c⟩ := f.mem u (p.mem_iff.mp hu)
    exact ⟨h1 _ a, b, h2 _ c⟩
  · have := KnS.foldL_length (gv.map fun p => (Sum.inr p.2 : Key)) []
    rw [List.length_map] at this
    show (List.foldl KnS.addL [] _).length ≤ 3
    have h0 : ([] : List Key).length = 0 := rfl
    omega

theorem paired_same {α : Type} {F : α → α → Prop} {l : List α} (h : ∀ x ∈ l, F x x) : Paired F l l := by
  induction l with
  | nil => exact .nil
  | cons x r ih => exact .cons (h x List.mem_cons_self) (ih fun y hy => h y (List.mem_cons_of_mem _ hy))
theorem ex_strs {K : PySem.W.Frag} {H : Hp} {n : Nat} {a b : Addr} {xs : List Str} (ha : H a = some (.lst (xs.map V.str))) (hb : H b = some (.lst (xs.map V.str))) (hl : xs.length ≤ 100000) : Ex K H (n + 2) (.ref a) (.ref b) := by
  refine .inr ⟨true, a, b, _, _, rfl, rfl, ha, hb, by rw [List.length_map]; exact hl, paired_same fun x hx => ?_⟩
  obtain ⟨y, _, rfl⟩ := List.mem_map.mp hx
  exact .inl (.str y)

/-! ### a drawn system -/
structure Sys (H : Hp) (t : Addr) (many : Nat) (s0 : Int) (sl fd n1 n2 : Addr) (as : List Addr) (ss : List KnA.Stp) (fs : List (Str × Str)) (zs : List Str) : Prop where
  at_ : H t = some (.lst [.int s0, .ref sl, .ref fd, .ref n1, .ref n2])
  h1 : H sl = some (.lst (as.map V.ref))
  st : Stps H as ss
  h2 : H fd = some (.dK (fkv fs))
  h3 : H n1 = some (.lst ((zs.take many).map V.str))
  h4 : H n2 = some (.lst ((zs.drop many).map V.str))
  lz : zs.length = many + 2
  hz : ∀ z ∈ zs, nameB (.str z) = true
  gm : GoodMach s0 ss fs
  ff : FewF fs zs (ss.map (·.2.1)) (zs.drop many)
def sp__law_system (K : PySem.W.Frag) : Sp := fun vs H Q _ => ∃ (a : Addr) (ns : List Int) (mo ex many : Nat), vs = [.ref a, .int (mo : Int), .int (ex : Int), .int (many : Int)] ∧ SqL K H a (ns.map V.int) ∧ 1 ≤ mo ∧ mo ≤ 8 ∧ ex ≤ 6 ∧ 2 ≤ many ∧ many ≤ 14 ∧
  ∀ H' t s0 sl fd n1 n2 as ss fs zs, Same H H' → Sys H' t many s0 sl fd n1 n2 as ss fs zs → Q (.ref t) H'
theorem ok__law_system {f : Addr} {C : Addr} {fd : FuncData} (T : Txt K mg C) (F : Fun K "_law_system" "_law_system" s__law_system f fd) (c__law_names : Cal P w K mg base 3 "_law_names" (sp__law_names K) []) (c__law_cell : Cal P w K mg base 2 "_law_cell" (sp__law_cell K) []) (c__law_machine : Cal P w K mg base 3 "_law_machine" (sp__law_machine K) []) (c__law_row : Cal P w K mg base 2 "_law_row" (sp__law_row K) []) (c__law_faults : Cal P w K mg base 1 "_law_faults" (sp__law_faults K) []) : FnOk P w K mg base CX0 4 f fd ["_law_script", "_law_most", "_law_extra", "_law_many"] (sp__law_system K) := by
  have nd := sc__law_system.nd
  refine F.ok sc__law_system (fun vs H Q E h => ?_) (fun cdv A outer s H vs Q E hr h => ?_)
  · obtain ⟨a, ns, mo, ex, many, rfl, _⟩ := h
    rfl
  · obtain ⟨a, ns, mo, ex, many, rfl, hS, mo1, mo8, ex6, m2, m14, q⟩ := h
    refine ⟨_, (pss_cons (ps_set (i := 4) nd rfl (.inl rfl) (pe_c c__law_names hr (by omega) (by rfl) (pa_cons (pe_c c__law_cell hr (by omega) (by rfl) (pa_cons (pv 0) (pa_cons pe_int pa_nil))) (pa_cons (pe_op op_add (pv 3) pe_int) pa_nil))))
      (pss_cons (ps_asg (pe_c c__law_machine hr (by omega) (by rfl) (pa_cons (pe_c c__law_cell hr (by omega) (by rfl) (pa_cons (pv 0) (pa_cons pe_int pa_nil))) (pa_cons (pe_slice sl_list (pv 4) po_none (po_some (pv 3))) (pa_cons (pv 1) (pa_cons (pv 2) pa_nil))))) (pg_lst (by rfl) (pgs_cons (pg_name (i := 5) nd rfl (.inl rfl)) (pgs_cons (pg_name (i := 6) nd rfl (.inl rfl)) pgs_nil))))
      (pss_cons (ps_set (i := 7) nd rfl (.inl rfl) (pe_ix (r := rIxL K) ix_list (pe_c c__law_row hr (by omega) (by rfl) (pa_cons (pe_c c__law_cell hr (by omega) (by rfl) (pa_cons (pv 0) (pa_cons pe_int pa_nil))) (pa_cons (pe_lst (pa_cons pe_int (pa_cons pe_int pa_nil))) pa_nil))) pe_int (fun _ _ => rfl)))
      (pss_cons (ps_set (i := 8) nd rfl (.inl rfl) (pe_c c__law_faults hr (by omega) (by rfl) (pa_cons (pv 7) (pa_cons (pv 6) (pa_cons (pv 4) (pa_cons (pe_slice sl_list (pv 4) (po_some (pv 3)) po_none) pa_nil))))))
      (pss_one (ps_ret (pe_lst (pa_cons (pe_ix (r := rIxL K) ix_list (pv 5) pe_int (fun _ _ => rfl)) (pa_cons (pv 6) (pa_cons (pv 8) (pa_cons (pe_slice sl_list (pv 4) po_none (po_some (pv 3))) (pa_cons (pe_slice sl_list (pv 4) (po_some (pv 3)) po_none) pa_nil)))))))))))), ?_⟩
    refine ⟨.ref a, rfl, a, ns, 0, rfl, hS, fun c0 => ⟨.int many, rfl, many, 2, rfl, rfl, c0, many + 2, rfl, by omega, fun H1 N zs s1 nN eN lz hz => ?_⟩⟩
    refine ⟨.ref a, rfl, a, ns, 1, rfl, s1.seq hS, fun c1 => ⟨.ref N, rfl, .int many, rfl, many, rfl, N, zs.map V.str, rfl, .inl (.inl eN), fun N6 nN6 => ?_⟩⟩
    have s6 := same_upd (o := .lst (cutV (zs.map V.str) none (some (many : Int)))) nN6
    have e6 : (upd H1 N6 (.lst (cutV (zs.map V.str) none (some (many : Int))))) N6 = some (.lst ((zs.take many).map V.str)) := by
      rw [upd_same, cut_to, List.map_take]
    generalize upd H1 N6 (.lst (cutV (zs.map V.str) none (some (many : Int)))) = H1' at s6 e6 ⊢
    have s1' := s1.trans s6
    have lt6 : (zs.take many).length = many := by rw [List.length_take]; omega
    refine ⟨.int mo, rfl, .int ex, rfl, c1, N6, zs.take many, mo, ex, rfl, e6, by omega, by omega, fun z h => hz z (List.mem_of_mem_take h), mo1, mo8, ex6, fun H2 t lb sl ls as ss s2 et nlb nsl nls elb esl hst dm => ?_⟩
    have hn6 : ∀ z ∈ zs.take many, nameB (.str z) = true := fun z h => hz z (List.mem_of_mem_take h)
    have gs := dm.steps hn6
    have t2 := s1'.trans s2
    have eN2 := s2 _ _ (s6 _ _ eN)
    have hi80 := gs.hi
    refine ⟨t, _, rfl, .inl (.inl et), rfl, .ref lb, _, rfl, .ref sl, [], rfl, rfl, ?_⟩
    refine ⟨.ref a, rfl, a, ns, 2, rfl, t2.seq hS, fun c2 => ⟨szl rfl, fun p np => ?_⟩⟩
    have sp := same_upd (o := .lst [.int 3, .int 5]) np
    refine ⟨c2, p, [3, 5], rfl, .inl (.inl upd_same), by decide, by decide, fun H3 R rs s3 nR eR hrl hb => ?_⟩
    have s23 := sp.trans s3
    have t3 := t2.trans s23
    obtain ⟨r0, _, g0, l0, u0⟩ := row_at hrl hb (j := 0) (t := 3) rfl
    refine ⟨R, _, 0, .int r0, rfl, rfl, .inl (.inl eR), atI_nat (j := 0) g0, ?_⟩
    have eN3 := s23 _ _ eN2
    have elb3 := s23 _ _ elb
    have esl3 := s23 _ _ esl
    have hst3 := hst.mono s23
    refine ⟨.int r0, rfl, .ref sl, rfl, .ref N, rfl, .ref N, rfl, .int many, rfl, many, rfl, N, zs.map V.str, rfl, .inl (.inl eN3), fun K2 nK2 => ?_⟩
    have sK := same_upd (o := .lst (cutV (zs.map V.str) (some (many : Int)) none)) nK2
    have eK : (upd H3 K2 (.lst (cutV (zs.map V.str) (some (many : Int)) none))) K2 = some (.lst ((zs.drop many).map V.str)) := by
      rw [upd_same, cut_from, List.map_drop]
    refine ⟨r0, sl, N, K2, as, ss, zs, zs.drop many, rfl, sK _ _ esl3, hst3.mono sK, by omega, sK _ _ eN3, eK, by omega, by rw [List.length_drop]; omega, fun x hx => dm.w0 x (by rw [List.getElem?_take_of_lt (by omega)]; exact hx), fun H4 FD fs s4 nFD eFD ff => ?_⟩
    have s34 := sK.trans s4
    have eN4 := s34 _ _ eN3
    have elb4 := s34 _ _ elb3
    have esl4 := s34 _ _ esl3
    have hst4 := hst3.mono s34
    obtain ⟨s0, gs0, ms0⟩ : ∃ b, (ls.map V.int)[0]? = some (.int b) ∧ b ∈ ls := by
      have hlb : 0 < ls.length := List.length_pos_iff.mpr dm.ne
      exact ⟨ls[0]'hlb, by rw [List.getElem?_map, List.getElem?_eq_getElem hlb]; rfl, List.getElem_mem hlb⟩
    have gmach : GoodMach s0 ss fs := ⟨dm.st _ ms0, gs, fun w2 hw2 => by
      have := sub_len (m := zs.take many) hw2.nd (fun x hx => by
        obtain ⟨u, hu, e⟩ := List.mem_map.mp ((hw2.mem x).mp hx)
        rw [← e]
        exact (dm.dr.good u hu).2.1)
      omega, ff.good (List.Perm.refl _) hz (fun z h => hz z (List.mem_of_mem_drop h)), dm.live ms0⟩
    refine ⟨.ref lb, rfl, lb, ls.map V.int, 0, .int s0, rfl, rfl, .inl (.inl elb4), atI_nat (j := 0) gs0, .ref sl, rfl, .ref FD, rfl, .ref N, rfl, .int many, rfl, many, rfl, N, zs.map V.str, rfl, .inl (.inl eN4), fun Na nNa => ?_⟩
    have sa := same_upd (o := .lst (cutV (zs.map V.str) none (some (many : Int)))) nNa
    have ea : (upd H4 Na (.lst (cutV (zs.map V.str) none (some (many : Int))))) Na = some (.lst ((zs.take many).map V.str)) := by
      rw [upd_same, cut_to, List.map_take]
    generalize upd H4 Na (.lst (cutV (zs.map V.str) none (some (many : Int)))) = H5 at sa ea ⊢
    refine ⟨.ref N, rfl, .int many, rfl, many, rfl, N, zs.map V.str, rfl, .inl (.inl (sa _ _ eN4)), fun Nb nNb => ?_⟩
    have sb := same_upd (o := .lst (cutV (zs.map V.str) (some (many : Int)) none)) nNb
    have eb : (upd H5 Nb (.lst (cutV (zs.map V.str) (some (many : Int)) none))) Nb = some (.lst ((zs.drop many).map V.str)) := by
      rw [upd_same, cut_from, List.map_drop]
    generalize upd H5 Nb (.lst (cutV (zs.map V.str) (some (many : Int)) none)) = H6 at sb eb ⊢
    refine ⟨szl rfl, fun T nT => ?_⟩
    have sT := same_upd (o := .lst [.int s0, .ref sl, .ref FD, .ref Na, .ref Nb]) nT
    have s46 := sa.trans (sb.trans sT)
    exact q _ T s0 sl FD Na Nb as ss fs zs (t3.trans (s34.trans s46)) ⟨upd_same, s46 _ _ esl4, hst4.mono s46, s46 _ _ eFD, (sb.trans sT) _ _ ea, sT _ _ eb, lz, hz, gmach, ff⟩

end
end Kn

set_option Elab.async false
set_option linter.all false
set_option maxRecDepth 100000
set_option maxHeartbeats 4000000
namespace Kn
open PySem PySem.Spec PyProof.Rows L2
open C8 (Cal pe_c pe_gc Mak pe_mk)
section
variable {P : Program} {w : World} {K : PySem.W.Frag} {mg : Str → Option Value} {base : Heap}
/-! ### runs -/
def goes (ss : List KnA.Stp) : Int → List Nat → Prop
  | _, [] => True
  | s, k :: r => ∃ st, ss[k]? = some st ∧ st.1 = s ∧ goes ss st.2.2 r
def kInts (ks : List Nat) : List V := ks.map fun (k : Nat) => V.int (k : Int)
theorem kInts_get {ks : List Nat} {i : Nat} {x : V} (h : (kInts ks)[i]? = some x) : ∃ k, ks[i]? = some k ∧ x = .int (k : Int) ∧ ks.drop i = k :: ks.drop (i + 1) := by
  unfold kInts at h
  rw [List.getElem?_map] at h
  cases e : ks[i]? with
  | none => rw [e] at h; cases h
  | some k =>
    rw [e] at h
    cases h
    obtain ⟨hi, rfl⟩ := List.getElem?_eq_some_iff.mp e
    exact ⟨_, rfl, rfl, List.drop_eq_getElem_cons hi⟩
theorem stp_get {H : Hp} {as : List Addr} {ss : List KnA.Stp} (h : Stps H as ss) {k : Nat} {st : KnA.Stp} (e : ss[k]? = some st) : ∃ a, (as.map V.ref)[k]? = some (.ref a) ∧ H a = some (tup3 st) := by
  have hk : k < as.length := by rw [h.length]; exact (List.getElem?_eq_some_iff.mp e).1
  obtain ⟨st', e', r⟩ := paired_get h (List.getElem?_eq_getElem hk)
  rw [e] at e'
  cases e'
  exact ⟨as[k], by rw [List.getElem?_map, List.getElem?_eq_getElem hk]; rfl, r⟩
/-! ### drawn runs -/
def goesTo (ss : List KnA.Stp) : Int → List Nat → Int → Prop
  | s, [], e => s = e
  | s, k :: r, e => ∃ st, ss[k]? = some st ∧ st.1 = s ∧ goesTo ss st.2.2 r e
theorem goesTo.goes {ss : List KnA.Stp} : ∀ {s : Int} {ks : List Nat} {e : Int}, goesTo ss s ks e → goes ss s ks
  | _, [], _, _ => trivial
  | _, _ :: _, _, ⟨st, h1, h2, h3⟩ => ⟨st, h1, h2, h3.goes⟩
theorem goesTo.push {ss : List KnA.Stp} {k : Nat} {st : KnA.Stp} (h : ss[k]? = some st) : ∀ {s : Int} {ks : List Nat} {e : Int}, goesTo ss s ks e → st.1 = e → goesTo ss s (ks ++ [k]) st.2.2
  | s, [], e, h1, h2 => ⟨st, h, by rw [h2]; exact h1.symm, rfl⟩
  | s, _ :: _, e, ⟨u, h1, h2, h3⟩, h4 => ⟨u, h1, h2, h3.push h h4⟩
theorem goes.to {ss : List KnA.Stp} : ∀ {s : Int} {ks : List Nat}, goes ss s ks → ∃ e, goesTo ss s ks e
  | s, [], _ => ⟨s, rfl⟩
  | s, _ :: _, ⟨u, h1, h2, h3⟩ => let ⟨e, he⟩ := h3.to; ⟨e, u, h1, h2, he⟩
theorem goesTo.reach {ss : List KnA.Stp} {s0 : Int} : ∀ {s : Int} {ks : List Nat} {e : Int}, goesTo ss s ks e → KnA.Reach ss s0 s → KnA.Reach ss s0 e
  | s, [], e, h, r => h ▸ r
  | s, _ :: _, e, ⟨u, h1, h2, h3⟩, r => h3.reach (by
    subst h2
    exact KnA.Reach.step r (List.mem_of_getElem? h1))
theorem goesTo.last {ss : List KnA.Stp} : ∀ {s : Int} {ks : List Nat} {e : Int}, goesTo ss s ks e → ∀ (n : ks ≠ []), ∃ st, ss[ks.getLast n]? = some st ∧ st.2.2 = e
  | s, [], e, _, n => absurd rfl n
  | s, [k], e, ⟨u, h1, h2, h3⟩, n => ⟨u, h1, h3⟩
  | s, k :: j :: r, e, ⟨u, h1, h2, h3⟩, n => by
    obtain ⟨st, a, b⟩ := h3.last (List.cons_ne_nil j r)
    exact ⟨st, by rw [List.getLast_cons (List.cons_ne_nil j r)]; exact a, b⟩
def srcIs (ss : List KnA.Stp) (s : Int) (k : Nat) : Bool := match ss[k]? with
  | some st => decide (st.1 = s)
  | none => false
def waysL (ss : List KnA.Stp) (s : Int) (n : Nat) : List Nat := (List.range n).filter (srcIs ss s)
theorem ways_in {ss : List KnA.Stp} {s : Int} {n k : Nat} (h : k ∈ waysL ss s n) : ∃ st, ss[k]? = some st ∧ st.1 = s := by
  have h2 := (List.mem_filter.mp h).2
  unfold srcIs at h2
  cases e : ss[k]? with
  | none => rw [e] at h2; cases h2
  | some st => rw [e] at h2; exact ⟨st, rfl, of_decide_eq_true h2⟩
theorem ways_some {ss : List KnA.Stp} {s : Int} (h : ∃ w y, (s, w, y) ∈ ss) : 0 < (waysL ss s ss.length).length := by
  obtain ⟨w, y, m⟩ := h
  obtain ⟨k, hk, e⟩ := List.mem_iff_getElem.mp m
  refine List.length_pos_of_mem (a := k) (List.mem_filter.mpr ⟨List.mem_range.mpr hk, ?_⟩)
  unfold srcIs
  rw [List.getElem?_eq_getElem hk, e]
  exact decide_eq_true rfl
theorem ways_succ (ss : List KnA.Stp) (s : Int) (n : Nat) : waysL ss s (n + 1) = waysL ss s n ++ if srcIs ss s n = true then [n] else [] := by
  unfold waysL
  rw [List.range_succ, List.filter_append, List.filter_cons, List.filter_nil]
theorem ways_len (ss : List KnA.Stp) (s : Int) (n : Nat) : (waysL ss s n).length ≤ n := by
  unfold waysL
  refine Nat.le_trans (List.length_filter_le _ _) ?_
  rw [List.length_range]; exact Nat.le_refl _
theorem kInts_app (a b : List Nat) : kInts (a ++ b) = kInts a ++ kInts b := List.map_append
theorem kInts_len (a : List Nat) : (kInts a).length = a.length := List.length_map _
theorem kInts_at {a : List Nat} {j : Nat} (h : j < a.length) : (kInts a)[j]? = some (.int (a[j] : Int)) := by
  unfold kInts
  rw [List.getElem?_map, List.getElem?_eq_getElem h]; rfl

/-! ### rows of numbers, by length, then by the first that differs -/
def lx : List Nat → List Nat → Prop
  | [], [] => True
  | a :: r, b :: t => (a < b ∧ r.length = t.length) ∨ (a = b ∧ lx r t)
  | _, _ => False
theorem lx_len : ∀ {p q : List Nat}, lx p q → p.length = q.length
  | [], [], _ => rfl
  | [], _ :: _, h => h.elim
  | _ :: _, [], h => h.elim
  | a :: r, b :: t, h => by
    have h' : (a < b ∧ r.length = t.length) ∨ (a = b ∧ lx r t) := h
    rw [List.length_cons, List.length_cons]
    rcases h' with ⟨_, e⟩ | ⟨_, h'⟩
    · rw [e]
    · rw [lx_len h']
theorem lx_refl : ∀ p : List Nat, lx p p
  | [] => trivial
  | a :: r => .inr ⟨rfl, lx_refl r⟩
theorem lx_trans : ∀ {p q r : List Nat}, lx p q → lx q r → lx p r
  | [], [], [], _, _ => trivial
  | [], [], _ :: _, _, h => h.elim
  | [], _ :: _, _, h, _ => h.elim
  | _ :: _, [], _, h, _ => h.elim
  | _ :: _, _ :: _, [], _, h => h.elim
  | a :: p, b :: q, c :: r, h1, h2 => by
    have h1' : (a < b ∧ p.length = q.length) ∨ (a = b ∧ lx p q) := h1
    have h2' : (b < c ∧ q.length = r.length) ∨ (b = c ∧ lx q r) := h2
    show (a < c ∧ p.length = r.length) ∨ (a = c ∧ lx p r)
    rcases h1' with ⟨l1, e1⟩ | ⟨e1, h1'⟩
    · rcases h2' with ⟨l2, e2⟩ | ⟨e2, h2'⟩
      · exact .inl ⟨by omega, e1.trans e2⟩
      · exact .inl ⟨by omega, e1.trans (lx_len h2')⟩
    · rcases h2' with ⟨l2, e2⟩ | ⟨e2, h2'⟩
      · exact .inl ⟨by omega, (lx_len h1').trans e2⟩
      · exact .inr ⟨e1.trans e2, lx_trans h1' h2'⟩
theorem lx_anti : ∀ {p q : List Nat}, lx p q → lx q p → p = q
  | [], [], _, _ => rfl
  | [], _ :: _, h, _ => h.elim
  | _ :: _, [], h, _ => h.elim
  | a :: p, b :: q, h1, h2 => by
    have h1' : (a < b ∧ p.length = q.length) ∨ (a = b ∧ lx p q) := h1
    have h2' : (b < a ∧ q.length = p.length) ∨ (b = a ∧ lx q p) := h2
    rcases h1' with ⟨l1, _⟩ | ⟨e1, h1'⟩
    · rcases h2' with ⟨l2, _⟩ | ⟨e2, _⟩
      · omega
      · omega
    · rcases h2' with ⟨l2, _⟩ | ⟨_, h2'⟩
      · omega
      · rw [e1, lx_anti h1' h2']
theorem lx_snoc : ∀ {p q : List Nat} {i j : Nat}, lx p q → (p ≠ q ∨ i ≤ j) → lx (p ++ [i]) (q ++ [j])
  | [], [], i, j, _, h => by
    show (i < j ∧ ([] : List Nat).length = ([] : List Nat).length) ∨ (i = j ∧ lx [] [])
    rcases h with h | h
    · exact absurd rfl h
    · rcases Nat.lt_or_eq_of_le h with h | h
      · exact .inl ⟨h, rfl⟩
      · exact .inr ⟨h, trivial⟩
  | [], _ :: _, _, _, h, _ => h.elim
  | _ :: _, [], _, _, h, _ => h.elim
  | a :: p, b :: q, i, j, h1, h => by
    have h1' : (a < b ∧ p.length = q.length) ∨ (a = b ∧ lx p q) := h1
    show (a < b ∧ (p ++ [i]).length = (q ++ [j]).length) ∨ (a = b ∧ lx (p ++ [i]) (q ++ [j]))
    rcases h1' with ⟨l1, e⟩ | ⟨e, h1'⟩
    · exact .inl ⟨l1, by rw [List.length_append, List.length_append, e]; rfl⟩
    · subst e
      refine .inr ⟨rfl, lx_snoc h1' ?_⟩
      rcases h with h | h
      · exact .inl fun z => h (by rw [z])
      · exact .inr h
def lle (p q : List Nat) : Prop := p.length < q.length ∨ lx p q
theorem lle_refl (p : List Nat) : lle p p := .inr (lx_refl p)
theorem lle_len {p q : List Nat} (h : lle p q) : p.length ≤ q.length := by
  rcases h with h | h
  · omega
  · exact Nat.le_of_eq (lx_len h)
theorem lle_trans {p q r : List Nat} (h1 : lle p q) (h2 : lle q r) : lle p r := by
  rcases h1 with h1 | h1
  · have := lle_len h2
    exact .inl (by omega)
  · rcases h2 with h2 | h2
    · have := lx_len h1
      exact .inl (by omega)
    · exact .inr (lx_trans h1 h2)
theorem lle_anti {p q : List Nat} (h1 : lle p q) (h2 : lle q p) : p = q := by
  have l1 := lle_len h1
  have l2 := lle_len h2
  rcases h1 with h1 | h1
  · omega
  · rcases h2 with h2 | h2
    · omega
    · exact lx_anti h1 h2
theorem lle_snoc {p q : List Nat} {i j : Nat} (h : lle p q) (c : p ≠ q ∨ i ≤ j) : lle (p ++ [i]) (q ++ [j]) := by
  rcases h with h | h
  · exact .inl (by rw [List.length_append, List.length_append]; show p.length + 1 < q.length + 1; omega)
  · exact .inr (lx_snoc h c)
theorem lle_grow {p q : List Nat} (j : Nat) (h : lle p q) : lle p (q ++ [j]) := by
  have := lle_len h
  exact .inl (by rw [List.length_append]; show p.length < q.length + 1; omega)
theorem lle_nil (q : List Nat) : lle [] q := by
  cases q with
  | nil => exact lle_refl []
  | cons a r => exact .inl (Nat.succ_pos _)
/-! ### walks -/
theorem goesTo.snoc {ss : List KnA.Stp} {k : Nat} : ∀ {s : Int} {q : List Nat} {u : Int}, goesTo ss s (q ++ [k]) u → ∃ st, goesTo ss s q st.1 ∧ ss[k]? = some st ∧ st.2.2 = u
  | s, [], u, ⟨st, h1, h2, h3⟩ => ⟨st, h2.symm, h1, h3⟩
  | s, a :: q, u, ⟨st, h1, h2, h3⟩ => by
    obtain ⟨st', g1, g2, g3⟩ := goesTo.snoc h3
    exact ⟨st', ⟨st, h1, h2, g1⟩, g2, g3⟩
theorem goesTo.uniq {ss : List KnA.Stp} : ∀ {s : Int} {q : List Nat} {u v : Int}, goesTo ss s q u → goesTo ss s q v → u = v
  | s, [], u, v, h1, h2 => Eq.trans (Eq.symm h1) h2
  | s, a :: q, u, v, ⟨st, h1, h2, h3⟩, ⟨st', h1', h2', h3'⟩ => by
    rw [h1] at h1'
    cases h1'
    exact h3.uniq h3'
theorem goesTo.app {ss : List KnA.Stp} {q2 : List Nat} {u v : Int} (h2 : goesTo ss u q2 v) : ∀ {s : Int} {q : List Nat}, goesTo ss s q u → goesTo ss s (q ++ q2) v
  | s, [], h => by
    have e : s = u := h
    rw [e]; exact h2
  | s, a :: q, ⟨st, a1, a2, a3⟩ => ⟨st, a1, a2, goesTo.app h2 a3⟩
theorem goesTo.split {ss : List KnA.Stp} {q2 : List Nat} {v : Int} : ∀ {s : Int} {q : List Nat}, goesTo ss s (q ++ q2) v → ∃ u, goesTo ss s q u ∧ goesTo ss u q2 v
  | s, [], h => ⟨s, rfl, h⟩
  | s, a :: q, ⟨st, a1, a2, a3⟩ => by
    obtain ⟨u, g1, g2⟩ := goesTo.split a3
    exact ⟨u, ⟨st, a1, a2, g1⟩, g2⟩
theorem reach_goes {ss : List KnA.Stp} {s0 u : Int} (h : KnA.Reach ss s0 u) : ∃ q, goesTo ss s0 q u := by
  induction h with
  | start => exact ⟨[], rfl⟩
  | @step x w y _ m ih =>
    obtain ⟨q, g⟩ := ih
    obtain ⟨k, hk, e⟩ := List.mem_iff_getElem.mp m
    refine ⟨q ++ [k], g.push (k := k) (st := (x, w, y)) ?_ rfl⟩
    rw [← e]; exact List.getElem?_eq_getElem hk
/-! ### the search -/
structure Bfs (ss : List KnA.Stp) (s0 : Int) (tb : List (Int × List Nat)) (d n : Nat) : Prop where
  z : tb[0]? = some (s0, [])
  nd : (tb.map (·.1)).Nodup
  go : ∀ e ∈ tb, goesTo ss s0 e.2 e.1
  up : ∀ (i j : Nat) a b, i < j → tb[i]? = some a → tb[j]? = some b → lle a.2 b.2
  par : ∀ (i : Nat) a, tb[i]? = some a → i ≠ 0 → ∃ (j : Nat) (b : Int × List Nat) (k : Nat), tb[j]? = some b ∧ a.2 = b.2 ++ [k] ∧ (j < d ∨ (j = d ∧ k < n))
  fin : ∀ (i : Nat) a (k : Nat) st, tb[i]? = some a → (i < d ∨ (i = d ∧ k < n)) → ss[k]? = some st → st.1 = a.1 → ∃ b ∈ tb, b.1 = st.2.2 ∧ lle b.2 (a.2 ++ [k])
theorem Bfs.inj {ss : List KnA.Stp} {s0 : Int} {tb : List (Int × List Nat)} {d n : Nat} (h : Bfs ss s0 tb d n) {i j : Nat} {a b : Int × List Nat} (hi : tb[i]? = some a) (hj : tb[j]? = some b) (e : a.2 = b.2) : i = j := by
  have g1 := h.go a (List.mem_of_getElem? hi)
  have g2 := h.go b (List.mem_of_getElem? hj)
  rw [e] at g1
  have ek := g1.uniq g2
  obtain ⟨li, ei⟩ := List.getElem?_eq_some_iff.mp hi
  obtain ⟨lj, ej⟩ := List.getElem?_eq_some_iff.mp hj
  have := (List.getElem_inj (i := i) (j := j) (h₀ := by rw [List.length_map]; exact li) (h₁ := by rw [List.length_map]; exact lj) h.nd).mp (by rw [List.getElem_map, List.getElem_map, ei, ej, ek])
  exact this
/-- whatever is found is no greater than what comes next -/
theorem Bfs.below {ss : List KnA.Stp} {s0 : Int} {tb : List (Int × List Nat)} {d n : Nat} (h : Bfs ss s0 tb d n) {c : Int × List Nat} (hc : tb[d]? = some c) : ∀ e ∈ tb, lle e.2 (c.2 ++ [n]) := fun e he => by
  obtain ⟨i, hi, ei⟩ := List.mem_iff_getElem.mp he
  have gi : tb[i]? = some e := by rw [← ei]; exact List.getElem?_eq_getElem hi
  by_cases z : i = 0
  · subst z
    rw [h.z] at gi
    cases gi
    exact lle_nil _
  · obtain ⟨j, b, k, hj, eb, alt⟩ := h.par i e gi z
    rw [eb]
    rcases alt with l | ⟨rfl, l⟩
    · exact lle_snoc (h.up j d b c l hj hc) (.inl fun e2 => by have := h.inj hj hc e2; omega)
    · rw [hc] at hj
      cases hj
      exact lle_snoc (lle_refl _) (.inr (Nat.le_of_lt l))
theorem Bfs.start (ss : List KnA.Stp) (s0 : Int) : Bfs ss s0 [(s0, [])] 0 0 := by
  refine ⟨rfl, by simp, fun e he => ?_, fun i j a b l hi hj => ?_, fun i a hi z => ?_, fun i a k st hi alt _ _ => ?_⟩
  · rw [List.mem_singleton.mp he]; rfl
  · have := (List.getElem?_eq_some_iff.mp hj).1
    have h2 : j < 1 := this
    omega
  · have := (List.getElem?_eq_some_iff.mp hi).1
    have h2 : i < 1 := this
    omega
  · omega
theorem Bfs.skip {ss : List KnA.Stp} {s0 : Int} {tb : List (Int × List Nat)} {d n : Nat} (h : Bfs ss s0 tb d n) {c : Int × List Nat} (hc : tb[d]? = some c) (ok : ∀ st, ss[n]? = some st → st.1 = c.1 → ∃ b ∈ tb, b.1 = st.2.2) : Bfs ss s0 tb d (n + 1) := by
  refine ⟨h.z, h.nd, h.go, h.up, fun i a hi z => ?_, fun i a k st hi alt hk e => ?_⟩
  · obtain ⟨j, b, k, hj, eb, alt⟩ := h.par i a hi z
    exact ⟨j, b, k, hj, eb, alt.imp id fun q => ⟨q.1, by omega⟩⟩
  · by_cases z : i = d ∧ k = n
    · obtain ⟨rfl, rfl⟩ := z
      rw [hc] at hi
      cases hi
      obtain ⟨b, hb, eb⟩ := ok st hk e
      exact ⟨b, hb, eb, h.below hc b hb⟩
    · exact h.fin i a k st hi (alt.imp id fun q => ⟨q.1, by omega⟩) hk e
theorem Bfs.add {ss : List KnA.Stp} {s0 : Int} {tb : List (Int × List Nat)} {d n : Nat} (h : Bfs ss s0 tb d n) {c : Int × List Nat} (hc : tb[d]? = some c) {st : KnA.Stp} (hn : ss[n]? = some st) (es : st.1 = c.1) (no : ∀ b ∈ tb, b.1 ≠ st.2.2) : Bfs ss s0 (tb ++ [(st.2.2, c.2 ++ [n])]) d (n + 1) := by
  have hd : d < tb.length := (List.getElem?_eq_some_iff.mp hc).1
  have old : ∀ {i : Nat} {a : Int × List Nat}, tb[i]? = some a → (tb ++ [(st.2.2, c.2 ++ [n])])[i]? = some a := fun {i a} e => by rw [List.getElem?_append_left (List.getElem?_eq_some_iff.mp e).1]; exact e
  have cases_ : ∀ {i : Nat} {a : Int × List Nat}, (tb ++ [(st.2.2, c.2 ++ [n])])[i]? = some a → tb[i]? = some a ∨ (i = tb.length ∧ a = (st.2.2, c.2 ++ [n])) := fun {i a} e => by
    by_cases l : i < tb.length
    · rw [List.getElem?_append_left l] at e; exact .inl e
    · have l2 := (List.getElem?_eq_some_iff.mp e).1
      rw [List.length_append] at l2
      have l3 : i < tb.length + 1 := l2
      have ei : i = tb.length := by omega
      rw [List.getElem?_append_right (by omega), ei, Nat.sub_self] at e
      cases e
      exact .inr ⟨ei, rfl⟩
  refine ⟨old h.z, ?_, fun e he => ?_, fun i j a b l hi hj => ?_, fun i a hi z => ?_, fun i a k s' hi alt hk e => ?_⟩
  · rw [List.map_append]
    refine List.nodup_append.mpr ⟨h.nd, List.nodup_cons.mpr ⟨(fun h => nomatch h), List.nodup_nil⟩, fun x hx y hy e => ?_⟩
    obtain ⟨b, hb, rfl⟩ := List.mem_map.mp hx
    exact no b hb (e.trans (List.mem_singleton.mp hy))
  · rcases List.mem_append.mp he with he | he
    · exact h.go e he
    · rw [List.mem_singleton.mp he]
      exact (h.go c (List.mem_of_getElem? hc)).push hn es
  · rcases cases_ hj with hj | ⟨ej, rfl⟩
    · rcases cases_ hi with hi | ⟨ei, rfl⟩
      · exact h.up i j a b l hi hj
      · have := (List.getElem?_eq_some_iff.mp hj).1
        omega
    · rcases cases_ hi with hi | ⟨ei, rfl⟩
      · exact h.below hc a (List.mem_of_getElem? hi)
      · omega
  · rcases cases_ hi with hi | ⟨ei, rfl⟩
    · obtain ⟨j, b, k, hj, eb, alt⟩ := h.par i a hi z
      exact ⟨j, b, k, old hj, eb, alt.imp id fun q => ⟨q.1, by omega⟩⟩
    · exact ⟨d, c, n, old hc, rfl, .inr ⟨rfl, Nat.lt_succ_self n⟩⟩
  · have hi' : tb[i]? = some a := by
      rcases cases_ hi with hi | ⟨ei, _⟩
      · exact hi
      · omega
    by_cases z : i = d ∧ k = n
    · obtain ⟨rfl, rfl⟩ := z
      rw [hc] at hi'
      cases hi'
      rw [hn] at hk
      cases hk
      exact ⟨_, List.mem_append_right _ List.mem_cons_self, rfl, lle_refl _⟩
    · obtain ⟨b, hb, eb, lb⟩ := h.fin i a k s' hi' (alt.imp id fun q => ⟨q.1, by omega⟩) hk e
      exact ⟨b, List.mem_append_left _ hb, eb, lb⟩
theorem Bfs.next {ss : List KnA.Stp} {s0 : Int} {tb : List (Int × List Nat)} {d : Nat} (h : Bfs ss s0 tb d ss.length) : Bfs ss s0 tb (d + 1) 0 := by
  refine ⟨h.z, h.nd, h.go, h.up, fun i a hi z => ?_, fun i a k st hi alt hk e => ?_⟩
  · obtain ⟨j, b, k, hj, eb, alt⟩ := h.par i a hi z
    exact ⟨j, b, k, hj, eb, .inl (by omega)⟩
  · refine h.fin i a k st hi ?_ hk e
    have := (List.getElem?_eq_some_iff.mp hk).1
    omega
/-- a walk ends at what is done, or is not less than what comes next -/
theorem Bfs.walk {ss : List KnA.Stp} {s0 : Int} {tb : List (Int × List Nat)} {d : Nat} (h : Bfs ss s0 tb d 0) : ∀ (m : Nat) (q : List Nat) (u : Int), q.length = m → goesTo ss s0 q u → (∃ (i : Nat) (a : Int × List Nat), i < d ∧ tb[i]? = some a ∧ a.1 = u ∧ lle a.2 q) ∨ ∃ c, tb[d]? = some c ∧ lle c.2 q
  | 0, q, u, l, g => by
    have e : q = [] := List.eq_nil_of_length_eq_zero l
    subst e
    have eu : s0 = u := g
    subst eu
    by_cases z : d = 0
    · subst z; exact .inr ⟨_, h.z, lle_refl _⟩
    · exact .inl ⟨0, _, by omega, h.z, rfl, lle_refl _⟩
  | m + 1, q, u, l, g => by
    have ne : q ≠ [] := fun e => by rw [e] at l; cases l
    obtain ⟨q', k, rfl⟩ : ∃ q' k, q = q' ++ [k] := ⟨q.dropLast, q.getLast ne, (List.dropLast_concat_getLast ne).symm⟩
    obtain ⟨st, g1, g2, rfl⟩ := g.snoc
    have l' : q'.length = m := by rw [List.length_append] at l; have : q'.length + 1 = m + 1 := l; omega
    rcases h.walk m q' st.1 l' g1 with ⟨i, a, hi, ha, ea, le⟩ | ⟨c, hc, le⟩
    · obtain ⟨b, hb, eb, lb⟩ := h.fin i a k st ha (.inl hi) g2 ea.symm
      have lq : lle b.2 (q' ++ [k]) := lle_trans lb (lle_snoc le (.inr (Nat.le_refl _)))
      obtain ⟨j, hj, ej⟩ := List.mem_iff_getElem.mp hb
      have gj : tb[j]? = some b := by rw [← ej]; exact List.getElem?_eq_getElem hj
      by_cases z : j < d
      · exact .inl ⟨j, b, z, gj, eb, lq⟩
      · obtain ⟨c, hc⟩ : ∃ c, tb[d]? = some c := ⟨_, List.getElem?_eq_getElem (by omega)⟩
        refine .inr ⟨c, hc, lle_trans ?_ lq⟩
        rcases Nat.lt_or_eq_of_le (Nat.le_of_not_lt z) with t | t
        · exact h.up d j c b t hc gj
        · subst t
          rw [hc] at gj
          cases gj
          exact lle_refl _
    · exact .inr ⟨c, hc, lle_grow k le⟩
/-- what is found is the least walk -/
theorem Bfs.least {ss : List KnA.Stp} {s0 : Int} {tb : List (Int × List Nat)} {d : Nat} (h : Bfs ss s0 tb d 0) {e : Int × List Nat} (he : e ∈ tb) {q : List Nat} (g : goesTo ss s0 q e.1) : lle e.2 q := by
  obtain ⟨i, hi, ei⟩ := List.mem_iff_getElem.mp he
  have gi : tb[i]? = some e := by rw [← ei]; exact List.getElem?_eq_getElem hi
  by_cases z : i = 0
  · subst z
    rw [h.z] at gi
    cases gi
    exact lle_nil _
  have same : ∀ b ∈ tb, b.1 = e.1 → b = e := fun b hb eb => by
    obtain ⟨j, hj, ej⟩ := List.mem_iff_getElem.mp hb
    have := (List.getElem_inj (i := j) (j := i) (h₀ := by rw [List.length_map]; exact hj) (h₁ := by rw [List.length_map]; exact hi) h.nd).mp (by rw [List.getElem_map, List.getElem_map, ej, ei, eb])
    subst this
    rw [← ej, ei]
  by_cases ne : q = []
  · subst ne
    have eu : s0 = e.1 := g
    have := same _ (List.mem_of_getElem? h.z) eu
    rw [← this]; exact lle_refl _
  obtain ⟨q', k', rfl⟩ : ∃ q' k, q = q' ++ [k] := ⟨q.dropLast, q.getLast ne, (List.dropLast_concat_getLast ne).symm⟩
  obtain ⟨st, g1, g2, g3⟩ := g.snoc
  rcases h.walk _ q' st.1 rfl g1 with ⟨i', a, hi', ha, ea, le⟩ | ⟨c, hc, le⟩
  · obtain ⟨b, hb, eb, lb⟩ := h.fin i' a k' st ha (.inl hi') g2 ea.symm
    rw [same b hb (eb.trans g3)] at lb
    exact lle_trans lb (lle_snoc le (.inr (Nat.le_refl _)))
  · obtain ⟨j, b, k, hj, eb, alt⟩ := h.par i e gi z
    have jd : j < d := by omega
    rw [eb]
    have l1 := h.up j d b c jd hj hc
    refine lle_snoc (lle_trans l1 le) (.inl fun e2 => ?_)
    rw [← e2] at le
    have := h.inj hj hc (lle_anti l1 le)
    omega
/-- as long as a state is missing there is something to do -/
theorem Bfs.more {ss : List KnA.Stp} {s0 : Int} {tb : List (Int × List Nat)} {d : Nat} (h : Bfs ss s0 tb d 0) {t : Int} (r : KnA.Reach ss s0 t) (no : ∀ b ∈ tb, b.1 ≠ t) : ∃ c, tb[d]? = some c := by
  obtain ⟨q, g⟩ := reach_goes r
  rcases h.walk _ q t rfl g with ⟨i, a, _, ha, ea, _⟩ | ⟨c, hc, _⟩
  · exact (no a (List.mem_of_getElem? ha) ea).elim
  · exact ⟨c, hc⟩

/-! ### how far a goal is -/
structure FarW (ss : List KnA.Stp) (sts : List Int) (g : Int) (fr : Int → Int) : Prop where
  lo : ∀ x ∈ sts, 0 ≤ fr x ∧ fr x ≤ 1000
  w : ∀ x ∈ sts, fr x ≠ 1000 → ∃ q, goesTo ss x q g ∧ (q.length : Int) = fr x
def UpTo (ss : List KnA.Stp) (sts : List Int) (g : Int) (fr : Int → Int) (k n : Nat) : Prop := ∀ x ∈ sts, ∀ q, goesTo ss x q g → (q.length ≤ k ∨ (q.length = k + 1 ∧ ∃ a r, q = a :: r ∧ a < n)) → fr x ≤ q.length
def Closed (ss : List KnA.Stp) (sts : List Int) : Prop := ∀ st ∈ ss, st.1 ∈ sts → st.2.2 ∈ sts
def setF (fr : Int → Int) (x v : Int) : Int → Int := fun y => if y = x then v else fr y
theorem far_start {ss : List KnA.Stp} {sts : List Int} {g : Int} : FarW ss sts g (setF (fun _ => 1000) g 0) ∧ UpTo ss sts g (setF (fun _ => 1000) g 0) 0 0 := by
  refine ⟨⟨fun x _ => ?_, fun x _ h => ?_⟩, fun x _ q hq alt => ?_⟩
  · unfold setF
    by_cases z : x = g
    · rw [if_pos z]; omega
    · rw [if_neg z]
      show (0 : Int) ≤ 1000 ∧ (1000 : Int) ≤ 1000
      exact ⟨by decide, by decide⟩
  · unfold setF at h
    by_cases z : x = g
    · subst z
      exact ⟨[], rfl, by unfold setF; rw [if_pos rfl]; rfl⟩
    · rw [if_neg z] at h; exact (h rfl).elim
  · have l : q.length = 0 := by
      rcases alt with h | ⟨_, a, r, _, h⟩
      · omega
      · omega
    have e : q = [] := List.eq_nil_of_length_eq_zero l
    subst e
    have ex : x = g := hq
    unfold setF
    rw [if_pos ex]; exact Int.le_refl _
theorem far_relax {ss : List KnA.Stp} {sts : List Int} {g : Int} {fr : Int → Int} {k n : Nat} (f : FarW ss sts g fr) (u : UpTo ss sts g fr k n) (cl : Closed ss sts) {st : KnA.Stp} (hn : ss[n]? = some st) (h1 : st.1 ∈ sts) (c : fr st.2.2 + 1 < fr st.1) : FarW ss sts g (setF fr st.1 (fr st.2.2 + 1)) ∧ UpTo ss sts g (setF fr st.1 (fr st.2.2 + 1)) k (n + 1) := by
  have h2 := cl st (List.mem_of_getElem? hn) h1
  have le : ∀ x, setF fr st.1 (fr st.2.2 + 1) x ≤ fr x := fun x => by
    unfold setF
    by_cases z : x = st.1
    · rw [if_pos z, z]; omega
    · rw [if_neg z]; exact Int.le_refl _
  have l1 := f.lo _ h1
  have l2 := f.lo _ h2
  refine ⟨⟨fun x hx => ?_, fun x hx h => ?_⟩, fun x hx q hq alt => ?_⟩
  · have := f.lo x hx
    unfold setF
    by_cases z : x = st.1
    · rw [if_pos z]; omega
    · rw [if_neg z]; exact this
  · unfold setF at h ⊢
    by_cases z : x = st.1
    · rw [if_pos z] at h ⊢
      obtain ⟨q, gq, lq⟩ := f.w _ h2 (by omega)
      exact ⟨n :: q, ⟨st, hn, z.symm, gq⟩, by rw [List.length_cons]; omega⟩
    · rw [if_neg z] at h ⊢
      exact f.w x hx h
  · by_cases z : q.length ≤ k ∨ (q.length = k + 1 ∧ ∃ a r, q = a :: r ∧ a < n)
    · exact Int.le_trans (le x) (u x hx q hq z)
    · rcases alt with h | ⟨l, a, r, rfl, ha⟩
      · exact (z (.inl h)).elim
      · have ea : a = n := by
          refine Decidable.of_not_not fun ne => z (.inr ⟨l, a, r, rfl, by omega⟩)
        subst ea
        obtain ⟨st', g1, g2, g3⟩ := hq
        rw [hn] at g1
        cases g1
        have lr : r.length = k := by rw [List.length_cons] at l; omega
        have := u st.2.2 h2 r g3 (.inl (by omega))
        unfold setF
        rw [if_pos g2.symm, List.length_cons]
        omega
theorem far_skip {ss : List KnA.Stp} {sts : List Int} {g : Int} {fr : Int → Int} {k n : Nat} (u : UpTo ss sts g fr k n) (cl : Closed ss sts) {st : KnA.Stp} (hn : ss[n]? = some st) (c : st.1 ∈ sts → fr st.1 ≤ fr st.2.2 + 1) : UpTo ss sts g fr k (n + 1) := fun x hx q hq alt => by
  by_cases z : q.length ≤ k ∨ (q.length = k + 1 ∧ ∃ a r, q = a :: r ∧ a < n)
  · exact u x hx q hq z
  · rcases alt with h | ⟨l, a, r, rfl, ha⟩
    · exact (z (.inl h)).elim
    · have ea : a = n := by
        refine Decidable.of_not_not fun ne => z (.inr ⟨l, a, r, rfl, by omega⟩)
      subst ea
      obtain ⟨st', g1, g2, g3⟩ := hq
      rw [hn] at g1
      cases g1
      have lr : r.length = k := by rw [List.length_cons] at l; omega
      subst g2
      have h2 := cl st (List.mem_of_getElem? hn) hx
      have := u st.2.2 h2 r g3 (.inl (by omega))
      have := c hx
      rw [List.length_cons]
      omega
theorem far_turn {ss : List KnA.Stp} {sts : List Int} {g : Int} {fr : Int → Int} {k : Nat} (u : UpTo ss sts g fr k ss.length) : UpTo ss sts g fr (k + 1) 0 := fun x hx q hq alt => by
  have l : q.length ≤ k + 1 := by
    rcases alt with h | ⟨_, a, r, _, h⟩
    · exact h
    · omega
  rcases Nat.lt_or_eq_of_le l with l | l
  · exact u x hx q hq (.inl (by omega))
  · cases q with
    | nil => cases l
    | cons a r =>
      obtain ⟨st, g1, _, _⟩ := id hq
      exact u x hx _ hq (.inr ⟨l, a, r, rfl, (List.getElem?_eq_some_iff.mp g1).1⟩)
/-! a walk need not be longer than there are states -/
def vis (ss : List KnA.Stp) : Int → List Nat → List Int
  | s, [] => [s]
  | s, k :: r => s :: vis ss (match ss[k]? with
    | some st => st.2.2
    | none => s) r
theorem vis_len (ss : List KnA.Stp) : ∀ (s : Int) (q : List Nat), (vis ss s q).length = q.length + 1
  | _, [] => rfl
  | s, k :: r => by
    show (vis ss _ r).length + 1 = r.length + 1 + 1
    rw [vis_len]
theorem vis_in {ss : List KnA.Stp} {sts : List Int} (cl : Closed ss sts) : ∀ {s : Int} {q : List Nat} {e : Int}, s ∈ sts → goesTo ss s q e → ∀ x ∈ vis ss s q, x ∈ sts
  | s, [], e, hs, _, x, hx => by rw [List.mem_singleton.mp hx]; exact hs
  | s, k :: r, e, hs, ⟨st, g1, g2, g3⟩, x, hx => by
    have hx' : x ∈ s :: vis ss (match ss[k]? with | some st => st.2.2 | none => s) r := hx
    rw [g1] at hx'
    rcases List.mem_cons.mp hx' with rfl | hx'
    · exact hs
    · exact vis_in cl (cl st (List.mem_of_getElem? g1) (g2 ▸ hs)) g3 x hx'
theorem vis_cut {ss : List KnA.Stp} : ∀ {s : Int} {q : List Nat} {e : Int}, goesTo ss s q e → ∀ {i : Nat} {x : Int}, (vis ss s q)[i]? = some x → goesTo ss s (q.take i) x ∧ goesTo ss x (q.drop i) e
  | s, [], e, g, i, x, hx => by
    cases i with
    | zero => cases hx; exact ⟨rfl, g⟩
    | succ i => cases hx
  | s, k :: r, e, ⟨st, g1, g2, g3⟩, i, x, hx => by
    cases i with
    | zero => cases hx; exact ⟨rfl, st, g1, g2, g3⟩
    | succ i =>
      have hx' : (vis ss (match ss[k]? with | some st => st.2.2 | none => s) r)[i]? = some x := hx
      rw [g1] at hx'
      obtain ⟨a, b⟩ := vis_cut g3 hx'
      exact ⟨⟨st, g1, g2, a⟩, b⟩
theorem twice_of {l : List Int} (h : ¬ l.Nodup) : ∃ (i j : Nat) (x : Int), i < j ∧ l[i]? = some x ∧ l[j]? = some x := by
  refine Classical.byContradiction fun no => h (List.pairwise_iff_getElem.mpr fun i j hi hj ij e => no ⟨i, j, l[i], ij, List.getElem?_eq_getElem hi, by rw [e]; exact List.getElem?_eq_getElem hj⟩)
theorem short_walk {ss : List KnA.Stp} {sts : List Int} {g : Int} (cl : Closed ss sts) {x : Int} (hx : x ∈ sts) : ∀ (m : Nat) (q : List Nat), q.length ≤ m → goesTo ss x q g → ∃ q', goesTo ss x q' g ∧ q'.length ≤ q.length ∧ q'.length ≤ sts.length
  | 0, q, l, h => ⟨q, h, Nat.le_refl _, by omega⟩
  | m + 1, q, l, h => by
    by_cases z : q.length ≤ sts.length
    · exact ⟨q, h, Nat.le_refl _, z⟩
    · have nn : ¬ (vis ss x q).Nodup := fun nd => by
        have := sub_len nd (vis_in cl hx h)
        rw [vis_len] at this
        omega
      obtain ⟨i, j, y, ij, hi, hj⟩ := twice_of nn
      obtain ⟨a1, _⟩ := vis_cut h hi
      obtain ⟨_, b2⟩ := vis_cut h hj
      have lj := (List.getElem?_eq_some_iff.mp hj).1
      rw [vis_len] at lj
      have lq : (q.take i ++ q.drop j).length < q.length := by rw [List.length_append, List.length_take, List.length_drop]; omega
      obtain ⟨q', g', l1, l2⟩ := short_walk cl hx m (q.take i ++ q.drop j) (by omega) (goesTo.app b2 a1)
      exact ⟨q', g', by omega, l2⟩
structure Far (ss : List KnA.Stp) (sts : List Int) (g : Int) (fr : Int → Int) : Prop where
  f : FarW ss sts g fr
  up : ∀ x ∈ sts, ∀ q, goesTo ss x q g → fr x ≤ q.length
theorem far_done {ss : List KnA.Stp} {sts : List Int} {g : Int} {fr : Int → Int} (f : FarW ss sts g fr) (u : UpTo ss sts g fr sts.length 0) (cl : Closed ss sts) : Far ss sts g fr := ⟨f, fun x hx q hq => by
  obtain ⟨q', g', l1, l2⟩ := short_walk cl hx _ q (Nat.le_refl _) hq
  have := u x hx q' g' (.inl l2)
  omega⟩
/-! the least walk, step by step -/
def candB (ss : List KnA.Stp) (fr : Int → Int) (x : Int) (k : Nat) : Bool := match ss[k]? with
  | some st => decide (st.1 = x) && decide (fr st.2.2 = fr x - 1)
  | none => false
theorem Far.cand {ss : List KnA.Stp} {sts : List Int} {g : Int} {fr : Int → Int} (F : Far ss sts g fr) (cl : Closed ss sts) {x : Int} (hx : x ∈ sts) {k : Nat} {r : List Nat} (h : goesTo ss x (k :: r) g) (l : ((k :: r).length : Int) = fr x) : candB ss fr x k = true := by
  obtain ⟨st, g1, g2, g3⟩ := id h
  have h2 := cl st (List.mem_of_getElem? g1) (g2.symm ▸ hx)
  have a1 := F.up st.2.2 h2 r g3
  rw [List.length_cons] at l
  have b := F.f.lo x hx
  have a2 : fr x ≤ fr st.2.2 + 1 := by
    obtain ⟨q, gq, lq⟩ := F.f.w st.2.2 h2 (by omega)
    have := F.up x hx (k :: q) ⟨st, g1, g2, gq⟩
    rw [List.length_cons] at this
    omega
  unfold candB
  rw [g1]
  show (decide (st.1 = x) && decide (fr st.2.2 = fr x - 1)) = true
  rw [decide_eq_true g2, decide_eq_true (by omega)]; rfl
structure Way (ss : List KnA.Stp) (sts : List Int) (s0 g : Int) (fr : Int → Int) (ks : List Nat) (x : Int) : Prop where
  go : goesTo ss s0 ks x
  hx : x ∈ sts
  at_ : fr x = fr s0 - ks.length
  le : ∀ q, goesTo ss s0 q g → (q.length : Int) = fr s0 → lx ks (q.take ks.length)
theorem way_start {ss : List KnA.Stp} {sts : List Int} {s0 g : Int} {fr : Int → Int} (h : s0 ∈ sts) : Way ss sts s0 g fr [] s0 := ⟨rfl, h, by simp, fun q _ _ => trivial⟩
theorem Way.ex {ss : List KnA.Stp} {sts : List Int} {s0 g : Int} {fr : Int → Int} {ks : List Nat} {x : Int} (F : Far ss sts g fr) (cl : Closed ss sts) (w : Way ss sts s0 g fr ks x) (n0 : fr s0 ≠ 1000) (h0 : s0 ∈ sts) (l : (ks.length : Int) < fr s0) : ∃ k, k < ss.length ∧ candB ss fr x k = true := by
  have b := F.f.lo s0 h0
  have a := w.at_
  obtain ⟨q, gq, lq⟩ := F.f.w x w.hx (by omega)
  cases q with
  | nil => have : ((0 : Nat) : Int) = fr x := lq; omega
  | cons k r =>
    obtain ⟨st, g1, _, _⟩ := id gq
    exact ⟨k, (List.getElem?_eq_some_iff.mp g1).1, F.cand cl w.hx gq lq⟩
theorem Way.push {ss : List KnA.Stp} {sts : List Int} {s0 g : Int} {fr : Int → Int} {ks : List Nat} {x : Int} (F : Far ss sts g fr) (cl : Closed ss sts) (w : Way ss sts s0 g fr ks x) (l : (ks.length : Int) < fr s0) {k : Nat} {st : KnA.Stp} (hk : ss[k]? = some st) (hc : candB ss fr x k = true) (least : ∀ j, candB ss fr x j = true → k ≤ j) : Way ss sts s0 g fr (ks ++ [k]) st.2.2 := by
  unfold candB at hc
  rw [hk] at hc
  obtain ⟨c1, c2⟩ := Bool.and_eq_true_iff.mp hc
  have c1 : st.1 = x := of_decide_eq_true c1
  have c2 : fr st.2.2 = fr x - 1 := of_decide_eq_true c2
  have a := w.at_
  refine ⟨w.go.push hk c1, cl st (List.mem_of_getElem? hk) (c1.symm ▸ w.hx), by rw [List.length_append, c2, a]; show _ = fr s0 - ((ks.length + 1 : Nat) : Int); omega, fun q gq lq => ?_⟩
  have lk : ks.length < q.length := by omega
  have e : q.take (ks ++ [k]).length = q.take ks.length ++ [q[ks.length]] := by
    rw [List.length_append]
    exact List.take_succ_eq_append_getElem lk
  rw [e]
  refine lx_snoc (w.le q gq lq) ?_
  by_cases z : ks = q.take ks.length
  · refine .inr (least _ ?_)
    have eq : q = ks ++ q.drop ks.length := by
      have h := (List.take_append_drop ks.length q).symm
      rw [← z] at h
      exact h
    have gq' := gq
    rw [eq] at gq'
    obtain ⟨u, g1, g2⟩ := gq'.split
    have eu := g1.uniq w.go
    subst eu
    have ed : q.drop ks.length = q[ks.length] :: q.drop (ks.length + 1) := List.drop_eq_getElem_cons lk
    rw [ed] at g2
    refine F.cand cl w.hx g2 ?_
    rw [← ed, List.length_drop, a]
    omega
  · exact .inl z
theorem Way.least {ss : List KnA.Stp} {sts : List Int} {s0 g : Int} {fr : Int → Int} {ks : List Nat} {x : Int} (F : Far ss sts g fr) (w : Way ss sts s0 g fr ks x) (h0 : s0 ∈ sts) (n0 : fr s0 ≠ 1000) (l : (ks.length : Int) = fr s0) {p : List Nat} (hp : goesTo ss s0 p g) (lp : ∀ q, goesTo ss s0 q g → lle p q) : p = ks := by
  have a := w.at_
  have ex : x = g := by
    obtain ⟨q, gq, lq⟩ := F.f.w x w.hx (by have := F.f.lo s0 h0; omega)
    have : q = [] := List.eq_nil_of_length_eq_zero (by omega)
    subst this
    exact gq
  have gk : goesTo ss s0 ks g := ex ▸ w.go
  have h1 := lp ks gk
  have h2 := F.up s0 h0 p hp
  have l1 := lle_len h1
  have el : p.length = ks.length := by omega
  have h3 := w.le p hp (by omega)
  rw [← el, List.take_length] at h3
  rcases h1 with h1 | h1
  · omega
  · exact lx_anti h1 h3

def itemsOf : Option HO → Option (List V)
  | some (.lst xs) => some xs
  | some (.tup xs) => some xs
  | _ => none
def rowOf (H : Hp) : V → Option (List V)
  | .ref a => itemsOf (H a)
  | _ => none
/-- a value whose items are values, where it is a tuple -/
def Val2 (K : PySem.W.Frag) (H : Hp) (v : V) : Prop := Val K H v ∧ ∀ a xs, v = .ref a → H a = some (.tup xs) → ∀ x ∈ xs, Val K H x
def triple : V → V → V → Option KnA.Stp
  | .int s, .str x, .int t => if (stateB (.int s) && (nameB (.str x) && stateB (.int t))) = true then some (s, x, t) else none
  | _, _, _ => none
def tupOf : Option HO → Option KnA.Stp
  | some (.tup [x, y, z]) => triple x y z
  | _ => none
def stepOf (H : Hp) : V → Option KnA.Stp
  | .ref a => tupOf (H a)
  | _ => none
theorem rowOf_mono {K : PySem.W.Frag} {H G : Hp} {row : V} (h : Val K H row) (s : Same H G) : rowOf G row = rowOf H row := by
  cases h with
  | lst e => show itemsOf _ = itemsOf _; rw [e, s _ _ e]
  | tup e => show itemsOf _ = itemsOf _; rw [e, s _ _ e]
  | dK e => show itemsOf _ = itemsOf _; rw [e, s _ _ e]
  | _ => rfl
/-! ### things, with what their items are -/
theorem Val.there {K : PySem.W.Frag} {H G : Hp} {c : Addr} {o : HO} (h : Val K H (.ref c)) (s : Same H G) (e : G c = some o) : H c = some o := by
  cases h with
  | lst e' => rw [s _ _ e'] at e; rw [e', e]
  | tup e' => rw [s _ _ e'] at e; rw [e', e]
  | dK e' => rw [s _ _ e'] at e; rw [e', e]
/-- the dicts among the things -/
def okD (kvs : List (Key × V)) : Prop := kvs = [] ∨ kvs = [((Sum.inr ("a" : Str) : Key), V.int 1)]
structure Thing (K : PySem.W.Frag) (H : Hp) (v : V) : Prop where
  hv : Val K H v
  hz : ∀ z, v = .str z → z.cps.size ≤ 13
  hr : ∀ xs, rowOf H v = some xs → xs.length ≤ 1 ∧ ∀ x ∈ xs, Val K H x ∧ ∀ a ys, x = .ref a → H a ≠ some (.tup ys)
  hd : ∀ a kvs, v = .ref a → H a = some (.dK kvs) → okD kvs
  hi : ∀ t, v = .int t → ¬ (0 ≤ t ∧ t ≤ 99)
theorem Thing.mono {K : PySem.W.Frag} {H G : Hp} {v : V} (h : Thing K H v) (s : Same H G) : Thing K G v := by
  refine ⟨h.hv.mono s, h.hz, fun xs e => ?_, (fun a kvs e e2 => h.hd a kvs e (by subst e; exact h.hv.there s e2)), h.hi⟩
  rw [rowOf_mono h.hv s] at e
  obtain ⟨l, hx⟩ := h.hr xs e
  refine ⟨l, fun x q => ⟨(hx x q).1.mono s, fun a ys ea ga => ?_⟩⟩
  subst ea
  exact (hx _ q).2 a ys rfl ((hx _ q).1.there s ga)
theorem Thing.val2 {K : PySem.W.Frag} {H : Hp} {v : V} (h : Thing K H v) : Val2 K H v :=
  ⟨h.hv, fun a xs e ha x hx => ((h.hr xs (by subst e; show itemsOf (H a) = _; rw [ha]; rfl)).2 x hx).1⟩
theorem Thing.items {K : PySem.W.Frag} {H : Hp} {v : V} (h : Thing K H v) {xs : List V} (e : rowOf H v = some xs) : xs.length ≤ 1 ∧ (∀ x ∈ xs, Val2 K H x) ∧ ∀ x ∈ xs, stepOf H x = none := by
  obtain ⟨l, hx⟩ := h.hr xs e
  refine ⟨l, fun x q => ⟨(hx x q).1, fun a ys ea ga => ((hx x q).2 a ys ea ga).elim⟩, fun x q => ?_⟩
  obtain ⟨v1, v2⟩ := hx x q
  cases x with
  | ref a =>
    show tupOf (H a) = none
    cases g : H a with
    | none => rfl
    | some o =>
      cases o with
      | tup ys => exact (v2 a ys rfl g).elim
      | _ => rfl
  | _ => rfl
theorem Thing.flat {K : PySem.W.Frag} {H : Hp} {v : V} (h : Val K H v) (z : ∀ z, v = .str z → z.cps.size ≤ 13) (r : rowOf H v = none) (d : ∀ a kvs, v = .ref a → H a = some (.dK kvs) → okD kvs := by intro a kvs e; cases e) (ti : ∀ t, v = .int t → ¬ (0 ≤ t ∧ t ≤ 99) := by intro t e; cases e) : Thing K H v := ⟨h, z, (fun xs e => by rw [r] at e; cases e), d, ti⟩
/-- the deep list -/
structure DeepAt (H : Hp) (p : Addr) (xs : List V) : Prop where
  at_ : H p = some (.lst xs)
  l : xs.length ≤ 1
  it : ∀ x ∈ xs, ∃ c ys, x = V.ref c ∧ H c = some (.lst ys)
theorem DeepAt.mono {H G : Hp} {p : Addr} {xs : List V} (h : DeepAt H p xs) (s : Same H G) : DeepAt G p xs := ⟨s _ _ h.at_, h.l, fun x hx => by
  obtain ⟨c, ys, e, g⟩ := h.it x hx
  exact ⟨c, ys, e, s _ _ g⟩⟩
theorem DeepAt.setL {H : Hp} {p L : Addr} {xs zs : List V} (h : DeepAt H p xs) (n : p ≠ L) : DeepAt (upd H L (.lst zs)) p xs := ⟨(upd_ne n).trans h.at_, h.l, fun x hx => by
  obtain ⟨c, ys, e, g⟩ := h.it x hx
  by_cases q : c = L
  · exact ⟨c, zs, e, by rw [q, upd_same]⟩
  · exact ⟨c, ys, e, (upd_ne q).trans g⟩⟩
theorem DeepAt.thing {K : PySem.W.Frag} {H : Hp} {p : Addr} {xs : List V} (h : DeepAt H p xs) : Thing K H (.ref p) := ⟨.lst h.at_, fun _ e => (by cases e), fun ys e => by
  have e' : itemsOf (H p) = some ys := e
  rw [h.at_] at e'
  cases e'
  refine ⟨h.l, fun x hx => ?_⟩
  obtain ⟨c, ys, rfl, g⟩ := h.it x hx
  exact ⟨.lst g, fun a zs ea ga => by cases ea; rw [g] at ga; cases ga⟩, (fun a kvs ea ga => by cases ea; rw [h.at_] at ga; cases ga), fun t e => by cases e⟩
def sp__law_deep (_ : PySem.W.Frag) : Sp := fun vs H Q _ => ∃ m : Int, vs = [.int m] ∧ 0 ≤ m ∧ m < 100000 ∧ ∀ H' p xs, Same H H' → H p = none → DeepAt H' p xs → Q (.ref p) H'
def sp__law_thing (K : PySem.W.Frag) : Sp := fun vs H Q _ => ∃ d : Int, vs = [.int d] ∧ ∀ v H', Same H H' → Thing K H' v → Q v H'
theorem ok__law_deep {f : Addr} {C : Addr} {fd : FuncData} (T : Txt K mg C) (F : Fun K "_law_deep" "_law_deep" s__law_deep f fd)  : FnOk P w K mg base CX0 1 f fd ["_law_many"] (sp__law_deep K) := by
  have nd := sc__law_deep.nd
  refine F.ok sc__law_deep (fun vs H Q E h => ?_) (fun cdv A outer s H vs Q E hr h => ?_)
  · obtain ⟨m, rfl, _⟩ := h
    rfl
  · obtain ⟨m, rfl, m0, m1, q⟩ := h
    refine ⟨_, (pss_cons (ps_set (i := 1) nd rfl (.inl rfl) (pe_lst pa_nil))
      (pss_cons (ps_for PassesOwn.never rfl (pi_range1 (by rfl) T.m_range (pa_cons (pv 0) pa_nil)) (pg_name (i := 2) nd rfl (.inl rfl)) (pss_one (ps_set (i := 1) nd rfl (.inl rfl) (pe_lst (pa_cons (pv 1) pa_nil)))))
      (pss_one (ps_ret (pv 1))))), ?_⟩
    refine ⟨Nat.zero_le _, fun R nR => ⟨.int m, rfl, m, rfl, by omega, by omega, ?_⟩⟩
    refine for_range (lo := 0) (fun i σ H' => ∃ (p : Addr) (y : Option V) (xs : List V), σ = [some (.int m), some (.ref p), y] ∧ Same H H' ∧ H p = none ∧ DeepAt H' p xs)
      ⟨R, none, [], rfl, same_upd nR, nR, upd_same, Nat.zero_le _, fun x hx => nomatch hx⟩ (fun i σ H' hi hP => ?_) (fun σ H' hP => ?_)
    · obtain ⟨p, y, xs, rfl, sm, np, ep⟩ := hP
      exact ⟨.ref p, rfl, szl rfl, fun p2 n2 => ⟨p2, _, _, rfl, sm.trans (same_upd n2), sm.free n2, upd_same, Nat.le_refl _, fun x hx => ⟨p, xs, List.mem_singleton.mp hx, same_upd n2 _ _ ep.at_⟩⟩⟩
    · obtain ⟨p, y, xs, rfl, sm, np, ep⟩ := hP
      exact ⟨.ref p, rfl, q H' p xs sm np ep⟩
theorem thing_at {K : PySem.W.Frag} {H : Hp} {xs : List V} (h : ∀ v ∈ xs, Thing K H v) {m : Int} {n : Nat} (hn : n = xs.length) (h0 : 0 < n) : ∃ v, atI xs (m % (n : Int)) = some v ∧ Thing K H v := by
  have l : 0 ≤ m % (n : Int) := Int.emod_nonneg _ (by omega)
  have u : m % (n : Int) < (n : Int) := Int.emod_lt_of_pos _ (by omega)
  obtain ⟨j, hj⟩ : ∃ j : Nat, m % (n : Int) = (j : Int) := ⟨(m % (n : Int)).toNat, by omega⟩
  have hj2 : j < xs.length := by omega
  exact ⟨xs[j], by rw [hj]; exact atI_nat (List.getElem?_eq_getElem hj2), h _ (List.getElem_mem hj2)⟩
def things0 (p1 p2 p3 p4 p5 : Addr) : List V := [.non, .bl true, .bl false, .int (-1), .int 100, .int (10 ^ (40 : Int).toNat), .str "", .str "a b", .str "Abc", .str "abcdefghijklm", .ref p1, .ref p2, .ref p3, .ref p4, .ref p5, .str "a\n"]
theorem things_all {H5 : Hp} {p1 p2 p3 p4 p5 : Addr} (v1 : Thing K H5 (.ref p1)) (v2 : Thing K H5 (.ref p2)) (v3 : Thing K H5 (.ref p3)) (v4 : Thing K H5 (.ref p4)) (v5 : Thing K H5 (.ref p5)) : ∀ v ∈ things0 p1 p2 p3 p4 p5, Thing K H5 v := by
  have st : ∀ z : Str, z.cps.size ≤ 13 → Thing K H5 (.str z) := fun z hz => .flat (.str z (by omega)) (fun y e => by cases e; exact hz) rfl
  intro v hv
  simp only [things0, List.mem_cons, List.not_mem_nil, or_false] at hv
  rcases hv with rfl | rfl | rfl | rfl | rfl | rfl | rfl | rfl | rfl | rfl | rfl | rfl | rfl | rfl | rfl | rfl
  · exact .flat .non (fun _ e => by cases e) rfl
  · exact .flat (.bl _) (fun _ e => by cases e) rfl
  · exact .flat (.bl _) (fun _ e => by cases e) rfl
  · exact .flat (.int _) (fun _ e => by cases e) rfl (fun a kvs e => by cases e) (fun t e => by cases e; decide +kernel)
  · exact .flat (.int _) (fun _ e => by cases e) rfl (fun a kvs e => by cases e) (fun t e => by cases e; decide +kernel)
  · exact .flat (.int _) (fun _ e => by cases e) rfl (fun a kvs e => by cases e) (fun t e => by cases e; decide +kernel)
  · exact st _ (by decide)
  · exact st _ (by decide)
  · exact st _ (by decide)
  · exact st _ (by decide)
  · exact v1
  · exact v2
  · exact v3
  · exact v4
  · exact v5
  · exact st _ (by decide)
theorem thing_row {H : Hp} {p : Addr} {xs : List V} {b : Bool} (e : H p = some (rowO b xs)) (l : xs.length ≤ 1) (hx : ∀ x ∈ xs, ∃ z : Str, x = .str z ∧ z.cps.size ≤ 100) : Thing K H (.ref p) := by
  refine ⟨?_, fun _ e => (by cases e), fun ys e' => ?_, (fun a kvs ea ga => by cases ea; rw [e] at ga; cases b <;> cases ga), fun t e => by cases e⟩
  · cases b with
    | true => exact .lst e
    | false => exact .tup e
  · have e2 : itemsOf (H p) = some ys := e'
    rw [e] at e2
    have e3 : xs = ys := by cases b <;> exact Option.some.inj e2
    subst e3
    refine ⟨l, fun x hq => ?_⟩
    obtain ⟨z, rfl, hz⟩ := hx x hq
    exact ⟨.str z hz, fun a ys ea => (by cases ea)⟩
theorem ok__law_thing {f : Addr} {C : Addr} {fd : FuncData} (T : Txt K mg C) (F : Fun K "_law_thing" "_law_thing" s__law_thing f fd) (c__law_deep : Cal P w K mg base 1 "_law_deep" (sp__law_deep K) []) : FnOk P w K mg base CX0 2 f fd ["_law_digit"] (sp__law_thing K) := by
  have nd := sc__law_thing.nd
  refine F.ok sc__law_thing (fun vs H Q E h => ?_) (fun cdv A outer s H vs Q E hr h => ?_)
  · obtain ⟨m, rfl, _⟩ := h
    rfl
  · obtain ⟨m, rfl, q⟩ := h
    refine ⟨_, (pss_cons (ps_set (i := 1) nd rfl (.inl rfl) (pe_lst (pa_cons pe_non (pa_cons pe_bl (pa_cons pe_bl (pa_cons (pe_un un_neg pe_int) (pa_cons pe_int (pa_cons (pe_op op_pow pe_int pe_int) (pa_cons pe_str (pa_cons pe_str (pa_cons pe_str pa_nil)))))))))))
      (pss_cons (ps_set (i := 1) nd rfl (.inl rfl) (pe_op op_cat (pv 1) (pe_lst (pa_cons pe_str (pa_cons (pe_lst pa_nil) (pa_cons pe_dnewK (pa_cons (pe_tup pa_nil) (pa_cons (pe_lst (pa_cons pe_str pa_nil)) (pa_cons (pe_tup (pa_cons pe_str pa_nil)) (pa_cons pe_str pa_nil))))))))))
      (pss_cons (ps_expr (pe_bm PySem.F.plainAttrs_list PySem.F.slot_list_append PySem.F.type_list_append mt_append (pv 1) (pa_cons (pe_c c__law_deep hr (by omega) (by rfl) (pa_cons pe_int pa_nil)) pa_nil)))
      (pss_cons (ps_expr (pe_bm PySem.F.plainAttrs_list PySem.F.slot_list_append PySem.F.type_list_append mt_append (pv 1) (pa_cons (pe_disp (pps_cons pe_str pe_int pps_nil) (by rfl) (by rfl) (fun z => by cases z) (by decide)) pa_nil)))
      (pss_one (ps_ret (pe_ix (r := rIxL K) ix_list (pv 1) (pe_op op_mod (pe_callTy call_int1 (by rfl) T.m_int (by decide +kernel) (pa_cons (pv 0) pa_nil)) (pe_callB call_len (by rfl) T.m_len (by decide +kernel) (pa_cons (pv 1) pa_nil))) (fun _ _ => rfl)))))))), ?_⟩
    refine ⟨1, rfl, 10, 40, rfl, rfl, ⟨by decide, by decide, by decide⟩, szl rfl, ?_⟩
    intro p0 n0
    show gName 1 (.ref p0) _ (upd H p0 (.lst [.non, .bl true, .bl false, .int (-1), .int 100, .int (10 ^ (40 : Int).toNat), .str "", .str "a b", .str "Abc"])) _
    have s0 := same_upd (o := .lst [.non, .bl true, .bl false, .int (-1), .int 100, .int (10 ^ (40 : Int).toNat), .str "", .str "a b", .str "Abc"]) n0
    have g0 : (upd H p0 (.lst [.non, .bl true, .bl false, .int (-1), .int 100, .int (10 ^ (40 : Int).toNat), .str "", .str "a b", .str "Abc"])) p0 = some (.lst [.non, .bl true, .bl false, .int (-1), .int 100, .int (10 ^ (40 : Int).toNat), .str "", .str "a b", .str "Abc"]) := upd_same
    generalize upd H p0 (.lst [.non, .bl true, .bl false, .int (-1), .int 100, .int (10 ^ (40 : Int).toNat), .str "", .str "a b", .str "Abc"]) = H0 at s0 g0 ⊢
    refine ⟨.ref p0, rfl, szl rfl, fun p1 n1 => fun p2 n2 => ⟨szl rfl, fun p3 n3 => ⟨szl rfl, fun p4 n4 => ⟨szl rfl, fun p5 n5 => ⟨szl rfl, fun p6 n6 => ?_⟩⟩⟩⟩⟩
    have s1 := same_upd (o := .lst []) n1
    have s2 := same_upd (o := .dK []) n2
    have s3 := same_upd (o := .tup []) n3
    have s4 := same_upd (o := .lst [.str "a"]) n4
    have s5 := same_upd (o := .tup [.str "a"]) n5
    have one : ∀ x ∈ [V.str "a"], ∃ z : Str, x = .str z ∧ z.cps.size ≤ 100 := fun x hx => ⟨"a", List.mem_singleton.mp hx, by decide⟩
    have v1 : Thing K _ (.ref p1) := (((((thing_row (b := true) (xs := []) (H := upd H0 p1 (.lst [])) upd_same (Nat.zero_le _) fun x hx => nomatch hx).mono s2).mono s3).mono s4).mono s5)
    have v2 : Thing K _ (.ref p2) := ((((Thing.flat (K := K) (H := upd (upd H0 p1 (.lst [])) p2 (.dK [])) (.dK upd_same) (fun _ e => by cases e) (by show itemsOf _ = none; rw [upd_same]; rfl) (fun a kvs ea ga => by cases ea; rw [upd_same] at ga; cases ga; exact Or.inl rfl)).mono s3).mono s4).mono s5)
    have v3 : Thing K _ (.ref p3) := (((thing_row (b := false) (xs := []) (H := upd (upd (upd H0 p1 (.lst [])) p2 (.dK [])) p3 (.tup [])) upd_same (Nat.zero_le _) fun x hx => nomatch hx).mono s4).mono s5)
    have v4 : Thing K _ (.ref p4) := ((thing_row (b := true) (xs := [.str "a"]) (H := upd (upd (upd (upd H0 p1 (.lst [])) p2 (.dK [])) p3 (.tup [])) p4 (.lst [.str "a"])) upd_same (Nat.le_refl _) one).mono s5)
    have v5 : Thing K _ (.ref p5) := thing_row (b := false) (xs := [.str "a"]) (H := upd (upd (upd (upd (upd H0 p1 (.lst [])) p2 (.dK [])) p3 (.tup [])) p4 (.lst [.str "a"])) p5 (.tup [.str "a"])) upd_same (Nat.le_refl _) one
    have s05 : Same H0 _ := s1.trans (s2.trans (s3.trans (s4.trans s5)))
    have s15 : Same H _ := s0.trans s05
    have g5 := s05 _ _ g0
    generalize upd (upd (upd (upd (upd H0 p1 (.lst [])) p2 (.dK [])) p3 (.tup [])) p4 (.lst [.str "a"])) p5 (.tup [.str "a"]) = H5 at n6 s05 s15 g5 v1 v2 v3 v4 v5 ⊢
    have all0 := things_all v1 v2 v3 v4 v5
    have s6 := same_upd (o := .lst [.str "abcdefghijklm", .ref p1, .ref p2, .ref p3, .ref p4, .ref p5, .str "a\n"]) n6
    refine ⟨p0, p6, _, _, rfl, rfl, s6 _ _ g5, upd_same, smallE (by show 9 + 7 ≤ 100000; decide), ?_⟩
    intro L nL
    have nLH := (s15.trans s6).free nL
    have nL5 := s6.free nL
    have sL : Same H5 (upd (upd H5 p6 (.lst [.str "abcdefghijklm", .ref p1, .ref p2, .ref p3, .ref p4, .ref p5, .str "a\n"])) L (.lst (things0 p1 p2 p3 p4 p5))) := s6.trans (same_upd nL)
    have gL : (upd (upd H5 p6 (.lst [.str "abcdefghijklm", .ref p1, .ref p2, .ref p3, .ref p4, .ref p5, .str "a\n"])) L (.lst (things0 p1 p2 p3 p4 p5))) L = some (.lst (things0 p1 p2 p3 p4 p5)) := upd_same
    refine ⟨.ref L, rfl, .inl ⟨rfl, things0 p1 p2 p3 p4 p5, .inl (.inl upd_same)⟩, 1980, rfl, (by decide), (by decide), fun H6 pd xd sd nd6 ed => ?_⟩
    have eL := sd _ _ gL
    have npd : pd ≠ L := fun z => by subst z; exact absurd (nd6.symm.trans gL) (by intro h; cases h)
    have sm6 := sL.trans sd
    have l0 : (things0 p1 p2 p3 p4 p5).length = 16 := rfl
    clear gL
    generalize things0 p1 p2 p3 p4 p5 = xs0 at eL all0 l0
    refine ⟨L, xs0, .ref pd, rfl, rfl, eL, small (by omega), ?_⟩
    have ed7 := ed.setL (zs := xs0 ++ [V.ref pd]) npd
    have sm7 : Same H5 (upd H6 L (.lst (xs0 ++ [V.ref pd]))) := same_set nL5 sm6
    have eL7 : (upd H6 L (.lst (xs0 ++ [V.ref pd]))) L = some (.lst (xs0 ++ [V.ref pd])) := upd_same
    generalize upd H6 L (.lst (xs0 ++ [V.ref pd])) = H7 at ed7 sm7 eL7 ⊢
    -- things.append({'a': 1})
    refine ⟨.ref L, rfl, .inl ⟨rfl, _, .inl (.inl eL7)⟩, fun p8 n8 => ⟨upd_same, [(Sum.inr "a", .int 1)], rfl, (by decide), ?_⟩⟩
    have e8 : upd (upd H7 p8 (.dK [])) p8 (.dK (mergeK [] [(Sum.inr "a", .int 1)])) = upd H7 p8 (.dK (mergeK [] [(Sum.inr "a", .int 1)])) := upd_upd
    rw [e8]
    have s8 := same_upd (o := .dK (mergeK [] [(Sum.inr "a", .int 1)])) n8
    have np8 : p8 ≠ L := fun z => by rw [z, eL7] at n8; cases n8
    refine ⟨L, xs0 ++ [V.ref pd], .ref p8, rfl, rfl, s8 _ _ eL7, small (by rw [List.length_append, l0]; show 16 + 1 ≤ 100000; decide), ?_⟩
    have ed9 := (ed7.mono s8).setL (zs := xs0 ++ [V.ref pd] ++ [V.ref p8]) npd
    have sm9 : Same H5 (upd (upd H7 p8 (.dK (mergeK [] [(Sum.inr "a", .int 1)]))) L (.lst (xs0 ++ [V.ref pd] ++ [V.ref p8]))) := same_set nL5 (sm7.trans s8)
    have eL9 : (upd (upd H7 p8 (.dK (mergeK [] [(Sum.inr "a", .int 1)]))) L (.lst (xs0 ++ [V.ref pd] ++ [V.ref p8]))) L = some (.lst (xs0 ++ [V.ref pd] ++ [V.ref p8])) := upd_same
    have e89 : (upd (upd H7 p8 (.dK (mergeK [] [(Sum.inr "a", .int 1)]))) L (.lst (xs0 ++ [V.ref pd] ++ [V.ref p8]))) p8 = some (.dK (mergeK [] [(Sum.inr "a", .int 1)])) := (upd_ne np8).trans upd_same
    generalize upd (upd H7 p8 (.dK (mergeK [] [(Sum.inr "a", .int 1)]))) L (.lst (xs0 ++ [V.ref pd] ++ [V.ref p8])) = H9 at ed9 sm9 eL9 e89 ⊢
    have all3 : ∀ v ∈ xs0 ++ [V.ref pd] ++ [V.ref p8], Thing K H9 v := fun v hv => by
      rcases List.mem_append.mp hv with hv | hv
      · rcases List.mem_append.mp hv with hv | hv
        · exact (all0 v hv).mono sm9
        · rw [List.mem_singleton.mp hv]; exact ed9.thing
      · rw [List.mem_singleton.mp hv]
        exact .flat (.dK e89) (fun _ e => by cases e) (by show itemsOf (H9 p8) = none; rw [e89]; rfl) (fun a kvs ea ga => by cases ea; rw [e89] at ga; cases ga; exact Or.inr rfl)
    have l2 : (xs0 ++ [V.ref pd] ++ [V.ref p8]).length = 18 := by rw [List.length_append, List.length_append, l0]; rfl
    generalize xs0 ++ [V.ref pd] ++ [V.ref p8] = xs2 at all3 l2 eL9
    obtain ⟨v, hv, hV⟩ := thing_at all3 (m := m) rfl (by omega)
    exact ⟨.ref L, rfl, .int m, rfl, .inl ⟨m, rfl, .ref L, rfl, .ref L, xs2.length, rfl, .inl ⟨_, .inl (.inl eL9), rfl⟩, m, (xs2.length : Int), rfl, rfl, (show (0 : Int) < (xs2.length : Int) by omega), L, xs2, m % (xs2.length : Int), v, rfl, rfl, .inl (.inl eL9), hv, q v H9 (s15.trans sm9) hV⟩⟩

end
end Kn

set_option Elab.async false
set_option linter.all false
set_option maxRecDepth 100000
set_option maxHeartbeats 4000000
namespace Kn
open PySem PySem.Spec PyProof.Rows L2
open C8 (Cal pe_c pe_gc Mak pe_mk)
section
variable {P : Program} {w : World} {K : PySem.W.Frag} {mg : Str → Option Value} {base : Heap}
/-! ### shortest_to -/
theorem op_k {r : R2} {x y : V} {H : Hp} {k : V → Hp → Prop} (C : V → Hp → Prop) (h1 : (∀ v H', C v H' → k v H') → r x y H k) (h2 : ∀ v H', C v H' → k v H') : r x y H k := h1 h2
def rdK (tr : List (Int × Addr)) : List (Key × V) := tr.map fun p => (Sum.inl p.1, V.ref p.2)
def RdP (G : Hp) (tr : List (Int × Addr)) (tb : List (Int × List Nat)) : Prop := Paired (fun (p : Int × Addr) (e : Int × List Nat) => p.1 = e.1 ∧ G p.2 = some (.tup (kInts e.2))) tr tb
theorem RdP.mono {G G' : Hp} {tr : List (Int × Addr)} {tb : List (Int × List Nat)} (h : RdP G tr tb) (s : Same G G') : RdP G' tr tb := Paired.mapP h fun _ _ e => ⟨e.1, s _ _ e.2⟩
theorem RdP.set {G : Hp} {tr : List (Int × Addr)} {tb : List (Int × List Nat)} {p : Addr} {o o' : HO} (h : RdP G tr tb) (e : G p = some o) (no : ∀ xs, o ≠ .tup xs) : RdP (upd G p o') tr tb := Paired.mapP h fun _ _ q => ⟨q.1, (upd_ne (fun z => by rw [z, e] at q; exact no _ (Option.some.inj q.2))).trans q.2⟩
theorem rd_val (tr : List (Int × Addr)) (x : Int) : valV (rdK tr) (.inl x) = (tr.find? fun p => decide (p.1 = x)).map fun p => V.ref p.2 := by
  unfold rdK
  induction tr with
  | nil => rfl
  | cons p r ih =>
    by_cases e : p.1 = x
    · rw [List.find?_cons_of_pos (by simp [e])]
      unfold valV
      rw [List.map_cons, List.find?_cons_of_pos (by simp [e])]
      rfl
    · rw [List.find?_cons_of_neg (by simp [e]), ← ih]
      unfold valV
      rw [List.map_cons, List.find?_cons_of_neg (by simp [e])]
theorem rd_look {G : Hp} {tr : List (Int × Addr)} {tb : List (Int × List Nat)} (h : RdP G tr tb) : (tb.map (·.1)).Nodup → ∀ e ∈ tb, ∃ a, valV (rdK tr) (.inl e.1) = some (.ref a) ∧ G a = some (.tup (kInts e.2)) := by
  induction h with
  | nil => intro _ e he; cases he
  | @cons p e' tr tb h0 _ ih =>
    intro n e he
    rw [List.map_cons, List.nodup_cons] at n
    rw [rd_val]
    by_cases c : p.1 = e.1
    · rw [List.find?_cons_of_pos (by simp [c])]
      rcases List.mem_cons.mp he with rfl | he
      · exact ⟨p.2, rfl, h0.2⟩
      · exact (n.1 (List.mem_map.mpr ⟨e, he, by rw [← c, h0.1]⟩)).elim
    · rw [List.find?_cons_of_neg (by simp [c]), ← rd_val]
      rcases List.mem_cons.mp he with rfl | he
      · exact absurd h0.1 c
      · exact ih n.2 e he
theorem rd_none {G : Hp} {tr : List (Int × Addr)} {tb : List (Int × List Nat)} (h : RdP G tr tb) {x : Int} (no : ∀ b ∈ tb, b.1 ≠ x) : valV (rdK tr) (.inl x) = none := by
  induction h with
  | nil => rfl
  | @cons p e tr tb h0 _ ih =>
    rw [rd_val, List.find?_cons_of_neg (by simpa [h0.1] using no e List.mem_cons_self), ← rd_val]
    exact ih fun b hb => no b (List.mem_cons_of_mem _ hb)
theorem RdP.snoc {G : Hp} {tr : List (Int × Addr)} {tb : List (Int × List Nat)} {x : Int} {a : Addr} {ks : List Nat} (h : RdP G tr tb) (e : G a = some (.tup (kInts ks))) : RdP G (tr ++ [(x, a)]) (tb ++ [(x, ks)]) := by
  unfold RdP at h ⊢
  induction h with
  | nil => exact .cons ⟨rfl, e⟩ .nil
  | cons h0 _ ih => exact .cons h0 ih
def Sml (tb : List (Int × List Nat)) : Prop := ∀ (i : Nat) a, tb[i]? = some a → a.2.length ≤ i
def sx_shortest_to (K : PySem.W.Frag) (C : Addr) (ce : Es) : Sp := fun vs H Q E => ∃ (p : Addr) (v : V) (s0 : Int) (ss : List KnA.Stp) (fs : List (Str × Str)), vs = [.ref p, v] ∧ MachAt C H p s0 ss fs ∧ GoodMach s0 ss fs ∧ Val K H v ∧
  (∀ t, v = .int t → KnA.Reach ss s0 t → ∀ H' a ks, Same H H' → H' a = some (.tup (kInts ks)) → goesTo ss s0 ks t → (∀ q, goesTo ss s0 q t → lle ks q) → ks.length ≤ 1000 → Q (.ref a) H') ∧
  ((∀ t, v = .int t → ¬ KnA.Reach ss s0 t) → ∀ H' d, Same H H' → H' d = none → E (.ref ce.BadState) (some d) (upd H' d (.xd [("value", v)])))
theorem states_in {ss : List KnA.Stp} {s0 x : Int} (g : GoodSteps ss) (h0 : stateB (.int s0) = true) (h : KnA.Reach ss s0 x) : 0 ≤ x ∧ x ≤ 99 := by
  cases h with
  | start => exact state_in h0
  | step _ m => exact state_in (g.good _ m).t
theorem Bfs.few {ss : List KnA.Stp} {s0 : Int} {tb : List (Int × List Nat)} {d n : Nat} (h : Bfs ss s0 tb d n) (g : GoodSteps ss) (h0 : stateB (.int s0) = true) : tb.length ≤ 100 := by
  have h1 := sub_len (l := tb.map (·.1)) (m := (List.range 100).map fun (i : Nat) => (i : Int)) h.nd fun x hx => by
    obtain ⟨e, he, rfl⟩ := List.mem_map.mp hx
    have hs := states_in g h0 ((h.go e he).reach .start)
    exact List.mem_map.mpr ⟨e.1.toNat, List.mem_range.mpr (by omega), by omega⟩
  rwa [List.length_map, List.length_map, List.length_range] at h1
theorem ok_shortest_to {f : Addr} {C : Addr} {ce : Es} {fd : FuncData} (T : Txt K mg C) (F : Fun K "shortest_to" "shortest_to" s_shortest_to f fd) (c_BadState : KnX.Err P w K mg base 1 "BadState" ce.BadState "value") (c_is_state : Cal P w K mg base 2 "is_state" (sp_is_state K) []) (c_Machine_states : KnP.Prp P w K mg base 1 C "states" (sp_Machine_states K C)) (c_Machine_steps : KnP.Prp P w K mg base 1 C "steps" (sp_Machine_steps K C)) (c_Machine_start : KnP.Prp P w K mg base 1 C "start" (sp_Machine_start K C)) : FnOk P w K mg base (L2.CX P w) 3 f fd ["machine", "state"] (sx_shortest_to K C ce) := by
  have nd := sc_shortest_to.nd
  refine F.okX sc_shortest_to (fun vs H Q E h => ?_) (fun cdv A outer s H vs Q E hr h => ?_)
  · obtain ⟨p, v, s0, ss, fs, rfl, _⟩ := h
    rfl
  · obtain ⟨p, v, s0, ss, fs, rfl, hm, gm, hv, qn, qe⟩ := h
    refine ⟨_, (pss_cons (ps_if (PW.pt (pw_or (pt_not (pt_val (pe_c c_is_state hr (by omega) (by rfl) (pa_cons (pv 1) pa_nil)))) (pw_or1 (pt_cmpR op_notIn_seq (pv 1) (KnP.pe_prp T.cl c_Machine_states hr (by decide) (pv 0) (by rfl)) (by with_unfolding_all rfl))))) (pss_one (KnX.ps_err rfl (takes_of rfl rfl rfl rfl) c_BadState hr (by omega) (by rfl) (pa_cons (pv 1) pa_nil))) pss_nil)
      (pss_cons (ps_set (i := 2) nd rfl (.inl rfl) (KnP.pe_prp T.cl c_Machine_steps hr (by decide) (pv 0) (by rfl)))
      (pss_cons (ps_set (i := 3) nd rfl (.inl rfl) (pe_disp (pps_cons (KnP.pe_prp T.cl c_Machine_start hr (by decide) (pv 0) (by rfl)) (pe_tup pa_nil) pps_nil) (by rfl) (by rfl) (fun z => by cases z) (by decide)))
      (pss_cons (ps_set (i := 4) nd rfl (.inl rfl) (pe_lst (pa_cons (KnP.pe_prp T.cl c_Machine_start hr (by decide) (pv 0) (by rfl)) pa_nil)))
      (pss_cons (ps_while (passes_of rfl) (pt_cmp (pc_dnotin (hu_of hr) (pv 1) (pv 3))) (pss_cons (ps_set (i := 5) nd rfl (.inl rfl) (pe_bm PySem.F.plainAttrs_list PySem.F.slot_list_pop PySem.F.type_list_pop mt_popAt (pv 4) (pa_cons pe_int pa_nil)))
      (pss_one (ps_for (passes_of rfl) rfl (KnE.pi_en (by rfl) T.m_enumerate (pa_cons (pv 2) pa_nil)) (pg_tup (by rfl) (pgs_cons (pg_name (i := 6) nd rfl (.inl rfl)) (pgs_cons (pg_name (i := 7) nd rfl (.inl rfl)) pgs_nil))) (pss_one (ps_if (PW.pt (pw_and (pt_cmpR op_eq (pe_ix (r := rIxT K) ix_tup (pv 7) pe_int (fun _ _ => rfl)) (pv 5) (nomark _)) (pw_and1 (pt_cmp (pc_dnotin (hu_of hr) (pe_ix (r := rIxT K) ix_tup (pv 7) pe_int (fun _ _ => rfl)) (pv 3)))))) (pss_cons (ps_dput (hu_of hr) (pv 3) (pe_ix (r := rIxT K) ix_tup (pv 7) pe_int (fun _ _ => rfl)) (pe_op KnX.op_catT0 (pe_dget (hu_of hr) (pv 3) (pv 5) (fun _ _ => rfl)) (pe_tup (pa_cons (pv 6) pa_nil))) rfl)
      (pss_one (ps_expr (pe_bm PySem.F.plainAttrs_list PySem.F.slot_list_append PySem.F.type_list_append mt_append (pv 4) (pa_cons (pe_ix (r := rIxT K) ix_tup (pv 7) pe_int (fun _ _ => rfl)) pa_nil))))) pss_nil))))))
      (pss_one (ps_ret (pe_dget (hu_of hr) (pv 3) (pv 1) (fun _ _ => rfl))))))))), ?_⟩
    refine ⟨v, rfl, v, rfl, hv, fun H1 s1 => ⟨_, rfl, ?_⟩⟩
    cases es : stateB v with
    | false =>
      refine iteT (iteT ⟨v, rfl, KnX.mk_err fun d nd' => qe (fun t et r => ?_) H1 d s1 nd'⟩)
      subst et
      have h := states_in gm.gs gm.st0 r
      have : stateB (.int t) = true := by
        show (decide (0 ≤ t) && decide (t ≤ 99)) = true
        rw [decide_eq_true h.1, decide_eq_true h.2]; rfl
      rw [this] at es; cases es
    | true =>
      refine iteF ?_
      obtain ⟨t, rfl⟩ : ∃ t, v = .int t := by
        cases v with
        | int t => exact ⟨t, rfl⟩
        | _ => cases es
      obtain ⟨dx, ls, lw, df, lt, as0, ws, ns, mm⟩ := id hm
      refine ⟨.int t, rfl, .ref p, rfl, p, dx, _, rfl, s1 _ _ mm.ob, p, s0, ss, fs, rfl, hm.mono s1, fun H2 l ns s2 nl el st => ?_⟩
      have s02 := s1.trans s2
      refine ⟨l, ns.map V.int, rfl, .inl (.inl (.inl el)), rfl, flat_is ns, _, rfl, ?_⟩
      show if (!inV (.int t) (ns.map V.int)) = true then _ else _
      rw [inV_ints]
      by_cases ht : t ∈ ns
      rotate_left
      · rw [decide_eq_false ht]
        exact iteT ⟨.int t, rfl, KnX.mk_err fun d nd' => qe (fun t' et r => by cases et; exact ht ((st.mem t).mpr r)) H2 d s02 nd'⟩
      rw [decide_eq_true ht]
      have rt := (st.mem t).mp ht
      have q := qn t rfl rt
      refine iteF ?_
      refine ⟨.ref p, rfl, p, dx, _, rfl, s02 _ _ mm.ob, p, s0, ss, fs, rfl, hm.mono s02, fun H3 sl as s3 nsl esl hst => ?_⟩
      have s03 := s02.trans s3
      intro r nr
      have sr := same_upd (o := .dK []) nr
      have nrH : H r = none := s03.free nr
      have er0 : (upd H3 r (.dK [])) r = some (.dK []) := upd_same
      have s04 := s03.trans sr
      have hst4 := hst.mono sr
      have esl4 := sr _ _ esl
      generalize upd H3 r (.dK []) = H4 at sr er0 s04 hst4 esl4 ⊢
      refine ⟨.ref p, rfl, p, dx, _, rfl, s04 _ _ mm.ob, p, s0, ss, fs, rfl, hm.mono s04, szl rfl, fun T0 nT0 => ?_⟩
      have sT := same_upd (o := .tup []) nT0
      have eT0 : (upd H4 T0 (.tup [])) T0 = some (.tup (kInts [])) := upd_same
      have er1 := sT _ _ er0
      have s05 := s04.trans sT
      have hst5 := hst4.mono sT
      have esl5 := sT _ _ esl4
      generalize upd H4 T0 (.tup []) = H5 at eT0 er1 s05 hst5 esl5 ⊢
      refine ⟨er1, [(.inl s0, .ref T0)], rfl, Nat.le_of_ble_eq_true rfl, ?_⟩
      have em : mergeK [] [((.inl s0 : Key), V.ref T0)] = rdK [(s0, T0)] := rfl
      rw [em]
      have nTr : T0 ≠ r := ne_of eT0 er1 (fun z => by cases z)
      have eT1 : (upd H5 r (.dK (rdK [(s0, T0)]))) T0 = some (.tup (kInts [])) := (upd_ne nTr).trans eT0
      have er2 : (upd H5 r (.dK (rdK [(s0, T0)]))) r = some (.dK (rdK [(s0, T0)])) := upd_same
      have s06 : Same H (upd H5 r (.dK (rdK [(s0, T0)]))) := same_set nrH s05
      have nsr : sl ≠ r := ne_of esl5 er1 (fun z => by cases z)
      have esl6 : (upd H5 r (.dK (rdK [(s0, T0)]))) sl = some (.lst (as.map V.ref)) := (upd_ne nsr).trans esl5
      have hst6 : Stps (upd H5 r (.dK (rdK [(s0, T0)]))) as ss := Paired.mapP hst5 fun _ _ e => (upd_ne (fun z => by rw [z, er1] at e; cases e)).trans e
      generalize upd H5 r (.dK (rdK [(s0, T0)])) = H6 at eT1 er2 s06 esl6 hst6 ⊢
      clear eT0 er1 s05 hst5 esl5 er0 s04 hst4 esl4 sr hst esl s03
      refine ⟨.ref p, rfl, p, dx, _, rfl, s06 _ _ mm.ob, p, s0, ss, fs, rfl, hm.mono s06, szl rfl, fun wa nwa => ?_⟩
      have sW := same_upd (o := .lst [.int s0]) nwa
      have nwaH : H wa = none := s06.free nwa
      have eW0 : (upd H6 wa (.lst [.int s0])) wa = some (.lst ((([(s0, ([] : List Nat))] : List (Int × List Nat)).drop 0).map fun e => V.int e.1)) := upd_same
      have s07 := s06.trans sW
      have er7 := sW _ _ er2
      have eT7 := sW _ _ eT1
      have esl7 := sW _ _ esl6
      have hst7 := hst6.mono sW
      have nrw : r ≠ wa := fun z => by rw [z] at er2; rw [er2] at nwa; cases nwa
      have nsw : sl ≠ wa := fun z => by rw [z] at esl6; rw [esl6] at nwa; cases nwa
      generalize upd H6 wa (.lst [.int s0]) = H7 at eW0 s07 er7 eT7 esl7 hst7 ⊢
      refine ⟨fun m σ G => ∃ (y5 y6 y7 : Option V) (tr : List (Int × Addr)) (tb : List (Int × List Nat)) (d : Nat), σ = [some (.ref p), some (.int t), some (.ref sl), some (.ref r), some (.ref wa), y5, y6, y7] ∧ Same H G ∧ G sl = some (.lst (as.map V.ref)) ∧ Stps G as ss ∧ G r = some (.dK (rdK tr)) ∧ RdP G tr tb ∧ G wa = some (.lst ((tb.drop d).map fun e => V.int e.1)) ∧ Bfs ss s0 tb d 0 ∧ Sml tb ∧ d ≤ tb.length ∧ m = 1000 - d,
        ⟨_, none, none, none, [(s0, T0)], [(s0, [])], 0, rfl, s07, esl7, hst7, er7, .cons ⟨rfl, eT7⟩ .nil, eW0, Bfs.start ss s0, (fun i a e => by
          cases i with
          | zero => cases e; exact Nat.le_refl _
          | succ i => cases e), Nat.zero_le _, rfl⟩, fun m σ G hW => ?_⟩
      obtain ⟨y5, y6, y7, tr, tb, d, rfl, S, eSL, hS, eR, hR, eW, bf, sm, dl, rfl⟩ := hW
      have few := bf.few gm.gs gm.st0
      have dg : DGet G r (.int t) (valV (rdK tr) (.inl t)) := DGet.k (k := .inl t) eR
      by_cases found : ∃ b ∈ tb, b.1 = t
      · obtain ⟨b, hb, eb⟩ := found
        obtain ⟨a, ea, ga⟩ := rd_look hR bf.nd b hb
        rw [eb] at ea
        rw [ea] at dg
        obtain ⟨i, hi, ei⟩ := List.mem_iff_getElem.mp hb
        have lb := sm i b (by rw [← ei]; exact List.getElem?_eq_getElem hi)
        refine ⟨.int t, rfl, .ref r, rfl, r, _, rfl, dg, _, rfl, iteF ?_⟩
        refine ⟨.ref r, rfl, .int t, rfl, r, .ref a, rfl, dg, ?_⟩
        exact q G a b.2 S ga (eb ▸ bf.go b hb) (fun q' hq => bf.least hb (eb.symm ▸ hq)) (by omega)
      · have no : ∀ b ∈ tb, b.1 ≠ t := fun b hb e => found ⟨b, hb, e⟩
        rw [rd_none hR no] at dg
        obtain ⟨c, hc⟩ := bf.more rt no
        have hd : d < tb.length := (List.getElem?_eq_some_iff.mp hc).1
        refine ⟨.int t, rfl, .ref r, rfl, r, _, rfl, dg, _, rfl, iteT ?_⟩
        refine ⟨fun σ' G' => ∃ (y5 y6 y7 : Option V) (tr : List (Int × Addr)) (tb : List (Int × List Nat)), σ' = [some (.ref p), some (.int t), some (.ref sl), some (.ref r), some (.ref wa), y5, y6, y7] ∧ Same H G' ∧ G' sl = some (.lst (as.map V.ref)) ∧ Stps G' as ss ∧ G' r = some (.dK (rdK tr)) ∧ RdP G' tr tb ∧ G' wa = some (.lst ((tb.drop (d + 1)).map fun e => V.int e.1)) ∧ Bfs ss s0 tb (d + 1) 0 ∧ Sml tb ∧ d + 1 ≤ tb.length,
          fun σ' G' ⟨y5, y6, y7, tr', tb', e, a1, a2, a3, a4, a5, a6, a7, a8, a9⟩ => ⟨1000 - (d + 1), by omega, y5, y6, y7, tr', tb', d + 1, e, a1, a2, a3, a4, a5, a6, a7, a8, a9, rfl⟩, ?_⟩
        have edrop : tb.drop d = c :: tb.drop (d + 1) := by
          rw [List.drop_eq_getElem_cons hd, (List.getElem?_eq_some_iff.mp hc).2]
        refine ⟨.ref wa, rfl, .inl ⟨rfl, _, .inl (.inl eW)⟩, wa, _, 0, 0, .int c.1, rfl, rfl, eW, by decide, by decide, seqIndex?_zero (by rw [List.length_map, edrop]; exact Nat.succ_pos _), by rw [edrop]; rfl, ?_⟩
        rw [show ((tb.drop d).map fun e => V.int e.1).eraseIdx 0 = (tb.drop (d + 1)).map fun e => V.int e.1 by rw [edrop]; rfl]
        have S1 : Same H (upd G wa (.lst ((tb.drop (d + 1)).map fun e => V.int e.1))) := same_set nwaH S
        have eW1 : (upd G wa (.lst ((tb.drop (d + 1)).map fun e => V.int e.1))) wa = some (.lst ((tb.drop (d + 1)).map fun e => V.int e.1)) := upd_same
        have eR1 : (upd G wa (.lst ((tb.drop (d + 1)).map fun e => V.int e.1))) r = some (.dK (rdK tr)) := (upd_ne nrw).trans eR
        have eSL1 : (upd G wa (.lst ((tb.drop (d + 1)).map fun e => V.int e.1))) sl = some (.lst (as.map V.ref)) := (upd_ne nsw).trans eSL
        have hS1 : Stps (upd G wa (.lst ((tb.drop (d + 1)).map fun e => V.int e.1))) as ss := Paired.mapP hS fun _ _ e => (upd_ne (fun z => by rw [z, eW] at e; cases e)).trans e
        have hR1 : RdP (upd G wa (.lst ((tb.drop (d + 1)).map fun e => V.int e.1))) tr tb := hR.set eW (fun xs z => by cases z)
        generalize upd G wa (.lst ((tb.drop (d + 1)).map fun e => V.int e.1)) = G1 at S1 eW1 eR1 eSL1 hS1 hR1 ⊢
        clear eW eR eSL hS hR dg found
        refine ⟨.ref sl, rfl, sl, true, as.map V.ref, rfl, row_sq (b := true) eSL1, ?_⟩
        refine KnE.for_en (K := K) (fun i σ G' => ∃ (y6 y7 : Option V) (tr : List (Int × Addr)) (tb : List (Int × List Nat)), σ = [some (.ref p), some (.int t), some (.ref sl), some (.ref r), some (.ref wa), some (.int c.1), y6, y7] ∧ Same H G' ∧ G' sl = some (.lst (as.map V.ref)) ∧ Stps G' as ss ∧ G' r = some (.dK (rdK tr)) ∧ RdP G' tr tb ∧ G' wa = some (.lst ((tb.drop (d + 1)).map fun e => V.int e.1)) ∧ Bfs ss s0 tb d i ∧ Sml tb ∧ tb[d]? = some c)
          ⟨y6, y7, tr, tb, rfl, S1, eSL1, hS1, eR1, hR1, eW1, bf, sm, hc⟩ (fun i σ G' _ hP => by obtain ⟨_, _, _, _, _, _, h, _⟩ := hP; exact row_sq (b := true) h) (fun i x T1 σ G' hx nT hP => ?_) (fun σ G' hP => ?_)
        · obtain ⟨y6, y7, tr, tb, rfl, S, eSL, hS, eR, hR, eW, bf, sm, hc⟩ := hP
          have few := bf.few gm.gs gm.st0
          have hd : d < tb.length := (List.getElem?_eq_some_iff.mp hc).1
          obtain ⟨ai, st1, rfl, gi, gst, hai⟩ := ref_get hS hx
          have sT1 := same_upd (o := .tup [.int (i : Nat), .ref ai]) nT
          have eT1' : (upd G' T1 (.tup [.int (i : Nat), .ref ai])) T1 = some (.tup [.int (i : Nat), .ref ai]) := upd_same
          have S' := S.trans sT1
          have eSL' := sT1 _ _ eSL
          have hS' := hS.mono sT1
          have eR' := sT1 _ _ eR
          have hR' := hR.mono sT1
          have eW' := sT1 _ _ eW
          have hai' := sT1 _ _ hai
          generalize upd G' T1 (.tup [.int (i : Nat), .ref ai]) = G2 at eT1' S' eSL' hS' eR' hR' eW' hai' ⊢
          clear S eSL hS eR hR eW hai
          refine ⟨T1, [.int (i : Nat), .ref ai], rfl, .inl (.inl eT1'), rfl, .int (i : Nat), [.ref ai], rfl, .ref ai, [], rfl, rfl, ?_⟩
          refine ⟨.ref ai, rfl, ai, [.int st1.1, .str st1.2.1, .int st1.2.2], 0, .int st1.1, rfl, rfl, .inl (.inl hai'), atI_nat (j := 0) rfl, .int c.1, rfl, rfl, _, rfl, ite2 (fun c1 => ?_) (fun c1 => ?_)⟩
          · have c1 : st1.1 = c.1 := V.int.inj (of_decide_eq_true c1)
            have dg2 : DGet G2 r (.int st1.2.2) (valV (rdK tr) (.inl st1.2.2)) := DGet.k (k := .inl st1.2.2) eR'
            by_cases old : ∃ b ∈ tb, b.1 = st1.2.2
            · obtain ⟨b, hb, eb⟩ := old
              obtain ⟨a, ea, _⟩ := rd_look hR' bf.nd b hb
              rw [eb] at ea
              rw [ea] at dg2
              refine ⟨.ref ai, rfl, ai, [.int st1.1, .str st1.2.1, .int st1.2.2], 2, .int st1.2.2, rfl, rfl, .inl (.inl hai'), atI_nat (j := 2) rfl, .ref r, rfl, r, _, rfl, dg2, _, rfl, iteF ?_⟩
              exact ⟨_, _, tr, tb, rfl, S', eSL', hS', eR', hR', eW', bf.skip hc (fun st' e _ => by rw [gst] at e; cases e; exact ⟨b, hb, eb⟩), sm, hc⟩
            · have no2 : ∀ b ∈ tb, b.1 ≠ st1.2.2 := fun b hb e => old ⟨b, hb, e⟩
              have nov := rd_none hR' no2
              rw [nov] at dg2
              obtain ⟨pa, epa, gpa⟩ := rd_look hR' bf.nd c (List.mem_of_getElem? hc)
              have dg3 : DGet G2 r (.int c.1) (valV (rdK tr) (.inl c.1)) := DGet.k (k := .inl c.1) eR'
              rw [epa] at dg3
              have lc := sm d c hc
              refine ⟨.ref ai, rfl, ai, [.int st1.1, .str st1.2.1, .int st1.2.2], 2, .int st1.2.2, rfl, rfl, .inl (.inl hai'), atI_nat (j := 2) rfl, .ref r, rfl, r, _, rfl, dg2, _, rfl, iteT ?_⟩
              refine ⟨.ref r, rfl, .int c.1, rfl, r, .ref pa, rfl, dg3, .int (i : Nat), rfl, szl rfl, fun T2 nT2 => ?_⟩
              have sT2 := same_upd (o := .tup [.int (i : Nat)]) nT2
              have eT2 : (upd G2 T2 (.tup [.int (i : Nat)])) T2 = some (.tup [.int (i : Nat)]) := upd_same
              refine op_k (r := KnX.rCatT0 K) (fun v H' => ∃ T3, v = .ref T3 ∧ Same G2 H' ∧ H' T3 = some (.tup (kInts (c.2 ++ [i])))) (fun go => ?_) (fun v G3 hT => ?_)
              · refine ⟨pa, T2, kInts c.2, [.int (i : Nat)], rfl, rfl, .inl (.inl (sT2 _ _ gpa)), .inl (.inl eT2), fun z => ?_, fun _ => ⟨smallE (by rw [kInts_len]; show c.2.length + 1 ≤ 100000; omega), fun z => (by cases z), fun _ T3 nT3 => ?_⟩⟩
                · have e0 : c.2 = [] := by
                    have := congrArg List.length z
                    rw [kInts_len] at this
                    exact List.eq_nil_of_length_eq_zero this
                  exact go _ _ ⟨T2, rfl, sT2, by rw [eT2, e0]; rfl⟩
                · exact go _ _ ⟨T3, rfl, sT2.trans (same_upd nT3), by rw [upd_same, kInts_app]; rfl⟩
              obtain ⟨T3, rfl, sT3, eT3⟩ := hT
              have S3 := S'.trans sT3
              have eSL3 := sT3 _ _ eSL'
              have hS3 := hS'.mono sT3
              have eR3 := sT3 _ _ eR'
              have hR3 := hR'.mono sT3
              have eW3 := sT3 _ _ eW'
              have hai3 := sT3 _ _ hai'
              have ltr : tr.length = tb.length := hR3.length
              refine ⟨.ref r, rfl, .ref ai, rfl, ai, [.int st1.1, .str st1.2.1, .int st1.2.2], 2, .int st1.2.2, rfl, rfl, .inl (.inl hai3), atI_nat (j := 2) rfl, r, _, rfl, DPut.k (k := .inl st1.2.2) eR3 (small (by unfold rdK; rw [List.length_map]; omega)), ?_⟩
              rw [putK_new _ nov, show rdK tr ++ [((Sum.inl st1.2.2 : Key), V.ref T3)] = rdK (tr ++ [(st1.2.2, T3)]) by unfold rdK; rw [List.map_append]; rfl]
              have nT3r : T3 ≠ r := ne_of eT3 eR3 (fun z => by cases z)
              have eT4 : (upd G3 r (.dK (rdK (tr ++ [(st1.2.2, T3)])))) T3 = some (.tup (kInts (c.2 ++ [i]))) := (upd_ne nT3r).trans eT3
              have S4 : Same H (upd G3 r (.dK (rdK (tr ++ [(st1.2.2, T3)])))) := same_set nrH S3
              have eSL4 : (upd G3 r (.dK (rdK (tr ++ [(st1.2.2, T3)])))) sl = some (.lst (as.map V.ref)) := (upd_ne nsr).trans eSL3
              have hS4 : Stps (upd G3 r (.dK (rdK (tr ++ [(st1.2.2, T3)])))) as ss := Paired.mapP hS3 fun _ _ e => (upd_ne (fun z => by rw [z, eR3] at e; cases e)).trans e
              have eR4 : (upd G3 r (.dK (rdK (tr ++ [(st1.2.2, T3)])))) r = some (.dK (rdK (tr ++ [(st1.2.2, T3)]))) := upd_same
              have hR4 : RdP (upd G3 r (.dK (rdK (tr ++ [(st1.2.2, T3)])))) (tr ++ [(st1.2.2, T3)]) (tb ++ [(st1.2.2, c.2 ++ [i])]) := (hR3.set eR3 (fun xs z => by cases z)).snoc eT4
              have eW4 : (upd G3 r (.dK (rdK (tr ++ [(st1.2.2, T3)])))) wa = some (.lst ((tb.drop (d + 1)).map fun e => V.int e.1)) := (upd_ne nrw.symm).trans eW3
              have hai4 : (upd G3 r (.dK (rdK (tr ++ [(st1.2.2, T3)])))) ai = some (tup3 st1) := (upd_ne (fun z => by rw [z, eR3] at hai3; cases hai3)).trans hai3
              generalize upd G3 r (.dK (rdK (tr ++ [(st1.2.2, T3)]))) = G4 at S4 eSL4 hS4 eR4 hR4 eW4 hai4 ⊢
              refine ⟨.ref wa, rfl, .inl ⟨rfl, _, .inl (.inl eW4)⟩, .ref ai, rfl, ai, [.int st1.1, .str st1.2.1, .int st1.2.2], 2, .int st1.2.2, rfl, rfl, .inl (.inl hai4), atI_nat (j := 2) rfl, wa, _, .int st1.2.2, rfl, rfl, eW4, small (by rw [List.length_map, List.length_drop]; omega), ?_⟩
              have edr : (tb ++ [(st1.2.2, c.2 ++ [i])]).drop (d + 1) = tb.drop (d + 1) ++ [(st1.2.2, c.2 ++ [i])] := List.drop_append_of_le_length (by omega)
              refine ⟨_, _, tr ++ [(st1.2.2, T3)], tb ++ [(st1.2.2, c.2 ++ [i])], rfl, same_set nwaH S4, (upd_ne nsw).trans eSL4, Paired.mapP hS4 fun _ _ e => (upd_ne (fun z => by rw [z, eW4] at e; cases e)).trans e, (upd_ne nrw).trans eR4, hR4.set eW4 (fun xs z => by cases z), by rw [upd_same, edr, List.map_append]; rfl, bf.add hc gst c1 no2, fun j a e => ?_, by rw [List.getElem?_append_left hd]; exact hc⟩
              by_cases lj : j < tb.length
              · rw [List.getElem?_append_left lj] at e
                exact sm j a e
              · have l2 := (List.getElem?_eq_some_iff.mp e).1
                rw [List.length_append] at l2
                have l3 : j < tb.length + 1 := l2
                have ej : j = tb.length := by omega
                rw [List.getElem?_append_right (by omega), ej, Nat.sub_self] at e
                cases e
                show (c.2 ++ [i]).length ≤ j
                rw [List.length_append]
                show c.2.length + 1 ≤ j
                omega
          · refine ⟨_, _, tr, tb, rfl, S', eSL', hS', eR', hR', eW', bf.skip hc (fun st' e e2 => ?_), sm, hc⟩
            rw [gst] at e
            cases e
            exact (c1 (decide_eq_true (by rw [e2]))).elim
        · obtain ⟨y6, y7, tr, tb, rfl, S, eSL, hS, eR, hR, eW, bf, sm, hc⟩ := hP
          rw [List.length_map, hS.length] at bf
          exact ⟨_, y6, y7, tr, tb, rfl, S, eSL, hS, eR, hR, eW, bf.next, sm, (List.getElem?_eq_some_iff.mp hc).1⟩

end
end Kn

set_option Elab.async false
set_option linter.all false
set_option maxRecDepth 100000
set_option maxHeartbeats 4000000
namespace Kn
open PySem PySem.Spec PyProof.Rows L2
open C8 (Cal pe_c pe_gc Mak pe_mk)
section
variable {P : Program} {w : World} {K : PySem.W.Frag} {mg : Str → Option Value} {base : Heap}
/-! ### tables of numbers -/
def itab (tb : List (Int × Int)) : List (Key × V) := tb.map fun p => (Sum.inl p.1, V.int p.2)
def lookI (tb : List (Int × Int)) (x : Int) : Option Int := (tb.find? fun p => decide (p.1 = x)).map (·.2)
theorem look_itab (tb : List (Int × Int)) (x : Int) : valV (itab tb) (.inl x) = (lookI tb x).map V.int := by
  unfold lookI itab
  induction tb with
  | nil => rfl
  | cons p r ih =>
    obtain ⟨y, n⟩ := p
    by_cases e : y = x
    · rw [List.find?_cons_of_pos (by simp [e])]
      unfold valV
      rw [List.map_cons, List.find?_cons_of_pos (by simp [e])]
      rfl
    · rw [List.find?_cons_of_neg (by simp [e]), ← ih]
      unfold valV
      rw [List.map_cons, List.find?_cons_of_neg (by simp [e])]
theorem lookI_mem {tb : List (Int × Int)} (nd : (tb.map (·.1)).Nodup) {x n : Int} : lookI tb x = some n ↔ (x, n) ∈ tb := by
  unfold lookI
  induction tb with
  | nil => exact ⟨fun h => (by cases h), fun h => nomatch h⟩
  | cons p r ih =>
    obtain ⟨y, m⟩ := p
    rw [List.map_cons, List.nodup_cons] at nd
    by_cases e : y = x
    · subst e
      rw [List.find?_cons_of_pos (by simp)]
      constructor
      · intro h; cases h; exact List.mem_cons_self
      · intro h
        rcases List.mem_cons.mp h with h | h
        · cases h; rfl
        · exact absurd (List.mem_map.mpr ⟨_, h, rfl⟩) nd.1
    · rw [List.find?_cons_of_neg (by simp [e]), ih nd.2]
      constructor
      · intro h; exact List.mem_cons_of_mem _ h
      · intro h
        rcases List.mem_cons.mp h with h | h
        · cases h; exact absurd rfl e
        · exact h
theorem lookI_none {tb : List (Int × Int)} {x : Int} (h : ∀ p ∈ tb, p.1 ≠ x) : lookI tb x = none := by
  unfold lookI
  rw [List.find?_eq_none.mpr fun p hp => by simp [h p hp]]; rfl
theorem lookI_key {tb : List (Int × Int)} {x : Int} (h : x ∈ tb.map (·.1)) : ∃ n, lookI tb x = some n := by
  obtain ⟨p, hp, e⟩ := List.mem_map.mp h
  unfold lookI
  cases f : tb.find? (fun p => decide (p.1 = x)) with
  | some q => exact ⟨q.2, rfl⟩
  | none =>
    have := List.find?_eq_none.mp f p hp
    exact absurd (decide_eq_true e) this

/-! ### the law's own search -/
def ftab (sts : List Int) (fr : Int → Int) : List (Int × Int) := sts.map fun x => (x, fr x)
theorem ftab_keys (sts : List Int) (fr : Int → Int) : (ftab sts fr).map (·.1) = sts := by
  unfold ftab
  rw [List.map_map]
  exact (List.map_congr_left fun _ _ => rfl).trans (List.map_id _)
theorem ftab_get {sts : List Int} (nd : sts.Nodup) {fr : Int → Int} {x : Int} (h : x ∈ sts) : valV (itab (ftab sts fr)) (.inl x) = some (.int (fr x)) := by
  have hm : (x, fr x) ∈ ftab sts fr := List.mem_map.mpr ⟨x, h, rfl⟩
  rw [look_itab, (lookI_mem (by rw [ftab_keys]; exact nd)).mpr hm]
  rfl
theorem ftab_put {sts : List Int} {fr : Int → Int} {x v : Int} (h : x ∈ sts) : putK (itab (ftab sts fr)) (.inl x) (.int v) = itab (ftab sts (setF fr x v)) := by
  unfold putK
  have a : ((itab (ftab sts fr)).any fun kv => decide (kv.1 = (Sum.inl x : Key))) = true := List.any_eq_true.mpr ⟨(Sum.inl x, .int (fr x)), List.mem_map.mpr ⟨(x, fr x), List.mem_map.mpr ⟨x, h, rfl⟩, rfl⟩, decide_eq_true rfl⟩
  rw [if_pos a]
  unfold itab ftab
  rw [List.map_map, List.map_map, List.map_map]
  refine List.map_congr_left fun y _ => ?_
  show (if (Sum.inl y : Key) = Sum.inl x then ((Sum.inl y : Key), V.int v) else (Sum.inl y, V.int (fr y))) = (Sum.inl y, V.int (setF fr x v y))
  unfold setF
  by_cases e : y = x
  · rw [if_pos (by rw [e]), if_pos e]
  · rw [if_neg (fun q => e (Sum.inl.inj q)), if_neg e]
def sp__law_far (_ : PySem.W.Frag) : Sp := fun vs H Q _ => ∃ (sl l : Addr) (g : Int) (as : List Addr) (ss : List KnA.Stp) (sts : List Int), vs = [.ref sl, .int g, .ref l] ∧ H sl = some (.lst (as.map V.ref)) ∧ Stps H as ss ∧ ss.length ≤ 1000 ∧ H l = some (.lst (sts.map V.int)) ∧ sts.Nodup ∧ sts.length ≤ 100 ∧ Closed ss sts ∧ g ∈ sts ∧
  ∀ H' d fr, Same H H' → H d = none → H' d = some (.dK (itab (ftab sts fr))) → Far ss sts g fr → Q (.ref d) H'
theorem ok__law_far {f : Addr} {C : Addr} {fd : FuncData} (T : Txt K mg C) (F : Fun K "_law_far" "_law_far" s__law_far f fd)  : FnOk P w K mg base CX0 1 f fd ["_law_steps", "_law_goal", "_law_states"] (sp__law_far K) := by
  have nd := sc__law_far.nd
  refine F.ok sc__law_far (fun vs H Q E h => ?_) (fun cdv A outer s H vs Q E hr h => ?_)
  · obtain ⟨sl, l, g, as, ss, sts, rfl, _⟩ := h
    rfl
  · obtain ⟨sl, l, g, as, ss, sts, rfl, hsl, hst, lss, hl, ndS, lst, cl, hg, q⟩ := h
    refine ⟨_, (pss_cons (ps_set (i := 3) nd rfl (.inl rfl) pe_dnewK)
      (pss_cons (ps_for PassesOwn.never rfl (pi_list (pv 2)) (pg_name (i := 4) nd rfl (.inl rfl)) (pss_one (ps_dput (hu_of hr) (pv 3) (pv 4) pe_int rfl)))
      (pss_cons (ps_dput (hu_of hr) (pv 3) (pv 1) pe_int rfl)
      (pss_cons (ps_for PassesOwn.never rfl (pi_range1 (by rfl) T.m_range (pa_cons (pe_callB call_len (by rfl) T.m_len (by decide +kernel) (pa_cons (pv 2) pa_nil)) pa_nil)) (pg_name (i := 5) nd rfl (.inl rfl)) (pss_one (ps_for PassesOwn.never rfl (pi_list (pv 0)) (pg_name (i := 6) nd rfl (.inl rfl)) (pss_one (ps_if (PW.pt (pw_and (pt_cmpR op_in_seq (pe_ix (r := rIxT K) ix_tup (pv 6) pe_int (fun _ _ => rfl)) (pv 2) (by with_unfolding_all rfl)) (pw_and1 (pt_cmpR op_lt (pe_op op_add (pe_dget (hu_of hr) (pv 3) (pe_ix (r := rIxT K) ix_tup (pv 6) pe_int (fun _ _ => rfl)) (fun _ _ => rfl)) pe_int) (pe_dget (hu_of hr) (pv 3) (pe_ix (r := rIxT K) ix_tup (pv 6) pe_int (fun _ _ => rfl)) (fun _ _ => rfl)) (nomark _))))) (pss_one (ps_dput (hu_of hr) (pv 3) (pe_ix (r := rIxT K) ix_tup (pv 6) pe_int (fun _ _ => rfl)) (pe_op op_add (pe_dget (hu_of hr) (pv 3) (pe_ix (r := rIxT K) ix_tup (pv 6) pe_int (fun _ _ => rfl)) (fun _ _ => rfl)) pe_int) rfl)) pss_nil)))))
      (pss_one (ps_ret (pv 3))))))), ?_⟩
    intro d nD
    have sd := same_upd (o := .dK []) nD
    refine ⟨.ref l, rfl, l, rfl, ⟨_, .inl (.inl (sd _ _ hl))⟩, ?_⟩
    have f0 := far_start (ss := ss) (sts := sts) (g := g)
    refine for_list (K := K) (xs := sts.map V.int) (fun i σ G => ∃ y4, σ = [some (.ref sl), some (.int g), some (.ref l), some (.ref d), y4, none, none] ∧ Same H G ∧ G d = some (.dK (itab (ftab (sts.take i) fun _ => 1000))))
      ⟨none, rfl, sd, upd_same⟩ (fun i σ G _ ⟨_, _, h, _⟩ => .inl (.inl (h _ _ hl))) (fun i x σ G hx hP => ?_) (fun σ G hP => ?_)
    · obtain ⟨y4, rfl, S, eD⟩ := hP
      rw [List.getElem?_map] at hx
      cases gx : sts[i]? with
      | none => rw [gx] at hx; cases hx
      | some y =>
      rw [gx] at hx
      cases hx
      have hi := (List.getElem?_eq_some_iff.mp gx).1
      have no : valV (itab (ftab (sts.take i) fun _ => 1000)) (.inl y) = none := by
        rw [look_itab, lookI_none fun p hp e => ?_]
        · rfl
        · have hk : y ∈ (ftab (sts.take i) fun _ => 1000).map (·.1) := List.mem_map.mpr ⟨p, hp, e⟩
          rw [ftab_keys] at hk
          obtain ⟨j, hj, ej⟩ := List.mem_iff_getElem.mp hk
          rw [List.getElem_take] at ej
          have lj : j < i := by rw [List.length_take] at hj; omega
          have e1 : sts[i]'hi = y := (List.getElem?_eq_some_iff.mp gx).2
          exact absurd ((List.getElem_inj ndS).mp (ej.trans e1.symm)) (by omega)
      refine ⟨.ref d, rfl, .int y, rfl, d, _, rfl, DPut.k (k := .inl y) eD (small (by unfold itab ftab; rw [List.length_map, List.length_map, List.length_take]; omega)), ?_⟩
      refine ⟨_, rfl, same_set nD S, ?_⟩
      rw [upd_same, putK_new _ no, take_more gx]
      unfold ftab itab
      rw [List.map_append, List.map_append]; rfl
    · obtain ⟨y4, rfl, S, eD⟩ := hP
      rw [List.length_map, List.take_length] at eD
      refine ⟨.ref d, rfl, .int g, rfl, d, _, rfl, DPut.k (k := .inl g) eD (small (by unfold itab ftab; rw [List.length_map, List.length_map]; omega)), ?_⟩
      rw [ftab_put hg]
      have S1 : Same H (upd G d (.dK (itab (ftab sts (setF (fun _ => 1000) g 0))))) := same_set nD S
      have eD1 : (upd G d (.dK (itab (ftab sts (setF (fun _ => 1000) g 0))))) d = some (.dK (itab (ftab sts (setF (fun _ => 1000) g 0)))) := upd_same
      generalize upd G d (.dK (itab (ftab sts (setF (fun _ => 1000) g 0)))) = G1 at S1 eD1 ⊢
      refine ⟨.ref l, rfl, .ref l, sts.length, rfl, .inl ⟨_, .inl (.inl (S1 _ _ hl)), (List.length_map _).symm⟩, (sts.length : Int), rfl, by omega, by omega, ?_⟩
      refine for_range (lo := 0) (fun k σ G => ∃ (y5 y6 : Option V) (fr : Int → Int), σ = [some (.ref sl), some (.int g), some (.ref l), some (.ref d), y4, y5, y6] ∧ Same H G ∧ G d = some (.dK (itab (ftab sts fr))) ∧ FarW ss sts g fr ∧ UpTo ss sts g fr k 0)
        ⟨none, none, _, rfl, S1, eD1, f0.1, f0.2⟩ (fun k σ G hk hP => ?_) (fun σ G hP => ?_)
      · obtain ⟨y5, y6, fr, rfl, S, eD, f, u⟩ := hP
        refine ⟨.ref sl, rfl, sl, rfl, ⟨_, .inl (.inl (S _ _ hsl))⟩, ?_⟩
        refine for_list (K := K) (xs := as.map V.ref) (fun n σ G => ∃ (y6 : Option V) (fr : Int → Int), σ = [some (.ref sl), some (.int g), some (.ref l), some (.ref d), y4, some (.int (0 + (k : Int))), y6] ∧ Same H G ∧ G d = some (.dK (itab (ftab sts fr))) ∧ FarW ss sts g fr ∧ UpTo ss sts g fr k n)
          ⟨y6, fr, rfl, S, eD, f, u⟩ (fun i σ G _ ⟨_, _, _, h, _⟩ => .inl (.inl (h _ _ hsl))) (fun n x σ G hx hP => ?_) (fun σ G hP => ?_)
        · obtain ⟨y6, fr, rfl, S, eD, f, u⟩ := hP
          obtain ⟨ai, st1, rfl, gi, gst, hai⟩ := ref_get (hst.mono S) hx
          refine ⟨.ref ai, rfl, ai, [.int st1.1, .str st1.2.1, .int st1.2.2], 0, .int st1.1, rfl, rfl, .inl (.inl hai), atI_nat (j := 0) rfl, .ref l, rfl, l, sts.map V.int, rfl, .inl (.inl (.inl (S _ _ hl))), rfl, flat_is sts, _, rfl, ?_⟩
          show if inV (.int st1.1) (sts.map V.int) = true then _ else _
          rw [inV_ints]
          refine ite2 (fun h1 => ?_) (fun h1 => ?_)
          · have h1 := of_decide_eq_true h1
            have h2 := cl st1 (List.mem_of_getElem? gst) h1
            have dg1 : DGet G d (.int st1.1) (valV (itab (ftab sts fr)) (.inl st1.1)) := DGet.k (k := .inl st1.1) eD
            have dg2 : DGet G d (.int st1.2.2) (valV (itab (ftab sts fr)) (.inl st1.2.2)) := DGet.k (k := .inl st1.2.2) eD
            rw [ftab_get ndS h1] at dg1
            rw [ftab_get ndS h2] at dg2
            refine ⟨.ref d, rfl, .ref ai, rfl, ai, [.int st1.1, .str st1.2.1, .int st1.2.2], 2, .int st1.2.2, rfl, rfl, .inl (.inl hai), atI_nat (j := 2) rfl, d, .int (fr st1.2.2), rfl, dg2, fr st1.2.2, 1, rfl, rfl, .ref d, rfl, .ref ai, rfl, ai, [.int st1.1, .str st1.2.1, .int st1.2.2], 0, .int st1.1, rfl, rfl, .inl (.inl hai), atI_nat (j := 0) rfl, d, .int (fr st1.1), rfl, dg1, fr st1.2.2 + 1, fr st1.1, rfl, rfl, _, rfl, ite2 (fun c => ?_) (fun c => ?_)⟩
            · have c : fr st1.2.2 + 1 < fr st1.1 := of_decide_eq_true c
              obtain ⟨f', u'⟩ := far_relax f u cl gst h1 c
              refine ⟨.ref d, rfl, .ref ai, rfl, ai, [.int st1.1, .str st1.2.1, .int st1.2.2], 2, .int st1.2.2, rfl, rfl, .inl (.inl hai), atI_nat (j := 2) rfl, d, .int (fr st1.2.2), rfl, dg2, fr st1.2.2, 1, rfl, rfl, .ref d, rfl, .ref ai, rfl, ai, [.int st1.1, .str st1.2.1, .int st1.2.2], 0, .int st1.1, rfl, rfl, .inl (.inl hai), atI_nat (j := 0) rfl, d, _, rfl, DPut.k (k := .inl st1.1) eD (small (by unfold itab ftab; rw [List.length_map, List.length_map]; omega)), ?_⟩
              rw [ftab_put h1]
              exact ⟨_, _, rfl, same_set nD S, upd_same, f', u'⟩
            · exact ⟨_, fr, rfl, S, eD, f, far_skip u cl gst fun _ => by
                have : ¬ (fr st1.2.2 + 1 < fr st1.1) := fun z => c (decide_eq_true z)
                omega⟩
          · exact ⟨_, fr, rfl, S, eD, f, far_skip u cl gst fun z => (h1 (decide_eq_true z)).elim⟩
        · obtain ⟨y6, fr, rfl, S, eD, f, u⟩ := hP
          rw [List.length_map, hst.length] at u
          exact ⟨_, y6, fr, rfl, S, eD, f, far_turn u⟩
      · obtain ⟨y5, y6, fr, rfl, S, eD, f, u⟩ := hP
        rw [Int.toNat_natCast] at u
        exact ⟨.ref d, rfl, q G d fr S nD eD (far_done f u cl)⟩
/-! ### the law's least walk -/
def tgt (ss : List KnA.Stp) (k : Nat) : Int := match ss[k]? with
  | some st => st.2.2
  | none => 0
theorem cand_iff {ss : List KnA.Stp} {fr : Int → Int} {x : Int} {k : Nat} : candB ss fr x k = true ↔ k ∈ (waysL ss x ss.length).filter fun k => decide (fr (tgt ss k) = fr x - 1) := by
  unfold candB waysL
  rw [List.mem_filter, List.mem_filter, List.mem_range]
  unfold srcIs tgt
  cases e : ss[k]? with
  | none => simp
  | some st =>
    have := (List.getElem?_eq_some_iff.mp e).1
    show (decide (st.1 = x) && decide (fr st.2.2 = fr x - 1)) = true ↔ (k < ss.length ∧ decide (st.1 = x) = true) ∧ decide (fr st.2.2 = fr x - 1) = true
    rw [Bool.and_eq_true]
    exact ⟨fun h => ⟨⟨this, h.1⟩, h.2⟩, fun h => ⟨h.1.2, h.2⟩⟩
def sp__law_least (_ : PySem.W.Frag) : Sp := fun vs H Q _ => ∃ (sl l : Addr) (s0 g : Int) (as : List Addr) (ss : List KnA.Stp) (sts : List Int), vs = [.ref sl, .int s0, .int g, .ref l] ∧ H sl = some (.lst (as.map V.ref)) ∧ Stps H as ss ∧ ss.length ≤ 1000 ∧ H l = some (.lst (sts.map V.int)) ∧ sts.Nodup ∧ sts.length ≤ 100 ∧ Closed ss sts ∧ s0 ∈ sts ∧ g ∈ sts ∧ (∃ q, goesTo ss s0 q g) ∧
  ∀ H' a ks, Same H H' → H' a = some (.tup (kInts ks)) → (∀ p, goesTo ss s0 p g → (∀ q, goesTo ss s0 q g → lle p q) → p = ks) → Q (.ref a) H'
theorem ok__law_least {f : Addr} {C : Addr} {fd : FuncData} (T : Txt K mg C) (F : Fun K "_law_least" "_law_least" s__law_least f fd) (c__law_far : Cal P w K mg base 1 "_law_far" (sp__law_far K) []) : FnOk P w K mg base CX0 2 f fd ["_law_steps", "_law_start", "_law_goal", "_law_states"] (sp__law_least K) := by
  have nd := sc__law_least.nd
  refine F.ok sc__law_least (fun vs H Q E h => ?_) (fun cdv A outer s H vs Q E hr h => ?_)
  · obtain ⟨sl, l, s0, g, as, ss, sts, rfl, _⟩ := h
    rfl
  · obtain ⟨sl, l, s0, g, as, ss, sts, rfl, hsl, hst, lss, hl, ndS, lst, cl, h0, hg, ⟨q0, gq0⟩, q⟩ := h
    refine ⟨_, (pss_cons (ps_set (i := 4) nd rfl (.inr rfl) (pe_c c__law_far hr (by omega) (by rfl) (pa_cons (pv 0) (pa_cons (pv 2) (pa_cons (pv 3) pa_nil)))))
      (pss_cons (ps_set (i := 5) nd rfl (.inl rfl) (pe_lst pa_nil))
      (pss_cons (ps_set (i := 6) nd rfl (.inr rfl) (pv 1))
      (pss_cons (ps_for PassesOwn.never rfl (pi_range1 (by rfl) T.m_range (pa_cons (pe_dget (hu_of hr) (pv 4) (pv 1) (fun _ _ => rfl)) pa_nil)) (pg_name (i := 7) nd rfl (.inl rfl)) (pss_cons (ps_setLc (i := 8) (own := [("_law_k", 10)]) (g := gName 10) rfl nd rfl rfl (sw_true rfl rfl rfl (by decide +kernel)) (pi_range1 (by rfl) T.m_range (pa_cons (pe_callB call_len (by rfl) T.m_len (by decide +kernel) (pa_cons (pv 0) pa_nil)) pa_nil)) (blkOk_by (N := ["_law_steps", "_law_start", "_law_goal", "_law_states", "_law_far_here", "_law_path", "_law_state", "_law_turn", "_law_ways", "_law_number", "_law_k"]) (sc := defScope s__law_least) (by decide +kernel)) (fun _ _ _ _ _ => (pg_name (i := 10) nd rfl (.inl rfl))) (fun _ _ _ _ _ => (pts_one (pt_cmpR op_eq (pe_ix (r := rIxT K) ix_tup (pe_ix (r := rIxL K) ix_list (pv 0) (pv 10) (fun _ _ => rfl)) pe_int (fun _ _ => rfl)) (pv 6) (nomark _)))) (fun _ _ _ _ _ => (pv 10)))
      (pss_cons (ps_set (i := 9) nd rfl (.inl rfl) (pe_ix (r := rIxL K) ix_list (pe_lc (own := [("_law_k", 10)]) (g := gName 10) rfl nd (pi_list (pv 8)) (blkOk_by (N := ["_law_steps", "_law_start", "_law_goal", "_law_states", "_law_far_here", "_law_path", "_law_state", "_law_turn", "_law_ways", "_law_number", "_law_k"]) (sc := defScope s__law_least) (by decide +kernel)) (fun _ _ _ _ _ => (pg_name (i := 10) nd rfl (.inl rfl))) (fun _ _ _ _ _ => (pts_one (pt_cmpR op_eq (pe_dget (hu_of hr) (pv 4) (pe_ix (r := rIxT K) ix_tup (pe_ix (r := rIxL K) ix_list (pv 0) (pv 10) (fun _ _ => rfl)) pe_int (fun _ _ => rfl)) (fun _ _ => rfl)) (pe_op op_sub (pe_dget (hu_of hr) (pv 4) (pv 6) (fun _ _ => rfl)) pe_int) (nomark _)))) (fun _ _ _ _ _ => (pv 10))) pe_int (fun _ _ => rfl)))
      (pss_cons (ps_expr (pe_bm PySem.F.plainAttrs_list PySem.F.slot_list_append PySem.F.type_list_append mt_append (pv 5) (pa_cons (pv 9) pa_nil)))
      (pss_one (ps_set (i := 6) nd rfl (.inr rfl) (pe_ix (r := rIxT K) ix_tup (pe_ix (r := rIxL K) ix_list (pv 0) (pv 9) (fun _ _ => rfl)) pe_int (fun _ _ => rfl))))))))
      (pss_one (ps_ret (pe_callTy call_tuple_of (by rfl) T.m_tuple (by decide +kernel) (pa_cons (pv 5) pa_nil)))))))), ?_⟩
    refine ⟨.ref sl, rfl, .int g, rfl, .ref l, rfl, sl, l, g, as, ss, sts, rfl, hsl, hst, lss, hl, ndS, lst, cl, hg, fun H1 d fr s1 nD eD F => ?_⟩
    obtain ⟨q1, gq1, _, lq1⟩ := short_walk cl h0 _ q0 (Nat.le_refl _) gq0
    have fr0 : fr s0 ≤ 100 := by have := F.up s0 h0 q1 gq1; omega
    have fr1 := (F.f.lo s0 h0).1
    have n1000 : fr s0 ≠ 1000 := by omega
    refine ⟨szl rfl, fun P0 nP => ?_⟩
    have sP := same_upd (o := .lst []) nP
    have nPH : H P0 = none := s1.free nP
    have eP0 : (upd H1 P0 (.lst [])) P0 = some (.lst (kInts [])) := upd_same
    have eD1 := sP _ _ eD
    have S1 := s1.trans sP
    have nDP : d ≠ P0 := fun z => by rw [z] at eD; rw [eD] at nP; cases nP
    generalize upd H1 P0 (.lst []) = H2 at eP0 eD1 S1 ⊢
    refine ⟨.int s0, rfl, ?_⟩
    have dg0 : DGet H2 d (.int s0) (valV (itab (ftab sts fr)) (.inl s0)) := DGet.k (k := .inl s0) eD1
    rw [ftab_get ndS h0] at dg0
    refine ⟨.ref d, rfl, .int s0, rfl, d, .int (fr s0), rfl, dg0, fr s0, rfl, by omega, by omega, ?_⟩
    refine for_range (lo := 0) (fun i σ G => ∃ (y7 y8 y9 : Option V) (ks : List Nat) (x : Int), σ = [some (.ref sl), some (.int s0), some (.int g), some (.ref l), some (.ref d), some (.ref P0), some (.int x), y7, y8, y9, none] ∧ Same H G ∧ G d = some (.dK (itab (ftab sts fr))) ∧ G P0 = some (.lst (kInts ks)) ∧ Way ss sts s0 g fr ks x ∧ ks.length = i)
      ⟨none, none, none, [], s0, rfl, S1, eD1, eP0, way_start h0, rfl⟩ (fun i σ G hi hP => ?_) (fun σ G hP => ?_)
    · obtain ⟨y7, y8, y9, ks, x, rfl, S, eD, eP, wy, lk⟩ := hP
      have hi2 : (i : Int) < fr s0 := by omega
      refine ⟨.ref sl, rfl, .ref sl, ss.length, rfl, .inl ⟨_, .inl (.inl (S _ _ hsl)), by rw [List.length_map]; exact hst.length.symm⟩, (ss.length : Int), rfl, by omega, by omega, fun W nW => ?_⟩
      refine lc_range (lo := 0) (fun j G2 => Same G G2 ∧ G2 W = some (.lst (kInts (waysL ss x j)))) ⟨same_upd nW, upd_same⟩ (fun j G2 hj hP => ?_) (fun G2 hP => ?_)
      · obtain ⟨S2, eW⟩ := hP
        rw [Int.toNat_natCast] at hj
        have e0 : (0 : Int) + (j : Nat) = (j : Nat) := by omega
        rw [e0]
        obtain ⟨ai, gai, hai⟩ := stp_get (hst.mono (S.trans S2)) (List.getElem?_eq_getElem hj)
        refine ⟨rfl, ?_⟩
        refine ⟨.ref sl, rfl, .int (j : Nat), rfl, sl, as.map V.ref, (j : Nat), .ref ai, rfl, rfl, .inl (.inl ((S.trans S2) _ _ hsl)), atI_nat gai, ai, [.int ss[j].1, .str ss[j].2.1, .int ss[j].2.2], 0, .int ss[j].1, rfl, rfl, .inl (.inl hai), atI_nat (j := 0) rfl, .int x, rfl, rfl, _, rfl, ?_⟩
        have es : srcIs ss x j = decide (V.int ss[j].1 = V.int x) := by
          unfold srcIs
          rw [List.getElem?_eq_getElem hj]
          show decide (ss[j].1 = x) = _
          by_cases z : ss[j].1 = x
          · rw [decide_eq_true z, decide_eq_true (by rw [z])]
          · rw [decide_eq_false z, decide_eq_false (fun t => z (V.int.inj t))]
        have wl := ways_len ss x j
        have wsu := ways_succ ss x j
        rw [es] at wsu
        refine ite2 (fun c => ?_) (fun c => ?_)
        · rw [if_pos c] at wsu
          refine ⟨_, rfl, _, eW, small (by rw [kInts_len]; omega), same_set nW S2, ?_⟩
          rw [upd_same, wsu, kInts_app]; rfl
        · rw [if_neg c, List.append_nil] at wsu
          exact ⟨S2, by rw [wsu]; exact eW⟩
      · obtain ⟨S2, eW⟩ := hP
        rw [Int.toNat_natCast] at eW
        have eD2 := S2 _ _ eD
        have wlen := ways_len ss x ss.length
        have wsrc : ∀ k ∈ waysL ss x ss.length, ∃ st, ss[k]? = some st ∧ st.1 = x := fun k hk => ways_in hk
        obtain ⟨ke, kel, kec⟩ := wy.ex F cl n1000 h0 (by omega)
        have kin := cand_iff.mp kec
        have up : ((waysL ss x ss.length).filter fun k => decide (fr (tgt ss k) = fr x - 1)).Pairwise (· < ·) := by
          unfold waysL
          exact (List.pairwise_lt_range.filter _).filter _
        have candof : ∀ k, k ∈ (waysL ss x ss.length).filter (fun k => decide (fr (tgt ss k) = fr x - 1)) ↔ candB ss fr x k = true := fun k => cand_iff.symm
        generalize waysL ss x ss.length = wl at eW wlen wsrc kin up candof
        refine ⟨.ref W, rfl, W, rfl, ⟨_, .inl (.inl eW)⟩, fun W2 nW2 => ?_⟩
        refine lc_list (K := K) (xs := kInts wl) (fun j G3 => Same G2 G3 ∧ G3 W2 = some (.lst (kInts ((wl.take j).filter fun k => decide (fr (tgt ss k) = fr x - 1))))) ⟨same_upd nW2, upd_same⟩ (fun j G3 _ hP => .inl (.inl (hP.1 _ _ eW))) (fun j v G3 hx hP => ?_) (fun G3 hP => ?_)
        · obtain ⟨S3, eW2⟩ := hP
          obtain ⟨k, gk, rfl, _⟩ := kInts_get hx
          obtain ⟨st, gst, est⟩ := wsrc k (List.mem_of_getElem? gk)
          have hj : j < wl.length := (List.getElem?_eq_some_iff.mp gk).1
          have S23 := S.trans (S2.trans S3)
          obtain ⟨ai, gai, hai⟩ := stp_get (hst.mono S23) gst
          have ht : st.2.2 ∈ sts := cl st (List.mem_of_getElem? gst) (est.symm ▸ wy.hx)
          have et : tgt ss k = st.2.2 := by unfold tgt; rw [gst]
          have dg1 : DGet G3 d (.int st.2.2) (valV (itab (ftab sts fr)) (.inl st.2.2)) := DGet.k (k := .inl st.2.2) (S3 _ _ eD2)
          have dg2 : DGet G3 d (.int x) (valV (itab (ftab sts fr)) (.inl x)) := DGet.k (k := .inl x) (S3 _ _ eD2)
          rw [ftab_get ndS ht] at dg1
          rw [ftab_get ndS wy.hx] at dg2
          refine ⟨rfl, ?_⟩
          refine ⟨.ref d, rfl, .ref sl, rfl, .int (k : Nat), rfl, sl, as.map V.ref, (k : Nat), .ref ai, rfl, rfl, .inl (.inl (S23 _ _ hsl)), atI_nat gai, ai, [.int st.1, .str st.2.1, .int st.2.2], 2, .int st.2.2, rfl, rfl, .inl (.inl hai), atI_nat (j := 2) rfl, d, .int (fr st.2.2), rfl, dg1, .ref d, rfl, .int x, rfl, d, .int (fr x), rfl, dg2, fr x, 1, rfl, rfl, rfl, _, rfl, ?_⟩
          have ec : decide (V.int (fr st.2.2) = V.int (fr x - 1)) = decide (fr (tgt ss k) = fr x - 1) := by
            rw [et]
            by_cases z : fr st.2.2 = fr x - 1
            · rw [decide_eq_true z, decide_eq_true (by rw [z])]
            · rw [decide_eq_false z, decide_eq_false (fun t => z (V.int.inj t))]
          rw [ec]
          have l3 := List.length_filter_le (fun k => decide (fr (tgt ss k) = fr x - 1)) (wl.take j)
          rw [List.length_take] at l3
          have tk : (wl.take (j + 1)).filter (fun k => decide (fr (tgt ss k) = fr x - 1)) = (wl.take j).filter (fun k => decide (fr (tgt ss k) = fr x - 1)) ++ if decide (fr (tgt ss k) = fr x - 1) = true then [k] else [] := by
            rw [take_more gk, List.filter_append]
            by_cases c : decide (fr (tgt ss k) = fr x - 1) = true
            · rw [if_pos c, List.filter_cons_of_pos (p := fun k : Nat => decide (fr (tgt ss k) = fr x - 1)) c]; rfl
            · rw [if_neg c, List.filter_cons_of_neg (p := fun k : Nat => decide (fr (tgt ss k) = fr x - 1)) c]; rfl
          refine ite2 (fun c => ?_) (fun c => ?_)
          · rw [if_pos c] at tk
            refine ⟨_, rfl, _, eW2, small (by rw [kInts_len]; omega), same_set nW2 S3, ?_⟩
            rw [upd_same, tk, kInts_app]; rfl
          · rw [if_neg c, List.append_nil] at tk
            exact ⟨S3, by rw [tk]; exact eW2⟩
        · obtain ⟨S3, eW2⟩ := hP
          rw [kInts_len, List.take_length] at eW2
          obtain ⟨k, r, ekr⟩ : ∃ k r, wl.filter (fun k => decide (fr (tgt ss k) = fr x - 1)) = k :: r := by
            cases e : wl.filter (fun k => decide (fr (tgt ss k) = fr x - 1)) with
            | nil => rw [e] at kin; cases kin
            | cons k r => exact ⟨k, r, rfl⟩
          rw [ekr] at eW2 up
          have hk := (candof k).mp (by rw [ekr]; exact List.mem_cons_self)
          have least : ∀ j, candB ss fr x j = true → k ≤ j := fun j hj => by
            have m := (candof j).mpr hj
            rw [ekr] at m
            rcases List.mem_cons.mp m with rfl | m
            · exact Nat.le_refl _
            · exact Nat.le_of_lt ((List.pairwise_cons.mp up).1 j m)
          have klt : k < ss.length := by
            unfold candB at hk
            cases e : ss[k]? with
            | none => rw [e] at hk; cases hk
            | some st => exact (List.getElem?_eq_some_iff.mp e).1
          have gst : ss[k]? = some ss[k] := List.getElem?_eq_getElem klt
          have w2 := wy.push F cl (by omega) gst hk least
          generalize ss[k] = st at gst w2
          have S4 := S.trans (S2.trans S3)
          have eP4 := (S2.trans S3) _ _ eP
          have eD4 := S3 _ _ eD2
          refine ⟨W2, kInts (k :: r), 0, .int (k : Nat), rfl, rfl, .inl (.inl eW2), atI_nat (j := 0) rfl, ?_⟩
          have lk2 : ks.length ≤ 100 := by omega
          refine ⟨.ref P0, rfl, .inl ⟨rfl, _, .inl (.inl eP4)⟩, .int (k : Nat), rfl, P0, _, .int (k : Nat), rfl, rfl, eP4, small (by rw [kInts_len]; omega), ?_⟩
          have S5 : Same H (upd G3 P0 (.lst (kInts ks ++ [.int (k : Nat)]))) := same_set nPH S4
          obtain ⟨ai, gai, hai⟩ := stp_get (hst.mono S5) gst
          refine ⟨.ref sl, rfl, .int (k : Nat), rfl, sl, as.map V.ref, (k : Nat), .ref ai, rfl, rfl, .inl (.inl (S5 _ _ hsl)), atI_nat gai, ai, [.int st.1, .str st.2.1, .int st.2.2], 2, .int st.2.2, rfl, rfl, .inl (.inl hai), atI_nat (j := 2) rfl, ?_⟩
          refine ⟨_, _, _, ks ++ [k], st.2.2, rfl, S5, (upd_ne nDP).trans eD4, by rw [upd_same, kInts_app]; rfl, w2, by rw [List.length_append, lk]; rfl⟩
    · obtain ⟨y7, y8, y9, ks, x, rfl, S, eD, eP, wy, lk⟩ := hP
      have lk3 : (ks.length : Int) = fr s0 := by omega
      refine ⟨.ref P0, rfl, P0, kInts ks, rfl, .inl ⟨.inl (.inl eP), fun t nt => ?_⟩⟩
      exact q _ t ks (S.trans (same_upd nt)) upd_same fun p hp lp => wy.least F h0 n1000 lk3 hp lp

end
end Kn

set_option Elab.async false
set_option linter.all false
set_option maxRecDepth 100000
set_option maxHeartbeats 4000000
namespace Kn
open PySem PySem.Spec PyProof.Rows L2
open C8 (Cal pe_c pe_gc Mak pe_mk)
section
variable {P : Program} {w : World} {K : PySem.W.Frag} {mg : Str → Option Value} {base : Heap}
theorem look1 {g : Str} {v : V} : ([(g, v)] : List (Str × V)).lookup g = some v := by simp [List.lookup]
theorem Val.own {K : PySem.W.Frag} {H : Hp} {v : V} (h : Val K H v) : KnQ.Own v := by cases h <;> trivial
theorem Thing.self {K : PySem.W.Frag} {H : Hp} {v : V} (h : Thing K H v) : KnQ.SelfV H v := by
  have own : ∀ {xs : List V}, rowOf H v = some xs → ∀ x ∈ xs, KnQ.Own x := fun e x hx => ((h.hr _ e).2 x hx).1.own
  cases h.hv with
  | non => trivial
  | bl b => trivial
  | int i => trivial
  | str z _ => trivial
  | @lst a xs e => exact .inl ⟨xs, e, own (by show itemsOf (H a) = _; rw [e]; rfl)⟩
  | @tup a xs e => exact .inr (.inl ⟨xs, e, own (by show itemsOf (H a) = _; rw [e]; rfl)⟩)
  | @dK a kvs e =>
    refine .inr (.inr ⟨kvs, e, ?_⟩)
    rcases h.hd a kvs rfl e with rfl | rfl
    · exact fun p hp => nomatch hp
    · intro p hp
      rw [List.mem_singleton.mp hp]
      exact ⟨rfl, rfl⟩
theorem self_mono {H G : Hp} {v : V} (h : KnQ.SelfV H v) (s : Same H G) : KnQ.SelfV G v := by
  cases v with
  | ref a =>
    rcases h with ⟨xs, e, o⟩ | ⟨xs, e, o⟩ | ⟨ks, e, o⟩
    · exact .inl ⟨xs, s _ _ e, o⟩
    · exact .inr (.inl ⟨xs, s _ _ e, o⟩)
    · exact .inr (.inr ⟨ks, s _ _ e, o⟩)
  | _ => exact h

theorem ex_ints {K : PySem.W.Frag} {H : Hp} {n : Nat} {a b : Addr} {xs : List Int} (ha : H a = some (.lst (xs.map V.int))) (hb : H b = some (.lst (xs.map V.int))) (hl : xs.length ≤ 100000) : Ex K H (n + 2) (.ref a) (.ref b) := by
  refine .inr ⟨true, a, b, _, _, rfl, rfl, ha, hb, by rw [List.length_map]; exact hl, paired_same fun x hx => ?_⟩
  obtain ⟨y, _, rfl⟩ := List.mem_map.mp hx
  exact .inl (.int y)
theorem ex_steps {K : PySem.W.Frag} {H : Hp} {n : Nat} {a b : Addr} {as bs : List Addr} {ss : List KnA.Stp} (ha : H a = some (.lst (as.map V.ref))) (hb : H b = some (.lst (bs.map V.ref))) (sa : Stps H as ss) (sb : Stps H bs ss) (hl : ss.length ≤ 100000) : Ex K H (n + 3) (.ref a) (.ref b) := by
  refine .inr ⟨true, a, b, _, _, rfl, rfl, ha, hb, by rw [List.length_map, sa.length]; exact hl, ?_⟩
  clear ha hb hl
  induction sa generalizing bs with
  | nil => cases sb; exact .nil
  | cons r _ ih =>
    cases sb with
    | cons r' k =>
      refine .cons (.inr ⟨false, _, _, _, _, rfl, rfl, r, r', Nat.le_of_ble_eq_true rfl, ?_⟩) (ih k)
      exact .cons (.inl (.int _)) (.cons (.inl (.str _)) (.cons (.inl (.int _)) .nil))

def sp__law_refused (K : PySem.W.Frag) (C : Addr) : Sp := fun vs H Q _ => ∃ (p : Addr) (v : V) (s0 : Int) (ss : List KnA.Stp) (fs : List (Str × Str)), vs = [.ref p, v] ∧ MachAt C H p s0 ss fs ∧ GoodMach s0 ss fs ∧ Val K H v ∧ (∀ t, v = .int t → ¬ KnA.Reach ss s0 t) ∧ KnQ.SelfV H v ∧ ∀ H', Same H H' → Q (.bl true) H'
theorem ok__law_refused {f : Addr} {C : Addr} {ce : Es} {fd : FuncData} (T : Txt K mg C) (F : Fun K "_law_refused" "_law_refused" s__law_refused f fd) (TE : TxE K mg ce) (c_shortest_to : KnX.CalX P w K mg base 3 "shortest_to" (sx_shortest_to K C ce)) : FnOk P w K mg base CX0 4 f fd ["_law_machine_here", "_law_state"] (sp__law_refused K C) := by
  have nd := sc__law_refused.nd
  refine F.ok sc__law_refused (fun vs H Q E h => ?_) (fun cdv A outer s H vs Q E hr h => ?_)
  · obtain ⟨p, v, s0, ss, fs, rfl, _⟩ := h
    rfl
  · obtain ⟨p, v, s0, ss, fs, rfl, hm, gm, hv, no, self, q⟩ := h
    refine ⟨_, (pss_cons (KnX.ps_try_all rfl rfl nd takes0 (fun W pn xe tk po => (pss_one (ps_expr (KnX.pe_cx c_shortest_to hr (by omega) (by rfl) tk (pa_cons (pv 0) (pa_cons (pv 1) pa_nil)))))) (.cons ⟨rfl, by decide, .inl TE.g_BadState⟩ (i := 2) rfl rfl (fun a oe cls d pn hz hf => (pss_one (ps_ret (pe_cmpR (KnQ.op_eqSelf hr.units0) (pe_xf TE.f_BadState TE.o_BadState hz hf (pv 2)) (pv 1) (nomark _))))) .nil))
      (pss_one (ps_ret pe_bl))), ?_⟩
    refine ⟨.ref p, rfl, v, rfl, p, v, s0, ss, fs, rfl, hm, gm, hv, fun t e r => (no t e r).elim, fun _ H' d s' nd' => ?_⟩
    refine ⟨true, TE.x_BadState_BadState, (fun _ a na => ⟨.ref a, rfl, rfl, rfl, d, _, v, rfl, upd_same, look1, v, rfl, rfl, ?_⟩), fun z => by cases z⟩
    exact ⟨self_mono self (s'.trans (same_upd nd')), q _ (s'.trans (same_upd nd'))⟩
theorem ex_tupI {K : PySem.W.Frag} {H : Hp} {n : Nat} {a b : Addr} {xs : List Nat} (ha : H a = some (.tup (kInts xs))) (hb : H b = some (.tup (kInts xs))) (hl : xs.length ≤ 100000) : Ex K H (n + 2) (.ref a) (.ref b) := by
  refine .inr ⟨false, a, b, _, _, rfl, rfl, ha, hb, by rw [kInts_len]; exact hl, paired_same fun x hx => ?_⟩
  obtain ⟨y, _, rfl⟩ := List.mem_map.mp hx
  exact .inl (.int (y : Int))
theorem reset_g {i : Nat} {x : V} {σ σ' : L2.St} {H : Hp} {k : L2.St → Hp → Prop} (e : σ.set i (some x) = σ') (h : k σ' H) : gName i x σ H k := by subst e; exact h
theorem ok_law {f : Addr} {C : Addr} {ce : Es} {fd : FuncData} (T : Txt K mg C) (F : Fun K "law" "law" s_law f fd) (c__law_system : Cal P w K mg base 4 "_law_system" (sp__law_system K) []) (c_Machine_init : Mak P w K mg base 5 "Machine" C (sp_Machine_init K C) []) (c__law_reached : Cal P w K mg base 1 "_law_reached" (sp__law_reached K) []) (c__law_least : Cal P w K mg base 2 "_law_least" (sp__law_least K) []) (c__law_exact : Cal P w K mg base 5 "_law_exact" (sp__law_exact K) []) (c_shortest_to : KnX.CalX P w K mg base 3 "shortest_to" (sx_shortest_to K C ce)) (c__law_row : Cal P w K mg base 2 "_law_row" (sp__law_row K) []) (c__law_cell : Cal P w K mg base 2 "_law_cell" (sp__law_cell K) []) (c__law_thing : Cal P w K mg base 2 "_law_thing" (sp__law_thing K) []) (c__law_refused : Cal P w K mg base 4 "_law_refused" (sp__law_refused K C) []) (c_Machine_states : KnP.Prp P w K mg base 1 C "states" (sp_Machine_states K C)) : FnOk P w K mg base CX0 7 f fd ["_law_script"] (sp_law K) := by
  have nd := sc_law.nd
  refine F.ok sc_law (fun vs H Q E h => ?_) (fun cdv A outer s H vs Q E hr h => ?_)
  · obtain ⟨a, ns, rfl, _⟩ := h
    rfl
  · obtain ⟨a, ns, rfl, hS, hlen, q⟩ := h
    refine ⟨_, (pss_cons (ps_asg (pe_c c__law_system hr (by omega) (by rfl) (pa_cons (pv 0) (pa_cons pe_int (pa_cons pe_int (pa_cons pe_int pa_nil))))) (pg_lst (by rfl) (pgs_cons (pg_name (i := 1) nd rfl (.inl rfl)) (pgs_cons (pg_name (i := 2) nd rfl (.inl rfl)) (pgs_cons (pg_name (i := 3) nd rfl (.inl rfl)) (pgs_cons (pg_name (i := 4) nd rfl (.inl rfl)) (pgs_cons (pg_name (i := 5) nd rfl (.inl rfl)) pgs_nil)))))))
      (pss_cons (ps_set (i := 6) nd rfl (.inl rfl) (pe_mk c_Machine_init hr (by omega) (by rfl) (pa_cons (pv 1) (pa_cons (pv 2) (pa_cons (pv 3) pa_nil)))))
      (pss_cons (ps_set (i := 7) nd rfl (.inl rfl) (pe_c c__law_reached hr (by omega) (by rfl) (pa_cons (pv 1) (pa_cons (pv 2) pa_nil))))
      (pss_cons (ps_for PassesOwn.never rfl (pi_list (pv 7)) (pg_name (i := 8) nd rfl (.inl rfl)) (pss_cons (ps_set (i := 9) nd rfl (.inl rfl) (pe_c c__law_least hr (by omega) (by rfl) (pa_cons (pv 2) (pa_cons (pv 1) (pa_cons (pv 8) (pa_cons (pv 7) pa_nil))))))
      (pss_one (ps_if (pt_not (pt_val (pe_c c__law_exact hr (by omega) (by rfl) (pa_cons (KnX.pe_cx c_shortest_to hr (by omega) (by rfl) takes0 (pa_cons (pv 6) (pa_cons (pv 8) pa_nil))) (pa_cons (pv 9) pa_nil))))) (pss_one (ps_ret pe_bl)) pss_nil))))
      (pss_cons (ps_set (i := 10) nd rfl (.inl rfl) (pe_c c__law_row hr (by omega) (by rfl) (pa_cons (pe_c c__law_cell hr (by omega) (by rfl) (pa_cons (pv 0) (pa_cons pe_int pa_nil))) (pa_cons (pe_lst (pa_cons pe_int (pa_cons pe_int (pa_cons pe_int pa_nil)))) pa_nil))))
      (pss_cons (ps_set (i := 11) nd rfl (.inl rfl) (pe_lst (pa_cons (pe_c c__law_thing hr (by omega) (by rfl) (pa_cons (pe_ix (r := rIxL K) ix_list (pv 10) pe_int (fun _ _ => rfl)) pa_nil)) (pa_cons (pe_c c__law_thing hr (by omega) (by rfl) (pa_cons (pe_ix (r := rIxL K) ix_list (pv 10) pe_int (fun _ _ => rfl)) pa_nil)) (pa_cons pe_bl (pa_cons pe_bl pa_nil))))))
      (pss_cons (ps_if (pt_cmpR op_notIn_seq (pe_ix (r := rIxL K) ix_list (pv 10) pe_int (fun _ _ => rfl)) (pv 7) (by with_unfolding_all rfl)) (pss_one (ps_expr (pe_bm PySem.F.plainAttrs_list PySem.F.slot_list_append PySem.F.type_list_append mt_append (pv 11) (pa_cons (pe_ix (r := rIxL K) ix_list (pv 10) pe_int (fun _ _ => rfl)) pa_nil)))) pss_nil)
      (pss_cons (ps_for PassesOwn.never rfl (pi_list (pv 11)) (pg_name (i := 12) nd rfl (.inl rfl)) (pss_one (ps_if (pt_not (pt_val (pe_c c__law_refused hr (by omega) (by rfl) (pa_cons (pv 6) (pa_cons (pv 12) pa_nil))))) (pss_one (ps_ret pe_bl)) pss_nil)))
      (pss_one (ps_ret (pe_c c__law_exact hr (by omega) (by rfl) (pa_cons (KnP.pe_prp T.cl c_Machine_states hr (by decide) (pv 6) (by rfl)) (pa_cons (pv 7) pa_nil))))))))))))), ?_⟩
    refine ⟨.ref a, rfl, a, ns, 8, 6, 6, rfl, hS, by decide, by decide, by decide, by decide, by decide, fun H1 t s0 sl fd n1 n2 as ss fs zs s1 sy => ?_⟩
    refine ⟨t, _, rfl, .inl (.inl sy.at_), rfl, .int s0, _, rfl, .ref sl, _, rfl, .ref fd, _, rfl, .ref n1, _, rfl, .ref n2, [], rfl, rfl, ?_⟩
    have gm := sy.gm
    have gs := gm.gs
    have hi80 := gs.hi
    -- the machine
    refine ⟨.int s0, rfl, .ref sl, rfl, .ref fd, rfl, fun x dx nx ndx nex => ?_⟩
    have sx : Same H1 (upd (upd H1 dx (.own x)) x (.ins C dx [])) := fun b o e => (upd_ne (ne_of_none e nx)).trans ((upd_ne (ne_of_none e ndx)).trans e)
    refine ⟨x, dx, sl, s0, .ref fd, true, as, ss, fs, rfl, upd_same, sx _ _ sy.h1, sy.st.mono sx, .inr ⟨fd, rfl, sx _ _ sy.h2⟩, sy.gm, fun H2 dx' l1 l2 l3 l4 w2 n2' kp mo f1 f2 f3 f4 => ⟨rfl, ?_⟩⟩
    have s12 : Same H1 H2 := fun b o e => kp b o (sx _ _ e) (ne_of_none e nx)
    have hm : MachAt C H2 x s0 ss fs := ⟨_, _, _, _, _, _, _, _, mo⟩
    clear kp mo sx
    have s02 := s1.trans s12
    have esl2 := s12 _ _ sy.h1
    have est2 := sy.st.mono s12
    -- the states
    refine ⟨.int s0, rfl, .ref sl, rfl, s0, sl, as, ss, rfl, esl2, est2, gm.st0, gs.good, fun H3 ST sts s23 nST eST st => ?_⟩
    have s03 := s02.trans s23
    have esl3 := s23 _ _ esl2
    have est3 := est2.mono s23
    have hm3 := hm.mono s23
    have ndS : sts.Nodup := st.up.imp fun h e => by omega
    have lsts : sts.length ≤ 100 := by
      have := sub_len (m := (List.range 100).map fun (i : Nat) => (i : Int)) ndS fun y hy => by
        have hs := states_in gs gm.st0 ((st.mem y).mp hy)
        exact List.mem_map.mpr ⟨y.toNat, List.mem_range.mpr (by omega), by omega⟩
      rwa [List.length_map, List.length_range] at this
    have cl : Closed ss sts := fun u hu h1 => (st.mem _).mpr (KnA.Reach.step ((st.mem _).mp h1) (show (u.1, u.2.1, u.2.2) ∈ ss from hu))
    have ms0 : s0 ∈ sts := (st.mem s0).mpr .start
    refine reset_g (σ' := [some (.ref a), some (.int s0), some (.ref sl), some (.ref fd), some (.ref n1), some (.ref n2), some (.ref x), some (.ref ST), none, none, none, none, none]) rfl ?_
    refine ⟨.ref ST, rfl, ST, rfl, ⟨_, .inl (.inl eST)⟩, ?_⟩
    refine for_list (K := K) (xs := sts.map V.int) (fun i σ G => ∃ y8 y9, σ = [some (.ref a), some (.int s0), some (.ref sl), some (.ref fd), some (.ref n1), some (.ref n2), some (.ref x), some (.ref ST), y8, y9, none, none, none] ∧ Same H3 G)
      ⟨none, none, rfl, Same.refl _⟩ (fun i σ G _ ⟨_, _, _, h⟩ => .inl (.inl (h _ _ eST))) (fun i v σ G hx hP => ?_) (fun σ G hP => ?_)
    · obtain ⟨y8, y9, rfl, S⟩ := hP
      rw [List.getElem?_map] at hx
      cases gx : sts[i]? with
      | none => rw [gx] at hx; cases hx
      | some g =>
      rw [gx] at hx
      cases hx
      have hg := List.mem_of_getElem? gx
      have rg := (st.mem g).mp hg
      refine ⟨.ref sl, rfl, .int s0, rfl, .int g, rfl, .ref ST, rfl, sl, ST, s0, g, as, ss, sts, rfl, S _ _ esl3, est3.mono S, by omega, S _ _ eST, ndS, lsts, cl, ms0, hg, reach_goes rg, fun G1 da ks s' eda lk => ?_⟩
      have S1 := S.trans s'
      refine ⟨.ref x, rfl, .int g, rfl, x, .int g, s0, ss, fs, rfl, hm3.mono S1, gm, .int g, fun t' et _ G2 ra ps s2 era gps lps len => ?_, fun no => (no g rfl rg).elim⟩
      cases et
      have e := lk ps gps lps
      subst e
      refine ⟨.ref da, rfl, .ref ra, .ref da, rfl, ex_tupI era (s2 _ _ eda) (by omega), fun G3 s3 => ⟨_, rfl, iteF ⟨_, _, rfl, S1.trans (s2.trans s3)⟩⟩⟩
    · obtain ⟨y8, y9, rfl, S⟩ := hP
      refine ⟨.ref a, rfl, a, ns, 3, rfl, (s03.trans S).seq hS, fun c3 => ⟨szl rfl, fun q1 k1 => ?_⟩⟩
      have v1 := same_upd (o := .lst [.int 18, .int 100, .int 18]) k1
      refine ⟨c3, q1, [18, 100, 18], rfl, .inl (.inl upd_same), by decide, by decide, fun G1 R rs s' nR eR hrl hb => ?_⟩
      obtain ⟨r0, _, g0, _, _⟩ := row_at hrl hb (j := 0) (t := 18) rfl
      obtain ⟨r1, _, g1, _, _⟩ := row_at hrl hb (j := 1) (t := 100) rfl
      obtain ⟨r2, _, g2, _, _⟩ := row_at hrl hb (j := 2) (t := 18) rfl
      have S1 := S.trans (v1.trans s')
      clear v1 s' k1 hb hrl
      refine ⟨.ref R, rfl, R, rs.map V.int, 0, .int r0, rfl, rfl, .inl (.inl eR), atI_nat (j := 0) g0, r0, rfl, fun v1 G2 sv1 th1 => ?_⟩
      refine ⟨.ref R, rfl, R, rs.map V.int, 2, .int r2, rfl, rfl, .inl (.inl (sv1 _ _ eR)), atI_nat (j := 2) g2, r2, rfl, fun v2 G3 sv2 th2 => ⟨szl rfl, fun L nL => ?_⟩⟩
      have sL := same_upd (o := .lst [v1, v2, .bl true, .bl false]) nL
      have eL : (upd G3 L (.lst [v1, v2, .bl true, .bl false])) L = some (.lst [v1, v2, .bl true, .bl false]) := upd_same
      have eR3 := (sv1.trans (sv2.trans sL)) _ _ eR
      have S3 := S1.trans (sv1.trans (sv2.trans sL))
      have nLH : H3 L = none := (S1.trans (sv1.trans sv2)).free nL
      have t1 := th1.mono sv2
      have t2 := th2
      have keep3 : ∀ {xs : List V}, Same G3 (upd (upd G3 L (.lst [v1, v2, .bl true, .bl false])) L (.lst xs)) := fun {xs} => same_set nL sL
      generalize upd G3 L (.lst [v1, v2, .bl true, .bl false]) = G4 at sL eL eR3 S3 keep3 ⊢
      have odd_mono : ∀ {v : V} {G G' : Hp}, Same G G' → (Val K G v ∧ (∀ t, v = .int t → ¬ KnA.Reach ss s0 t) ∧ KnQ.SelfV G v) → Val K G' v ∧ (∀ t, v = .int t → ¬ KnA.Reach ss s0 t) ∧ KnQ.SelfV G' v := fun s h => ⟨h.1.mono s, h.2.1, self_mono h.2.2 s⟩
      have thing : ∀ {v : V} {G : Hp}, Thing K G v → Val K G v ∧ (∀ t, v = .int t → ¬ KnA.Reach ss s0 t) ∧ KnQ.SelfV G v := fun {v G} th => ⟨th.hv, fun t e r => th.hi t e (states_in gs gm.st0 r), th.self⟩
      have base0 : ∀ v ∈ [v1, v2, V.bl true, V.bl false], Val K G3 v ∧ (∀ t, v = .int t → ¬ KnA.Reach ss s0 t) ∧ KnQ.SelfV G3 v := fun v hv => by
        simp only [List.mem_cons, List.not_mem_nil, or_false] at hv
        rcases hv with rfl | rfl | rfl | rfl
        · exact thing t1
        · exact thing t2
        · exact ⟨.bl _, (fun t e => by cases e), trivial⟩
        · exact ⟨.bl _, (fun t e => by cases e), trivial⟩
      refine reset_g (σ' := [some (.ref a), some (.int s0), some (.ref sl), some (.ref fd), some (.ref n1), some (.ref n2), some (.ref x), some (.ref ST), y8, y9, some (.ref R), some (.ref L), none]) rfl ?_
      refine KnC.nx_if (fun σ2 G => ∃ xs, σ2 = [some (.ref a), some (.int s0), some (.ref sl), some (.ref fd), some (.ref n1), some (.ref n2), some (.ref x), some (.ref ST), y8, y9, some (.ref R), some (.ref L), none] ∧ Same H3 G ∧ G L = some (.lst xs) ∧ ∀ v ∈ xs, Val K G v ∧ (∀ t, v = .int t → ¬ KnA.Reach ss s0 t) ∧ KnQ.SelfV G v) (fun go => ?_) (fun σ2 G5 hT => ?_)
      · refine ⟨.ref R, rfl, R, rs.map V.int, 1, .int r1, rfl, rfl, .inl (.inl eR3), atI_nat (j := 1) g1, .ref ST, rfl, ST, sts.map V.int, rfl, .inl (.inl (.inl (S3 _ _ eST))), rfl, flat_is sts, _, rfl, ?_⟩
        show if (!inV (.int r1) (sts.map V.int)) = true then _ else _
        rw [inV_ints]
        by_cases z : r1 ∈ sts
        · rw [decide_eq_true z]
          exact iteF (go _ _ ⟨_, rfl, S3, eL, fun v hv => odd_mono sL (base0 v hv)⟩)
        · rw [decide_eq_false z]
          refine iteT ⟨.ref L, rfl, .inl ⟨rfl, _, .inl (.inl eL)⟩, .ref R, rfl, R, rs.map V.int, 1, .int r1, rfl, rfl, .inl (.inl eR3), atI_nat (j := 1) g1, L, _, .int r1, rfl, rfl, eL, small (Nat.le_of_ble_eq_true rfl), ?_⟩
          refine go _ _ ⟨_, rfl, same_set nLH S3, upd_same, fun v hv => ?_⟩
          rcases List.mem_append.mp hv with hv | hv
          · exact odd_mono keep3 (base0 v hv)
          · rw [List.mem_singleton.mp hv]
            exact ⟨.int _, (fun t e r => by cases e; exact z ((st.mem _).mpr r)), trivial⟩
      · obtain ⟨xs, rfl, S5, eL5, odd⟩ := hT
        refine ⟨.ref L, rfl, L, rfl, ⟨_, .inl (.inl eL5)⟩, ?_⟩
        refine for_list (K := K) (xs := xs) (fun i σ G => ∃ y12, σ = [some (.ref a), some (.int s0), some (.ref sl), some (.ref fd), some (.ref n1), some (.ref n2), some (.ref x), some (.ref ST), y8, y9, some (.ref R), some (.ref L), y12] ∧ Same G5 G)
          ⟨none, rfl, Same.refl _⟩ (fun i σ G _ ⟨_, _, h⟩ => .inl (.inl (h _ _ eL5))) (fun i v σ G hx hP => ?_) (fun σ G hP => ?_)
        · obtain ⟨y12, rfl, U⟩ := hP
          obtain ⟨o1, o2, o3⟩ := odd_mono U (odd v (List.mem_of_getElem? hx))
          exact ⟨.ref x, rfl, v, rfl, x, v, s0, ss, fs, rfl, hm3.mono (S5.trans U), gm, o1, o2, o3, fun H' s' => ⟨_, rfl, iteF ⟨_, rfl, U.trans s'⟩⟩⟩
        · obtain ⟨y12, rfl, U⟩ := hP
          have S6 := S5.trans U
          have hm6 := hm3.mono S6
          obtain ⟨dm, _, _, _, _, _, _, _, mm⟩ := id hm6
          refine ⟨.ref x, rfl, x, dm, _, rfl, mm.ob, x, s0, ss, fs, rfl, hm6, fun H7 l ns2 s7 nl el st2 => ?_⟩
          have e := st2.uniq st
          subst e
          exact ⟨.ref ST, rfl, .ref l, .ref ST, rfl, ex_ints el (s7 _ _ (S6 _ _ eST)) (by omega), fun G s => q _⟩

end
end Kn

set_option Elab.async false
set_option linter.all false
set_option maxRecDepth 100000
set_option maxHeartbeats 4000000
namespace Kn
open PySem PySem.Spec PyProof.Rows L2
open C8 (Cal pe_c pe_gc Mak pe_mk)
abbrev s_BadState_init : Stmt := inClass (topS 3) 0
theorem sc_BadState_init : FnScope ["self", "value"] ["self", "value"] (defScope s_BadState_init) := ⟨rfl, rfl, rfl, by decide +kernel, rfl, by decide +kernel, by decide +kernel⟩
section
variable {P : Program} {w : World} {K : PySem.W.Frag} {mg : Str → Option Value} {base : Heap}
theorem ok_BadState_init {f C C0 : Addr} {mc : Value} {fd : FuncData} (g0 : mg "KnowError" = some (.ref C0)) (B : KnX.BaseC K C0 mc) (ox : OexC K C) (no : PySem.W.findIn K (.ref C) "value" = some none) (F : Fun K "__init__" "BadState.__init__" s_BadState_init f fd) : FnOk P w K mg base CX0 1 f fd ["self", "value"] (KnX.spErr C "value" K) := by
  have nd := sc_BadState_init.nd
  refine F.ok sc_BadState_init (fun vs H Q E h => ?_) (fun cdv A outer s H vs Q E hr h => ?_)
  · obtain ⟨a, y, rfl, _⟩ := h
    rfl
  · obtain ⟨a, y, rfl, ha, q⟩ := h
    refine ⟨_, (pss_cons (ps_expr (KnX.pe_baseinit (by rfl) g0 B (pa_cons (pv 0) (pa_cons pe_str pa_nil)))) (pss_one (ps_ost (pv 0) (pv 1)))), ?_⟩
    exact ⟨.ref a, rfl, a, C, [.str _], rfl, Nat.le_of_ble_eq_true rfl, ox, ha, y, rfl, .ref a, rfl, a, C, rfl, ox, no, .inl ⟨ha, fun dx nd ne => q dx nd ne⟩⟩
end
theorem exm_mk {K : PySem.W.Frag} {A B : Addr} {b : Bool} (eB : PySem.W.subIn K (.ref B) (.type "BaseException") = some true) (iB : PySem.W.isClsIn K B = true) (tB : PySem.W.typeIn K (.ref B) = some (.type "type")) (s : PySem.W.subIn K (.ref A) (.ref B) = some b) : PySem.W.exmOne K (.ref A) (.ref B) = some b := by
  have i2 : (PySem.W.clsIn K B).isSome = true := iB
  unfold PySem.W.exmOne
  rw [if_pos (by rw [eB]; rfl)]
  show (if ((PySem.W.clsIn K B).isSome && PySem.W.typeIn K (.ref B) == some (.type "type")) = true then PySem.W.subIn K (.ref A) (.ref B) else none) = some b
  rw [if_pos (by rw [i2, tB]; rfl), s]
theorem all_mk {l : PySem.W.OpenLaw} {w : World} {K : PySem.W.Frag} {h : Heap} {mg : Str → Option Value} {fa : Addr} (X : K.In h) (G : h.Ns mainGlobals mg) (hfa : mg "law" = some (.ref fa))
    {t16 : Addr} {tc16 : Value} {td16 : Option Addr} {tn16 : Nat} {ts16 : Array (Option Value)}
    {od0 an0 : Option Addr} {sl0 : Array (Option Value)} {oc0 kV0 dc0 pm0 cd0 ct0 : Value} {f0 : Addr}
    {od1 an1 : Option Addr} {sl1 : Array (Option Value)} {oc1 kV1 dc1 pm1 cd1 ct1 : Value} {f1 : Addr}
    {od2 an2 : Option Addr} {sl2 : Array (Option Value)} {oc2 kV2 dc2 pm2 cd2 ct2 : Value} {f2 : Addr}
    {od3 an3 : Option Addr} {sl3 : Array (Option Value)} {oc3 kV3 dc3 pm3 cd3 ct3 : Value} {f3 : Addr}
    {od4 an4 : Option Addr} {sl4 : Array (Option Value)} {oc4 kV4 dc4 pm4 cd4 ct4 : Value} {f4 : Addr}
    {od5 an5 : Option Addr} {sl5 : Array (Option Value)} {oc5 kV5 dc5 pm5 cd5 ct5 : Value} {f5 : Addr}
    {od6 an6 : Option Addr} {sl6 : Array (Option Value)} {oc6 kV6 dc6 pm6 cd6 ct6 : Value} {f6 : Addr}
    {od7 an7 : Option Addr} {sl7 : Array (Option Value)} {oc7 kV7 dc7 pm7 cd7 ct7 : Value} {f7 : Addr}
    {od8 an8 : Option Addr} {sl8 : Array (Option Value)} {oc8 kV8 dc8 pm8 cd8 ct8 : Value} {f8 : Addr}
    {od9 an9 : Option Addr} {sl9 : Array (Option Value)} {oc9 kV9 dc9 pm9 cd9 ct9 : Value} {f9 : Addr}
    {od10 an10 : Option Addr} {sl10 : Array (Option Value)} {oc10 kV10 dc10 pm10 cd10 ct10 : Value} {f10 : Addr}
    {od11 an11 : Option Addr} {sl11 : Array (Option Value)} {oc11 kV11 dc11 pm11 cd11 ct11 : Value} {f11 : Addr}
    {od12 an12 : Option Addr} {sl12 : Array (Option Value)} {oc12 kV12 dc12 pm12 cd12 ct12 : Value} {f12 : Addr}
    {od13 an13 : Option Addr} {sl13 : Array (Option Value)} {oc13 kV13 dc13 pm13 cd13 ct13 : Value} {f13 : Addr}
    {od14 an14 : Option Addr} {sl14 : Array (Option Value)} {oc14 kV14 dc14 pm14 cd14 ct14 : Value} {f14 : Addr}
    {od15 an15 : Option Addr} {sl15 : Array (Option Value)} {oc15 kV15 dc15 pm15 cd15 ct15 : Value} {f15 : Addr}
    {od16 an16 : Option Addr} {sl16 : Array (Option Value)} {oc16 kV16 dc16 pm16 cd16 ct16 : Value} {f16 : Addr}
    {od17 an17 : Option Addr} {sl17 : Array (Option Value)} {oc17 kV17 dc17 pm17 cd17 ct17 : Value} {f17 : Addr}
    {od18 an18 : Option Addr} {sl18 : Array (Option Value)} {oc18 kV18 dc18 pm18 cd18 ct18 : Value} {f18 : Addr}
    {od19 an19 : Option Addr} {sl19 : Array (Option Value)} {oc19 kV19 dc19 pm19 cd19 ct19 : Value} {f19 : Addr}
    {od20 an20 : Option Addr} {sl20 : Array (Option Value)} {oc20 kV20 dc20 pm20 cd20 ct20 : Value} {f20 : Addr}
    {od21 an21 : Option Addr} {sl21 : Array (Option Value)} {oc21 kV21 dc21 pm21 cd21 ct21 : Value} {f21 : Addr}
    {od22 an22 : Option Addr} {sl22 : Array (Option Value)} {oc22 kV22 dc22 pm22 cd22 ct22 : Value} {f22 : Addr}
    {od23 an23 : Option Addr} {sl23 : Array (Option Value)} {oc23 kV23 dc23 pm23 cd23 ct23 : Value} {f23 : Addr}
    {od24 an24 : Option Addr} {sl24 : Array (Option Value)} {oc24 kV24 dc24 pm24 cd24 ct24 : Value} {f24 : Addr}
    {od25 an25 : Option Addr} {sl25 : Array (Option Value)} {oc25 kV25 dc25 pm25 cd25 ct25 : Value} {f25 : Addr}
    {od26 an26 : Option Addr} {sl26 : Array (Option Value)} {oc26 kV26 dc26 pm26 cd26 ct26 : Value} {f26 : Addr}
    {od27 an27 : Option Addr} {sl27 : Array (Option Value)} {oc27 kV27 dc27 pm27 cd27 ct27 : Value} {f27 : Addr}
    {od28 an28 : Option Addr} {sl28 : Array (Option Value)} {oc28 kV28 dc28 pm28 cd28 ct28 : Value} {f28 : Addr}
    {od29 an29 : Option Addr} {sl29 : Array (Option Value)} {oc29 kV29 dc29 pm29 cd29 ct29 : Value} {f29 : Addr}
    {C : Addr} (aC : PySem.W.nsIn K mainGlobals "Machine" = some (some (.ref C)))
    (ihn : PySem.W.specialIn K (.builtin "object.__class__") "__get__" = some (some (.builtin "getset_descriptor.__get__"))) (ihtk : PySem.W.takesIn K (.builtin "object.__class__") = some true)
    {C0 : Addr} (aK : PySem.W.nsIn K mainGlobals "KnowError" = some (some (.ref C0))) (rdK : PySem.W.readsIn K C0 (.type "type") = true) (gaK : PySem.W.specialIn K (.ref C0) "__getattribute__" = some (some (.builtin "type.__getattribute__"))) (atK : PySem.W.findCls K (.ref C0) (.type "type") "__init__" = some (.val (.builtin "ValueError.__init__")))
    {cBadState iBadState : Addr} {nmBadState qBadState : Str} {NBadState : Addr} {bsBadState : List Value} {snBadState : List Str} {subBadState : List Value} {abBadState : Bool} {colBadState : Option Bool} {ddBadState : Option Addr} {k0BadState k1BadState k2BadState k3BadState k5BadState : Option Value} {odBadState anBadState : Option Addr} {slBadState : Array (Option Value)} {ocBadState kVBadState dcBadState pmBadState cdBadState ctBadState : Value}
    (aBadState : PySem.W.nsIn K mainGlobals "BadState" = some (some (.ref cBadState)))
    (xBadState : K.lookup cBadState = some (excClassObj nmBadState qBadState cBadState NBadState bsBadState [.ref C0, .type "ValueError", .type "Exception", .type "BaseException", .type "object"] true snBadState subBadState abBadState colBadState ddBadState k0BadState k1BadState k2BadState k3BadState k5BadState "ValueError.__new__"))
    (saBadState : PySem.W.findIn K (.ref cBadState) "__setattr__" = some (some (.builtin "object.__setattr__"))) (gaBadState : PySem.W.findIn K (.ref cBadState) "__getattribute__" = some (some (.builtin "BaseException.__getattribute__"))) (ggBadState : PySem.W.findIn K (.ref cBadState) "__getattr__" = some none) (nbBadState : PySem.W.findIn K (.ref cBadState) "value" = some none)
    (aiBadState : PySem.W.findIn K (.ref cBadState) "__init__" = some (some (.ref iBadState))) (tiBadState : PySem.W.typeIn K (.ref iBadState) = some (.type "function"))
    (liBadState : K.lookup iBadState = some ⟨ocBadState, odBadState, .func (PySem.W.fnOf "__init__" "BadState.__init__" (defArgs s_BadState_init) (defBody s_BadState_init) (defScope s_BadState_init) .none kVBadState dcBadState pmBadState anBadState cdBadState ctBadState), slBadState⟩) (diBadState : PySem.W.codeIn K cdBadState "BadState.__init__" = true) (kiBadState : PySem.W.keepIn K (.ref iBadState) = true)
    (kCBadState : PySem.W.keepIn K (.ref cBadState) = true) (eCBadState : PySem.W.subIn K (.ref cBadState) (.type "BaseException") = some true) (tCBadState : PySem.W.typeIn K (.ref cBadState) = some (.type "type")) (hCBadState : PySem.W.hasDictIn K cBadState = true) (iCBadState : PySem.W.isClsIn K cBadState = true)
    (sBadStateBadState : PySem.W.subIn K (.ref cBadState) (.ref cBadState) = some true)
    (a0 : PySem.W.nsIn K mainGlobals "_law_mix" = some (some (.ref f0)))
    (l0 : K.lookup f0 = some ⟨oc0, od0, .func (PySem.W.fnOf "_law_mix" "_law_mix" (defArgs s__law_mix) (defBody s__law_mix) (defScope s__law_mix) .none kV0 dc0 pm0 an0 cd0 ct0), sl0⟩) (d0 : PySem.W.codeIn K cd0 "_law_mix" = true) (k0 : PySem.W.keepIn K (.ref f0) = true)
    (a1 : PySem.W.nsIn K mainGlobals "_law_row" = some (some (.ref f1)))
    (l1 : K.lookup f1 = some ⟨oc1, od1, .func (PySem.W.fnOf "_law_row" "_law_row" (defArgs s__law_row) (defBody s__law_row) (defScope s__law_row) .none kV1 dc1 pm1 an1 cd1 ct1), sl1⟩) (d1 : PySem.W.codeIn K cd1 "_law_row" = true) (k1 : PySem.W.keepIn K (.ref f1) = true)
    (a2 : PySem.W.nsIn K mainGlobals "_law_names" = some (some (.ref f2)))
    (l2 : K.lookup f2 = some ⟨oc2, od2, .func (PySem.W.fnOf "_law_names" "_law_names" (defArgs s__law_names) (defBody s__law_names) (defScope s__law_names) .none kV2 dc2 pm2 an2 cd2 ct2), sl2⟩) (d2 : PySem.W.codeIn K cd2 "_law_names" = true) (k2 : PySem.W.keepIn K (.ref f2) = true)
    (a3 : PySem.W.nsIn K mainGlobals "_law_cell" = some (some (.ref f3)))
    (l3 : K.lookup f3 = some ⟨oc3, od3, .func (PySem.W.fnOf "_law_cell" "_law_cell" (defArgs s__law_cell) (defBody s__law_cell) (defScope s__law_cell) .none kV3 dc3 pm3 an3 cd3 ct3), sl3⟩) (d3 : PySem.W.codeIn K cd3 "_law_cell" = true) (k3 : PySem.W.keepIn K (.ref f3) = true)
    (a4 : PySem.W.nsIn K mainGlobals "_law_machine" = some (some (.ref f4)))
    (l4 : K.lookup f4 = some ⟨oc4, od4, .func (PySem.W.fnOf "_law_machine" "_law_machine" (defArgs s__law_machine) (defBody s__law_machine) (defScope s__law_machine) .none kV4 dc4 pm4 an4 cd4 ct4), sl4⟩) (d4 : PySem.W.codeIn K cd4 "_law_machine" = true) (k4 : PySem.W.keepIn K (.ref f4) = true)
    (a5 : PySem.W.nsIn K mainGlobals "_law_faults" = some (some (.ref f5)))
    (l5 : K.lookup f5 = some ⟨oc5, od5, .func (PySem.W.fnOf "_law_faults" "_law_faults" (defArgs s__law_faults) (defBody s__law_faults) (defScope s__law_faults) .none kV5 dc5 pm5 an5 cd5 ct5), sl5⟩) (d5 : PySem.W.codeIn K cd5 "_law_faults" = true) (k5 : PySem.W.keepIn K (.ref f5) = true)
    (a6 : PySem.W.nsIn K mainGlobals "_law_system" = some (some (.ref f6)))
    (l6 : K.lookup f6 = some ⟨oc6, od6, .func (PySem.W.fnOf "_law_system" "_law_system" (defArgs s__law_system) (defBody s__law_system) (defScope s__law_system) .none kV6 dc6 pm6 an6 cd6 ct6), sl6⟩) (d6 : PySem.W.codeIn K cd6 "_law_system" = true) (k6 : PySem.W.keepIn K (.ref f6) = true)
    (a7 : PySem.W.nsIn K mainGlobals "is_whole" = some (some (.ref f7)))
    (l7 : K.lookup f7 = some ⟨oc7, od7, .func (PySem.W.fnOf "is_whole" "is_whole" (defArgs s_is_whole) (defBody s_is_whole) (defScope s_is_whole) .none kV7 dc7 pm7 an7 cd7 ct7), sl7⟩) (d7 : PySem.W.codeIn K cd7 "is_whole" = true) (k7 : PySem.W.keepIn K (.ref f7) = true)
    (a8 : PySem.W.nsIn K mainGlobals "is_state" = some (some (.ref f8)))
    (l8 : K.lookup f8 = some ⟨oc8, od8, .func (PySem.W.fnOf "is_state" "is_state" (defArgs s_is_state) (defBody s_is_state) (defScope s_is_state) .none kV8 dc8 pm8 an8 cd8 ct8), sl8⟩) (d8 : PySem.W.codeIn K cd8 "is_state" = true) (k8 : PySem.W.keepIn K (.ref f8) = true)
    (a9 : PySem.W.nsIn K mainGlobals "is_row" = some (some (.ref f9)))
    (l9 : K.lookup f9 = some ⟨oc9, od9, .func (PySem.W.fnOf "is_row" "is_row" (defArgs s_is_row) (defBody s_is_row) (defScope s_is_row) .none kV9 dc9 pm9 an9 cd9 ct9), sl9⟩) (d9 : PySem.W.codeIn K cd9 "is_row" = true) (k9 : PySem.W.keepIn K (.ref f9) = true)
    (a10 : PySem.W.nsIn K mainGlobals "is_name" = some (some (.ref f10)))
    (l10 : K.lookup f10 = some ⟨oc10, od10, .func (PySem.W.fnOf "is_name" "is_name" (defArgs s_is_name) (defBody s_is_name) (defScope s_is_name) .none kV10 dc10 pm10 an10 cd10 ct10), sl10⟩) (d10 : PySem.W.codeIn K cd10 "is_name" = true) (k10 : PySem.W.keepIn K (.ref f10) = true)
    (a11 : PySem.W.nsIn K mainGlobals "is_step" = some (some (.ref f11)))
    (l11 : K.lookup f11 = some ⟨oc11, od11, .func (PySem.W.fnOf "is_step" "is_step" (defArgs s_is_step) (defBody s_is_step) (defScope s_is_step) .none kV11 dc11 pm11 an11 cd11 ct11), sl11⟩) (d11 : PySem.W.codeIn K cd11 "is_step" = true) (k11 : PySem.W.keepIn K (.ref f11) = true)
    (a12 : PySem.W.nsIn K mainGlobals "check_steps" = some (some (.ref f12)))
    (l12 : K.lookup f12 = some ⟨oc12, od12, .func (PySem.W.fnOf "check_steps" "check_steps" (defArgs s_check_steps) (defBody s_check_steps) (defScope s_check_steps) .none kV12 dc12 pm12 an12 cd12 ct12), sl12⟩) (d12 : PySem.W.codeIn K cd12 "check_steps" = true) (k12 : PySem.W.keepIn K (.ref f12) = true)
    (a13 : PySem.W.nsIn K mainGlobals "check_faults" = some (some (.ref f13)))
    (l13 : K.lookup f13 = some ⟨oc13, od13, .func (PySem.W.fnOf "check_faults" "check_faults" (defArgs s_check_faults) (defBody s_check_faults) (defScope s_check_faults) .none kV13 dc13 pm13 an13 cd13 ct13), sl13⟩) (d13 : PySem.W.codeIn K cd13 "check_faults" = true) (k13 : PySem.W.keepIn K (.ref f13) = true)
    (a14 : PySem.W.nsIn K mainGlobals "moves_by_state" = some (some (.ref f14)))
    (l14 : K.lookup f14 = some ⟨oc14, od14, .func (PySem.W.fnOf "moves_by_state" "moves_by_state" (defArgs s_moves_by_state) (defBody s_moves_by_state) (defScope s_moves_by_state) .none kV14 dc14 pm14 an14 cd14 ct14), sl14⟩) (d14 : PySem.W.codeIn K cd14 "moves_by_state" = true) (k14 : PySem.W.keepIn K (.ref f14) = true)
    (a15 : PySem.W.nsIn K mainGlobals "reached_states" = some (some (.ref f15)))
    (l15 : K.lookup f15 = some ⟨oc15, od15, .func (PySem.W.fnOf "reached_states" "reached_states" (defArgs s_reached_states) (defBody s_reached_states) (defScope s_reached_states) .none kV15 dc15 pm15 an15 cd15 ct15), sl15⟩) (d15 : PySem.W.codeIn K cd15 "reached_states" = true) (k15 : PySem.W.keepIn K (.ref f15) = true)
    (a16 : PySem.W.findIn K (.ref C) "__init__" = some (some (.ref f16))) (i16 : PySem.W.isFn K (.ref f16) = true)
    (l16 : K.lookup f16 = some ⟨oc16, od16, .func (PySem.W.fnOf "__init__" "Machine.__init__" (defArgs s_Machine_init) (defBody s_Machine_init) (defScope s_Machine_init) (.ref t16) kV16 dc16 pm16 an16 cd16 ct16), sl16⟩) (d16 : PySem.W.codeIn K cd16 "Machine.__init__" = true) (k16 : PySem.W.keepIn K (.ref f16) = true)
    (tl16 : K.lookup t16 = some ⟨tc16, td16, .seq #[.none] tn16, ts16⟩)
    (a17 : PySem.W.nsIn K mainGlobals "_law_reached" = some (some (.ref f17)))
    (l17 : K.lookup f17 = some ⟨oc17, od17, .func (PySem.W.fnOf "_law_reached" "_law_reached" (defArgs s__law_reached) (defBody s__law_reached) (defScope s__law_reached) .none kV17 dc17 pm17 an17 cd17 ct17), sl17⟩) (d17 : PySem.W.codeIn K cd17 "_law_reached" = true) (k17 : PySem.W.keepIn K (.ref f17) = true)
    (a18 : PySem.W.nsIn K mainGlobals "_law_far" = some (some (.ref f18)))
    (l18 : K.lookup f18 = some ⟨oc18, od18, .func (PySem.W.fnOf "_law_far" "_law_far" (defArgs s__law_far) (defBody s__law_far) (defScope s__law_far) .none kV18 dc18 pm18 an18 cd18 ct18), sl18⟩) (d18 : PySem.W.codeIn K cd18 "_law_far" = true) (k18 : PySem.W.keepIn K (.ref f18) = true)
    (a19 : PySem.W.nsIn K mainGlobals "_law_least" = some (some (.ref f19)))
    (l19 : K.lookup f19 = some ⟨oc19, od19, .func (PySem.W.fnOf "_law_least" "_law_least" (defArgs s__law_least) (defBody s__law_least) (defScope s__law_least) .none kV19 dc19 pm19 an19 cd19 ct19), sl19⟩) (d19 : PySem.W.codeIn K cd19 "_law_least" = true) (k19 : PySem.W.keepIn K (.ref f19) = true)
    (a20 : PySem.W.nsIn K mainGlobals "_law_is_integer" = some (some (.ref f20)))
    (l20 : K.lookup f20 = some ⟨oc20, od20, .func (PySem.W.fnOf "_law_is_integer" "_law_is_integer" (defArgs s__law_is_integer) (defBody s__law_is_integer) (defScope s__law_is_integer) .none kV20 dc20 pm20 an20 cd20 ct20), sl20⟩) (d20 : PySem.W.codeIn K cd20 "_law_is_integer" = true) (k20 : PySem.W.keepIn K (.ref f20) = true)
    (a21 : PySem.W.nsIn K mainGlobals "_law_exact" = some (some (.ref f21)))
    (l21 : K.lookup f21 = some ⟨oc21, od21, .func (PySem.W.fnOf "_law_exact" "_law_exact" (defArgs s__law_exact) (defBody s__law_exact) (defScope s__law_exact) .none kV21 dc21 pm21 an21 cd21 ct21), sl21⟩) (d21 : PySem.W.codeIn K cd21 "_law_exact" = true) (k21 : PySem.W.keepIn K (.ref f21) = true)
    {p22 : Addr} {rs22 : List Value} (a22 : PySem.W.findIn K (.ref C) "states" = some (some (.ref p22))) (g22 : PySem.W.specialIn K (.ref p22) "__get__" = some (some (.builtin "property.__get__"))) (w22 : PySem.W.takesIn K (.ref p22) = some true) (r22 : PySem.W.recIn K p22 "property" = some (.ref f22 :: rs22))
    (l22 : K.lookup f22 = some ⟨oc22, od22, .func (PySem.W.fnOf "states" "Machine.states" (defArgs s_Machine_states) (defBody s_Machine_states) (defScope s_Machine_states) .none kV22 dc22 pm22 an22 cd22 ct22), sl22⟩) (d22 : PySem.W.codeIn K cd22 "Machine.states" = true) (k22 : PySem.W.keepIn K (.ref f22) = true)
    {p23 : Addr} {rs23 : List Value} (a23 : PySem.W.findIn K (.ref C) "steps" = some (some (.ref p23))) (g23 : PySem.W.specialIn K (.ref p23) "__get__" = some (some (.builtin "property.__get__"))) (w23 : PySem.W.takesIn K (.ref p23) = some true) (r23 : PySem.W.recIn K p23 "property" = some (.ref f23 :: rs23))
    (l23 : K.lookup f23 = some ⟨oc23, od23, .func (PySem.W.fnOf "steps" "Machine.steps" (defArgs s_Machine_steps) (defBody s_Machine_steps) (defScope s_Machine_steps) .none kV23 dc23 pm23 an23 cd23 ct23), sl23⟩) (d23 : PySem.W.codeIn K cd23 "Machine.steps" = true) (k23 : PySem.W.keepIn K (.ref f23) = true)
    {p24 : Addr} {rs24 : List Value} (a24 : PySem.W.findIn K (.ref C) "start" = some (some (.ref p24))) (g24 : PySem.W.specialIn K (.ref p24) "__get__" = some (some (.builtin "property.__get__"))) (w24 : PySem.W.takesIn K (.ref p24) = some true) (r24 : PySem.W.recIn K p24 "property" = some (.ref f24 :: rs24))
    (l24 : K.lookup f24 = some ⟨oc24, od24, .func (PySem.W.fnOf "start" "Machine.start" (defArgs s_Machine_start) (defBody s_Machine_start) (defScope s_Machine_start) .none kV24 dc24 pm24 an24 cd24 ct24), sl24⟩) (d24 : PySem.W.codeIn K cd24 "Machine.start" = true) (k24 : PySem.W.keepIn K (.ref f24) = true)
    (a25 : PySem.W.nsIn K mainGlobals "shortest_to" = some (some (.ref f25)))
    (l25 : K.lookup f25 = some ⟨oc25, od25, .func (PySem.W.fnOf "shortest_to" "shortest_to" (defArgs s_shortest_to) (defBody s_shortest_to) (defScope s_shortest_to) .none kV25 dc25 pm25 an25 cd25 ct25), sl25⟩) (d25 : PySem.W.codeIn K cd25 "shortest_to" = true) (k25 : PySem.W.keepIn K (.ref f25) = true)
    (a26 : PySem.W.nsIn K mainGlobals "_law_deep" = some (some (.ref f26)))
    (l26 : K.lookup f26 = some ⟨oc26, od26, .func (PySem.W.fnOf "_law_deep" "_law_deep" (defArgs s__law_deep) (defBody s__law_deep) (defScope s__law_deep) .none kV26 dc26 pm26 an26 cd26 ct26), sl26⟩) (d26 : PySem.W.codeIn K cd26 "_law_deep" = true) (k26 : PySem.W.keepIn K (.ref f26) = true)
    (a27 : PySem.W.nsIn K mainGlobals "_law_thing" = some (some (.ref f27)))
    (l27 : K.lookup f27 = some ⟨oc27, od27, .func (PySem.W.fnOf "_law_thing" "_law_thing" (defArgs s__law_thing) (defBody s__law_thing) (defScope s__law_thing) .none kV27 dc27 pm27 an27 cd27 ct27), sl27⟩) (d27 : PySem.W.codeIn K cd27 "_law_thing" = true) (k27 : PySem.W.keepIn K (.ref f27) = true)
    (a28 : PySem.W.nsIn K mainGlobals "_law_refused" = some (some (.ref f28)))
    (l28 : K.lookup f28 = some ⟨oc28, od28, .func (PySem.W.fnOf "_law_refused" "_law_refused" (defArgs s__law_refused) (defBody s__law_refused) (defScope s__law_refused) .none kV28 dc28 pm28 an28 cd28 ct28), sl28⟩) (d28 : PySem.W.codeIn K cd28 "_law_refused" = true) (k28 : PySem.W.keepIn K (.ref f28) = true)
    (a29 : PySem.W.nsIn K mainGlobals "law" = some (some (.ref f29)))
    (l29 : K.lookup f29 = some ⟨oc29, od29, .func (PySem.W.fnOf "law" "law" (defArgs s_law) (defBody s_law) (defScope s_law) .none kV29 dc29 pm29 an29 cd29 ct29), sl29⟩) (d29 : PySem.W.codeIn K cd29 "law" = true) (k29 : PySem.W.keepIn K (.ref f29) = true)
    (pgC : PySem.W.plainGet K C Str.empty = true) (hdC : PySem.W.hasDictIn K C = true) (poC : PySem.W.plainOver K C = true) (saC : PySem.W.findIn K (.ref C) "__setattr__" = some (some (.builtin "object.__setattr__"))) (mkC : PySem.W.makesIn K C = true) (kcC : PySem.W.keepIn K (.ref C) = true)
    (ihaC : PySem.W.findIn K (.ref C) "__class__" = some (some (.builtin "object.__class__"))) (ihmC : PySem.W.mroIn K C (.type "object") = some true)
    (n__start : PySem.W.findIn K (.ref C) "_start" = some none)
    (n__steps : PySem.W.findIn K (.ref C) "_steps" = some none)
    (n__words : PySem.W.findIn K (.ref C) "_words" = some none)
    (n__faults : PySem.W.findIn K (.ref C) "_faults" = some none)
    (n__states : PySem.W.findIn K (.ref C) "_states" = some none)
    (z_all : PySem.W.nsIn K mainGlobals "all" = some none)
    (z_bool : PySem.W.nsIn K mainGlobals "bool" = some none)
    (z_dict : PySem.W.nsIn K mainGlobals "dict" = some none)
    (z_enumerate : PySem.W.nsIn K mainGlobals "enumerate" = some none)
    (z_int : PySem.W.nsIn K mainGlobals "int" = some none)
    (z_isinstance : PySem.W.nsIn K mainGlobals "isinstance" = some none)
    (z_len : PySem.W.nsIn K mainGlobals "len" = some none)
    (z_list : PySem.W.nsIn K mainGlobals "list" = some none)
    (z_range : PySem.W.nsIn K mainGlobals "range" = some none)
    (z_sorted : PySem.W.nsIn K mainGlobals "sorted" = some none)
    (z_str : PySem.W.nsIn K mainGlobals "str" = some none)
    (z_tuple : PySem.W.nsIn K mainGlobals "tuple" = some none)
    {u_GREATEST_STATE : Value} (g_GREATEST_STATE : PySem.W.nsIn K mainGlobals "GREATEST_STATE" = some (some u_GREATEST_STATE)) (r_GREATEST_STATE : RelV (.int 99) u_GREATEST_STATE)
    {u_LONGEST_NAME : Value} (g_LONGEST_NAME : PySem.W.nsIn K mainGlobals "LONGEST_NAME" = some (some u_LONGEST_NAME)) (r_LONGEST_NAME : RelV (.int 12) u_LONGEST_NAME)
    {u_LETTERS : Value} (g_LETTERS : PySem.W.nsIn K mainGlobals "LETTERS" = some (some u_LETTERS)) (r_LETTERS : RelV (.str "abcdefghijklmnopqrstuvwxyz") u_LETTERS)
    {u_MOST_STEPS : Value} (g_MOST_STEPS : PySem.W.nsIn K mainGlobals "MOST_STEPS" = some (some u_MOST_STEPS)) (r_MOST_STEPS : RelV (.int 80) u_MOST_STEPS)
    {u_MOST_LEAVING : Value} (g_MOST_LEAVING : PySem.W.nsIn K mainGlobals "MOST_LEAVING" = some (some u_MOST_LEAVING)) (r_MOST_LEAVING : RelV (.int 8) u_MOST_LEAVING)
    {u_MOST_FAULTS : Value} (g_MOST_FAULTS : PySem.W.nsIn K mainGlobals "MOST_FAULTS" = some (some u_MOST_FAULTS)) (r_MOST_FAULTS : RelV (.int 3) u_MOST_FAULTS)
    {u_MOST_WORDS : Value} (g_MOST_WORDS : PySem.W.nsIn K mainGlobals "MOST_WORDS" = some (some u_MOST_WORDS)) (r_MOST_WORDS : RelV (.int 14) u_MOST_WORDS) :
    ∃ fd : FuncData, (∀ (s : Shared) (v : Value), BindsTo s fd ⟨[v], []⟩ [("_law_script", v)]) ∧ ∀ base : Heap, K.In base → base.Ns mainGlobals mg → FnOk l.prog w K mg base CX0 7 fa fd ["_law_script"] (sp_law K) := by
  have e := hfa.symm.trans (PySem.W.mg_of X G a29)
  cases e
  have T : Txt K mg C := ⟨PySem.W.mg_none_of X G z_all, PySem.W.mg_none_of X G z_bool, PySem.W.mg_none_of X G z_dict, PySem.W.mg_none_of X G z_enumerate, PySem.W.mg_none_of X G z_int, PySem.W.mg_none_of X G z_isinstance, PySem.W.mg_none_of X G z_len, PySem.W.mg_none_of X G z_list, PySem.W.mg_none_of X G z_range, PySem.W.mg_none_of X G z_sorted, PySem.W.mg_none_of X G z_str, PySem.W.mg_none_of X G z_tuple, ⟨_, PySem.W.mg_of X G g_GREATEST_STATE, r_GREATEST_STATE⟩, ⟨_, PySem.W.mg_of X G g_LONGEST_NAME, r_LONGEST_NAME⟩, ⟨_, PySem.W.mg_of X G g_LETTERS, r_LETTERS⟩, ⟨_, PySem.W.mg_of X G g_MOST_STEPS, r_MOST_STEPS⟩, ⟨_, PySem.W.mg_of X G g_MOST_LEAVING, r_MOST_LEAVING⟩, ⟨_, PySem.W.mg_of X G g_MOST_FAULTS, r_MOST_FAULTS⟩, ⟨_, PySem.W.mg_of X G g_MOST_WORDS, r_MOST_WORDS⟩, ⟨pgC, hdC, poC, saC⟩, PySem.W.mg_of X G aC, ⟨⟨pgC, hdC, poC, saC⟩, ihaC, ihn, ihtk, ihmC, by unfold PySem.W.kitOne; rw [if_pos (by simp)]⟩, n__start, n__steps, n__words, n__faults, n__states⟩
  have oxBadState : OexC K cBadState := ⟨⟨nmBadState, qBadState, NBadState, bsBadState, _, snBadState, subBadState, abBadState, colBadState, ddBadState, k0BadState, k1BadState, k2BadState, k3BadState, k5BadState, xBadState, rfl⟩, saBadState, eCBadState, tCBadState, kCBadState⟩
  have BC : KnX.BaseC K C0 (.type "type") := ⟨⟨rdK, gaK⟩, atK⟩
  let ce : Es := ⟨cBadState⟩
  have TE : TxE K mg ce := ⟨PySem.W.mg_of X G aBadState, ⟨gaBadState, ggBadState, eCBadState, hCBadState⟩, nbBadState, exm_mk eCBadState iCBadState tCBadState sBadStateBadState⟩
  have F0 := fun_mk (st := s__law_mix) l0 d0 k0
  have b0 := L2.Fun.binds F0 (ps := ["_law_cell_here", "_law_k"]) fun _ _ _ _ _ _ us hl => match us, hl with | [_, _], _ => rfl
  have F1 := fun_mk (st := s__law_row) l1 d1 k1
  have b1 := L2.Fun.binds F1 (ps := ["_law_cell_here", "_law_sizes"]) fun _ _ _ _ _ _ us hl => match us, hl with | [_, _], _ => rfl
  have F2 := fun_mk (st := s__law_names) l2 d2 k2
  have b2 := L2.Fun.binds F2 (ps := ["_law_cell_here", "_law_many"]) fun _ _ _ _ _ _ us hl => match us, hl with | [_, _], _ => rfl
  have F3 := fun_mk (st := s__law_cell) l3 d3 k3
  have b3 := L2.Fun.binds F3 (ps := ["_law_script", "_law_k"]) fun _ _ _ _ _ _ us hl => match us, hl with | [_, _], _ => rfl
  have F4 := fun_mk (st := s__law_machine) l4 d4 k4
  have b4 := L2.Fun.binds F4 (ps := ["_law_cell_here", "_law_names_here", "_law_most", "_law_extra"]) fun _ _ _ _ _ _ us hl => match us, hl with | [_, _, _, _], _ => rfl
  have F5 := fun_mk (st := s__law_faults) l5 d5 k5
  have b5 := L2.Fun.binds F5 (ps := ["_law_digit", "_law_steps", "_law_names_here", "_law_marks"]) fun _ _ _ _ _ _ us hl => match us, hl with | [_, _, _, _], _ => rfl
  have F6 := fun_mk (st := s__law_system) l6 d6 k6
  have b6 := L2.Fun.binds F6 (ps := ["_law_script", "_law_most", "_law_extra", "_law_many"]) fun _ _ _ _ _ _ us hl => match us, hl with | [_, _, _, _], _ => rfl
  have F7 := fun_mk (st := s_is_whole) l7 d7 k7
  have b7 := L2.Fun.binds F7 (ps := ["value"]) fun _ _ _ _ _ _ us hl => match us, hl with | [_], _ => rfl
  have F8 := fun_mk (st := s_is_state) l8 d8 k8
  have b8 := L2.Fun.binds F8 (ps := ["value"]) fun _ _ _ _ _ _ us hl => match us, hl with | [_], _ => rfl
  have F9 := fun_mk (st := s_is_row) l9 d9 k9
  have b9 := L2.Fun.binds F9 (ps := ["value"]) fun _ _ _ _ _ _ us hl => match us, hl with | [_], _ => rfl
  have F10 := fun_mk (st := s_is_name) l10 d10 k10
  have b10 := L2.Fun.binds F10 (ps := ["value"]) fun _ _ _ _ _ _ us hl => match us, hl with | [_], _ => rfl
  have F11 := fun_mk (st := s_is_step) l11 d11 k11
  have b11 := L2.Fun.binds F11 (ps := ["value"]) fun _ _ _ _ _ _ us hl => match us, hl with | [_], _ => rfl
  have F12 := fun_mk (st := s_check_steps) l12 d12 k12
  have b12 := L2.Fun.binds F12 (ps := ["steps"]) fun _ _ _ _ _ _ us hl => match us, hl with | [_], _ => rfl
  have F13 := fun_mk (st := s_check_faults) l13 d13 k13
  have b13 := L2.Fun.binds F13 (ps := ["faults", "words"]) fun _ _ _ _ _ _ us hl => match us, hl with | [_, _], _ => rfl
  have F14 := fun_mk (st := s_moves_by_state) l14 d14 k14
  have b14 := L2.Fun.binds F14 (ps := ["steps"]) fun _ _ _ _ _ _ us hl => match us, hl with | [_], _ => rfl
  have F15 := fun_mk (st := s_reached_states) l15 d15 k15
  have b15 := L2.Fun.binds F15 (ps := ["start", "leaving"]) fun _ _ _ _ _ _ us hl => match us, hl with | [_, _], _ => rfl
  have F16 : KnD.FunX K "__init__" "Machine.__init__" s_Machine_init f16 _ := ⟨⟨_, _, _, _, _, _, _, _, _, _, rfl, l16, d16⟩⟩
  have b16 := KnD.binds_full (st := s_Machine_init) (ps := ["self", "start", "steps", "faults"]) (dvs := [.non]) (its := [.none]) l16 d16 k16 tl16 rfl (.cons rfl .nil) (by simp) fun _ _ _ _ _ _ _ us its h1 h2 => match us, its, h1, h2 with | [_, _, _, _], [_], _, _ => ⟨_, rfl, rfl⟩
  have F17 := fun_mk (st := s__law_reached) l17 d17 k17
  have b17 := L2.Fun.binds F17 (ps := ["_law_start", "_law_steps"]) fun _ _ _ _ _ _ us hl => match us, hl with | [_, _], _ => rfl
  have F18 := fun_mk (st := s__law_far) l18 d18 k18
  have b18 := L2.Fun.binds F18 (ps := ["_law_steps", "_law_goal", "_law_states"]) fun _ _ _ _ _ _ us hl => match us, hl with | [_, _, _], _ => rfl
  have F19 := fun_mk (st := s__law_least) l19 d19 k19
  have b19 := L2.Fun.binds F19 (ps := ["_law_steps", "_law_start", "_law_goal", "_law_states"]) fun _ _ _ _ _ _ us hl => match us, hl with | [_, _, _, _], _ => rfl
  have F20 := fun_mk (st := s__law_is_integer) l20 d20 k20
  have b20 := L2.Fun.binds F20 (ps := ["_law_thing_here"]) fun _ _ _ _ _ _ us hl => match us, hl with | [_], _ => rfl
  have F21 := fun_mk (st := s__law_exact) l21 d21 k21
  have b21 := L2.Fun.binds F21 (ps := ["_law_told", "_law_due"]) fun _ _ _ _ _ _ us hl => match us, hl with | [_, _], _ => rfl
  have F22 := fun_mk (st := s_Machine_states) l22 d22 k22
  have b22 := L2.Fun.binds F22 (ps := ["self"]) fun _ _ _ _ _ _ us hl => match us, hl with | [_], _ => rfl
  have F23 := fun_mk (st := s_Machine_steps) l23 d23 k23
  have b23 := L2.Fun.binds F23 (ps := ["self"]) fun _ _ _ _ _ _ us hl => match us, hl with | [_], _ => rfl
  have F24 := fun_mk (st := s_Machine_start) l24 d24 k24
  have b24 := L2.Fun.binds F24 (ps := ["self"]) fun _ _ _ _ _ _ us hl => match us, hl with | [_], _ => rfl
  have F25 := fun_mk (st := s_shortest_to) l25 d25 k25
  have b25 := L2.Fun.binds F25 (ps := ["machine", "state"]) fun _ _ _ _ _ _ us hl => match us, hl with | [_, _], _ => rfl
  have F26 := fun_mk (st := s__law_deep) l26 d26 k26
  have b26 := L2.Fun.binds F26 (ps := ["_law_many"]) fun _ _ _ _ _ _ us hl => match us, hl with | [_], _ => rfl
  have F27 := fun_mk (st := s__law_thing) l27 d27 k27
  have b27 := L2.Fun.binds F27 (ps := ["_law_digit"]) fun _ _ _ _ _ _ us hl => match us, hl with | [_], _ => rfl
  have F28 := fun_mk (st := s__law_refused) l28 d28 k28
  have b28 := L2.Fun.binds F28 (ps := ["_law_machine_here", "_law_state"]) fun _ _ _ _ _ _ us hl => match us, hl with | [_, _], _ => rfl
  have F29 := fun_mk (st := s_law) l29 d29 k29
  have FBadState := fun_mk (st := s_BadState_init) liBadState diBadState kiBadState
  have bBadState := L2.Fun.binds FBadState (ps := ["self", "value"]) fun _ _ _ _ _ _ us hl => match us, hl with | [_, _], _ => rfl
  refine ⟨PySem.W.fnOf "law" "law" (defArgs s_law) (defBody s_law) (defScope s_law) .none kV29 dc29 pm29 an29 cd29 ct29, fun s v => .of_eq rfl, fun base _ _ => ?_⟩
  have c_BadState : KnX.Err l.prog w K mg base 1 "BadState" cBadState "value" := ⟨iBadState, _, _, ⟨PySem.W.mg_of X G aBadState, oxBadState, aiBadState, tiBadState, nbBadState⟩, ok_BadState_init (PySem.W.mg_of X G aK) BC oxBadState nbBadState FBadState, bBadState⟩
  have c__law_mix : Cal l.prog w K mg base 1 "_law_mix" (sp__law_mix K) [] := ⟨_, _, _, _, ok__law_mix T F0 , PySem.W.mg_of X G a0, F0.kp, b0, .nil⟩
  have c__law_row : Cal l.prog w K mg base 2 "_law_row" (sp__law_row K) [] := ⟨_, _, _, _, ok__law_row T F1 c__law_mix, PySem.W.mg_of X G a1, F1.kp, b1, .nil⟩
  have c__law_names : Cal l.prog w K mg base 3 "_law_names" (sp__law_names K) [] := ⟨_, _, _, _, ok__law_names T F2 c__law_row, PySem.W.mg_of X G a2, F2.kp, b2, .nil⟩
  have c__law_cell : Cal l.prog w K mg base 2 "_law_cell" (sp__law_cell K) [] := ⟨_, _, _, _, ok__law_cell T F3 c__law_mix, PySem.W.mg_of X G a3, F3.kp, b3, .nil⟩
  have c__law_machine : Cal l.prog w K mg base 3 "_law_machine" (sp__law_machine K) [] := ⟨_, _, _, _, ok__law_machine T F4 c__law_row, PySem.W.mg_of X G a4, F4.kp, b4, .nil⟩
  have c__law_faults : Cal l.prog w K mg base 1 "_law_faults" (sp__law_faults K) [] := ⟨_, _, _, _, ok__law_faults T F5 , PySem.W.mg_of X G a5, F5.kp, b5, .nil⟩
  have c__law_system : Cal l.prog w K mg base 4 "_law_system" (sp__law_system K) [] := ⟨_, _, _, _, ok__law_system T F6 c__law_names c__law_cell c__law_machine c__law_row c__law_faults, PySem.W.mg_of X G a6, F6.kp, b6, .nil⟩
  have c_is_whole : Cal l.prog w K mg base 1 "is_whole" (sp_is_whole K) [] := ⟨_, _, _, _, ok_is_whole T F7 , PySem.W.mg_of X G a7, F7.kp, b7, .nil⟩
  have c_is_state : Cal l.prog w K mg base 2 "is_state" (sp_is_state K) [] := ⟨_, _, _, _, ok_is_state T F8 c_is_whole, PySem.W.mg_of X G a8, F8.kp, b8, .nil⟩
  have c_is_row : Cal l.prog w K mg base 1 "is_row" (sp_is_row K) [] := ⟨_, _, _, _, ok_is_row T F9 , PySem.W.mg_of X G a9, F9.kp, b9, .nil⟩
  have c_is_name : Cal l.prog w K mg base 1 "is_name" (sp_is_name K) [] := ⟨_, _, _, _, ok_is_name T F10 , PySem.W.mg_of X G a10, F10.kp, b10, .nil⟩
  have c_is_step : Cal l.prog w K mg base 3 "is_step" (sp_is_step K) [] := ⟨_, _, _, _, ok_is_step T F11 c_is_state c_is_name, PySem.W.mg_of X G a11, F11.kp, b11, .nil⟩
  have c_check_steps : Cal l.prog w K mg base 4 "check_steps" (sp_check_steps K) [] := ⟨_, _, _, _, ok_check_steps T F12 c_is_row c_is_step, PySem.W.mg_of X G a12, F12.kp, b12, .nil⟩
  have c_check_faults : Cal l.prog w K mg base 2 "check_faults" (sp_check_faults K) [] := ⟨_, _, _, _, ok_check_faults T F13 c_is_name, PySem.W.mg_of X G a13, F13.kp, b13, .nil⟩
  have c_moves_by_state : Cal l.prog w K mg base 1 "moves_by_state" (sp_moves_by_state K) [] := ⟨_, _, _, _, ok_moves_by_state T F14 , PySem.W.mg_of X G a14, F14.kp, b14, .nil⟩
  have c_reached_states : Cal l.prog w K mg base 1 "reached_states" (sp_reached_states K) [] := ⟨_, _, _, _, ok_reached_states T F15 , PySem.W.mg_of X G a15, F15.kp, b15, .nil⟩
  have c_Machine_init : Mak l.prog w K mg base 5 "Machine" C (sp_Machine_init K C) [] := ⟨_, _, _, _, ⟨mkC, a16, i16, kcC⟩, ok_Machine_init T F16 c_is_state c_check_steps c_check_faults c_moves_by_state c_reached_states, PySem.W.mg_of X G aC, b16, .nil⟩
  have c__law_reached : Cal l.prog w K mg base 1 "_law_reached" (sp__law_reached K) [] := ⟨_, _, _, _, ok__law_reached T F17 , PySem.W.mg_of X G a17, F17.kp, b17, .nil⟩
  have c__law_far : Cal l.prog w K mg base 1 "_law_far" (sp__law_far K) [] := ⟨_, _, _, _, ok__law_far T F18 , PySem.W.mg_of X G a18, F18.kp, b18, .nil⟩
  have c__law_least : Cal l.prog w K mg base 2 "_law_least" (sp__law_least K) [] := ⟨_, _, _, _, ok__law_least T F19 c__law_far, PySem.W.mg_of X G a19, F19.kp, b19, .nil⟩
  have c__law_is_integer : Cal l.prog w K mg base 1 "_law_is_integer" (sp__law_is_integer K) [] := ⟨_, _, _, _, ok__law_is_integer T F20 , PySem.W.mg_of X G a20, F20.kp, b20, .nil⟩
  have ce0 : Cal l.prog w K mg base 1 "_law_exact" (spEx 0 K) [] := ⟨_, _, _, _, ok_ex0 F21, PySem.W.mg_of X G a21, F21.kp, b21, .nil⟩
  have ce1 : Cal l.prog w K mg base 2 "_law_exact" (spEx 1 K) [] := ⟨_, _, _, _, ok_exs T F21 0 c__law_is_integer ce0, PySem.W.mg_of X G a21, F21.kp, b21, .nil⟩
  have ce2 : Cal l.prog w K mg base 3 "_law_exact" (spEx 2 K) [] := ⟨_, _, _, _, ok_exs T F21 1 c__law_is_integer ce1, PySem.W.mg_of X G a21, F21.kp, b21, .nil⟩
  have ce3 : Cal l.prog w K mg base 4 "_law_exact" (spEx 3 K) [] := ⟨_, _, _, _, ok_exs T F21 2 c__law_is_integer ce2, PySem.W.mg_of X G a21, F21.kp, b21, .nil⟩
  have c__law_exact : Cal l.prog w K mg base 5 "_law_exact" (sp__law_exact K) [] := ⟨_, _, _, _, ok_exs T F21 3 c__law_is_integer ce3, PySem.W.mg_of X G a21, F21.kp, b21, .nil⟩
  have c_Machine_states : KnP.Prp l.prog w K mg base 1 C "states" (sp_Machine_states K C) := ⟨_, _, _, _, ⟨a22, g22, w22, ⟨_, r22⟩⟩, ok_Machine_states T F22 , b22⟩
  have c_Machine_steps : KnP.Prp l.prog w K mg base 1 C "steps" (sp_Machine_steps K C) := ⟨_, _, _, _, ⟨a23, g23, w23, ⟨_, r23⟩⟩, ok_Machine_steps T F23 , b23⟩
  have c_Machine_start : KnP.Prp l.prog w K mg base 1 C "start" (sp_Machine_start K C) := ⟨_, _, _, _, ⟨a24, g24, w24, ⟨_, r24⟩⟩, ok_Machine_start T F24 , b24⟩
  have c_shortest_to : KnX.CalX l.prog w K mg base 3 "shortest_to" (sx_shortest_to K C ce) := ⟨_, _, _, ok_shortest_to (ce := ce) T F25 c_BadState c_is_state c_Machine_states c_Machine_steps c_Machine_start, PySem.W.mg_of X G a25, F25.kp, b25⟩
  have c__law_deep : Cal l.prog w K mg base 1 "_law_deep" (sp__law_deep K) [] := ⟨_, _, _, _, ok__law_deep T F26 , PySem.W.mg_of X G a26, F26.kp, b26, .nil⟩
  have c__law_thing : Cal l.prog w K mg base 2 "_law_thing" (sp__law_thing K) [] := ⟨_, _, _, _, ok__law_thing T F27 c__law_deep, PySem.W.mg_of X G a27, F27.kp, b27, .nil⟩
  have c__law_refused : Cal l.prog w K mg base 4 "_law_refused" (sp__law_refused K C) [] := ⟨_, _, _, _, ok__law_refused (ce := ce) T F28 TE c_shortest_to, PySem.W.mg_of X G a28, F28.kp, b28, .nil⟩
  exact ok_law (ce := ce) T F29 c__law_system c_Machine_init c__law_reached c__law_least c__law_exact c_shortest_to c__law_row c__law_cell c__law_thing c__law_refused c_Machine_states
end Kn
open PySem PySem.W PyProof.Rows
set_option maxHeartbeats 0 in
theorem PySem.Challenge.cw_knownlate_k20_shortest_runs_holds : PySem.Challenge.rw_knownlate_k20_shortest_runs.Holds := by
  w_on; o_law; k_head; (case hw => w_witness2)
  k_fill
  refine L2.walk_of (l := PySem.Challenge.rw_knownlate_k20_shortest_runs) (n := 63) (k := 7) (x := "_law_script") (CX := fun _ => L2.CX0) (sp := fun w => Kn.sp_law _) rfl (by decide) rfl ⟨rfl, by decide, by decide⟩ (fun w h Y => PySem.W.kIn_of Y) ?F (fun _ _ a ns hl _ hS => ⟨a, ns, rfl, hS, hl, fun _ => rfl⟩) (fun _ _ _ _ _ h => h)
  case F =>
    intro w mg fa h KX G hmg
    refine' Kn.all_mk KX G hmg ?aC ?ihn ?ihtk ?aK ?rdK ?gaK ?atK ?aBadState ?xBadState ?saBadState ?gaBadState ?ggBadState ?nbBadState ?aiBadState ?tiBadState ?liBadState ?diBadState ?kiBadState ?kCBadState ?eCBadState ?tCBadState ?hCBadState ?iCBadState ?sBadStateBadState ?a0 ?l0 ?d0 ?k0 ?a1 ?l1 ?d1 ?k1 ?a2 ?l2 ?d2 ?k2 ?a3 ?l3 ?d3 ?k3 ?a4 ?l4 ?d4 ?k4 ?a5 ?l5 ?d5 ?k5 ?a6 ?l6 ?d6 ?k6 ?a7 ?l7 ?d7 ?k7 ?a8 ?l8 ?d8 ?k8 ?a9 ?l9 ?d9 ?k9 ?a10 ?l10 ?d10 ?k10 ?a11 ?l11 ?d11 ?k11 ?a12 ?l12 ?d12 ?k12 ?a13 ?l13 ?d13 ?k13 ?a14 ?l14 ?d14 ?k14 ?a15 ?l15 ?d15 ?k15 ?a16 ?i16 ?l16 ?d16 ?k16 ?tl16 ?a17 ?l17 ?d17 ?k17 ?a18 ?l18 ?d18 ?k18 ?a19 ?l19 ?d19 ?k19 ?a20 ?l20 ?d20 ?k20 ?a21 ?l21 ?d21 ?k21 ?a22 ?g22 ?w22 ?r22 ?l22 ?d22 ?k22 ?a23 ?g23 ?w23 ?r23 ?l23 ?d23 ?k23 ?a24 ?g24 ?w24 ?r24 ?l24 ?d24 ?k24 ?a25 ?l25 ?d25 ?k25 ?a26 ?l26 ?d26 ?k26 ?a27 ?l27 ?d27 ?k27 ?a28 ?l28 ?d28 ?k28 ?a29 ?l29 ?d29 ?k29 ?pgC ?hdC ?poC ?saC ?mkC ?kcC ?ihaC ?ihmC ?n__start ?n__steps ?n__words ?n__faults ?n__states ?z_all ?z_bool ?z_dict ?z_enumerate ?z_int ?z_isinstance ?z_len ?z_list ?z_range ?z_sorted ?z_str ?z_tuple ?g_GREATEST_STATE ?r_GREATEST_STATE ?g_LONGEST_NAME ?r_LONGEST_NAME ?g_LETTERS ?r_LETTERS ?g_MOST_STEPS ?r_MOST_STEPS ?g_MOST_LEAVING ?r_MOST_LEAVING ?g_MOST_FAULTS ?r_MOST_FAULTS ?g_MOST_WORDS ?r_MOST_WORDS
    (case aC => k_is); (case ihn => k_is); (case ihtk => k_is); (case aK => k_is); (case rdK => k_is); (case gaK => k_is); (case atK => k_is); (case aBadState => k_is); (case xBadState => k_is); (case saBadState => k_is); (case gaBadState => k_is); (case ggBadState => k_is); (case nbBadState => k_is); (case aiBadState => k_is); (case tiBadState => k_is); (case liBadState => k_is); (case diBadState => k_is); (case kiBadState => k_is); (case kCBadState => k_is); (case eCBadState => k_is); (case tCBadState => k_is); (case hCBadState => k_is); (case iCBadState => k_is); (case sBadStateBadState => k_is); (case a0 => k_is); (case l0 => k_is); (case d0 => k_is); (case k0 => k_is); (case a1 => k_is); (case l1 => k_is); (case d1 => k_is); (case k1 => k_is); (case a2 => k_is); (case l2 => k_is); (case d2 => k_is); (case k2 => k_is); (case a3 => k_is); (case l3 => k_is); (case d3 => k_is); (case k3 => k_is); (case a4 => k_is); (case l4 => k_is); (case d4 => k_is); (case k4 => k_is); (case a5 => k_is); (case l5 => k_is); (case d5 => k_is); (case k5 => k_is); (case a6 => k_is); (case l6 => k_is); (case d6 => k_is); (case k6 => k_is); (case a7 => k_is); (case l7 => k_is); (case d7 => k_is); (case k7 => k_is); (case a8 => k_is); (case l8 => k_is); (case d8 => k_is); (case k8 => k_is); (case a9 => k_is); (case l9 => k_is); (case d9 => k_is); (case k9 => k_is); (case a10 => k_is); (case l10 => k_is); (case d10 => k_is); (case k10 => k_is); (case a11 => k_is); (case l11 => k_is); (case d11 => k_is); (case k11 => k_is); (case a12 => k_is); (case l12 => k_is); (case d12 => k_is); (case k12 => k_is); (case a13 => k_is); (case l13 => k_is); (case d13 => k_is); (case k13 => k_is); (case a14 => k_is); (case l14 => k_is); (case d14 => k_is); (case k14 => k_is); (case a15 => k_is); (case l15 => k_is); (case d15 => k_is); (case k15 => k_is); (case a16 => k_is); (case i16 => k_is); (case l16 => k_is); (case d16 => k_is); (case k16 => k_is); (case tl16 => k_is); (case a17 => k_is); (case l17 => k_is); (case d17 => k_is); (case k17 => k_is); (case a18 => k_is); (case l18 => k_is); (case d18 => k_is); (case k18 => k_is); (case a19 => k_is); (case l19 => k_is); (case d19 => k_is); (case k19 => k_is); (case a20 => k_is); (case l20 => k_is); (case d20 => k_is); (case k20 => k_is); (case a21 => k_is); (case l21 => k_is); (case d21 => k_is); (case k21 => k_is); (case a22 => k_is); (case g22 => k_is); (case w22 => k_is); (case r22 => k_is); (case l22 => k_is); (case d22 => k_is); (case k22 => k_is); (case a23 => k_is); (case g23 => k_is); (case w23 => k_is); (case r23 => k_is); (case l23 => k_is); (case d23 => k_is); (case k23 => k_is); (case a24 => k_is); (case g24 => k_is); (case w24 => k_is); (case r24 => k_is); (case l24 => k_is); (case d24 => k_is); (case k24 => k_is); (case a25 => k_is); (case l25 => k_is); (case d25 => k_is); (case k25 => k_is); (case a26 => k_is); (case l26 => k_is); (case d26 => k_is); (case k26 => k_is); (case a27 => k_is); (case l27 => k_is); (case d27 => k_is); (case k27 => k_is); (case a28 => k_is); (case l28 => k_is); (case d28 => k_is); (case k28 => k_is); (case a29 => k_is); (case l29 => k_is); (case d29 => k_is); (case k29 => k_is); (case pgC => k_is); (case hdC => k_is); (case poC => k_is); (case saC => k_is); (case mkC => k_is); (case kcC => k_is); (case ihaC => k_is); (case ihmC => k_is); (case n__start => k_is); (case n__steps => k_is); (case n__words => k_is); (case n__faults => k_is); (case n__states => k_is); (case z_all => k_is); (case z_bool => k_is); (case z_dict => k_is); (case z_enumerate => k_is); (case z_int => k_is); (case z_isinstance => k_is); (case z_len => k_is); (case z_list => k_is); (case z_range => k_is); (case z_sorted => k_is); (case z_str => k_is); (case z_tuple => k_is); (case g_GREATEST_STATE => k_is); (case r_GREATEST_STATE => exact ⟨_, rfl⟩); (case g_LONGEST_NAME => k_is); (case r_LONGEST_NAME => exact ⟨_, rfl⟩); (case g_LETTERS => k_is); (case r_LETTERS => exact ⟨_, rfl⟩); (case g_MOST_STEPS => k_is); (case r_MOST_STEPS => exact ⟨_, rfl⟩); (case g_MOST_LEAVING => k_is); (case r_MOST_LEAVING => exact ⟨_, rfl⟩); (case g_MOST_FAULTS => k_is); (case r_MOST_FAULTS => exact ⟨_, rfl⟩); (case g_MOST_WORDS => k_is); (case r_MOST_WORDS => exact ⟨_, rfl⟩)

